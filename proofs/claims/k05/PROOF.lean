import PyProof.Rows.All
import Wide.All
import OpenK.AllK
import Wide.FinOn
import HandS.ForMost
import HandS.ForExc
import PyProof.ReprRoads
import HandS.Style
import HandS.TupAny
import HandS.Wide
import HandS.More
import HandS.Conv
import HandS.IsInst
import HandS.Evl
import HandS.Walk
import KE.GoesEnum
import HandS.DictComp
import HandS.Rev
import HandS.SetFor
import HandS.DictSub
import PySem.Challenge.RW_keyedmoves_k05_runs_beside_own_lists
set_option Elab.async false
set_option linter.all false
set_option maxRecDepth 100000
set_option maxHeartbeats 4000000
/-! GA: defs that are walked where no repr is under way (Fg), their calls, the law's end. -/
namespace Kg
open PySem PySem.Spec PyProof.Rows L2

/-- nothing is being shown around here -/
abbrev Quiet (A : Around) : Prop := A.guards = some []

/-- as FnOk, but only from callers around which nothing is being shown; nothing is raised -/
structure Fg (P : Program) (w : World) (K : PySem.W.Frag) (mg : Str → Option Value) (base : Heap)
    (k : Nat) (f : Addr) (fd : FuncData) (ps : List Str) (sp : Sp) : Prop where
  arity : ∀ vs H Q E, sp vs H Q E → vs.length = ps.length
  goes : ∀ (A : Around) (out : List Env) (s : Shared) (H : Hp) (args : Args) (us : List Value)
    (vs : List V) (Q : VK) (E : XK), Room k A → Quiet A → Env0 P w K mg base A out s H →
    BindsTo s fd args (ps.zip us) → Vals vs us → sp vs H Q E →
    codeAny (model P w) A (.call (.ref f) args) (CR CX0 out P w H s Q E) s

theorem Fg.of {P : Program} {w : World} {K : PySem.W.Frag} {mg : Str → Option Value} {base : Heap}
    {k : Nat} {f : Addr} {fd : FuncData} {ps : List Str} {sp : Sp}
    (F : FnOk P w K mg base CX0 k f fd ps sp) : Fg P w K mg base k f fd ps sp :=
  ⟨F.len, fun A out s H args us vs Q E hr _ e0 hb hv hs => F.run A out s H args us vs Q E hr e0 hb hv hs⟩

theorem Fg.mono {P : Program} {w : World} {K : PySem.W.Frag} {mg : Str → Option Value} {base : Heap}
    {j k : Nat} {f : Addr} {fd : FuncData} {ps : List Str} {sp : Sp}
    (F : Fg P w K mg base j f fd ps sp) (h : j ≤ k) : Fg P w K mg base k f fd ps sp :=
  ⟨F.arity, fun A out s H args us vs Q E hr hg => F.goes A out s H args us vs Q E (hr.mono h) hg⟩

section
variable {P : Program} {w : World} {K : PySem.W.Frag} {mg : Str → Option Value} {base : Heap}

/-- a def of the text, walked where nothing is being shown -/
theorem fg_ok {x qual : Str} {st : Stmt} {f : Addr} {fd : FuncData} {N ps : List Str} {k : Nat} {sp : Sp}
    (F : Fun K x qual st f fd) (S : FnScope N ps (defScope st))
    (len : ∀ vs H Q E, sp vs H Q E → vs.length = ps.length)
    (body : ∀ (cdv : Value) (A : Around) (out : List Env) (s : Shared) (H : Hp) (vs : List V) (Q : VK) (E : XK),
      Room k (A.deeper (envOfC qual (defScope st) s.heap.objs.size f cdv)) →
      Quiet (A.deeper (envOfC qual (defScope st) s.heap.objs.size f cdv)) → sp vs H Q E →
      ∃ t, PSs (cxOf CX0 P w K mg base N qual (defScope st) f cdv A out s H E).nox (defBody st) t ∧
        t { nx := fun _ H' => Q .non H', rt := Q } (start N vs) H) :
    Fg P w K mg base (k + 1) f fd ps sp := by
  obtain ⟨oc, od, kV, doc, pm, an, cdv, ct, osl, rfl, at_, hcode⟩ := F.ex
  refine ⟨len, ?_⟩
  intro A out s H args us vs Q E room quiet e0 bind rel wish
  have arity := len _ _ _ _ wish
  have inK : K.In s.heap := e0.mod.kin.keeps fun b o z => (e0.bs b o z).1
  have noLim : s.heap.NoLimit := e0.mod.nolimit.keeps fun b o z => (e0.bs b o z).1
  have kinds : ∀ y ∈ ps.zip us, (defScope st).names.lookup y.1 = some .local ∨
      ((defScope st).names.lookup y.1 = some .cell ∧
        ((cellsFrom (s.heap.objs.size + 1) (defScope st).names []).lookup y.1).isSome = true) := by
    rintro ⟨n, v⟩ hy
    rcases S.par n (List.of_mem_zip hy).1 with q | q
    · exact Or.inl q
    · exact Or.inr ⟨q, PySem.W.cellsFrom_some _ _ _ (Or.inl q)⟩
  refine codeAny_call_function room.depth (inK _ _ at_) rfl S.co S.gen rfl
    (PySem.W.codeRec_of inK hcode) (bind _ _ _ _ ?_)
  refine wpAny_newFunctionEnv_cells S.kind kinds ?_
  intro env ee s1 inc
  subst ee
  refine ⟨noLim.keeps inc.toInCall.keep, codeAny_func ?_⟩
  obtain ⟨t, ht, hq⟩ := body cdv A out s H vs Q E (room.deeper _) quiet wish
  have I : Inv (cxOf CX0 P w K mg base N qual (defScope st) f cdv A out s H E) [] (start N vs) H s1 :=
    inv_start S room.hd e0 arity rel inc
  have done : ∀ {s' : Shared} {σ' : L2.St} {H' : Hp} {v : V} {u : Value},
      Inv (cxOf CX0 P w K mg base N qual (defScope st) f cdv A out s H E) [] σ' H' s' →
      RelV v u → Q v H' → CE out P w H s Q u s' :=
    fun {s' σ' H' v u} J rv q => ⟨v, H', J.os, J.bare, J.base, J.hok, rv, q⟩
  refine wpAny_mono (ht.nox.run [] s1 (start N vs) H _ I hq) ?_ (fun e s' z => z)
  intro fl s' z
  cases fl with
  | ret u => obtain ⟨v, σ', H', J, rv, q⟩ := z; exact done J rv q
  | next => obtain ⟨σ', H', J, q⟩ := z; exact done (v := V.non) (u := Value.none) J rfl q
  | brk => obtain ⟨_, _, _, q⟩ := z; exact q.elim
  | cont => obtain ⟨_, _, _, q⟩ := z; exact q.elim
end

section
variable {X : Cx} {k : Nat} {f : Addr} {fd : FuncData} {ps : List Str} {sp : Sp} {dvs : List V} {ds : List Value}
  {x : Str} {p pos : Pos} {e : Expr} {es : List Expr} {t : TA}

theorem fg_run {pins : List (Addr × Obj)} {σ : L2.St} {H : Hp} {s : Shared} {Q : VK} {us : List Value} {vs : List V}
    (F : Fg X.prog X.w X.K X.mg X.base k f fd ps sp) (hr : Room k X.A) (hq : Quiet X.A) (hb : Binds X.K fd ps ds)
    (hd : Vals dvs ds) (I : Inv X pins σ H s) (r : Vals vs us) (h : sp (vs ++ dvs) H Q E0) :
    wpAny (model X.prog X.w) X.A (call (.ref f) us) (EP X pins σ Q) X.xe s := by
  have both : Vals (vs ++ dvs) (us ++ ds) := r.append hd
  have many : (us ++ ds).length = ps.length := by
    rw [← both.length]
    exact F.arity _ _ _ _ h
  refine wpAny_call (codeAny_mono (F.goes X.A X.stack s H ⟨us, []⟩ (us ++ ds) (vs ++ dvs) Q E0 hr hq I.env0
    (hb s us I.kIn many) both h) ?_)
  intro r s' z
  cases r with
  | error e => exact z.elim
  | ok fl =>
    cases fl with
    | ret u => exact I.after z
    | next => exact z.elim
    | brk => exact z.elim
    | cont => exact z.elim

/-- f(e, ..), f such a def -/
theorem pe_callG (F : Fg X.prog X.w X.K X.mg X.base k f fd ps sp) (hr : Room k X.A) (hq : Quiet X.A) (hg : Gl X x)
    (hm : X.mg x = some (.ref f)) (hk : PySem.W.keepIn X.K (.ref f) = true) (hb : Binds X.K fd ps ds)
    (hd : Vals dvs ds) (ha : PA X (e :: es) t) (hdb : (x == ("__debug__" : Str)) = false := by decide)
    (he : starEach (e :: es) X.env = (false, eval e X.env) :: starEach es X.env := by rfl)
    (hpl : (backTo pos (starEach es X.env)).any (·.1) = false := by rfl) :
    PE X (.Call (.Name x p) (e :: es) [] pos) (tCall sp dvs E0 t) := by
  constructor
  intro pins s σ H Q I h
  refine wpAny_Call_Name_kw (ld_glob I hg hm ?_ hdb)
  refine PySem.W.callWith_K (h₀ := X.base) I.ok.mod.kin hk ?_ he hpl
  refine thn (ha.run pos pins s σ H _ I h) ?_
  rintro us s1 ⟨vs, H1, I1, r, q⟩
  exact ⟨I1.kIn, fg_run F hr hq hb hd I1 r q⟩
end

/-! ### repr of data -/
section
variable {X : Cx}
/-- data with empty dicts in it -/
def showOk (d : PyData) : Prop := d.showable = true ∧ d.hasDict = false ∧ d.shown.length ≤ sizeLine ∧ d.depth ≤ 100
def isDisp : PyData → Bool
  | .list _ | .tuple _ => true
  | _ => false
def rRepr (K : PySem.W.Frag) : List V → Hp → VK → Prop := fun vs H Q =>
  ∃ v d, vs = [v] ∧ Dp K H v d ∧ isDisp d = true ∧ showOk d ∧ Q (.str d.shown) H
theorem call_reprD (hq : Quiet X.A) (hu : X.A.units + 150 < cLine) : CallR X (.builtin "repr") (rRepr X.K) := by
  intro pins s σ H xs us Q I r h
  obtain ⟨v, d, rfl, hd, disp, ⟨h1, h2, h3, h4⟩, q⟩ := h
  obtain ⟨u, rfl, ru⟩ := vals1 r
  obtain ⟨as, rd⟩ := Dp.reads I d v u hd ru
  have isref : ∃ a, u = .ref a := by
    cases rd with
    | list _ _ _ _ => exact ⟨_, rfl⟩
    | tuple _ _ _ _ => exact ⟨_, rfl⟩
    | none => cases disp
    | bool _ => cases disp
    | int _ _ => cases disp
    | str _ _ => cases disp
    | dict _ _ _ _ _ => cases disp
  obtain ⟨a, rfl⟩ := isref
  refine repr_of_reads' rd h1 (fun z => by rw [h2] at z; cases z) hq (by omega) (fun _ _ z => z) ?_ h3
  intro h' u tk hk
  refine ⟨.str d.shown, H, ?_, ⟨u, rfl⟩, q⟩
  obtain ⟨hp, g, dr, t, os⟩ := s
  exact I.kept hk
end

/-! ### the law's end -/
section
variable {P : Program} {w : World} {K : PySem.W.Frag} {mg mb : Str → Option Value}
/-- the law's def is called at an abstract heap that tracks the script alone -/
theorem law_at {k : Nat} {fa a : Addr} {fd : FuncData} {x : Str} {sp : Sp} {s₁ : Shared} {vs : List Value} {ns : List Int} {H : Hp}
    (inK : K.In s₁.heap) (gl : s₁.heap.Ns mainGlobals mg) (bl : s₁.heap.Ns builtinsNs mb)
    (bb : ∀ x : Str, x ≠ "__name__" → mb x = bootBuiltins x) (lim : s₁.heap.NoLimit) (gens : s₁.gens = #[])
    (obj : s₁.heap.get? a = some { cls := .type "list", data := .seq vs.toArray }) (room : Room k callerA)
    (F : ∀ base : Heap, K.In base → base.Ns mainGlobals mg → Fg P w K mg base k fa fd [x] sp)
    (bind : ∀ (s : Shared) (u : Value), BindsTo s fd ⟨[u], []⟩ [(x, u)])
    (wish : sp [.ref a] H (fun v _ => v = .bl true) fun _ _ _ => False)
    (only : Only H) (hok : HOk P w H s₁.heap) (one : ∀ b, H b ≠ none → b = a) (free : H a ≠ none → K.lookup a = none) :
    codeAny (model P w) callerA (.call (.ref fa) ⟨[.ref a], []⟩)
      (fun r s' => r = .ok (.ret (.bool true)) ∧ OldK s₁.heap s'.heap ∧ s'.os = s₁.os ∧ AllBare s'.gens) s₁ := by
  have noDict : ∀ {b : Addr} {o : Obj} {es : Array DictEntry} {ep : Nat},
      s₁.heap.get? b = some o → o.data = .dict es ep → H b = none := by
    intro b o es ep e d
    cases q : H b with
    | none => rfl
    | some u =>
      have eb := one b (by rw [q]; exact Option.some_ne_none _)
      subst eb
      rw [obj] at e
      cases e
      cases d
  have names : ∀ {b : Addr} {m : Str → Option Value}, s₁.heap.Ns b m → (hidT s₁.heap H).Ns b m := by
    rintro b m ⟨o, es, ep, e, d, r⟩
    exact ⟨o, es, ep, hidT_get e (noDict e d), d, r⟩
  have inB : K.In (hidT s₁.heap H) := by
    intro b o e
    refine hidT_get (inK b o e) ?_
    cases q : H b with
    | none => rfl
    | some u =>
      have ne : H b ≠ none := by rw [q]; exact Option.some_ne_none _
      have eb := one b ne
      subst eb
      rw [free ne] at e
      cases e
  have mod : Mod K mg (hidT s₁.heap H) := by
    obtain ⟨mc, c1, c2⟩ := lim
    exact ⟨inB, names gl, ⟨mb, names bl, bb⟩, ⟨mc, names c1, c2⟩⟩
  have e0 : Env0 P w K mg (hidT s₁.heap H) callerA [] s₁ H :=
    ⟨rfl, mod, fun b o e => of_hidT e, Nat.le_of_eq (hidT_size _ _), trivial, fun b hb => (List.not_mem_nil hb).elim, hok, .of_eq gens⟩
  refine codeAny_mono ((F _ inB (names gl)).goes callerA [] s₁ H ⟨[.ref a], []⟩ [.ref a] [.ref a] _ _ room rfl e0
    (bind s₁ (.ref a)) (.cons rfl .nil) wish) ?_
  intro r s' z
  cases r with
  | error e => exact z.elim
  | ok fl =>
    cases fl with
    | next => exact z.elim
    | brk => exact z.elim
    | cont => exact z.elim
    | ret u =>
      obtain ⟨v, H', os, bare, un, hok', rv, q⟩ := z
      have qv : v = .bl true := q
      subst qv
      obtain rfl : u = Value.bool true := rv
      refine ⟨rfl, OldK.of_keep ?_, os, bare⟩
      intro b o e
      cases q : H b with
      | none => exact un.keep b o e q (fun y => (List.not_mem_nil y).elim) List.not_mem_nil
      | some u =>
        rcases only b with y | ⟨ob, xs, y⟩
        · rw [q] at y
          cases y
        · obtain ⟨e1, _⟩ := hok b _ y
          obtain ⟨e2, _⟩ := hok' b _ (un.frzs b ob _ y)
          rw [e] at e1
          cases e1
          exact e2

theorem law_g {k : Nat} {fa a : Addr} {fd : FuncData} {x : Str} {sp : Sp} {s₁ : Shared} {vs : List Value} {ns : List Int}
    (inK : K.In s₁.heap) (gl : s₁.heap.Ns mainGlobals mg) (bl : s₁.heap.Ns builtinsNs mb)
    (bb : ∀ x : Str, x ≠ "__name__" → mb x = bootBuiltins x) (lim : s₁.heap.NoLimit) (gens : s₁.gens = #[])
    (obj : s₁.heap.get? a = some { cls := .type "list", data := .seq vs.toArray }) (hints : IntsAre vs ns)
    (few : ns.length ≤ sizeLine) (room : Room k callerA)
    (F : ∀ base : Heap, K.In base → base.Ns mainGlobals mg → Fg P w K mg base k fa fd [x] sp)
    (bind : ∀ (s : Shared) (u : Value), BindsTo s fd ⟨[u], []⟩ [(x, u)])
    (wish : ∀ H : Hp, Only H → SqL K H a (ns.map V.int) → sp [.ref a] H (fun v _ => v = .bl true) fun _ _ _ => False) :
    codeAny (model P w) callerA (.call (.ref fa) ⟨[.ref a], []⟩)
      (fun r s' => r = .ok (.ret (.bool true)) ∧ OldK s₁.heap s'.heap ∧ s'.os = s₁.os ∧ AllBare s'.gens) s₁ := by
  have rv := vals_ints hints
  have many := hints.length
  cases hk : K.lookup a with
  | some o =>
    have e := inK a o hk
    rw [obj] at e
    cases e
    have only : Only (fun _ => none) := fun _ => Or.inl rfl
    refine law_at (ns := ns) (H := fun _ => none) inK gl bl bb lim gens obj room F bind (wish _ only ?_) only
      (fun b u z => nomatch z) (fun b z => absurd rfl z) (fun z => absurd rfl z)
    refine Or.inr ⟨_, vs.toArray, _, hk, rfl, rfl, rfl, ?_, ?_⟩
    · rw [List.size_toArray, many]
      exact few
    · simpa using rv
  | none =>
    let H : Hp := fun b => if b = a then
      some (.frz { cls := .type "list", data := .seq vs.toArray } (.lst (ns.map V.int))) else none
    have at_ : H a = some (.frz { cls := .type "list", data := .seq vs.toArray } (.lst (ns.map V.int))) := if_pos rfl
    have off : ∀ b, b ≠ a → H b = none := fun b n => if_neg n
    have only : Only H := by
      intro b
      by_cases hb : b = a
      · exact Or.inr ⟨_, _, by rw [hb]; exact at_⟩
      · exact Or.inl (off b hb)
    refine law_at (ns := ns) (H := H) inK gl bl bb lim gens obj room F bind (wish H only (Or.inl (Or.inr ⟨_, at_⟩))) only ?_ ?_ (fun _ => hk)
    · intro b u z
      by_cases hb : b = a
      · subst hb
        rw [at_] at z
        cases z
        exact ⟨obj, by rw [List.length_map]; exact few, vs, _, rv, obj⟩
      · rw [off b hb] at z
        cases z
    · intro b z
      by_cases hb : b = a
      · exact hb
      · exact absurd (off b hb) z
end

/-- the goal behind k_head and k_fill, from the law's promise over a written part K -/
theorem walk_g {l : PySem.W.OpenLaw} {n k : Nat} {q : Program} {loose : List Str} {XP : (Str → Option Value) → Heap → Prop}
    {YP : World → Heap → Prop} {d : DefRec} {K : Params → PySem.W.Frag} {sp : PySem.W.Frag → Sp} {x : Str}
    (most : l.most = some n) (few : n ≤ sizeLine) (nodef : d.params.defaults = []) (room : Room k callerA)
    (kin : ∀ (w : World) (h : Heap), YP w h → (K w.params).In h)
    (F : ∀ (w : World) (mg : Str → Option Value) (fa : Addr) (h : Heap), (K w.params).In h → h.Ns mainGlobals mg →
      mg d.name = some (.ref fa) → ∃ fd : FuncData, (∀ (s : Shared) (u : Value), BindsTo s fd ⟨[u], []⟩ [(x, u)]) ∧
        ∀ base : Heap, (K w.params).In base → base.Ns mainGlobals mg →
          Fg l.prog w (K w.params) mg base k fa fd [x] (sp (K w.params)))
    (wish : ∀ (K : PySem.W.Frag) (H : Hp) (a : Addr) (ns : List Int), ns.length ≤ n → Only H →
      SqL K H a (ns.map V.int) → sp K [.ref a] H (fun v _ => v = .bl true) fun _ _ _ => False) :
    PySem.W.WalkO q loose XP YP l.row.toRowW d [] (fun f vs => PySem.call f vs) := by
  refine Att.attach_call most nodef ?_
  intro w s₀ s₁ mg mb fa o pm cd doc a vs ns G Y ho hd hcd hmg hobj hints hlen hg
  obtain ⟨fd, hb, hF⟩ := F w mg fa _ (kin w _ Y) G.T.g hmg
  exact law_g (ns := ns) (kin w _ Y) G.T.g G.T.b G.T.builtins G.T.nolimit hg hobj hints (Nat.le_trans hlen few) room hF hb
    (fun H hO hS => wish _ H a ns hlen hO hS)
end Kg
/-! GB: further rules: t[::-1], xs.extend(t), text * int, a great power, f(a=.., b=..). -/
namespace Kg
open PySem PySem.Spec PyProof.Rows L2

/-! ### t[::-1] of a tuple -/
section
variable {prog : Program} {w : World} {A : Around} {E : Value → Shared → Prop} {s : Shared}
theorem back_applied {sl : Addr} {vl vu vs : Value} {n : Nat} {Q : Int × Int × Nat → Shared → Prop}
    (hs : s.heap.IsSliceOf sl vl vu vs) (pl : IsPart vl none) (pu : IsPart vu none) (ps : IsPart vs (some (-1)))
    (h : Q ((n : Int) - 1, -1, n) s) :
    wpAny (model prog w) A (Builtin.Slice.sliceApplied (.ref sl) (pure (n : Int))) Q E s := by
  obtain ⟨os, hos, hcs, hds⟩ := id hs
  unfold Builtin.Slice.sliceApplied Builtin.Slice.sliceFields
  refine wpAny_bind (wpAny_bind (wpAny_field hos hds (x := vl) rfl ?_))
  refine wpAny_bind (wpAny_field hos hds (x := vu) rfl ?_)
  refine wpAny_bind (wpAny_field hos hds (x := vs) rfl (wpAny_pure ?_))
  refine wpAny_bind (HT.slicePart_ ps ?_)
  show wpAny _ _ (if ((-1 : Int) == 0) = true then _ else _) _ _ s
  rw [if_neg (by decide)]
  refine wpAny_bind (HT.slicePart_ pl (wpAny_bind (HT.slicePart_ pu (wpAny_bind (wpAny_pure ?_)))))
  have places : Builtin.Slice.slicePlaces ((n : Int) - 1) (-1) (-1) = n := by
    unfold Builtin.Slice.slicePlaces
    rw [if_neg (by decide)]
    by_cases z : (n : Int) - 1 > -1
    · rw [if_pos z, show (- -1 : Int) = 1 by decide, Int.ediv_one]
      omega
    · rw [if_neg z]
      omega
  show wpAny _ _ (pure ((n : Int) - 1, (-1 : Int), Builtin.Slice.slicePlaces ((n : Int) - 1) (-1) (-1))) _ _ s
  rw [places]
  exact wpAny_pure h

theorem pick_back (xs : List Value) :
    (List.range xs.toArray.size).filterMap (fun (k : Nat) => xs.toArray[(((xs.toArray.size : Int) - 1) + (k : Int) * (-1)).toNat]?) = xs.reverse := by
  rw [List.size_toArray]
  have e : (List.range xs.length).filterMap (fun (k : Nat) => xs.toArray[(((xs.length : Int) - 1) + (k : Int) * (-1)).toNat]?)
      = (List.range xs.length).filterMap (fun k => xs.reverse[k]?) := by
    have step : ∀ l : List Nat, (∀ k ∈ l, k < xs.length) →
        l.filterMap (fun (k : Nat) => xs.toArray[(((xs.length : Int) - 1) + (k : Int) * (-1)).toNat]?)
          = l.filterMap (fun k => xs.reverse[k]?) := by
      intro l
      induction l with
      | nil => intro _; rfl
      | cons k l ih =>
        intro hl
        have hk := hl k (List.mem_cons_self ..)
        have en : (((xs.length : Int) - 1) + (k : Int) * (-1)).toNat = xs.length - 1 - k := by omega
        rw [List.filterMap_cons, List.filterMap_cons, en, List.getElem?_toArray, List.getElem?_reverse hk,
          ih fun j hj => hl j (List.mem_cons_of_mem _ hj)]
    exact step _ fun k hk => List.mem_range.mp hk
  rw [e]
  have g : ∀ ys : List Value, (List.range ys.length).filterMap (fun k => ys[k]?) = ys := by
    intro ys
    induction ys with
    | nil => rfl
    | cons y ys ih =>
      rw [List.length_cons, List.range_succ_eq_map, List.filterMap_cons]
      show y :: _ = _
      rw [List.filterMap_map]
      exact congrArg (y :: ·) ih
  have g' := g xs.reverse
  rw [List.length_reverse] at g'
  exact g'

theorem getItem_back {t sl : Addr} {xs : List Value} {vl vu vs : Value} {Q : Value → Shared → Prop}
    (ht : IsTup s.heap t xs.toArray) (hs : s.heap.IsSliceOf sl vl vu vs) (pl : IsPart vl none) (pu : IsPart vu none)
    (ps : IsPart vs (some (-1)))
    (h : Q (.ref s.heap.objs.size) { s with heap := s.heap.push { cls := .type "tuple", data := .seq xs.reverse.toArray } })
    (few : xs.length ≤ sizeLine) : wpAny (model prog w) A (getItem (.ref t) (.ref sl)) Q E s := by
  have fits : sizeOk (.seq xs.reverse.toArray) := by
    show xs.reverse.toArray.size ≤ sizeLine
    rw [List.size_toArray, List.length_reverse]
    exact few
  obtain ⟨os, hos, hcs, hds⟩ := id hs
  have kind : s.TypeIs (.ref sl) "slice" := ⟨os, hos, hcs⟩
  unfold getItem
  try with_reducible refine wpAny_holding ?_
  first | refine wpAny_bind (wpAny_pure ?_) | skip
  refine wpAny_bind (wpAny_sequenceKey ht.typeIs (by decide) ?_)
  refine wpAny_bind (wpAny_callSpecial?_slot (name := Str.ofString "__getitem__") ht.typeIs
    PyProof.Rows.slot_tuple_getitem (wpAny_call_entry PyProof.Rows.slot_tuple_getitem ht.typeIs
      PyProof.Rows.entry_tuple_getitem ?_ (PyProof.Rows.args_tuple_getitem _ _)))
  show wpAny _ _ (Builtin.Tuple.tupleItemsOf (.ref t) >>= _) _ _ s
  refine wpAny_bind (tupleItemsOf_ ht ?_)
  refine wpAny_bind (wpAny_typeOf kind ?_)
  rw [if_pos (by decide)]
  refine wpAny_bind (back_applied hs pl pu ps ?_)
  have no : ¬ (((((xs.toArray.size : Nat) : Int) - 1) == 0 && (-1 : Int) == 1 && xs.toArray.size == xs.toArray.size) = true) := by
    rw [show ((-1 : Int) == 1) = false by decide, Bool.and_false, Bool.false_and]
    exact Bool.false_ne_true
  show wpAny _ _ (if ((((xs.toArray.size : Nat) : Int) - 1) == 0 && (-1 : Int) == 1 && xs.toArray.size == xs.toArray.size) = true then _ else _) _ _ s
  rw [if_neg no, pick_back]
  first
    | exact wpAny_bind (m := Builtin.Tuple.tupleExact _) (wpAny_newObj_type (wpAny_pure ⟨_, rfl, wpAny_pure h⟩) fits)
    | exact wpAny_bind (m := Builtin.Tuple.tupleExact _) (wpAny_newObj_type (wpAny_bind (wpAny_pure (wpAny_pure ⟨_, rfl, wpAny_pure h⟩))) fits)
    | exact wpAny_bind (wpAny_bind (m := Builtin.Tuple.tupleExact _) (wpAny_newObj_type (wpAny_pure (wpAny_pure ⟨_, rfl, wpAny_pure h⟩)) fits))
    | exact wpAny_bind (wpAny_bind (m := Builtin.Tuple.tupleExact _) (wpAny_newObj_type (wpAny_pure ⟨_, rfl, wpAny_pure h⟩) fits))
end
section
variable {X : Cx}
def tRevT (K : PySem.W.Frag) (te : TE) : TE := fun σ H Q => te σ H fun x H1 =>
  ∃ a xs, x = .ref a ∧ SqT K H1 a xs ∧ ∀ p, H1 p = none → Q (.ref p) (upd H1 p (.tup xs.reverse))
theorem pe_revT {e : Expr} {te : TE} {k : Nat} {p1 p2 p3 pos : Pos} (he : PE X e te) :
    PE X (.Subscript e (.Slice none none (some (.UnaryOp .USub (.Constant (.int 1) k p1) p2)) p3) pos) (tRevT X.K te) := by
  constructor
  intro pins s σ H Q I h
  refine Subscript_ (thn (he.run pins s σ H _ I h) ?_)
  rintro v s1 ⟨x, H1, I1, r1, a, xs, rfl, hx, q⟩
  cases r1
  have minus : PO X (some (.UnaryOp .USub (.Constant (.int 1) k p1) p2))
      (tPart (tUn (rU fun i => .int (-i)) (tC (.int 1)))) := po_some (pe_un un_neg pe_int)
  refine wpAny_Slice (thn (po_none.run pins s1 σ H1 (fun o H2 => o = none ∧ H2 = H1) I1 ⟨rfl, rfl⟩) ?_)
  rintro vl s2 ⟨l, H2, I2, pl, rfl, rfl⟩
  refine thn (po_none.run pins s2 σ H2 (fun o H3 => o = none ∧ H3 = H2) I2 ⟨rfl, rfl⟩) ?_
  rintro vu s3 ⟨u, H3, I3, pu, rfl, rfl⟩
  refine thn (minus.run pins s3 σ H3 (fun o H4 => o = some (-1) ∧ H4 = H3) I3 ⟨1, rfl, -1, rfl, rfl, rfl⟩) ?_
  rintro vs s4 ⟨o, H4, I4, ps, rfl, rfl⟩
  have I5 : Inv X pins σ H4 { s4 with heap := s4.heap.push { cls := .type "slice", data := .fields #[vl, vu, vs] } } :=
    I4.kept (t' := s4.toks) fun b ob q => Heap.get?_push_of_some _ q
  obtain ⟨its, r, ht, hz⟩ := I5.tuple hx
  have many := r.length
  show wpAny (model X.prog X.w) X.A (subscriptTail e (.Slice none none (some (.UnaryOp .USub (.Constant (.int 1) k p1) p2)) p3)
    (.ref a) (.ref s4.heap.objs.size)) (EP X pins σ Q) X.xe _
  refine tail_any (ops := [.ref a, .ref s4.heap.objs.size]) ht.typeIs (PyProof.Rows.slot_tuple_getitem.lookup) ?_ (by with_unfolding_all rfl)
  refine getItem_back ht (Heap.IsSliceOf.new _ vl vu vs) pl pu ps ?_ (by omega)
  refine ⟨.ref _, _, I5.laid (t' := s4.toks) (o := .tup xs.reverse) (fun b ob q => Heap.get?_push_of_some _ q) (Nat.le_refl _) ?_, rfl,
    q _ (I5.hok.fresh (Nat.le_refl _))⟩
  exact ⟨by rw [List.length_reverse]; exact hz, _, r.reverse, IsTup.new _ _⟩

/-! ### xs.extend(t), t a tuple -/
theorem meets_extT (l : Addr) (its : Array Value) (n : Nat) (b : Addr) (its2 : Array Value) (n2 : Nat) (dd : Option Addr)
    (sl : Array (Option Value)) (short : ¬(!its.isEmpty && Builtin.List.listTooLong (its.size + its2.size)) = true)
    (few : its.size ≤ sizeLine) (both : its.size + its2.size ≤ sizeLine + 1) :
    Meets (Builtin.«list.extend» ⟨[.ref l, .ref b], []⟩) (fun _ R s =>
      s.heap.get? l = some { cls := .type "list", dict := none, data := .seq its n, slots := #[] } ∧
      s.heap.get? b = some { cls := .type "tuple", dict := dd, data := .seq its2 n2, slots := sl } ∧
      R (.ok (.ret Value.none)) { s with heap := s.heap.update l (Obj.mapSeq fun x => x ++ its2), toks := s.toks }) := by
  refine .of_wp ?_
  intro prog w A R s h
  obtain ⟨hp, g, d, tk, os⟩ := s
  obtain ⟨hl, hb, h⟩ := h
  have f1 := PySem.AutoSeq1.idx_int
  have f2 := PySem.AutoSeq1.sub_tuple_tuple
  have f3 := PySem.AutoSeq1.sub_list_list
  have f4 := PySem.AutoSeq1.sub_tuple_list
  have f5 := PySem.AutoSeq1.sub_list_tuple
  have fits : (its ++ its2).size ≤ sizeLine + 1 := by
    rw [Array.size_append]
    exact both
  wp_walk using (wpAny_updateSeq hl rfl (hz := few) (_hz' := fits)), AutoSeq1.wpAny_loadPart' hl, AutoSeq1.wpAny_loadPart' hb
  exact ⟨_, rfl, h⟩
def rExtT : V → List V → Hp → VK → Prop := fun x vs H Q => ∃ l b xs zs, x = .ref l ∧ vs = [.ref b] ∧
  H l = some (.lst xs) ∧ H b = some (.tup zs) ∧ xs.length + zs.length ≤ sizeLine ∧ Q .non (upd H l (.lst (xs ++ zs)))
theorem mt_extT : MtM X "list.extend" rExtT := by
  intro pins s σ H x vs v us Q I rx rv h
  obtain ⟨l, b, xs, zs, rfl, rfl, hl, hb, hz, q⟩ := h
  cases rx
  obtain ⟨u, rfl, ru⟩ := rv.one
  cases ru
  obtain ⟨z, its, n, r, e1, e⟩ := I.lstM hl
  obtain ⟨its2, r2, ⟨⟨cls, dd, data, sl⟩, ho, hc, n2, hd⟩, _⟩ := I.tuple (xs := zs) (a := b) (Or.inl (Or.inl hb))
  simp only at hc hd
  subst hc hd
  have m2 := r2.length
  have both : its.toArray.size + its2.toArray.size ≤ sizeLine := by
    rw [List.size_toArray, List.size_toArray]
    omega
  have short : ¬(!its.toArray.isEmpty && Builtin.List.listTooLong (its.toArray.size + its2.toArray.size)) = true := by
    rw [notLongL both, Bool.and_false]
    exact Bool.false_ne_true
  refine call_meets F.slot_list_extend ⟨_, e, rfl⟩ F.entry_list_extend (F.args_list_extend_2 _ _)
    (meets_extT l its.toArray n b its2.toArray n2 dd sl short (by rw [List.size_toArray]; omega) (by omega)) ⟨e, ho, ?_⟩
  refine ⟨.non, _, I.lset (its' := its ++ its2) hl e (by simp) (r.append r2) ?_, rfl, q⟩
  rw [List.length_append]
  omega

/-! ### text * int -/
def repS (x : Str) (n : Nat) : Str := ⟨(List.replicate n x.cps.toList).flatten.toArray⟩
theorem rep_len (l : List Nat) : ∀ k, (List.replicate k l).flatten.length = k * l.length
  | 0 => by simp
  | k + 1 => by
    rw [List.replicate_succ, List.flatten_cons, List.length_append, rep_len l k, Nat.succ_mul]
    omega
theorem foldl_cps (c : Array Nat) : ∀ (n : Nat) (a : Array Nat),
    (List.replicate n c).foldl (· ++ ·) a = a ++ (List.replicate n c.toList).flatten.toArray
  | 0, a => by simp
  | n + 1, a => by
    rw [List.replicate_succ, List.foldl_cons, foldl_cps c n (a ++ c), List.replicate_succ, List.flatten_cons]
    apply Array.ext'
    simp
theorem op_repS : OpR X (binaryOp .Mult) (fun x y H Q => ∃ (z : Str) (n : Nat), x = .str z ∧ y = .int (n : Int) ∧
    z.length = 1 ∧ n ≤ 1000 ∧ Q (.str (repS z n)) H) := by
  intro pins s σ H x y v u Q I rx ry h
  obtain ⟨z, n, rfl, rfl, hz, hn, q⟩ := h
  obtain ⟨t, rfl⟩ := rx
  obtain ⟨t', rfl⟩ := ry
  have line := sizeLine_eq
  refine PySem.P.mul_str ?_ ?_ ?_ ?_
  · rw [decide_eq_false (by omega), decide_eq_false (by omega)]
    rfl
  · intro _ _
    have e : ((z.length : Int)) = 1 := by omega
    rw [e]
    have : (1 : Int) ≤ (2 ^ 63 - 1) / (n : Int) := by
      rw [Int.le_ediv_iff_mul_le (by omega)]
      omega
    omega
  · intro _ _
    rw [hz]
    exact decide_eq_false (by omega)
  · have le : ∀ k, k ≤ 1000 → (repS z k).length ≤ sizeLine := by
      intro k hk
      have e : (repS z k).length = k := by
        show (List.replicate k z.cps.toList).flatten.toArray.size = k
        have hz' : z.cps.toList.length = 1 := by rw [Array.length_toList]; exact hz
        rw [List.size_toArray, rep_len, hz']
        omega
      rw [e]
      omega
    by_cases h1 : (n : Int) < 1
    · have e : n = 0 := by omega
      subst e
      rw [if_pos h1]
      exact ⟨by decide, .str (repS z 0), H, I.tok _, ⟨_, rfl⟩, q⟩
    · rw [if_neg h1]
      by_cases h2 : ((n : Int) == 1 || z.length == 0) = true
      · rw [if_pos h2]
        have e : n = 1 := by
          rw [hz] at h2
          have h3 : (n : Int) = 1 := by simpa using h2
          omega
        subst e
        have ez : repS z 1 = z := by
          show Str.mk _ = z
          simp
        rw [ez] at q
        exact ⟨.str z, H, I, ⟨_, rfl⟩, q⟩
      · rw [if_neg h2]
        have e : (⟨(List.replicate (n : Int).toNat z.cps).foldl (· ++ ·) #[]⟩ : Str) = repS z n := by
          rw [Int.toNat_natCast, foldl_cps, Array.empty_append]
          rfl
        rw [e]
        exact ⟨le n hn, .str (repS z n), H, I.tok _, ⟨_, rfl⟩, q⟩

/-! ### (10 ** 60) ** 5 -/
theorem op_powG : OpR X (binaryOp .Pow) (rI (fun i j => i = 10 ^ 60 ∧ j = 5) fun i j => .int (10 ^ 300)) :=
  opI fun i j _ _ _ _ _ hc q => by
    obtain ⟨rfl, rfl⟩ := hc
    refine AutoIntOps.pow_4 (by decide) (by decide) (by decide +kernel) (by decide +kernel) (by decide +kernel) ?_
    have e : (((10 : Int) ^ 60) ^ ((5 : Int).toNat)) = 10 ^ 300 := by decide +kernel
    rw [e]
    exact q

/-! ### f(a=.., b=..) -/
section
variable {CX : CXT} {k : Nat} {f : Addr} {fd : FuncData} {ps ks : List Str} {sp : Sp} {E : XK} {x : Str} {p pos : Pos}
  {kws : List Keyword} {tk : TA} {g : List Value → List Value → List Value} {gV : List V → List V → List V}
theorem pe_kw (F : FnOk X.prog X.w X.K X.mg X.base CX k f fd ps sp) (hr : Room k X.A) (hg : Gl X x) (hm : X.mg x = some (.ref f))
    (hk : PySem.W.keepIn X.K (.ref f) = true) (hb : KBinds X.K fd ps ks g gV) (hx : Passes CX X E) (hkw : PK X kws tk)
    (hall : (backToKw pos (keywordEach kws X.env)).all (·.1.isSome) = true := by rfl)
    (hks : (backToKw pos (keywordEach kws X.env)).filterMap (·.1) = ks := by rfl)
    (hdb : (x == ("__debug__" : Str)) = false := by decide)
    (hpl : ((backTo pos (starEach [] X.env)).any (·.1) || (backToKw pos (keywordEach kws X.env)).any (·.1.isNone)) = false := by rfl) :
    PE X (.Call (.Name x p) [] kws pos) (tCallK sp gV E tNil tk) := by
  constructor
  intro pins s σ H Q I h
  refine wpAny_Call_Name_kw (ld_glob I hg hm ?_ hdb)
  refine PySem.W.callWith_KW0 (h₀ := X.base) I.ok.mod.kin hk hall ?_ hpl
  refine thn (hkw.run pos pins s σ H _ I h) ?_
  rintro ws s2 ⟨zs, H2, I2, rz, q2⟩
  refine ⟨I2.kIn, ?_⟩
  rw [hks]
  exact run_fnk (us := []) (vs := []) F hr hb hx I2 .nil rz q2
end
end
end Kg
/-! GC: defs by name (Cal), data that stays, trees as data. -/
namespace Kg
open PySem PySem.Spec PyProof.Rows L2

theorem fscope {N ps : List Str} {sc : Scope} (h : (decide (sc.kind = .function) && !sc.isCoroutine && !sc.isGenerator &&
    decide N.Nodup && decide (N.take ps.length = ps) &&
    ps.all (fun x => decide (sc.names.lookup x = some .local) || decide (sc.names.lookup x = some .cell)) &&
    sc.names.all (fun y => !decide (y.2 = .free))) = true) : FnScope N ps sc := by
  simp only [Bool.and_eq_true, Bool.not_eq_true', decide_eq_true_eq, List.all_eq_true, Bool.or_eq_true,
    decide_eq_false_iff_not] at h
  obtain ⟨⟨⟨⟨⟨⟨a, b⟩, c⟩, d⟩, e⟩, f⟩, g⟩ := h
  exact ⟨a, b, c, d, e, f, g⟩

/-- a def that is called by its name -/
structure Cal (P : Program) (w : World) (K : PySem.W.Frag) (mg : Str → Option Value) (base : Heap) (CX : CXT) (k : Nat)
    (x : Str) (ps : List Str) (sp : Sp) : Prop where
  ex : ∃ (f : Addr) (fd : FuncData), FnOk P w K mg base CX k f fd ps sp ∧ mg x = some (.ref f) ∧
    PySem.W.keepIn K (.ref f) = true ∧ Binds K fd ps []
/-- .. with all its arguments by keywords, ks -/
structure CalK (P : Program) (w : World) (K : PySem.W.Frag) (mg : Str → Option Value) (base : Heap) (CX : CXT) (k : Nat)
    (x : Str) (ps ks : List Str) (gV : List V → List V → List V) (sp : Sp) : Prop where
  ex : ∃ (f : Addr) (fd : FuncData) (g : List Value → List Value → List Value), FnOk P w K mg base CX k f fd ps sp ∧
    mg x = some (.ref f) ∧ PySem.W.keepIn K (.ref f) = true ∧ KBinds K fd ps ks g gV
structure CalG (P : Program) (w : World) (K : PySem.W.Frag) (mg : Str → Option Value) (base : Heap) (k : Nat)
    (x : Str) (ps : List Str) (sp : Sp) : Prop where
  ex : ∃ (f : Addr) (fd : FuncData), Fg P w K mg base k f fd ps sp ∧ mg x = some (.ref f) ∧
    PySem.W.keepIn K (.ref f) = true ∧ Binds K fd ps []
section
variable {X : Cx} {CX : CXT} {k j : Nat} {x : Str} {ps ks : List Str} {sp : Sp} {p pos : Pos} {e : Expr} {es : List Expr} {t : TA}
  {kws : List Keyword} {tk : TA} {gV : List V → List V → List V} {E : XK}
theorem Cal.pe (c : Cal X.prog X.w X.K X.mg X.base CX0 k x ps sp) (hr : Room j X.A) (hk : k ≤ j) (hg : Gl X x)
    (ha : PA X (e :: es) t) (hdb : (x == ("__debug__" : Str)) = false := by decide)
    (he : starEach (e :: es) X.env = (false, eval e X.env) :: starEach es X.env := by rfl)
    (hpl : (backTo pos (starEach es X.env)).any (·.1) = false := by rfl) :
    PE X (.Call (.Name x p) (e :: es) [] pos) (tCall sp [] E0 t) := by
  obtain ⟨f, fd, F, hm, kp, b⟩ := c.ex
  exact pe_call F (hr.mono hk) hg hm kp b .nil pass0 ha hdb he hpl
theorem CalG.pe (c : CalG X.prog X.w X.K X.mg X.base k x ps sp) (hr : Room j X.A) (hq : Quiet X.A) (hk : k ≤ j) (hg : Gl X x)
    (ha : PA X (e :: es) t) (hdb : (x == ("__debug__" : Str)) = false := by decide)
    (he : starEach (e :: es) X.env = (false, eval e X.env) :: starEach es X.env := by rfl)
    (hpl : (backTo pos (starEach es X.env)).any (·.1) = false := by rfl) :
    PE X (.Call (.Name x p) (e :: es) [] pos) (tCall sp [] E0 t) := by
  obtain ⟨f, fd, F, hm, kp, b⟩ := c.ex
  exact pe_callG F (hr.mono hk) hq hg hm kp b .nil ha hdb he hpl
theorem CalK.kw (c : CalK X.prog X.w X.K X.mg X.base CX0 k x ps ks gV sp) (hr : Room j X.A) (hk : k ≤ j) (hg : Gl X x)
    (hkw : PK X kws tk) (hall : (backToKw pos (keywordEach kws X.env)).all (·.1.isSome) = true := by rfl)
    (hks : (backToKw pos (keywordEach kws X.env)).filterMap (·.1) = ks := by rfl)
    (hdb : (x == ("__debug__" : Str)) = false := by decide)
    (hpl : ((backTo pos (starEach [] X.env)).any (·.1) || (backToKw pos (keywordEach kws X.env)).any (·.1.isNone)) = false := by rfl) :
    PE X (.Call (.Name x p) [] kws pos) (tCallK sp gV E0 tNil tk) := by
  obtain ⟨f, fd, g, F, hm, kp, b⟩ := c.ex
  exact pe_kw F (hr.mono hk) hg hm kp b pass0 hkw hall hks hdb hpl
end

end Kg
namespace L2
open PySem PySem.Spec PyProof.Rows
/-! ### heaps that only grow -/
theorem Same.new {H : Hp} {p : Addr} {o : HO} (h : H p = none) : Same H (upd H p o) := fun b x e => by
  rw [upd_ne (ne_of_none e h)]
  exact e
theorem Same.mut {H H' : Hp} {p : Addr} {o : HO} (s : Same H H') (h : H p = none) : Same H (upd H' p o) := fun b x e => by
  rw [upd_ne (ne_of_none e h)]
  exact s b x e
theorem Same.seqT {K : PySem.W.Frag} {H H' : Hp} {a : Addr} {xs : List V} (e : Same H H') (h : SqT K H a xs) : SqT K H' a xs := by
  rcases h with (h | ⟨o, h⟩) | h
  · exact .inl (.inl (e _ _ h))
  · exact .inl (.inr ⟨o, e _ _ h⟩)
  · exact .inr h
theorem sqL {K : PySem.W.Frag} {H : Hp} {a : Addr} {xs : List V} (h : H a = some (.lst xs)) : SqL K H a xs := .inl (.inl h)
theorem sqT {K : PySem.W.Frag} {H : Hp} {a : Addr} {xs : List V} (h : H a = some (.tup xs)) : SqT K H a xs := .inl (.inl h)
mutual
theorem Dp.same {K : PySem.W.Frag} {H H' : Hp} (e : Same H H') : ∀ (d : PyData) (v : V), Dp K H v d → Dp K H' v d
  | .none, _, h => by cases h; exact .non
  | .bool b, _, h => by cases h; exact .bl b
  | .int i, _, h => by cases h; exact .int i
  | .str x, _, h => by cases h; exact .str x
  | .list ds, _, h => by cases h with | lst hs ha => exact .lst (e.seq hs) (DpAll.same e ds _ ha)
  | .tuple ds, _, h => by cases h with | tup hs ha => exact .tup (Same.seqT e hs) (DpAll.same e ds _ ha)
  | .dict _, _, h => by cases h
theorem DpAll.same {K : PySem.W.Frag} {H H' : Hp} (e : Same H H') : ∀ (ds : List PyData) (vs : List V), DpAll K H vs ds → DpAll K H' vs ds
  | [], _, h => by cases h; exact .nil
  | d :: ds, _, h => by cases h with | cons h1 h2 => exact .cons (Dp.same e d _ h1) (DpAll.same e ds _ h2)
end
section
variable {K : PySem.W.Frag} {H : Hp}
theorem DpAll.length : ∀ {vs : List V} {ds : List PyData}, DpAll K H vs ds → vs.length = ds.length
  | _, _, .nil => rfl
  | _, _, .cons _ h => congrArg (· + 1) (DpAll.length h)
theorem DpAll.append : ∀ {vs ws : List V} {ds es : List PyData}, DpAll K H vs ds → DpAll K H ws es → DpAll K H (vs ++ ws) (ds ++ es)
  | _, _, _, _, .nil, h => h
  | _, _, _, _, .cons a b, h => .cons a (b.append h)
theorem DpAll.one {v : V} {d : PyData} (h : Dp K H v d) : DpAll K H [v] [d] := .cons h .nil
theorem DpAll.rev : ∀ {vs : List V} {ds : List PyData}, DpAll K H vs ds → DpAll K H vs.reverse ds.reverse
  | _, _, .nil => .nil
  | _, _, .cons a b => by
    rw [List.reverse_cons, List.reverse_cons]
    exact b.rev.append (.one a)
theorem DpAll.get : ∀ {vs : List V} {ds : List PyData} {i : Nat} {d : PyData}, DpAll K H vs ds → ds[i]? = some d → ∃ v, vs[i]? = some v ∧ Dp K H v d
  | _, _, _, _, .nil, e => by simp at e
  | _, _, 0, _, .cons a _, e => by simp at e; subst e; exact ⟨_, rfl, a⟩
  | _, _, i + 1, _, .cons _ b, e => by
    obtain ⟨v, h1, h2⟩ := b.get (i := i) (by simpa using e)
    exact ⟨v, by simpa using h1, h2⟩
theorem DpAll.strs : ∀ (ks : List Str), DpAll K H (ks.map V.str) (ks.map PyData.str)
  | [] => .nil
  | k :: ks => .cons (.str k) (DpAll.strs ks)
theorem DpAll.strs_eq : ∀ {vs : List V} (ks : List Str), DpAll K H vs (ks.map PyData.str) → vs = ks.map V.str
  | _, [], h => by cases h; rfl
  | _, k :: ks, h => by
    cases h with
    | cons h1 h2 =>
      cases h1
      exact congrArg _ (DpAll.strs_eq ks h2)
/-- what data of the kind tuple says of the heap -/
theorem Dp.tup_at {v : V} {ds : List PyData} (h : Dp K H v (.tuple ds)) : ∃ a xs, v = .ref a ∧ SqT K H a xs ∧ DpAll K H xs ds := by
  cases h with
  | tup hs ha => exact ⟨_, _, rfl, hs, ha⟩
theorem Dp.lst_at {v : V} {ds : List PyData} (h : Dp K H v (.list ds)) : ∃ a xs, v = .ref a ∧ SqL K H a xs ∧ DpAll K H xs ds := by
  cases h with
  | lst hs ha => exact ⟨_, _, rfl, hs, ha⟩
end
end L2
/-! GT: trees of keyed elements, as data. -/
namespace Kg
open PySem PySem.Spec PyProof.Rows L2

inductive T where
  | node (k : Str) (cs : List T)
namespace T
def key : T → Str
  | node k _ => k
def kids : T → List T
  | node _ cs => cs
mutual
def d : T → PyData
  | node k cs => .tuple [.str k, .tuple (ds cs)]
def ds : List T → List PyData
  | [] => []
  | c :: cs => d c :: ds cs
end
mutual
/-- all elements, each one ahead of those inside it -/
def pre : T → List T
  | node k cs => node k cs :: pres cs
def pres : List T → List T
  | [] => []
  | c :: cs => pre c ++ pres cs
end
mutual
def size : T → Nat
  | node _ cs => sizes cs + 1
def sizes : List T → Nat
  | [] => 0
  | c :: cs => size c + sizes cs
end
theorem ds_map : ∀ cs : List T, ds cs = cs.map d
  | [] => rfl
  | c :: cs => by rw [ds, List.map_cons, ds_map cs]
theorem pres_flat : ∀ cs : List T, pres cs = cs.flatMap pre
  | [] => rfl
  | c :: cs => by rw [pres, List.flatMap_cons, pres_flat cs]
theorem pres_append (a b : List T) : pres (a ++ b) = pres a ++ pres b := by
  rw [pres_flat, pres_flat, pres_flat, List.flatMap_append]
theorem sizes_append : ∀ a b : List T, sizes (a ++ b) = sizes a + sizes b
  | [], b => by rw [List.nil_append, sizes, Nat.zero_add]
  | c :: cs, b => by rw [List.cons_append, sizes, sizes, sizes_append cs b, Nat.add_assoc]
mutual
theorem pre_len : ∀ t : T, (pre t).length = size t
  | node k cs => by rw [pre, List.length_cons, pres_len cs, size]
theorem pres_len : ∀ cs : List T, (pres cs).length = sizes cs
  | [] => rfl
  | c :: cs => by rw [pres, List.length_append, pre_len c, pres_len cs, sizes]
end
theorem size_pos : ∀ t : T, 0 < size t
  | node k cs => by rw [size]; omega
theorem d_eq (t : T) : t.d = .tuple [.str t.key, .tuple (t.kids.map d)] := by
  cases t with
  | node k cs => rw [d, ds_map, key, kids]
theorem pre_eq (t : T) : t.pre = t :: pres t.kids := by
  cases t with
  | node k cs => rw [pre, kids]
theorem size_eq (t : T) : t.size = sizes t.kids + 1 := by
  cases t with
  | node k cs => rw [size, kids]
def keys (t : T) : List Str := t.pre.map key
theorem kids_le (t : T) : t.kids.length ≤ sizes t.kids := by
  have : ∀ cs : List T, cs.length ≤ sizes cs := by
    intro cs
    induction cs with
    | nil => exact Nat.le_refl _
    | cons c cs ih =>
      have := size_pos c
      rw [sizes, List.length_cons]
      omega
  exact this _
end T
/-- what the heap has of a tree -/
theorem T.at_ {K : PySem.W.Frag} {H : Hp} {v : V} {t : T} (h : Dp K H v t.d) : ∃ a c zs, v = .ref a ∧ SqT K H a [.str t.key, .ref c] ∧
    SqT K H c zs ∧ DpAll K H zs (t.kids.map T.d) := by
  rw [T.d_eq] at h
  obtain ⟨a, xs, rfl, h1, h2⟩ := h.tup_at
  cases h2 with
  | cons h2 h3 =>
    cases h2
    cases h3 with
    | cons h3 h4 =>
      cases h4
      obtain ⟨c, zs, rfl, h5, h6⟩ := h3.tup_at
      exact ⟨a, c, zs, rfl, h1, h5, h6⟩
end Kg
/-! GE: a region of data (G) in the heap (H), and what grows. -/
namespace Kg
open PySem PySem.Spec PyProof.Rows L2

/-- from the region G of H to the region G' of H': what was tracked stays, but for the places m; what is new to the region is new to the heap -/
structure Grow (m : List Addr) (G H G' H' : Hp) : Prop where
  i0 : Same G H
  h : ∀ b o, b ∉ m → H b = some o → H' b = some o
  g : Same G G'
  i : Same G' H'
  new : ∀ b, G b = none → H b ≠ none → G' b = none
section
variable {m : List Addr} {G H G' H' G'' H'' : Hp} {p : Addr} {o o' : HO}
theorem Grow.refl (i : Same G H) : Grow m G H G H := ⟨i, fun _ _ _ e => e, fun _ _ e => e, i, fun _ e _ => e⟩
theorem Grow.trans (a : Grow m G H G' H') (hm : ∀ b ∈ m, H b ≠ none → H' b ≠ none) (b : Grow m G' H' G'' H'') : Grow m G H G'' H'' :=
  ⟨a.i0, fun c o n e => b.h c o n (a.h c o n e), a.g.trans b.g, b.i, fun c e n => b.new c (a.new c e n) (by
    by_cases hc : c ∈ m
    · exact hm c hc n
    · obtain ⟨o, e2⟩ := Option.ne_none_iff_exists'.mp n
      rw [a.h c o hc e2]
      exact Option.some_ne_none _)⟩
theorem Grow.tr (a : Grow [] G H G' H') (b : Grow [] G' H' G'' H'') : Grow [] G H G'' H'' := a.trans (fun _ h => nomatch h) b
theorem Grow.same (a : Grow [] G H G' H') : Same H H' := fun b o e => a.h b o (by simp) e
theorem Grow.wide (a : Grow [] G H G' H') : Grow m G H G' H' := ⟨a.i0, fun b o _ e => a.same b o e, a.g, a.i, a.new⟩
theorem Grow.into (a : Grow m G H G' H') : Same G H' := a.g.trans a.i
theorem Grow.off (a : Grow m G H G' H') (e : G p = none) (h : H p = some o) : G' p = none := a.new p e (by rw [h]; exact Option.some_ne_none _)
/-- a new object of the region -/
theorem Grow.add (i : Same G H) (n : H p = none) : Grow m G H (upd G p o) (upd H p o) :=
  ⟨i, fun b x _ e => Same.new n b x e, Same.new (i.free n), fun b x e => by
    by_cases hb : b = p
    · subst hb
      rw [upd_same] at e ⊢
      exact e
    · rw [upd_ne hb] at e ⊢
      exact i b x e, fun b e hn => by
    have hb : b ≠ p := fun z => hn (by rw [z]; exact n)
    rw [upd_ne hb]
    exact e⟩
/-- a new object beside the region -/
theorem Grow.beside (i : Same G H) (n : H p = none) : Grow m G H G (upd H p o) :=
  ⟨i, fun b x _ e => Same.new n b x e, fun _ _ e => e, fun b x e => by
    rw [upd_ne (ne_of_none e (i.free n))]
    exact i b x e, fun b e _ => e⟩
/-- an object that was not there at first is changed, beside the region -/
theorem Grow.mut (a : Grow m G H G' H') (n : H p = none) (g : G' p = none) : Grow m G H G' (upd H' p o) :=
  ⟨a.i0, fun b x hb e => by
    rw [upd_ne (ne_of_none e n)]
    exact a.h b x hb e, a.g, fun b x e => by
    rw [upd_ne (ne_of_none e g)]
    exact a.i b x e, a.new⟩
/-- one of the places m is changed -/
theorem Grow.write (a : Grow m G H G' H') (hp : p ∈ m) (g : G' p = none) : Grow m G H G' (upd H' p o) :=
  ⟨a.i0, fun b x hb e => by
    rw [upd_ne (fun z => hb (by rw [z]; exact hp))]
    exact a.h b x hb e, a.g, fun b x e => by
    rw [upd_ne (ne_of_none e g)]
    exact a.i b x e, a.new⟩
/-- it is taken into the region -/
theorem Grow.take (a : Grow m G H G' H') (n : H p = none) (h : H' p = some o) : Grow m G H (upd G' p o) H' :=
  ⟨a.i0, a.h, fun b x e => by
    rw [upd_ne (ne_of_none e (a.i0.free n))]
    exact a.g b x e, fun b x e => by
    by_cases hb : b = p
    · subst hb
      rw [upd_same] at e
      cases e
      exact h
    · rw [upd_ne hb] at e
      exact a.i b x e, fun b e hn => by
    have hb : b ≠ p := fun z => hn (by rw [z]; exact n)
    rw [upd_ne hb]
    exact a.new b e hn⟩
theorem take_same (e : G p = none) : Same G (upd G p o) := Same.new e
end

/-! ### what is given back -/
def Gives (K : PySem.W.Frag) (G H : Hp) (d : PyData) (Q : VK) : Prop := ∀ H' G' u, Grow [] G H G' H' → Dp K G' u d → Q u H'
/-- an expression evaluates to data, in every grown state -/
def EvM (K : PySem.W.Frag) (te : TE) (σ : L2.St) (G H : Hp) (d : PyData) : Prop := ∀ G1 H1, Grow [] G H G1 H1 → ∀ Q, Gives K G1 H1 d Q → te σ H1 Q
def EvA (K : PySem.W.Frag) (ta : TA) (σ : L2.St) (G H : Hp) (ds : List PyData) : Prop := ∀ G1 H1, Grow [] G H G1 H1 →
  ∀ Q : List V → Hp → Prop, (∀ H' G' us, Grow [] G1 H1 G' H' → DpAll K G' us ds → Q us H') → ta σ H1 Q
section
variable {K : PySem.W.Frag} {σ : L2.St} {G H G1 H1 : Hp} {te tf : TE} {ta : TA} {d e : PyData} {ds : List PyData} {i : Nat} {v : V}
theorem EvM.more (h : EvM K te σ G H d) (g : Grow [] G H G1 H1) : EvM K te σ G1 H1 d := fun G2 H2 g2 => h G2 H2 (g.tr g2)
theorem EvA.more (h : EvA K ta σ G H ds) (g : Grow [] G H G1 H1) : EvA K ta σ G1 H1 ds := fun G2 H2 g2 => h G2 H2 (g.tr g2)
theorem EvM.now (h : EvM K te σ G H d) (i : Same G H) {Q : VK} (q : Gives K G H d Q) : te σ H Q := h G H (.refl i) Q q
theorem em_var (h : σ[i]? = some (some v)) (hd : Dp K G v d) : EvM K (tVar i) σ G H d := fun G1 H1 g Q q =>
  ⟨v, h, q H1 G1 v (.refl g.i) (Dp.same g.g _ _ hd)⟩
theorem em_int {n : Int} : EvM K (tC (.int n)) σ G H (.int n) := fun G1 H1 g Q q => q H1 G1 _ (.refl g.i) (.int n)
theorem em_str {x : Str} : EvM K (tC (.str x)) σ G H (.str x) := fun G1 H1 g Q q => q H1 G1 _ (.refl g.i) (.str x)
theorem em_non : EvM K (tC .non) σ G H .none := fun G1 H1 g Q q => q H1 G1 _ (.refl g.i) .non
theorem em_bl {b : Bool} : EvM K (tC (.bl b)) σ G H (.bool b) := fun G1 H1 g Q q => q H1 G1 _ (.refl g.i) (.bl b)
theorem ea_nil : EvA K tNil σ G H [] := fun G1 H1 g Q q => q H1 G1 [] (.refl g.i) .nil
theorem ea_cons (h : EvM K te σ G H d) (r : EvA K ta σ G H ds) : EvA K (tCons te ta) σ G H (d :: ds) := fun G1 H1 g Q q =>
  h G1 H1 g _ fun H2 G2 u g2 hu => r G2 H2 (g.tr g2) _ fun H3 G3 us g3 hus => q H3 G3 (u :: us) (g2.tr g3) (.cons (Dp.same g3.g _ _ hu) hus)
theorem em_tup (h : EvA K ta σ G H ds) (few : ds.length ≤ 100000) : EvM K (tTup ta) σ G H (.tuple ds) := fun G1 H1 g Q q =>
  h G1 H1 g _ fun H2 G2 us g2 hus => ⟨by
    have := hus.length
    exact Nat.le_trans (by omega) (show 100000 ≤ sizeLine by decide), fun p np =>
    q _ (upd G2 p (.tup us)) (.ref p) (g2.tr (.add g2.i np)) (.tup (sqT upd_same) (DpAll.same (Same.new (g2.i.free np)) _ _ hus))⟩
theorem em_lst (h : EvA K ta σ G H ds) (few : ds.length ≤ 100000) : EvM K (tLst ta) σ G H (.list ds) := fun G1 H1 g Q q =>
  h G1 H1 g _ fun H2 G2 us g2 hus => ⟨by
    have := hus.length
    exact Nat.le_trans (by omega) (show 100000 ≤ sizeLine by decide), fun p np =>
    q _ (upd G2 p (.lst us)) (.ref p) (g2.tr (.add g2.i np)) (.lst (sqL upd_same) (DpAll.same (Same.new (g2.i.free np)) _ _ hus))⟩
theorem dp_atI {vs : List V} {ds : List PyData} {i : Int} {d : PyData} (h : DpAll K G vs ds) (e : atI ds i = some d) : ∃ v, atI vs i = some v ∧ Dp K G v d := by
  unfold atI at e ⊢
  rw [h.length]
  cases hi : ixN ds.length i with
  | none =>
    rw [hi] at e
    cases e
  | some j =>
    rw [hi] at e
    exact h.get e
theorem em_ixT {n : Int} (h : EvM K te σ G H (.tuple ds)) (k : EvM K tf σ G H (.int n)) (e : atI ds n = some d) : EvM K (tOp (rIxT K) te tf) σ G H d := fun G1 H1 g Q q =>
  h G1 H1 g _ fun H2 G2 u g2 hu => k G2 H2 (g.tr g2) _ fun H3 G3 y g3 hy => by
    cases hy
    obtain ⟨a, xs, rfl, ha, hx⟩ := hu.tup_at
    obtain ⟨v, e1, hv⟩ := dp_atI hx e
    exact ⟨a, xs, n, v, rfl, rfl, Same.seqT (g3.into) ha, e1, q H3 G3 v (g2.tr g3) (Dp.same g3.g _ _ hv)⟩
theorem em_ixL {n : Int} (h : EvM K te σ G H (.list ds)) (k : EvM K tf σ G H (.int n)) (e : atI ds n = some d) : EvM K (tOp (rIxL K) te tf) σ G H d := fun G1 H1 g Q q =>
  h G1 H1 g _ fun H2 G2 u g2 hu => k G2 H2 (g.tr g2) _ fun H3 G3 y g3 hy => by
    cases hy
    obtain ⟨a, xs, rfl, ha, hx⟩ := hu.lst_at
    obtain ⟨v, e1, hv⟩ := dp_atI hx e
    exact ⟨a, xs, n, v, rfl, rfl, g3.into.seq ha, e1, q H3 G3 v (g2.tr g3) (Dp.same g3.g _ _ hv)⟩
/-- tuple(xs), xs a list or a tuple -/
theorem em_tuple (h : EvM K te σ G H (.list ds)) : EvM K (tCB (fun xs H Q => ∃ p ys, xs = [.ref p] ∧
    ((SqL K H p ys ∧ ∀ l, H l = none → Q (.ref l) (upd H l (.tup ys))) ∨ (SqT K H p ys ∧ Q (.ref p) H))) (tCons te tNil)) σ G H (.tuple ds) :=
  fun G1 H1 g Q q => h G1 H1 g _ fun H2 G2 u g2 hu => by
    obtain ⟨a, xs, rfl, ha, hx⟩ := hu.lst_at
    refine ⟨a, xs, rfl, .inl ⟨g2.i.seq ha, fun p np => ?_⟩⟩
    exact q _ (upd G2 p (.tup xs)) (.ref p) (g2.tr (.add g2.i np)) (.tup (sqT upd_same) (DpAll.same (Same.new (g2.i.free np)) _ _ hx))
/-- what a promise gives, at every grown state -/
def SpM (K : PySem.W.Frag) (sp : Sp) (G H : Hp) (ds : List PyData) (d : PyData) : Prop := ∀ G1 H1 us, Grow [] G H G1 H1 → DpAll K G1 us ds →
  ∀ Q : VK, Gives K G1 H1 d Q → ∀ E : XK, sp us H1 Q E
theorem em_call {sp : Sp} {E : XK} (h : EvA K ta σ G H ds) (hs : SpM K sp G H ds d) : EvM K (tCall sp [] E ta) σ G H d := fun G1 H1 g Q q =>
  h G1 H1 g _ fun H2 G2 us g2 hus => by
    show sp (us ++ []) H2 Q E
    rw [List.append_nil]
    exact hs G2 H2 us (g.tr g2) hus Q (fun H3 G3 u g3 hu => q H3 G3 u (g2.tr g3) hu) E
/-- a comprehension without a test: over a list, over a tuple -/
theorem lc_turns {gs : List PyData} {xs : List V} {j : Nat} {vs : List Nat} {D : Addr} {Qd : Hp → Prop} (i0 : Same G H)
    (hD : H D = none) (few : xs.length ≤ 100000) (many : gs.length = xs.length) (hw : ∀ x, wipe ((wipe σ vs).set j (some x)) vs = wipe σ vs)
    (he : ∀ (i : Nat) (x : V) (d : PyData) (G1 H1 : Hp), xs[i]? = some x → gs[i]? = some d → Grow [] G H G1 H1 → EvM K te ((wipe σ vs).set j (some x)) G1 H1 d)
    (q : ∀ H' G' ys, Grow [] G H G' H' → H' D = some (.lst ys) → G' D = some (.lst ys) → DpAll K G' ys gs → Qd H') :
    ∃ Pv : Nat → Hp → Prop, Pv 0 (upd H D (.lst [])) ∧ (∀ i H', i ≤ xs.length → Pv i H' → ∃ G', Grow [] G H G' H') ∧
      (∀ i x H', xs[i]? = some x → Pv i H' → wipe ((wipe σ vs).set j (some x)) vs = wipe σ vs ∧ tYes ((wipe σ vs).set j (some x)) H' fun b H3 =>
        if b = true then te ((wipe σ vs).set j (some x)) H3 fun y H4 => ∃ acc, H4 D = some (.lst acc) ∧ acc.length < sizeLine ∧ Pv (i + 1) (upd H4 D (.lst (acc ++ [y]))) else Pv (i + 1) H3) ∧
      ∀ H', Pv xs.length H' → Qd H' := by
  refine ⟨fun i H' => ∃ G' ys, Grow [] G H G' H' ∧ G' D = none ∧ H' D = some (.lst ys) ∧ DpAll K G' ys (gs.take i), ?_, ?_, ?_, ?_⟩
  · exact ⟨G, [], .beside i0 hD, i0.free hD, upd_same, .nil⟩
  · rintro i H' _ ⟨G', ys, g, _⟩
    exact ⟨G', g⟩
  · rintro i x H' hx ⟨G', ys, g, gD, hys, hd⟩
    refine ⟨hw x, ?_⟩
    show te ((wipe σ vs).set j (some x)) H' _
    have hi : i < xs.length := (List.getElem?_eq_some_iff.mp hx).1
    have hg : gs[i]? = some gs[i] := List.getElem?_eq_getElem (by omega)
    refine he i x _ G' H' hx hg g G' H' (.refl g.i) _ fun H4 G4 y g4 hy => ⟨ys, g4.same _ _ hys, ?_, G4, ys ++ [y], ?_, g4.off gD hys, upd_same, ?_⟩
    · have := hd.length
      rw [List.length_take] at this
      exact Nat.lt_of_lt_of_le (by omega) (show 100001 ≤ sizeLine by decide)
    · exact (g.tr g4).mut hD (g4.off gD hys)
    · rw [List.take_succ, hg]
      exact (DpAll.same g4.g _ _ hd).append (.one hy)
  · rintro H' ⟨G', ys, g, gD, hys, hd⟩
    rw [← many, List.take_length] at hd
    exact q H' (upd G' D (.lst ys)) ys (g.take hD hys) hys upd_same (DpAll.same (Same.new gD) _ _ hd)
theorem em_lcL {gs : List PyData} {tl : TE} {j : Nat} {vs : List Nat} (h : EvM K tl σ G H (.list ds)) (few : ds.length ≤ 100000)
    (hw : ∀ x, wipe ((wipe σ vs).set j (some x)) vs = wipe σ vs) (many : gs.length = ds.length)
    (he : ∀ (i : Nat) (x : V) (b d : PyData) (G1 H1 : Hp), ds[i]? = some b → gs[i]? = some d → Grow [] G H G1 H1 → Dp K G1 x b → EvM K te ((wipe σ vs).set j (some x)) G1 H1 d) :
    EvM K (tLc (iList K tl) (gName j) tYes te vs) σ G H (.list gs) := fun G1 H1 g Q q => h G1 H1 g _ fun H2 G2 u g2 hu => by
  obtain ⟨a, xs, rfl, ha, hx⟩ := hu.lst_at
  have hl := hx.length
  refine ⟨a, rfl, ⟨xs, g2.i.seq ha⟩, fun D hD => ?_⟩
  obtain ⟨Pv, p0, pg, ps, pd⟩ := lc_turns (K := K) (G := G2) (H := H2) (gs := gs) (xs := xs) (j := j) (vs := vs) (σ := σ) (te := te)
    (Qd := fun H' => Q (.ref D) H') g2.i hD (by omega) (by omega) hw (fun i x d G3 H3 ex ed g3 => by
      have hi : i < ds.length := by
        have := (List.getElem?_eq_some_iff.mp ex).1
        omega
      obtain ⟨v, ev, hv⟩ := hx.get (List.getElem?_eq_getElem hi)
      rw [ex] at ev
      cases ev
      exact he i x _ d G3 H3 (List.getElem?_eq_getElem hi) ed ((g.tr g2).tr g3) (Dp.same g3.g _ _ hv))
    (fun H' G' ys g' h1 h2 h3 => q H' G' (.ref D) (g2.tr g') (.lst (sqL h2) h3))
  exact lc_list (xs := xs) Pv p0 (fun i H' hi p => by
    obtain ⟨G', g'⟩ := pg i H' hi p
    exact g'.into.seq ha) (fun i x H' hx p => ps i x H' hx p) pd
theorem em_lcT {gs : List PyData} {tl : TE} {j : Nat} {vs : List Nat} (h : EvM K tl σ G H (.tuple ds)) (few : ds.length ≤ 100000)
    (hw : ∀ x, wipe ((wipe σ vs).set j (some x)) vs = wipe σ vs) (many : gs.length = ds.length)
    (he : ∀ (i : Nat) (x : V) (b d : PyData) (G1 H1 : Hp), ds[i]? = some b → gs[i]? = some d → Grow [] G H G1 H1 → Dp K G1 x b → EvM K te ((wipe σ vs).set j (some x)) G1 H1 d) :
    EvM K (tLc (iTup K tl) (gName j) tYes te vs) σ G H (.list gs) := fun G1 H1 g Q q => h G1 H1 g _ fun H2 G2 u g2 hu => by
  obtain ⟨a, xs, rfl, ha, hx⟩ := hu.tup_at
  have hl := hx.length
  refine ⟨a, rfl, ⟨xs, Same.seqT g2.i ha⟩, fun D hD => ?_⟩
  obtain ⟨Pv, p0, pg, ps, pd⟩ := lc_turns (K := K) (G := G2) (H := H2) (gs := gs) (xs := xs) (j := j) (vs := vs) (σ := σ) (te := te)
    (Qd := fun H' => Q (.ref D) H') g2.i hD (by omega) (by omega) hw (fun i x d G3 H3 ex ed g3 => by
      have hi : i < ds.length := by
        have := (List.getElem?_eq_some_iff.mp ex).1
        omega
      obtain ⟨v, ev, hv⟩ := hx.get (List.getElem?_eq_getElem hi)
      rw [ex] at ev
      cases ev
      exact he i x _ d G3 H3 (List.getElem?_eq_getElem hi) ed ((g.tr g2).tr g3) (Dp.same g3.g _ _ hv))
    (fun H' G' ys g' h1 h2 h3 => q H' G' (.ref D) (g2.tr g') (.lst (sqL h2) h3))
  exact lc_tup (xs := xs) Pv p0 (fun i H' hi p => by
    obtain ⟨G', g'⟩ := pg i H' hi p
    exact Same.seqT g'.into ha) (fun i x H' hx p => ps i x H' hx p) pd
end
end Kg
/-! GM: mathematics of trees: keys, edges, ways. -/
namespace Kg
open PySem
namespace T
theorem keys_eq (t : T) : t.keys = t.key :: t.kids.flatMap keys := by
  rw [keys, pre_eq, List.map_cons, pres_flat, List.map_flatMap]
  rfl
/-- (child, parent), for each element ahead of those inside it -/
def edges (t : T) : List (Str × Str) := t.pre.flatMap fun n => n.kids.map fun c => (c.key, n.key)
theorem edges_eq (t : T) : t.edges = (t.kids.map fun c => (c.key, t.key)) ++ t.kids.flatMap edges := by
  rw [edges, pre_eq, List.flatMap_cons, pres_flat, List.flatMap_assoc]
  rfl
theorem indT {p : T → Prop} (h : ∀ t : T, (∀ c ∈ t.kids, p c) → p t) : ∀ t, p t := by
  have : ∀ n, ∀ t : T, t.size ≤ n → p t := by
    intro n
    induction n with
    | zero =>
      intro t ht
      have := size_pos t
      omega
    | succ n ih =>
      intro t ht
      refine h t fun c hc => ih c ?_
      have : ∀ cs : List T, c ∈ cs → c.size ≤ sizes cs := by
        intro cs
        induction cs with
        | nil => intro h; cases h
        | cons d ds ih2 =>
          intro h
          rw [sizes]
          rcases List.mem_cons.mp h with e | e
          · rw [e]
            omega
          · have := ih2 e
            omega
      have h1 := this t.kids hc
      rw [size_eq] at ht
      omega
  exact fun t => this t.size t (Nat.le_refl _)
theorem perm_flat {f g : T → List Str} : ∀ cs : List T, (∀ c ∈ cs, (f c).Perm (g c)) → (cs.flatMap f).Perm (cs.flatMap g)
  | [], _ => .refl _
  | c :: cs, h => by
    rw [List.flatMap_cons, List.flatMap_cons]
    exact (h c (List.mem_cons_self ..)).append (perm_flat cs fun d hd => h d (List.mem_cons_of_mem _ hd))
theorem perm_heads {g : T → List Str} : ∀ cs : List T, (cs.map key ++ cs.flatMap g).Perm (cs.flatMap fun c => c.key :: g c)
  | [] => .refl _
  | c :: cs => by
    rw [List.map_cons, List.flatMap_cons, List.flatMap_cons, List.cons_append, List.cons_append]
    refine .cons _ ?_
    rw [← List.append_assoc]
    refine List.Perm.trans ((List.perm_append_comm).append_right _) ?_
    rw [List.append_assoc]
    exact (perm_heads cs).append_left _
theorem edges_perm : ∀ t : T, (t.key :: t.edges.map (·.1)).Perm t.keys := by
  refine indT fun t ih => ?_
  rw [edges_eq, keys_eq, List.map_append, List.map_map, List.map_flatMap]
  refine .cons _ ?_
  exact (perm_heads t.kids).trans (perm_flat t.kids ih)
theorem edges_nodup {t : T} (h : t.keys.Nodup) : (t.key :: t.edges.map (·.1)).Nodup := (edges_perm t).nodup_iff.mpr h
theorem mem_pre_keys {t u : T} (h : u ∈ t.pre) : u.key ∈ t.keys := List.mem_map_of_mem h
theorem self_pre (t : T) : t ∈ t.pre := by
  rw [pre_eq]
  exact List.mem_cons_self ..
theorem kid_pre {t c u : T} (hc : c ∈ t.kids) (hu : u ∈ c.pre) : u ∈ t.pre := by
  rw [pre_eq, pres_flat]
  exact List.mem_cons_of_mem _ (List.mem_flatMap.mpr ⟨c, hc, hu⟩)
theorem pre_cases {t u : T} (h : u ∈ t.pre) : u = t ∨ ∃ c ∈ t.kids, u ∈ c.pre := by
  rw [pre_eq, pres_flat] at h
  rcases List.mem_cons.mp h with e | e
  · exact Or.inl e
  · exact Or.inr (List.mem_flatMap.mp e)
theorem mem_edges {t : T} {x y : Str} : (x, y) ∈ t.edges ↔ ∃ n ∈ t.pre, n.key = y ∧ ∃ c ∈ n.kids, c.key = x := by
  rw [edges, List.mem_flatMap]
  constructor
  · rintro ⟨n, hn, h⟩
    obtain ⟨c, hc, e⟩ := List.mem_map.mp h
    cases e
    exact ⟨n, hn, rfl, c, hc, rfl⟩
  · rintro ⟨n, hn, rfl, c, hc, rfl⟩
    exact ⟨n, hn, List.mem_map.mpr ⟨c, hc, rfl⟩⟩
/-- from the root down to u, step by step -/
inductive Way : T → T → List Str → Prop
  | here (t : T) : Way t t [t.key]
  | down {t c u : T} {ps : List Str} : c ∈ t.kids → Way c u ps → Way t u (t.key :: ps)
theorem way_of : ∀ (t u : T), u ∈ t.pre → ∃ ps, Way t u ps := by
  refine indT fun t ih u hu => ?_
  rcases pre_cases hu with rfl | ⟨c, hc, h⟩
  · exact ⟨_, .here _⟩
  · obtain ⟨ps, w⟩ := ih c hc u h
    exact ⟨_, .down hc w⟩
theorem Way.head {t u : T} {ps : List Str} (w : Way t u ps) : ∃ r, ps = t.key :: r := by
  cases w with
  | here => exact ⟨[], rfl⟩
  | down _ _ => exact ⟨_, rfl⟩
theorem Way.last {t u : T} {ps : List Str} (w : Way t u ps) : ∃ r, ps = r ++ [u.key] := by
  induction w with
  | here t => exact ⟨[], rfl⟩
  | down hc _ ih =>
    obtain ⟨r, e⟩ := ih
    exact ⟨_ :: r, by rw [e]; rfl⟩
theorem Way.mem {t u : T} {ps : List Str} (w : Way t u ps) : u ∈ t.pre := by
  induction w with
  | here t => exact self_pre t
  | down hc _ ih => exact kid_pre hc ih
theorem edges_kid {t c : T} (hc : c ∈ t.kids) {e : Str × Str} (h : e ∈ c.edges) : e ∈ t.edges := by
  rw [edges_eq]
  exact List.mem_append_right _ (List.mem_flatMap.mpr ⟨c, hc, h⟩)
/-- each step is an edge -/
theorem Way.step {t u : T} {ps : List Str} (w : Way t u ps) : ∀ (i : Nat) (x y : Str), ps[i]? = some x → ps[i + 1]? = some y → (y, x) ∈ t.edges := by
  induction w with
  | here t =>
    intro i x y _ h
    simp at h
  | @down t c u ps hc w ih =>
    intro i x y hx hy
    cases i with
    | zero =>
      obtain ⟨r, e⟩ := w.head
      simp at hx
      rw [e] at hy
      simp at hy
      rw [← hx, ← hy, edges_eq]
      exact List.mem_append_left _ (List.mem_map.mpr ⟨c, hc, rfl⟩)
    | succ i =>
      exact edges_kid hc (ih i x y (by simpa using hx) (by simpa using hy))
theorem edges_fun {t : T} (h : t.keys.Nodup) {x y z : Str} (hy : (x, y) ∈ t.edges) (hz : (x, z) ∈ t.edges) : y = z := by
  have nd := (List.nodup_cons.mp (edges_nodup h)).2
  have : ∀ l : List (Str × Str), (l.map (·.1)).Nodup → (x, y) ∈ l → (x, z) ∈ l → y = z := by
    intro l
    induction l with
    | nil => intro _ h; cases h
    | cons p l ih =>
      intro nd h1 h2
      rw [List.map_cons, List.nodup_cons] at nd
      rcases List.mem_cons.mp h1 with e1 | e1
      · rcases List.mem_cons.mp h2 with e2 | e2
        · rw [← e1] at e2
          cases e2
          rfl
        · exact absurd (List.mem_map.mpr ⟨_, e2, by rw [← e1]⟩) nd.1
      · rcases List.mem_cons.mp h2 with e2 | e2
        · exact absurd (List.mem_map.mpr ⟨_, e1, by rw [← e2]⟩) nd.1
        · exact ih nd.2 e1 e2
  exact this _ nd hy hz
theorem root_no {t : T} (h : t.keys.Nodup) {y : Str} : (t.key, y) ∉ t.edges := fun hy =>
  (List.nodup_cons.mp (edges_nodup h)).1 (List.mem_map.mpr ⟨_, hy, rfl⟩)
/-- two elements of one key are one -/
theorem pre_inj {t : T} (h : t.keys.Nodup) {u v : T} (hu : u ∈ t.pre) (hv : v ∈ t.pre) (e : u.key = v.key) : u = v := by
  have : ∀ l : List T, (l.map key).Nodup → u ∈ l → v ∈ l → u = v := by
    intro l
    induction l with
    | nil => intro _ h; cases h
    | cons p l ih =>
      intro nd h1 h2
      rw [List.map_cons, List.nodup_cons] at nd
      rcases List.mem_cons.mp h1 with e1 | e1
      · rcases List.mem_cons.mp h2 with e2 | e2
        · rw [e1, e2]
        · exact absurd (List.mem_map.mpr ⟨_, e2, by rw [← e, e1]⟩) nd.1
      · rcases List.mem_cons.mp h2 with e2 | e2
        · exact absurd (List.mem_map.mpr ⟨_, e1, by rw [e, e2]⟩) nd.1
        · exact ih nd.2 e1 e2
  exact this _ h hu hv
theorem kid_size {t c : T} (h : c ∈ t.kids) : c.size < t.size := by
  have : ∀ cs : List T, c ∈ cs → c.size ≤ sizes cs := by
    intro cs
    induction cs with
    | nil => intro h; cases h
    | cons d ds ih2 =>
      intro h
      rw [sizes]
      rcases List.mem_cons.mp h with e | e
      · rw [e]
        omega
      · have := ih2 e
        omega
  have h1 := this t.kids h
  rw [size_eq t]
  omega
theorem pre_size : ∀ (t u : T), u ∈ t.pre → u.size ≤ t.size := by
  refine indT fun t ih u hu => ?_
  rcases pre_cases hu with rfl | ⟨c, hc, h⟩
  · exact Nat.le_refl _
  · have h1 := ih c hc u h
    have h2 := kid_size hc
    omega
theorem pre_kids {t u : T} (hu : u ∈ t.pre) : u.kids.length < t.size := by
  have h1 := pre_size t u hu
  have h2 := kids_le u
  rw [size_eq] at h1
  omega
theorem keys_len (t : T) : t.keys.length = t.size := by rw [keys, List.length_map, pre_len]
theorem edges_len (t : T) : t.edges.length + 1 = t.size := by
  have := (edges_perm t).length_eq
  rw [List.length_cons, List.length_map, keys_len] at this
  exact this
theorem Way.len {t u : T} {ps : List Str} (w : Way t u ps) : ps.length ≤ t.size := by
  induction w with
  | here t =>
    have := size_pos t
    simp
    omega
  | down hc _ ih =>
    have := kid_size hc
    rw [List.length_cons]
    omega
theorem way_inj {t : T} (h : t.keys.Nodup) {u : T} {ps qs : List Str} (a : Way t u ps) (b : Way t u qs) : ps = qs := by
  -- read from the end: each parent is the only one
  obtain ⟨r, e⟩ := a.last
  obtain ⟨r', e'⟩ := b.last
  have key : ∀ n (i j : Nat), i < ps.length → j < qs.length → i ≤ n → ps[i]? = qs[j]? → ps.take (i + 1) = qs.take (j + 1) := by
    intro n
    induction n with
    | zero =>
      intro i j hi hj hn he
      have e0 : i = 0 := by omega
      subst e0
      obtain ⟨rp, ep⟩ := a.head
      cases j with
      | zero =>
        obtain ⟨rq, eq⟩ := b.head
        rw [ep, eq]
        rfl
      | succ j =>
        have h1 : qs[j + 1]? = some t.key := by rw [← he, ep]; rfl
        have h2 : qs[j]? = some qs[j] := List.getElem?_eq_getElem (by omega)
        exact absurd (b.step j _ _ h2 h1) (root_no h)
    | succ n ih =>
      intro i j hi hj hn he
      cases i with
      | zero => exact ih 0 j hi hj (by omega) he
      | succ i =>
        have h1 : ps[i + 1]? = some ps[i + 1] := List.getElem?_eq_getElem hi
        have h2 : ps[i]? = some ps[i] := List.getElem?_eq_getElem (by omega)
        have s1 := a.step i _ _ h2 h1
        cases j with
        | zero =>
          obtain ⟨rq, eq⟩ := b.head
          have : ps[i + 1] = t.key := by
            rw [h1, eq] at he
            simpa using he
          rw [this] at s1
          exact absurd s1 (root_no h)
        | succ j =>
          have h3 : qs[j + 1]? = some ps[i + 1] := by rw [← he, h1]
          have h4 : qs[j]? = some qs[j] := List.getElem?_eq_getElem (by omega)
          have s2 := b.step j _ _ h4 h3
          have ee := edges_fun h s1 s2
          have := ih i j (by omega) (by omega) (by omega) (by rw [h2, h4, ee])
          rw [List.take_succ, this, h1, List.take_succ (l := qs) (i := j + 1), h3]
  have hl : ps.length = r.length + 1 := by rw [e]; simp
  have hl' : qs.length = r'.length + 1 := by rw [e']; simp
  have last : ps[r.length]? = qs[r'.length]? := by
    rw [e, e']
    simp
  have := key r.length r.length r'.length (by omega) (by omega) (Nat.le_refl _) last
  rw [List.take_of_length_le (by omega), List.take_of_length_le (by omega)] at this
  exact this
/-- an element lies on the way to another one exactly if that one is inside it, or is it -/
theorem Way.mem_iff {t : T} (h : t.keys.Nodup) {u n : T} {ps : List Str} (w : Way t u ps) (hn : n ∈ t.pre) : n.key ∈ ps ↔ u ∈ n.pre := by
  induction w with
  | here t =>
    constructor
    · intro hk
      have e : n.key = t.key := by simpa using hk
      rw [pre_inj h hn (self_pre t) e]
      exact self_pre t
    · intro hu
      have h1 := pre_size n t hu
      rcases pre_cases hn with rfl | ⟨c, hc, hcn⟩
      · simp
      · have h2 := pre_size c n hcn
        have h3 := kid_size hc
        omega
  | @down t c u ps hc w ih =>
    have hcd : c.keys.Nodup := by
      rw [keys_eq] at h
      have h2 := (List.nodup_cons.mp h).2
      have sub : ∀ cs : List T, c ∈ cs → (cs.flatMap keys).Nodup → c.keys.Nodup := by
        intro cs
        induction cs with
        | nil => intro h; cases h
        | cons d ds ih2 =>
          intro hm hnd
          rw [List.flatMap_cons, List.nodup_append] at hnd
          rcases List.mem_cons.mp hm with e | e
          · rw [e]
            exact hnd.1
          · exact ih2 e hnd.2.1
      exact sub t.kids hc h2
    rcases pre_cases hn with rfl | ⟨c', hc', hcn⟩
    · constructor
      · intro _
        exact kid_pre hc w.mem
      · intro _
        exact List.mem_cons_self ..
    · have nroot : n.key ≠ t.key := fun e => by
        have := pre_inj h hn (self_pre t) e
        have h2 := pre_size c' n hcn
        have h3 := kid_size hc'
        rw [this] at h2
        omega
      by_cases hnc : n ∈ c.pre
      · rw [← ih hcd hnc]
        constructor
        · intro hm
          rcases List.mem_cons.mp hm with e | e
          · exact absurd e nroot
          · exact e
        · intro hm
          exact List.mem_cons_of_mem _ hm
      · constructor
        · intro hm
          rcases List.mem_cons.mp hm with e | e
          · exact absurd e nroot
          · -- a key on the way inside c is an element of c
            have : ∀ {c u : T} {ps : List Str}, Way c u ps → ∀ x ∈ ps, ∃ m ∈ c.pre, m.key = x := by
              intro c u ps w
              induction w with
              | here t =>
                intro x hx
                exact ⟨t, self_pre t, (by simpa using hx : x = t.key).symm⟩
              | down hc _ ih =>
                intro x hx
                rcases List.mem_cons.mp hx with e | e
                · exact ⟨_, self_pre _, e.symm⟩
                · obtain ⟨m, hm, em⟩ := ih x e
                  exact ⟨m, kid_pre hc hm, em⟩
            obtain ⟨m, hm, em⟩ := this w _ e
            exact absurd (pre_inj h (kid_pre hc hm) hn em ▸ hm) hnc
        · intro hu
          -- u is inside n and inside c: n is inside c
          exfalso
          obtain ⟨qs, wq⟩ := way_of n u hu
          have wu := w.mem
          -- ways from t to u by c' and by c
          obtain ⟨p1, w1⟩ := way_of c' n hcn
          have comp : ∀ {a b d : T} {xs ys : List Str}, Way a b xs → Way b d ys → ∃ zs, Way a d (xs.dropLast ++ zs) ∧ zs = ys := by
            intro a b d xs ys wa wb
            induction wa with
            | here t => exact ⟨ys, wb, rfl⟩
            | @down t c u ps hc w ih =>
              obtain ⟨zs, wz, ez⟩ := ih wb
              obtain ⟨r, er⟩ := w.head
              refine ⟨zs, ?_, ez⟩
              have : (t.key :: ps).dropLast = t.key :: ps.dropLast := by rw [er]; rfl
              rw [this]
              exact .down hc wz
          obtain ⟨zs, wz, rfl⟩ := comp w1 wq
          have two := way_inj h (Way.down hc' wz) (Way.down hc w)
          injection two with _ two
          -- n's key stands on the way inside c
          obtain ⟨rq, erq⟩ := wq.head
          have hmem : n.key ∈ ps := by
            rw [← two, erq]
            simp
          have : ∀ {c u : T} {ps : List Str}, Way c u ps → ∀ x ∈ ps, ∃ m ∈ c.pre, m.key = x := by
            intro c u ps w
            induction w with
            | here t =>
              intro x hx
              exact ⟨t, self_pre t, (by simpa using hx : x = t.key).symm⟩
            | down hc _ ih =>
              intro x hx
              rcases List.mem_cons.mp hx with e | e
              · exact ⟨_, self_pre _, e.symm⟩
              · obtain ⟨m, hm, em⟩ := ih x e
                exact ⟨m, kid_pre hc hm, em⟩
          obtain ⟨m, hm, em⟩ := this w _ hmem
          exact hnc (pre_inj h (kid_pre hc hm) hn em ▸ hm)
end T
end Kg
/-! GN: a leaf put into a tree; heights; levels. -/
namespace Kg
open PySem
namespace T
/-- each element's key with the keys of its children -/
def desc (t : T) : List (Str × List Str) := t.pre.map fun n => (n.key, n.kids.map key)
theorem desc_eq (t : T) : t.desc = (t.key, t.kids.map key) :: t.kids.flatMap desc := by
  rw [desc, pre_eq, List.map_cons, pres_flat, List.map_flatMap]
  rfl
theorem desc_keys (t : T) : t.desc.map (·.1) = t.keys := by
  rw [desc, List.map_map]
  rfl
def edgesOf (l : List (Str × List Str)) : List (Str × Str) := l.flatMap fun e => e.2.map fun c => (c, e.1)
theorem edges_desc (t : T) : t.edges = edgesOf t.desc := by
  rw [edges, edgesOf, desc, List.flatMap_map]
  congr 1
  funext n
  rw [List.map_map]
  rfl
mutual
def ins (home : Str) (i : Nat) (x : Str) : T → T
  | node k cs => if k = home then node k (cs.take i ++ [node x []] ++ cs.drop i) else node k (inss home i x cs)
def inss (home : Str) (i : Nat) (x : Str) : List T → List T
  | [] => []
  | c :: cs => ins home i x c :: inss home i x cs
end
theorem inss_map (home : Str) (i : Nat) (x : Str) : ∀ cs : List T, inss home i x cs = cs.map (ins home i x)
  | [] => rfl
  | c :: cs => by rw [inss, List.map_cons, inss_map home i x cs]
theorem ins_eq (home : Str) (i : Nat) (x : Str) (t : T) : t.ins home i x =
    if t.key = home then node t.key (t.kids.take i ++ [node x []] ++ t.kids.drop i) else node t.key (t.kids.map (ins home i x)) := by
  cases t with
  | node k cs => rw [ins, inss_map]; rfl
theorem ins_key (home : Str) (i : Nat) (x : Str) (t : T) : (t.ins home i x).key = t.key := by
  rw [ins_eq]
  split <;> rfl
theorem ins_none (home : Str) (i : Nat) (x : Str) : ∀ t : T, home ∉ t.keys → t.ins home i x = t := by
  refine indT fun t ih h => ?_
  rw [keys_eq] at h
  have h1 : t.key ≠ home := fun z => h (by rw [z]; exact List.mem_cons_self ..)
  rw [ins_eq, if_neg h1]
  have : t.kids.map (ins home i x) = t.kids := by
    have : ∀ cs : List T, (∀ c ∈ cs, ins home i x c = c) → cs.map (ins home i x) = cs := by
      intro cs
      induction cs with
      | nil => intro _; rfl
      | cons c cs ih2 =>
        intro hc
        rw [List.map_cons, hc c (List.mem_cons_self ..), ih2 fun d hd => hc d (List.mem_cons_of_mem _ hd)]
    refine this t.kids fun c hc => ih c hc fun z => h (List.mem_cons_of_mem _ (List.mem_flatMap.mpr ⟨c, hc, z⟩))
  rw [this]
  cases t
  rfl
/-- the row of home with x put in -/
def putRow (home : Str) (i : Nat) (x : Str) (e : Str × List Str) : Str × List Str := if e.1 = home then (e.1, e.2.take i ++ [x] ++ e.2.drop i) else e
theorem putRow_no {home : Str} {i : Nat} {x : Str} : ∀ l : List (Str × List Str), home ∉ l.map (·.1) → l.map (putRow home i x) = l
  | [], _ => rfl
  | e :: l, h => by
    rw [List.map_cons, List.mem_cons, not_or] at h
    rw [List.map_cons, putRow_no l h.2]
    unfold putRow
    rw [if_neg (fun z => h.1 z.symm)]
theorem leaf_desc (x : Str) : desc (node x []) = [(x, [])] := by
  rw [desc_eq]
  rfl
theorem flat_desc_keys (cs : List T) : (cs.flatMap desc).map (·.1) = cs.flatMap keys := by
  rw [List.map_flatMap]
  congr 1
  funext c
  exact desc_keys c
theorem ins_desc (home : Str) (i : Nat) (x : Str) : ∀ t : T, t.keys.Nodup → home ∈ t.keys →
    ((t.ins home i x).desc).Perm (t.desc.map (putRow home i x) ++ [(x, [])]) := by
  refine indT fun t ih nd hm => ?_
  rw [keys_eq] at nd hm
  have nd' := List.nodup_cons.mp nd
  by_cases hk : t.key = home
  · have e : t.ins home i x = node t.key (t.kids.take i ++ [node x []] ++ t.kids.drop i) := by rw [ins_eq, if_pos hk]
    rw [e, desc_eq, desc_eq t, List.map_cons, putRow_no]
    · have e2 : putRow home i x (t.key, t.kids.map key) = (t.key, (t.kids.take i ++ [node x []] ++ t.kids.drop i).map key) := by
        unfold putRow
        rw [if_pos hk, List.map_append, List.map_append, List.map_take, List.map_drop]
        rfl
      rw [e2]
      refine List.Perm.cons _ ?_
      show ((t.kids.take i ++ [node x []] ++ t.kids.drop i).flatMap desc).Perm _
      rw [List.flatMap_append, List.flatMap_append, List.flatMap_cons, leaf_desc, List.flatMap_nil, List.append_nil]
      have e3 : t.kids.flatMap desc = (t.kids.take i).flatMap desc ++ (t.kids.drop i).flatMap desc := by
        rw [← List.flatMap_append, List.take_append_drop]
      rw [e3, List.append_assoc]
      show List.Perm _ (((t.kids.take i).flatMap desc ++ (t.kids.drop i).flatMap desc) ++ [(x, [])])
      rw [List.append_assoc]
      exact List.perm_append_comm.append_left _
    · rw [flat_desc_keys, ← hk]
      exact nd'.1
  · have hm' : home ∈ t.kids.flatMap keys := by
      rcases List.mem_cons.mp hm with z | z
      · exact absurd z.symm hk
      · exact z
    have e : t.ins home i x = node t.key (t.kids.map (ins home i x)) := by rw [ins_eq, if_neg hk]
    have e2 : putRow home i x (t.key, t.kids.map key) = (t.key, (t.kids.map (ins home i x)).map key) := by
      unfold putRow
      rw [if_neg hk, List.map_map]
      congr 1
      apply List.map_congr_left
      intro c _
      exact (ins_key home i x c).symm
    rw [e, desc_eq, desc_eq t, List.map_cons, e2]
    refine List.Perm.cons _ ?_
    show ((t.kids.map (ins home i x)).flatMap desc).Perm _
    have go : ∀ cs : List T, (∀ c ∈ cs, c.keys.Nodup → home ∈ c.keys → ((c.ins home i x).desc).Perm (c.desc.map (putRow home i x) ++ [(x, [])])) →
        (cs.flatMap keys).Nodup → home ∈ cs.flatMap keys → ((cs.map (ins home i x)).flatMap desc).Perm ((cs.flatMap desc).map (putRow home i x) ++ [(x, [])]) := by
      intro cs
      induction cs with
      | nil => intro _ _ h; cases h
      | cons c cs ih2 =>
        intro hc hn hh
        rw [List.flatMap_cons] at hn hh
        obtain ⟨n1, n2, n3⟩ := List.nodup_append.mp hn
        rw [List.map_cons, List.flatMap_cons, List.flatMap_cons, List.map_append]
        by_cases hin : home ∈ c.keys
        · have no : home ∉ cs.flatMap keys := fun z => n3 _ hin _ z rfl
          have same : cs.map (ins home i x) = cs := by
            have : ∀ ds : List T, home ∉ ds.flatMap keys → ds.map (ins home i x) = ds := by
              intro ds
              induction ds with
              | nil => intro _; rfl
              | cons d ds ih3 =>
                intro hz
                rw [List.flatMap_cons, List.mem_append, not_or] at hz
                rw [List.map_cons, ins_none home i x d hz.1, ih3 hz.2]
            exact this cs no
          rw [same, putRow_no (cs.flatMap desc) (by rw [flat_desc_keys]; exact no)]
          refine ((hc c (List.mem_cons_self ..) n1 hin).append_right _).trans ?_
          rw [List.append_assoc, List.append_assoc]
          exact List.perm_append_comm.append_left _
        · have hh' : home ∈ cs.flatMap keys := by
            rcases List.mem_append.mp hh with z | z
            · exact absurd z hin
            · exact z
          rw [ins_none home i x c hin, putRow_no c.desc (by rw [desc_keys]; exact hin), List.append_assoc]
          exact (ih2 (fun d hd => hc d (List.mem_cons_of_mem _ hd)) n2 hh').append_left _
    exact go t.kids (fun c hc => ih c hc) nd'.2 hm'
theorem ins_keys {home : Str} {i : Nat} {x : Str} {t : T} (nd : t.keys.Nodup) (hm : home ∈ t.keys) : (t.ins home i x).keys.Perm (t.keys ++ [x]) := by
  have h := (ins_desc home i x t nd hm).map (·.1)
  rw [desc_keys, List.map_append, List.map_map] at h
  have e : (fun e : Str × List Str => e.1) ∘ putRow home i x = (·.1) := by
    funext e
    show (putRow home i x e).1 = e.1
    unfold putRow
    split <;> rfl
  rw [e, desc_keys] at h
  exact h
/-- at most so many are nested in one another -/
def Ht : Nat → T → Prop
  | 0, _ => False
  | n + 1, t => ∀ c ∈ t.kids, Ht n c
theorem Ht.more : ∀ {n : Nat} {t : T}, Ht n t → ∀ {m : Nat}, n ≤ m → Ht m t
  | 0, _, h, _, _ => h.elim
  | n + 1, t, h, 0, l => by omega
  | n + 1, t, h, m + 1, l => fun c hc => Ht.more (h c hc) (by omega)
theorem Ht.size_pos {n : Nat} {t : T} (h : Ht n t) : 0 < n := by
  cases n with
  | zero => exact h.elim
  | succ n => omega
theorem Ht.sub : ∀ {n : Nat} {t u : T}, Ht n t → u ∈ t.pre → Ht n u := by
  intro n
  induction n with
  | zero => intro t u h _; exact h.elim
  | succ n ih =>
    intro t u h hu
    rcases pre_cases hu with rfl | ⟨c, hc, huc⟩
    · exact h
    · exact (ih (h c hc) huc).more (Nat.le_succ n)
/-- levels that fit the tree -/
def Lv (lv : Str → Nat) (t : T) : Prop := ∀ e ∈ t.desc, ∀ c ∈ e.2, lv c = lv e.1 + 1
theorem Lv.kid {lv : Str → Nat} {t c : T} (h : Lv lv t) (hc : c ∈ t.kids) : Lv lv c ∧ lv c.key = lv t.key + 1 := by
  unfold Lv at h
  rw [desc_eq] at h
  exact ⟨fun e he => h e (List.mem_cons_of_mem _ (List.mem_flatMap.mpr ⟨c, hc, he⟩)), h _ (List.mem_cons_self ..) c.key (List.mem_map.mpr ⟨c, hc, rfl⟩)⟩
theorem Lv.ht {lv : Str → Nat} {deep : Nat} : ∀ (d : Nat) (t : T), Lv lv t → (∀ k ∈ t.keys, lv k ≤ deep) → deep < lv t.key + d → Ht d t := by
  intro d
  induction d with
  | zero =>
    intro t _ hk h
    have := hk t.key (mem_pre_keys (self_pre t))
    omega
  | succ d ih =>
    intro t hl hk h c hc
    obtain ⟨h1, h2⟩ := hl.kid hc
    refine ih c h1 (fun k hk' => hk k ?_) (by omega)
    rw [keys_eq]
    exact List.mem_cons_of_mem _ (List.mem_flatMap.mpr ⟨c, hc, hk'⟩)
theorem perm_flatMap {α β : Type} (f : α → List β) {l l' : List α} (h : l.Perm l') : (l.flatMap f).Perm (l'.flatMap f) := by
  induction h with
  | nil => exact .refl _
  | cons x _ ih =>
    rw [List.flatMap_cons, List.flatMap_cons]
    exact ih.append_left _
  | swap x y l =>
    rw [List.flatMap_cons, List.flatMap_cons, List.flatMap_cons, List.flatMap_cons, ← List.append_assoc, ← List.append_assoc]
    exact (List.perm_append_comm).append_right _
  | trans _ _ a b => exact a.trans b
theorem pre_trans {m : T} : ∀ (t n : T), n ∈ t.pre → m ∈ n.pre → m ∈ t.pre := by
  refine indT fun t ih n hn hm => ?_
  rcases pre_cases hn with rfl | ⟨c, hc, hnc⟩
  · exact hm
  · exact kid_pre hc (ih c hc n hnc hm)
theorem Way.keys {c u : T} {ps : List Str} (w : Way c u ps) : ∀ x ∈ ps, x ∈ c.keys := by
  induction w with
  | here t =>
    intro x hx
    rw [List.mem_singleton.mp hx]
    exact mem_pre_keys (self_pre t)
  | down hc _ ih =>
    intro x hx
    rw [keys_eq]
    rcases List.mem_cons.mp hx with e | e
    · rw [e]
      exact List.mem_cons_self ..
    · exact List.mem_cons_of_mem _ (List.mem_flatMap.mpr ⟨_, hc, ih x e⟩)
theorem kid_nodup {t c : T} (h : t.keys.Nodup) (hc : c ∈ t.kids) : c.keys.Nodup := by
  rw [keys_eq] at h
  have h2 := (List.nodup_cons.mp h).2
  have sub : ∀ cs : List T, c ∈ cs → (cs.flatMap keys).Nodup → c.keys.Nodup := by
    intro cs
    induction cs with
    | nil => intro h; cases h
    | cons d ds ih2 =>
      intro hm hnd
      rw [List.flatMap_cons, List.nodup_append] at hnd
      rcases List.mem_cons.mp hm with e | e
      · rw [e]
        exact hnd.1
      · exact ih2 e hnd.2.1
  exact sub t.kids hc h2
theorem Way.nodup {t u : T} {ps : List Str} (w : Way t u ps) : t.keys.Nodup → ps.Nodup := by
  induction w with
  | here t => intro _; simp
  | @down t c u ps hc w ih =>
    intro h
    refine List.nodup_cons.mpr ⟨fun z => ?_, ih (kid_nodup h hc)⟩
    rw [keys_eq] at h
    exact (List.nodup_cons.mp h).1 (List.mem_flatMap.mpr ⟨c, hc, w.keys _ z⟩)
theorem Way.inside {t u n : T} {ps : List Str} (w : Way t u ps) (h : t.keys.Nodup) (hu : u ∈ t.pre) (hn : n ∈ t.pre) :
    decide (n.key ∈ ps.dropLast) = (!decide (u.key = n.key) && decide (u.key ∈ n.keys)) := by
  obtain ⟨r, e⟩ := w.last
  have nd := w.nodup h
  have m := w.mem_iff h hn
  have k : u ∈ n.pre ↔ u.key ∈ n.keys := by
    constructor
    · exact mem_pre_keys
    · intro z
      obtain ⟨x, hx, ex⟩ := List.mem_map.mp z
      rw [← pre_inj h (pre_trans t n hn hx) hu ex]
      exact hx
  rw [e, List.dropLast_concat]
  rw [e, List.nodup_append] at nd
  rw [e, List.mem_append, List.mem_singleton, k] at m
  by_cases h1 : u.key = n.key
  · have no : ¬ n.key ∈ r := fun z => nd.2.2 _ z _ (List.mem_singleton.mpr rfl) h1.symm
    rw [decide_eq_false no, decide_eq_true h1]
    rfl
  · have h1' : ¬ n.key = u.key := fun z => h1 z.symm
    rw [decide_eq_false h1, Bool.not_false, Bool.true_and]
    apply decide_eq_decide.mpr
    constructor
    · intro z
      exact m.mp (Or.inl z)
    · intro z
      rcases m.mpr z with y | y
      · exact y
      · exact absurd y h1'
end T
end Kg
/-! GW: how long the text of data is at most. -/
namespace Kg
open PySem PySem.Spec PyProof.Rows L2
mutual
def wt : PyData → Nat
  | .list xs => wts xs + 3
  | .tuple xs => wts xs + 3
  | .none => 4
  | .bool _ => 5
  | .int i => (PyData.shown (.int i)).length
  | .str x => (PyData.shown (.str x)).length
  | .dict kvs => (PyData.shown (.dict kvs)).length
def wts : List PyData → Nat
  | [] => 0
  | x :: xs => wt x + 2 + wts xs
end
theorem textFrom_le : ∀ (ts : List Str) (k : Nat) (acc : Str), (textFrom k acc ts).length ≤ acc.length + (ts.map fun t => t.length + 2).sum
  | [], k, acc => by
    show acc.length ≤ acc.length + 0
    omega
  | t :: r, k, acc => by
    have ih := textFrom_le r (k + 1) (acc ++ (if k > 0 then ", " else "" : String) ++ t)
    have e : (acc ++ (if k > 0 then ", " else "" : String) ++ t).length = acc.length + (if k > 0 then 2 else 0) + t.length := by
      rw [strLen_append, strLen_append]
      congr 2
      split <;> rfl
    rw [List.map_cons, List.sum_cons]
    have : (textFrom k acc (t :: r)).length = (textFrom (k + 1) (acc ++ (if k > 0 then ", " else "" : String) ++ t) r).length := rfl
    rw [this]
    rw [e] at ih
    have two : (if k > 0 then 2 else 0 : Nat) ≤ 2 := by
      by_cases hk : k > 0
      · rw [if_pos hk]
        exact Nat.le_refl _
      · rw [if_neg hk]
        exact Nat.zero_le _
    omega
theorem join_le : ∀ ts : List Str, (Str.join ", " ts).length ≤ (ts.map fun t => t.length + 2).sum
  | [] => by decide
  | [x] => by
    show x.length ≤ _
    simp
  | x :: y :: r => by
    have ih := join_le (y :: r)
    have e : (Str.join ", " (x :: y :: r)).length = x.length + 2 + (Str.join ", " (y :: r)).length := by
      show (x ++ ", " ++ Str.join ", " (y :: r)).length = _
      rw [strLen_append, strLen_append]
      rfl
    rw [e, List.map_cons, List.sum_cons]
    omega
mutual
theorem shown_le : ∀ d : PyData, d.shown.length ≤ wt d
  | .list xs => by
    rw [PyData.shown, wt, listText, strLen_append]
    have h1 := textFrom_le (PyData.shownAll xs) 0 "["
    have h2 := shownAll_le xs
    have e1 : ((("[" : String) : Str)).length = 1 := rfl
    have e2 : ((("]" : String) : Str)).length = 1 := rfl
    rw [e1] at h1
    omega
  | .tuple xs => by
    rw [PyData.shown, wt, tupleText, strLen_append, strLen_append]
    have h1 := join_le (PyData.shownAll xs)
    have h2 := shownAll_le xs
    have e1 : ((("(" : String) : Str)).length = 1 := rfl
    have e2 : (((if (PyData.shownAll xs).length == 1 then ",)" else ")" : String) : Str)).length ≤ 2 := by
      split <;> decide
    rw [e1]
    omega
  | .none => by rw [PyData.shown, wt]; decide
  | .bool b => by rw [PyData.shown, wt]; cases b <;> decide
  | .int i => by rw [wt]; exact Nat.le_refl _
  | .str x => by rw [wt]; exact Nat.le_refl _
  | .dict kvs => by rw [wt]; exact Nat.le_refl _
theorem shownAll_le : ∀ xs : List PyData, ((PyData.shownAll xs).map fun t => t.length + 2).sum ≤ wts xs
  | [] => by rw [PyData.shownAll, wts]; exact Nat.le_refl _
  | x :: xs => by
    rw [PyData.shownAll, wts, List.map_cons, List.sum_cons]
    have h1 := shown_le x
    have h2 := shownAll_le xs
    omega
end
/-- data whose text is short -/
structure Tx (w dp : Nat) (d : PyData) : Prop where
  s : d.showable = true
  n : d.hasDict = false
  w : wt d ≤ w
  p : d.depth ≤ dp
structure Txs (w dp : Nat) (ds : List PyData) : Prop where
  s : PyData.showableAll ds = true
  n : PyData.hasDictAll ds = false
  w : wts ds ≤ w
  p : PyData.depthAll ds ≤ dp
theorem Txs.nil : Txs 0 0 [] := ⟨rfl, rfl, Nat.le_refl _, Nat.le_refl _⟩
theorem Tx.cons {w w' dp : Nat} {d : PyData} {ds : List PyData} (a : Tx w dp d) (b : Txs w' dp ds) : Txs (w + 2 + w') dp (d :: ds) := by
  refine ⟨?_, ?_, ?_, ?_⟩
  · rw [PyData.showableAll, a.s, b.s]
    rfl
  · rw [PyData.hasDictAll, a.n, b.n]
    rfl
  · rw [wts]
    have := a.w
    have := b.w
    omega
  · rw [PyData.depthAll]
    have := a.p
    have := b.p
    omega
theorem Tx.more {w w' dp dp' : Nat} {d : PyData} (a : Tx w dp d) (h : w ≤ w') (h' : dp ≤ dp') : Tx w' dp' d := ⟨a.s, a.n, Nat.le_trans a.w h, Nat.le_trans a.p h'⟩
theorem Txs.more {w w' dp dp' : Nat} {d : List PyData} (a : Txs w dp d) (h : w ≤ w') (h' : dp ≤ dp') : Txs w' dp' d := ⟨a.s, a.n, Nat.le_trans a.w h, Nat.le_trans a.p h'⟩
theorem Txs.tup {w dp : Nat} {ds : List PyData} (a : Txs w dp ds) : Tx (w + 3) (dp + 1) (.tuple ds) := ⟨by rw [PyData.showable]; exact a.s, by rw [PyData.hasDict]; exact a.n, by rw [wt]; have := a.w; omega, by rw [PyData.depth]; have := a.p; omega⟩
theorem Txs.lst {w dp : Nat} {ds : List PyData} (a : Txs w dp ds) : Tx (w + 3) (dp + 1) (.list ds) := ⟨by rw [PyData.showable]; exact a.s, by rw [PyData.hasDict]; exact a.n, by rw [wt]; have := a.w; omega, by rw [PyData.depth]; have := a.p; omega⟩
theorem Tx.show {w dp : Nat} {d : PyData} (a : Tx w dp d) (h : w ≤ 16000000) (h' : dp ≤ 100) : showOk d :=
  ⟨a.s, a.n, Nat.le_trans (Nat.le_trans (shown_le d) (Nat.le_trans a.w h)) (by decide), Nat.le_trans a.p h'⟩
theorem Tx.non : Tx 4 0 .none := ⟨rfl, rfl, Nat.le_refl _, Nat.le_refl _⟩
theorem Tx.bl (b : Bool) : Tx 5 0 (.bool b) := ⟨rfl, rfl, Nat.le_refl _, Nat.le_refl _⟩
/-- a key of at most eight signs -/
def KeyOk (k : Str) : Prop := k.length ≤ 8 ∧ ∀ c ∈ k.cps.toList, c < 16 ^ 8
theorem Tx.key {k : Str} (h : KeyOk k) : Tx 82 0 (.str k) := ⟨rfl, rfl, by
  rw [wt, PyData.shown]
  have := PySem.StrLaws.reprText_len k h.2
  have := h.1
  omega, Nat.le_refl _⟩
theorem Txs.keys : ∀ ks : List Str, (∀ k ∈ ks, KeyOk k) → Txs (84 * ks.length) 0 (ks.map .str)
  | [], _ => Txs.nil
  | k :: ks, h => ((Tx.key (h k (List.mem_cons_self ..))).cons (Txs.keys ks fun x hx => h x (List.mem_cons_of_mem _ hx))).more (by rw [List.length_cons]; omega) (Nat.le_refl _)
theorem Tx.tree : ∀ (D : Nat) (t : T), (∀ k ∈ t.keys, KeyOk k) → T.Ht D t → Tx (100 * t.size - 2) (2 * D) t.d := by
  intro D
  induction D with
  | zero => intro t _ h; exact h.elim
  | succ D ih =>
    intro t hk hh
    have kids : ∀ cs : List T, (∀ c ∈ cs, (∀ k ∈ c.keys, KeyOk k) ∧ T.Ht D c) → Txs (100 * T.sizes cs) (2 * D) (cs.map T.d) := by
      intro cs
      induction cs with
      | nil => intro _; exact Txs.nil.more (Nat.zero_le _) (Nat.zero_le _)
      | cons c cs ih2 =>
        intro h
        have h1 := ih c (h c (List.mem_cons_self ..)).1 (h c (List.mem_cons_self ..)).2
        have h2 := ih2 fun d hd => h d (List.mem_cons_of_mem _ hd)
        have h3 := T.size_pos c
        exact (h1.cons h2).more (by rw [T.sizes]; omega) (Nat.le_refl _)
    have hkids := kids t.kids fun c hc => ⟨fun k hk' => hk k (by
      rw [T.keys_eq]
      exact List.mem_cons_of_mem _ (List.mem_flatMap.mpr ⟨c, hc, hk'⟩)), hh c hc⟩
    rw [T.d_eq, T.size_eq]
    have hroot : Tx 82 0 (.str t.key) := Tx.key (hk t.key (by rw [T.keys_eq]; exact List.mem_cons_self ..))
    exact ((hroot.more (Nat.le_refl _) (Nat.zero_le (2 * D + 1))).cons ((hkids.tup.cons (Txs.nil.more (Nat.le_refl _) (Nat.zero_le _))))).tup.more (by omega) (by omega)
end Kg
/-! GX: words of the laws of the first family: draws, keys, trees as lists. -/
namespace Kg
open PySem PySem.Spec PyProof.Rows L2
/-- a dict's pairs: the key of each element and its parent's -/
def parD (t : T) (es : List (Str × Str)) : List (L2.Key × V) := (Sum.inr t.key, V.non) :: es.map fun e => (Sum.inr e.1, V.str e.2)
theorem parD_snoc (t : T) (es : List (Str × Str)) (e : Str × Str) : parD t (es ++ [e]) = parD t es ++ [(Sum.inr e.1, V.str e.2)] := by
  unfold parD
  rw [List.map_append]
  rfl
theorem valV_map_str (x : Str) : ∀ es : List (Str × Str), (∀ y, (x, y) ∉ es) → valV (es.map fun e => ((Sum.inr e.1 : L2.Key), V.str e.2)) (Sum.inr x) = none
  | [], _ => rfl
  | (a, b) :: es, h => by
    have ne : ¬ (Sum.inr a : L2.Key) = Sum.inr x := fun z => h b (by
      injection z with z
      rw [← z]
      exact List.mem_cons_self ..)
    rw [List.map_cons, valV_neg ne]
    exact valV_map_str x es fun y hy => h y (List.mem_cons_of_mem _ hy)
theorem valV_map_in (x y : Str) : ∀ es : List (Str × Str), (es.map (·.1)).Nodup → (x, y) ∈ es → valV (es.map fun e => ((Sum.inr e.1 : L2.Key), V.str e.2)) (Sum.inr x) = some (.str y)
  | [], _, h => by cases h
  | (a, b) :: es, nd, h => by
    rw [List.map_cons, List.nodup_cons] at nd
    rw [List.map_cons]
    rcases List.mem_cons.mp h with e | e
    · cases e
      exact valV_pos rfl
    · have ne : ¬ (Sum.inr a : L2.Key) = Sum.inr x := fun z => by
        injection z with z
        exact nd.1 (List.mem_map.mpr ⟨_, e, z.symm⟩)
      rw [valV_neg ne]
      exact valV_map_in x y es nd.2 e
theorem parD_root (t : T) (es : List (Str × Str)) : valV (parD t es) (Sum.inr t.key) = some .non := valV_pos rfl
theorem parD_edge {t : T} (h : t.keys.Nodup) {x y : Str} (e : (x, y) ∈ t.edges) : valV (parD t t.edges) (Sum.inr x) = some (.str y) := by
  have nd := List.nodup_cons.mp (T.edges_nodup h)
  have ne : ¬ (Sum.inr t.key : L2.Key) = Sum.inr x := fun z => by
    injection z with z
    rw [← z] at e
    exact T.root_no h e
  unfold parD
  rw [valV_neg ne]
  exact valV_map_in x y _ nd.2 e
end Kg
namespace Kg
open PySem PySem.Spec PyProof.Rows L2
theorem inV_strs (x : Str) (ks : List Str) : inV (.str x) (ks.map V.str) = decide (x ∈ ks) := by
  unfold inV
  rw [List.any_map]
  by_cases h : x ∈ ks
  · rw [decide_eq_true h, List.any_eq_true]
    exact ⟨x, h, by show (x == x) = true; simp⟩
  · rw [decide_eq_false h, List.any_eq_false]
    intro y hy e
    have : (y == x) = true := e
    rw [beq_iff_eq] at this
    exact h (this ▸ hy)
theorem flat_strs (ks : List Str) : (ks.map V.str).all flatV = true := by
  rw [List.all_map, List.all_eq_true]
  intro _ _
  rfl
theorem cut_last (xs : List V) : cutV xs none (some (-1)) = xs.dropLast := by
  unfold cutV
  rw [HT.sIx_none, List.drop_zero, Nat.sub_zero, List.dropLast_eq_take]
  congr 1
  show (if (-1 : Int) < 0 then ((-1 : Int) + (xs.length : Int)).toNat else min (-1 : Int).toNat xs.length) = _
  rw [if_pos (by decide)]
  omega
theorem sIx_last (n : Nat) : HT.sIx n n (some (-1)) = n - 1 := by
  show (if (-1 : Int) < 0 then ((-1 : Int) + (n : Int)).toNat else min (-1 : Int).toNat n) = _
  rw [if_pos (by decide)]
  omega
/-- the last but one of a way, None for the root -/
def parentD (ps : List Str) : PyData := if ps.length > 1 then .str (ps.getD (ps.length - 2) "") else .none
end Kg
namespace Kg
open PySem PySem.Spec PyProof.Rows L2
/-- the hand of draws at h: at least b draws are left -/
def Hd (H : Hp) (h : Addr) (b : Nat) : Prop := ∃ g x t : Int, H h = some (.lst [.int g, .int x, .int t]) ∧ 0 ≤ g ∧ 0 ≤ x ∧ x < 2305843009213693952 ∧ 0 ≤ t ∧ t + b ≤ 1000000
theorem Hd.less {H : Hp} {h : Addr} {b c : Nat} (a : Hd H h b) (l : c ≤ b) : Hd H h c := by
  obtain ⟨g, x, t, e, h1, h2, h3, h4, h5⟩ := a
  exact ⟨g, x, t, e, h1, h2, h3, h4, by omega⟩
theorem Hd.at_ {H : Hp} {h : Addr} {b : Nat} (a : Hd H h b) : ∃ xs, H h = some (.lst xs) := by
  obtain ⟨g, x, t, e, _⟩ := a
  exact ⟨_, e⟩
theorem Hd.same {H H' : Hp} {h : Addr} {b : Nat} (a : Hd H h b) (e : H' h = H h) : Hd H' h b := by
  obtain ⟨g, x, t, e1, r⟩ := a
  exact ⟨g, x, t, by rw [e, e1], r⟩
/-- all but the place h is as it was -/
def But (h : Addr) (H H' : Hp) : Prop := ∀ b o, b ≠ h → H b = some o → H' b = some o
theorem But.refl (h : Addr) (H : Hp) : But h H H := fun _ _ _ e => e
theorem But.trans {h : Addr} {H H1 H2 : Hp} (a : But h H H1) (b : But h H1 H2) : But h H H2 := fun c o n e => b c o n (a c o n e)
theorem But.upd {h : Addr} {H : Hp} (o : HO) : But h H (upd H h o) := fun b x n e => by
  rw [upd_ne n]
  exact e
theorem But.new {h p : Addr} {H H' : Hp} {o : HO} (a : But h H H') (n : H' p = none) : But h H (L2.upd H' p o) := fun b x m e => by
  have := a b x m e
  rw [upd_ne (ne_of_none this n)]
  exact this
theorem But.grow {h : Addr} {G H H' : Hp} (a : But h H H') (i : Same G H) (g : G h = none) : Grow [h] G H G H' :=
  ⟨i, fun b o n e => a b o (by simpa using n) e, fun _ _ e => e, fun b o e => a b o (fun z => by rw [z, g] at e; cases e) (i b o e), fun _ e _ => e⟩
theorem Grow.but {h : Addr} {G H G' H' : Hp} (a : Grow [h] G H G' H') : But h H H' := fun b o n e => a.h b o (by simpa using n) e
theorem But.seq {K : PySem.W.Frag} {h : Addr} {H H' : Hp} {a : Addr} {xs : List V} (e : But h H H') (n : a ≠ h) (s : SqL K H a xs) : SqL K H' a xs := by
  rcases s with (s | ⟨o, s⟩) | s
  · exact .inl (.inl (e _ _ n s))
  · exact .inl (.inr ⟨o, e _ _ n s⟩)
  · exact .inr s
end Kg
namespace Kg
open PySem PySem.Spec PyProof.Rows L2
/-! ### drawn keys -/
def tailOf (n : Nat) : List Nat := if 25 < n then [97 + (n / 26 - 1)] else []
def nameL (stem : List Nat) (first leap n : Nat) : List Nat := stem ++ [97 + (first + leap * n) % 26] ++ tailOf n
def nameOf (stem : List Nat) (first leap n : Nat) : Str := ⟨(nameL stem first leap n).toArray⟩
theorem str_inj {a b : List Nat} (h : (⟨a.toArray⟩ : Str) = ⟨b.toArray⟩) : a = b := by
  have : a.toArray = b.toArray := congrArg Str.cps h
  exact congrArg Array.toList this
theorem rep_one (c : Nat) : ∀ m, (List.replicate m [c]).flatten = List.replicate m c
  | 0 => rfl
  | m + 1 => by
    rw [List.replicate_succ, List.flatten_cons, rep_one c m, List.replicate_succ]
    rfl
theorem abc_mem : ∀ c ∈ (Str.ofString "abcdefghijklmnopqrstuvwxyz").cps.toList, 97 ≤ c ∧ c < 123 := by decide +kernel
theorem nameOf_inj {stem : List Nat} {first leap i j : Nat} (hl : leap = 1 ∨ leap = 3 ∨ leap = 5 ∨ leap = 7 ∨ leap = 9 ∨ leap = 11)
    (h : nameOf stem first leap i = nameOf stem first leap j) : i = j := by
  have h1 := str_inj h
  unfold nameL at h1
  rw [List.append_assoc, List.append_assoc] at h1
  have h2 := List.append_cancel_left h1
  simp only [List.cons_append, List.nil_append, List.cons.injEq] at h2
  obtain ⟨h3, h4⟩ := h2
  have h5 : i / 26 = j / 26 := by
    unfold tailOf at h4
    by_cases a : 25 < i
    · by_cases b : 25 < j
      · rw [if_pos a, if_pos b] at h4
        simp only [List.cons.injEq, and_true] at h4
        omega
      · rw [if_pos a, if_neg b] at h4
        cases h4
    · by_cases b : 25 < j
      · rw [if_neg a, if_pos b] at h4
        cases h4
      · omega
  rcases hl with rfl | rfl | rfl | rfl | rfl | rfl <;> omega
theorem names_nodup {stem : List Nat} {first leap : Nat} (hl : leap = 1 ∨ leap = 3 ∨ leap = 5 ∨ leap = 7 ∨ leap = 9 ∨ leap = 11) (n : Nat) :
    ((List.range n).map (nameOf stem first leap)).Nodup := by
  induction n with
  | zero => exact List.nodup_nil
  | succ n ih =>
    rw [List.range_succ, List.map_append, List.nodup_append]
    refine ⟨ih, by simp, ?_⟩
    intro a ha b hb e
    obtain ⟨i, hi, rfl⟩ := List.mem_map.mp ha
    have hb' : b = nameOf stem first leap n := by simpa using hb
    rw [hb'] at e
    have := nameOf_inj hl e
    have := List.mem_range.mp hi
    omega
def abc : Str := Str.ofString "abcdefghijklmnopqrstuvwxyz"
theorem abc_at : ∀ i : Fin 26, abc.cps.toList[i.val]? = some (97 + i.val) := by decide +kernel
theorem abc_atI {i : Nat} (h : i < 26) : atI abc.cps.toList (i : Int) = some (97 + i) := atI_nat (abc_at ⟨i, h⟩)
theorem abc_len : abc.length = 26 := by decide +kernel
theorem str_app (a b : List Nat) : (⟨a.toArray⟩ : Str) ++ (⟨b.toArray⟩ : Str) = ⟨(a ++ b).toArray⟩ := by
  show Str.mk _ = _
  simp
end Kg
namespace Kg
open PySem PySem.Spec PyProof.Rows L2
/-! ### a tree as a dict of lists -/
def rowsD (rs : List (Str × Addr × List Str)) : List (L2.Key × V) := rs.map fun e => (Sum.inr e.1, V.ref e.2.1)
def Lists (G : Hp) (p : Addr) (rs : List (Str × Addr × List Str)) : Prop := G p = some (.dK (rowsD rs)) ∧ ∀ e ∈ rs, G e.2.1 = some (.lst (e.2.2.map V.str))
def LT (rs : List (Str × Addr × List Str)) (t : T) : Prop := (rs.map fun e => (e.1, e.2.2)).Perm t.desc
theorem Lists.same {G G' : Hp} {p : Addr} {rs : List (Str × Addr × List Str)} (h : Lists G p rs) (e : Same G G') : Lists G' p rs := ⟨e _ _ h.1, fun r hr => e _ _ (h.2 r hr)⟩
theorem LT.keys {rs : List (Str × Addr × List Str)} {t : T} (h : LT rs t) : (rs.map (·.1)).Perm t.keys := by
  have := h.map (·.1)
  rw [T.desc_keys, List.map_map] at this
  exact this
theorem LT.row {rs : List (Str × Addr × List Str)} {t n : T} (h : LT rs t) (hn : n ∈ t.pre) : ∃ a, (n.key, a, n.kids.map T.key) ∈ rs := by
  have : (n.key, n.kids.map T.key) ∈ t.desc := List.mem_map.mpr ⟨n, hn, rfl⟩
  have := h.mem_iff.mpr this
  obtain ⟨⟨k, a, cs⟩, hr, e⟩ := List.mem_map.mp this
  injection e with e1 e2
  exact ⟨a, by rw [← e1, ← e2]; exact hr⟩
theorem rows_at {k : Str} {a : Addr} {cs : List Str} : ∀ {rs : List (Str × Addr × List Str)}, (rs.map (·.1)).Nodup → (k, a, cs) ∈ rs → valV (rowsD rs) (Sum.inr k) = some (.ref a)
  | [], _, h => by cases h
  | (k', a', cs') :: rs, nd, h => by
    rw [List.map_cons, List.nodup_cons] at nd
    rcases List.mem_cons.mp h with e | e
    · cases e
      exact valV_pos rfl
    · have ne : ¬ (Sum.inr k' : L2.Key) = Sum.inr k := fun z => by
        injection z with z
        exact nd.1 (List.mem_map.mpr ⟨_, e, z.symm⟩)
      show valV (_ :: rowsD rs) _ = _
      rw [valV_neg ne]
      exact rows_at nd.2 e
theorem rows_none {k : Str} : ∀ {rs : List (Str × Addr × List Str)}, k ∉ rs.map (·.1) → valV (rowsD rs) (Sum.inr k) = none
  | [], _ => rfl
  | (k', a', cs') :: rs, h => by
    rw [List.map_cons, List.mem_cons, not_or] at h
    have ne : ¬ (Sum.inr k' : L2.Key) = Sum.inr k := fun z => by
      injection z with z
      exact h.1 z.symm
    show valV (_ :: rowsD rs) _ = _
    rw [valV_neg ne]
    exact rows_none h.2
section
variable {K : PySem.W.Frag} {σ : L2.St} {G H : Hp}
/-- d[k], the row of an element -/
theorem em_row {i j : Nat} {p a : Addr} {k : Str} {rs : List (Str × Addr × List Str)} {cs : List Str} (hl : Lists G p rs) (nd : (rs.map (·.1)).Nodup) (hr : (k, a, cs) ∈ rs)
    (hi : σ[i]? = some (some (.ref p))) (hj : σ[j]? = some (some (.str k))) : EvM K (tDGet (tVar i) (tVar j)) σ G H (.list (cs.map .str)) := fun G1 H1 g Q q => by
  have hp : H1 p = some (.dK (rowsD rs)) := g.into _ _ hl.1
  refine ⟨.ref p, hi, .str k, hj, p, .ref a, rfl, ?_, ?_⟩
  · have := DGet.k (k := Sum.inr k) hp
    rw [rows_at nd hr] at this
    exact this
  · exact q H1 G1 _ (.refl g.i) (.lst (sqL (g.g _ _ (hl.2 _ hr))) (DpAll.strs cs))
end
end Kg
namespace Kg
open PySem PySem.Spec PyProof.Rows L2
theorem Lists.ne {G : Hp} {p : Addr} {rs : List (Str × Addr × List Str)} (h : Lists G p rs) {e : Str × Addr × List Str} (he : e ∈ rs) : e.2.1 ≠ p :=
  ne_of (h.2 e he) h.1 (fun z => nomatch z)
def edD (es : List (Str × Str)) : List (L2.Key × V) := es.map fun e => (Sum.inr e.1, V.str e.2)
theorem edD_snoc (es : List (Str × Str)) (e : Str × Str) : edD (es ++ [e]) = edD es ++ [(Sum.inr e.1, V.str e.2)] := by
  unfold edD
  rw [List.map_append]
  rfl
end Kg
namespace Kg
open PySem PySem.Spec PyProof.Rows L2
/-- a drawn list of keys -/
def Names (ks : List Str) (n : Nat) : Prop := ∃ (stem : List Nat) (first leap : Nat), stem.length ≤ 6 ∧ (∀ c ∈ stem, 97 ≤ c ∧ c < 123) ∧
  (leap = 1 ∨ leap = 3 ∨ leap = 5 ∨ leap = 7 ∨ leap = 9 ∨ leap = 11) ∧ ks = (List.range n).map (nameOf stem first leap)

def rowsE (rs : List (Str × Addr × List Str)) : List (Str × Str) := rs.flatMap fun e => e.2.2.map fun c => (c, e.1)
theorem T_kid_in {t n c : T} (hn : n ∈ t.pre) (hc : c ∈ n.kids) : c ∈ t.pre := by
  have : ∀ (t n : T), n ∈ t.pre → c ∈ n.kids → c ∈ t.pre := by
    refine T.indT fun t ih n hn hc => ?_
    rcases T.pre_cases hn with rfl | ⟨c', hc', hnc⟩
    · exact T.kid_pre hc (T.self_pre c)
    · exact T.kid_pre hc' (ih c' hc' n hnc hc)
  exact this t n hn hc
end Kg
namespace Kg
open PySem PySem.Spec PyProof.Rows L2
def lvD (lv : Str → Nat) (ks : List Str) : List (L2.Key × V) := ks.map fun k => (Sum.inr k, V.int (lv k : Int))
theorem lvD_at {lv : Str → Nat} {k : Str} : ∀ {ks : List Str}, k ∈ ks → valV (lvD lv ks) (Sum.inr k) = some (.int (lv k : Int))
  | [], h => by cases h
  | x :: ks, h => by
    by_cases e : x = k
    · subst e
      exact valV_pos rfl
    · have ne : ¬ (Sum.inr x : L2.Key) = Sum.inr k := fun z => e (by injection z)
      show valV (_ :: lvD lv ks) _ = _
      rw [valV_neg ne]
      rcases List.mem_cons.mp h with z | z
      · exact absurd z.symm e
      · exact lvD_at z
theorem lvD_none {lv : Str → Nat} {k : Str} : ∀ {ks : List Str}, k ∉ ks → valV (lvD lv ks) (Sum.inr k) = none
  | [], _ => rfl
  | x :: ks, h => by
    rw [List.mem_cons, not_or] at h
    have ne : ¬ (Sum.inr x : L2.Key) = Sum.inr k := fun z => h.1 (by injection z with z; exact z.symm)
    show valV (_ :: lvD lv ks) _ = _
    rw [valV_neg ne]
    exact lvD_none h.2
theorem lvD_congr {lv lv' : Str → Nat} : ∀ {ks : List Str}, (∀ k ∈ ks, lv k = lv' k) → lvD lv ks = lvD lv' ks
  | [], _ => rfl
  | x :: ks, h => by
    show ((Sum.inr x : L2.Key), V.int (lv x : Int)) :: lvD lv ks = (Sum.inr x, V.int (lv' x : Int)) :: lvD lv' ks
    rw [h x (List.mem_cons_self ..), lvD_congr fun k hk => h k (List.mem_cons_of_mem _ hk)]
theorem lvD_put (lv : Str → Nat) (x : Str) (m : Nat) (ks : List Str) (h : x ∉ ks) : lvD (fun k => if k = x then m else lv k) (ks ++ [x]) = lvD lv ks ++ [(Sum.inr x, V.int (m : Int))] := by
  have e : lvD (fun k => if k = x then m else lv k) (ks ++ [x]) = lvD (fun k => if k = x then m else lv k) ks ++ [(Sum.inr x, V.int (((if x = x then m else lv x : Nat) : Nat) : Int))] := by
    unfold lvD
    rw [List.map_append]
    rfl
  rw [e, if_pos rfl, lvD_congr (lv := lv) (lv' := fun k => if k = x then m else lv k) fun k hk => by
    have hz : ¬ k = x := fun z => by
      rw [z] at hk
      exact h hk
    show lv k = if k = x then m else lv k
    rw [if_neg hz]]
/-- a row with a key put in -/
def putR (home : Str) (r : Nat) (x : Str) (e : Str × Addr × List Str) : Str × Addr × List Str := if e.1 = home then (e.1, e.2.1, e.2.2.take r ++ [x] ++ e.2.2.drop r) else e
theorem putR_1 (home : Str) (r : Nat) (x : Str) (e : Str × Addr × List Str) : (putR home r x e).1 = e.1 := by
  unfold putR
  split <;> rfl
theorem putR_2 (home : Str) (r : Nat) (x : Str) (e : Str × Addr × List Str) : (putR home r x e).2.1 = e.2.1 := by
  unfold putR
  split <;> rfl
theorem putR_row (home : Str) (r : Nat) (x : Str) (e : Str × Addr × List Str) : ((putR home r x e).1, (putR home r x e).2.2) = T.putRow home r x (e.1, e.2.2) := by
  unfold putR T.putRow
  by_cases h : e.1 = home
  · rw [if_pos h, if_pos h]
  · rw [if_neg h, if_neg h]
theorem rowsD_putR (home : Str) (r : Nat) (x : Str) (rs : List (Str × Addr × List Str)) : rowsD (rs.map (putR home r x)) = rowsD rs := by
  unfold rowsD
  rw [List.map_map]
  apply List.map_congr_left
  intro e _
  show (Sum.inr (putR home r x e).1, V.ref (putR home r x e).2.1) = _
  rw [putR_1, putR_2]
theorem LT.ins {rs : List (Str × Addr × List Str)} {t : T} (lt : LT rs t) (nd : t.keys.Nodup) {home x : Str} {r : Nat} (hm : home ∈ t.keys) (a : Addr) :
    LT (rs.map (putR home r x) ++ [(x, a, [])]) (t.ins home r x) := by
  unfold LT
  rw [List.map_append, List.map_map]
  have e : (fun e : Str × Addr × List Str => (e.1, e.2.2)) ∘ putR home r x = T.putRow home r x ∘ fun e => (e.1, e.2.2) := by
    funext e
    exact putR_row home r x e
  rw [e, ← List.map_map]
  exact ((lt.map _).append_right _).trans (T.ins_desc home r x t nd hm).symm
theorem cut_from (xs : List V) (j : Nat) : cutV xs (some (j : Int)) none = xs.drop j := by
  unfold cutV
  rw [HT.sIx_nat, HT.sIx_none]
  by_cases h : j ≤ xs.length
  · rw [Nat.min_eq_left h, List.take_of_length_le (by rw [List.length_drop]; omega)]
  · rw [Nat.min_eq_right (by omega), List.drop_length, List.drop_eq_nil_of_le (by omega), List.take_nil]
theorem cut_to (xs : List V) (j : Nat) : cutV xs none (some (j : Int)) = xs.take j := by
  unfold cutV
  rw [HT.sIx_nat, HT.sIx_none, List.drop_zero, Nat.sub_zero]
  by_cases h : j ≤ xs.length
  · rw [Nat.min_eq_left h]
  · rw [Nat.min_eq_right (by omega), List.take_length, List.take_of_length_le (by omega)]
theorem cut_back (xs : List V) (j : Nat) (hj : 0 < j) : cutV xs (some (-(j : Int))) none = xs.drop (xs.length - j) := by
  unfold cutV
  rw [HT.sIx_none]
  have e : HT.sIx xs.length 0 (some (-(j : Int))) = xs.length - j := by
    show (if (-(j : Int)) < 0 then ((-(j : Int)) + (xs.length : Int)).toNat else min (-(j : Int)).toNat xs.length) = _
    rw [if_pos (by omega)]
    omega
  rw [e, List.take_of_length_le (by rw [List.length_drop]; omega)]
theorem mem_map_str {x : V} {hs : List Str} (h : x ∈ hs.map V.str) : ∃ s ∈ hs, x = .str s := by
  obtain ⟨s, hs, e⟩ := List.mem_map.mp h
  exact ⟨s, hs, e.symm⟩
/-- what stands between two turns of the growing -/
structure Gw (K : PySem.W.Frag) (H : Hp) (h c p q : Addr) (ks : List Str) (deep i b : Nat) (H' : Hp) (rs : List (Str × Addr × List Str)) (t : T) (lv : Str → Nat) : Prop where
  bt : But h H H'
  hd : Hd H' h b
  ls : Lists H' p rs
  lt : LT rs t
  rk : rs.map (·.1) = ks.take (i + 1)
  fr : ∀ e ∈ rs, H e.2.1 = none ∧ e.2.1 ≠ c
  an : (rs.map (·.2.1)).Nodup
  lq : H' q = some (.dK (lvD lv (ks.take (i + 1))))
  lvt : T.Lv lv t
  rt : t.key = ks.headD ""
  l1 : lv t.key = 1
  ld : ∀ k ∈ t.keys, lv k ≤ deep
  hc : H' c = some (.lst ((ks.drop 1).map V.str))
end Kg
namespace Kg
open PySem PySem.Spec PyProof.Rows L2
/-- a tree, laid out anew as a dict of lists -/
structure Grown (H : Hp) (h p : Addr) (ks : List Str) (deep : Nat) (H' : Hp) (rs : List (Str × Addr × List Str)) (t : T) : Prop where
  bt : But h H H'
  np : H p = none
  ls : Lists H' p rs
  lt : LT rs t
  rk : rs.map (·.1) = ks
  fr : ∀ e ∈ rs, H e.2.1 = none
  rt : t.key = ks.headD ""
  nd : t.keys.Nodup
  ht : T.Ht deep t
end Kg
namespace Kg
open PySem PySem.Spec PyProof.Rows L2
/-- two arguments by keywords, the second parameter first -/
def gSwap : List V → List V → List V
  | [], [a, b] => [b, a]
  | _, _ => []
def gSwapU : List Value → List Value → List Value
  | [], [a, b] => [b, a]
  | _, _ => []
section
variable {K : PySem.W.Frag} {σ : L2.St} {G H : Hp}
theorem em_kw2 {sp : Sp} {E : XK} {ta : TA} {a b d : PyData} (h : EvA K ta σ G H [a, b]) (hs : SpM K sp G H [b, a] d) : EvM K (tCallK sp gSwap E tNil ta) σ G H d := fun G1 H1 g Q q => by
  refine h G1 H1 g _ fun H2 G2 us g2 hus => ?_
  cases hus with
  | cons h1 h2 =>
    cases h2 with
    | cons h2 h3 =>
      cases h3
      exact hs G2 H2 _ (g.tr g2) (.cons h2 (.cons h1 .nil)) Q (fun H3 G3 u g3 hu => q H3 G3 u (g2.tr g3) hu) E
/-- d.get(k, None), d a dict of parents -/
theorem em_get {i j : Nat} {p : Addr} {k : Str} {kvs : List (L2.Key × V)} {d : PyData} (hp : G p = some (.dK kvs)) (hd : Dp K G ((valV kvs (Sum.inr k)).getD .non) d)
    (hi : σ[i]? = some (some (.ref p))) (hj : σ[j]? = some (some (.str k))) : EvM K (tDGet2 (tVar i) (tVar j) (tC .non)) σ G H d := fun G1 H1 g Q q =>
  ⟨.ref p, hi, p, rfl, .inl ⟨kvs, .inl (g.into _ _ hp)⟩, .str k, hj, _, DGet.k (k := Sum.inr k) (g.into _ _ hp), q H1 G1 _ (.refl g.i) (Dp.same g.g _ _ hd)⟩
end
theorem s_seq {t u : TS} {D : Ends} {σ : L2.St} {H : Hp} (h : t { D with nx := u D } σ H) : tSeq t u D σ H := h
theorem s_set {te : TE} {i : Nat} {D : Ends} {σ : L2.St} {H : Hp} (h : te σ H fun v H1 => D.nx (σ.set i (some v)) H1) : tAsg te (gName i) D σ H := h
theorem Dp.str_at {K : PySem.W.Frag} {G : Hp} {v : V} {x : Str} (h : Dp K G v (.str x)) : v = .str x := by
  cases h
  rfl
end Kg
namespace Kg
open PySem PySem.Spec PyProof.Rows L2
/-- what the law keeps of a drawn tree -/
structure Plant (K : PySem.W.Frag) (G : Hp) (v : V) (p ab : Addr) (rs : List (Str × Addr × List Str)) (t : T) (es : List (Str × Str)) : Prop where
  dv : Dp K G v t.d
  ls : Lists G p rs
  lt : LT rs t
  ab : G ab = some (.dK (edD es))
  en : (es.map (·.1)).Nodup
  em : ∀ e, e ∈ es ↔ e ∈ t.edges
  nd : t.keys.Nodup
  few : t.size ≤ 1000
  ko : ∀ k ∈ t.keys, KeyOk k
  ht : T.Ht 20 t
theorem Plant.same {K : PySem.W.Frag} {G G' : Hp} {v : V} {p ab : Addr} {rs : List (Str × Addr × List Str)} {t : T} {es : List (Str × Str)} (h : Plant K G v p ab rs t es) (e : Same G G') : Plant K G' v p ab rs t es :=
  ⟨Dp.same e _ _ h.dv, h.ls.same e, h.lt, e _ _ h.ab, h.en, h.em, h.nd, h.few, h.ko, h.ht⟩
end Kg
namespace Kg
open PySem PySem.Spec PyProof.Rows L2
def gOne : List V → List V → List V
  | [], [a] => [a]
  | _, _ => []
def gBack : List V → List V → List V
  | [], [a, b, c] => [c, b, a]
  | _, _ => []
section
variable {K : PySem.W.Frag} {σ : L2.St} {G H : Hp}
theorem em_kw1 {sp : Sp} {E : XK} {ta : TA} {a d : PyData} (h : EvA K ta σ G H [a]) (hs : SpM K sp G H [a] d) : EvM K (tCallK sp gOne E tNil ta) σ G H d := fun G1 H1 g Q q => by
  refine h G1 H1 g _ fun H2 G2 us g2 hus => ?_
  cases hus with
  | cons h1 h2 =>
    cases h2
    exact hs G2 H2 _ (g.tr g2) (.cons h1 .nil) Q (fun H3 G3 u g3 hu => q H3 G3 u (g2.tr g3) hu) E
theorem em_kw3 {sp : Sp} {E : XK} {ta : TA} {a b c d : PyData} (h : EvA K ta σ G H [a, b, c]) (hs : SpM K sp G H [c, b, a] d) : EvM K (tCallK sp gBack E tNil ta) σ G H d := fun G1 H1 g Q q => by
  refine h G1 H1 g _ fun H2 G2 us g2 hus => ?_
  cases hus with
  | cons h1 h2 =>
    cases h2 with
    | cons h2 h3 =>
      cases h3 with
      | cons h3 h4 =>
        cases h4
        exact hs G2 H2 _ (g.tr g2) (.cons h3 (.cons h2 (.cons h1 .nil))) Q (fun H3 G3 u g3 hu => q H3 G3 u (g2.tr g3) hu) E
end
theorem DpAll.bools {K : PySem.W.Frag} {G : Hp} : ∀ {vs : List V} (bs : List Bool), DpAll K G vs (bs.map .bool) → vs = bs.map V.bl
  | _, [], h => by cases h; rfl
  | _, b :: bs, h => by
    cases h with
    | cons h1 h2 =>
      cases h1
      exact congrArg _ (DpAll.bools bs h2)
theorem s_if {t : TT} {u w : TS} {D : Ends} {σ : L2.St} {H : Hp} (h : t σ H fun b H1 => if b = true then u D σ H1 else w D σ H1) : tIfS t u w D σ H := h
theorem s_op {r : R2} {ta tb : TE} {σ : L2.St} {H : Hp} {Q : VK} (h : ta σ H fun x H1 => tb σ H1 fun y H2 => r x y H2 Q) : tOp r ta tb σ H Q := h
theorem s_cb {r : List V → Hp → VK → Prop} {te : TE} {σ : L2.St} {H : Hp} {Q : VK} (h : te σ H fun v H1 => r [v] H1 Q) : tCB r (tCons te tNil) σ H Q := h
theorem s_test {te : TE} {σ : L2.St} {H : Hp} {Q : Bool → Hp → Prop} (h : te σ H fun v H1 => ∃ k, v = .bl k ∧ Q k H1) : tTest te σ H Q := h
theorem s_next {D : Ends} {σ : L2.St} {H : Hp} (h : D.nx σ H) : tNext D σ H := h
theorem s_not {t : TT} {σ : L2.St} {H : Hp} {Q : Bool → Hp → Prop} (h : t σ H fun c H1 => Q (!c) H1) : tNot t σ H Q := h
theorem s_b {te : TE} {σ : L2.St} {H : Hp} {Q : Bool → Hp → Prop} (h : te σ H fun v H1 => ∃ k, v = .bl k ∧ Q k H1) : tB te σ H Q := h
theorem Grow.hand {h : Addr} {G H G' H' : Hp} {b : Nat} (a : Grow [] G H G' H') (hd : Hd H h b) : Hd H' h b := by
  obtain ⟨g, x, t, e, r⟩ := hd
  exact ⟨g, x, t, a.same _ _ e, r⟩
theorem Grow.toBut {h : Addr} {G H G' H' : Hp} (a : Grow [] G H G' H') : But h H H' := fun b o _ e => a.same b o e
theorem But.into {h : Addr} {G H H' : Hp} (a : But h H H') (i : Same G H) (g : G h = none) : Same G H' := (a.grow i g).i
/-- the part of the heap that the law's own tree takes up -/
def plot (l p : Addr) (rs : List (Str × Addr × List Str)) (H : Hp) : Hp := fun a => if a = l ∨ a = p ∨ a ∈ rs.map (·.2.1) then H a else none
theorem plot_in (l p : Addr) (rs : List (Str × Addr × List Str)) (H : Hp) : Same (plot l p rs H) H := fun b o e => by
  unfold plot at e
  by_cases h : b = l ∨ b = p ∨ b ∈ rs.map (·.2.1)
  · rw [if_pos h] at e
    exact e
  · rw [if_neg h] at e
    cases e
theorem plot_at {l p a : Addr} {rs : List (Str × Addr × List Str)} {H : Hp} (h : a = l ∨ a = p ∨ a ∈ rs.map (·.2.1)) : plot l p rs H a = H a := if_pos h
theorem plot_off {l p a : Addr} {rs : List (Str × Addr × List Str)} {H : Hp} (h : ¬ (a = l ∨ a = p ∨ a ∈ rs.map (·.2.1))) : plot l p rs H a = none := if_neg h
theorem Names.ok {ks : List Str} {n : Nat} (h : Names ks n) (hn : n ≤ 700) : ks.Nodup ∧ ks.length = n ∧ ∀ k ∈ ks, KeyOk k := by
  obtain ⟨stem, first, leap, h1, h2, h3, rfl⟩ := h
  refine ⟨names_nodup h3 n, by rw [List.length_map, List.length_range], fun k hk => ?_⟩
  obtain ⟨i, hi, rfl⟩ := List.mem_map.mp hk
  have hi := List.mem_range.mp hi
  have ht : (tailOf i).length ≤ 1 ∧ ∀ c ∈ tailOf i, c < 16 ^ 8 := by
    unfold tailOf
    by_cases h : 25 < i
    · rw [if_pos h]
      refine ⟨Nat.le_refl _, fun c hc => ?_⟩
      rw [List.mem_singleton.mp hc]
      have : i / 26 ≤ 26 := by omega
      exact Nat.lt_of_le_of_lt (show _ ≤ 200 by omega) (by decide)
    · rw [if_neg h]
      exact ⟨Nat.zero_le _, fun c hc => by cases hc⟩
  constructor
  · show (nameL stem first leap i).toArray.size ≤ 8
    rw [List.size_toArray]
    unfold nameL
    rw [List.length_append, List.length_append]
    have := ht.1
    simp only [List.length_cons, List.length_nil]
    omega
  · intro c hc
    have hc : c ∈ nameL stem first leap i := by simpa [nameOf] using hc
    unfold nameL at hc
    rcases List.mem_append.mp hc with z | z
    · rcases List.mem_append.mp z with z | z
      · exact Nat.lt_trans (h2 c z).2 (by decide)
      · rw [List.mem_singleton.mp z]
        have : (first + leap * i) % 26 < 26 := Nat.mod_lt _ (by decide)
        exact Nat.lt_of_le_of_lt (show _ ≤ 200 by omega) (by decide)
    · exact ht.2 c z
end Kg
namespace Kg
open PySem PySem.Spec PyProof.Rows L2
theorem seq_but {K : PySem.W.Frag} {H H' : Hp} {p a : Addr} {o : HO} {xs : List V} (b : But p (upd H p o) H') (n : H p = none) (s : SqL K H a xs) : SqL K H' a xs := by
  rcases s with (s | ⟨o', s⟩) | s
  · have ne := ne_of_none s n
    exact .inl (.inl (b _ _ ne (by rw [upd_ne ne]; exact s)))
  · have ne := ne_of_none s n
    exact .inl (.inr ⟨o', b _ _ ne (by rw [upd_ne ne]; exact s)⟩)
  · exact .inr s
theorem s_yes {te : TE} {σ : L2.St} {H : Hp} {Q1 : VK} {R : Hp → Prop} (h : te σ H Q1) : tYes σ H fun b H3 => if b = true then te σ H3 Q1 else R H3 := by
  show (if true = true then te σ H Q1 else R H)
  exact iteT h
def gOneU : List Value → List Value → List Value
  | [], [a] => [a]
  | _, _ => []
def gBackU : List Value → List Value → List Value
  | [], [a, b, c] => [c, b, a]
  | _, _ => []
section
variable {K : PySem.W.Frag} {x : Str} {st : Stmt} {f : Addr} {fd : FuncData}
theorem kb1 {a1 : Str} (F : Fun K x x st f fd) (h : ∀ (kV doc pm : Value) (an : Option Addr) (cdv ct a : Value), bindArgs (PySem.W.fnOf x x (defArgs st) (defBody st) (defScope st) .none kV doc pm an cdv ct) ⟨[], [(a1, a)]⟩ = pure [(a1, a)]) :
    KBinds K fd [a1] [a1] gOneU gOne := by
  obtain ⟨oc, od, kV, doc, pm, an, cdv, ct, osl, rfl, lk, hcd⟩ := F.ex
  refine ⟨fun s us ws _ hl => ?_, fun {vs us zs ws} r rz => ?_⟩
  · match us, ws, hl with
    | [], [a], _ => exact .of_eq (h kV doc pm an cdv ct a)
  · cases r with
    | nil =>
      cases rz with
      | nil => exact .nil
      | cons p q =>
        cases q with
        | nil => exact .cons p .nil
        | cons _ _ => exact .nil
    | cons _ _ => exact .nil
theorem kb2 {a1 a2 : Str} (F : Fun K x x st f fd) (h : ∀ (kV doc pm : Value) (an : Option Addr) (cdv ct a b : Value), bindArgs (PySem.W.fnOf x x (defArgs st) (defBody st) (defScope st) .none kV doc pm an cdv ct) ⟨[], [(a2, a), (a1, b)]⟩ = pure [(a1, b), (a2, a)]) :
    KBinds K fd [a1, a2] [a2, a1] gSwapU gSwap := by
  obtain ⟨oc, od, kV, doc, pm, an, cdv, ct, osl, rfl, lk, hcd⟩ := F.ex
  refine ⟨fun s us ws _ hl => ?_, fun {vs us zs ws} r rz => ?_⟩
  · match us, ws, hl with
    | [], [a, b], _ => exact .of_eq (h kV doc pm an cdv ct a b)
  · cases r with
    | nil =>
      cases rz with
      | nil => exact .nil
      | cons p q =>
        cases q with
        | nil => exact .nil
        | cons p2 q2 =>
          cases q2 with
          | nil => exact .cons p2 (.cons p .nil)
          | cons _ _ => exact .nil
    | cons _ _ => exact .nil
theorem kb3 {a1 a2 a3 : Str} (F : Fun K x x st f fd) (h : ∀ (kV doc pm : Value) (an : Option Addr) (cdv ct a b c : Value), bindArgs (PySem.W.fnOf x x (defArgs st) (defBody st) (defScope st) .none kV doc pm an cdv ct) ⟨[], [(a3, a), (a2, b), (a1, c)]⟩ = pure [(a1, c), (a2, b), (a3, a)]) :
    KBinds K fd [a1, a2, a3] [a3, a2, a1] gBackU gBack := by
  obtain ⟨oc, od, kV, doc, pm, an, cdv, ct, osl, rfl, lk, hcd⟩ := F.ex
  refine ⟨fun s us ws _ hl => ?_, fun {vs us zs ws} r rz => ?_⟩
  · match us, ws, hl with
    | [], [a, b, c], _ => exact .of_eq (h kV doc pm an cdv ct a b c)
  · cases r with
    | nil =>
      cases rz with
      | nil => exact .nil
      | cons p q =>
        cases q with
        | nil => exact .nil
        | cons p2 q2 =>
          cases q2 with
          | nil => exact .nil
          | cons p3 q3 =>
            cases q3 with
            | nil => exact .cons p3 (.cons p2 (.cons p .nil))
            | cons _ _ => exact .nil
    | cons _ _ => exact .nil
end
end Kg
/-! GF: enumerate of a tuple, list.remove of a text. -/
namespace Kg
open PySem PySem.Spec PyProof.Rows L2
set_option maxHeartbeats 1000000 in
theorem meets_enumB {v : Value} {o : Obj} {Hh : Heap → Prop} (B : Begins v o Hh) :
    Meets (Builtin.«enumerate.__new__» ⟨[.type "enumerate", v], []⟩) (fun _ R s => Hh s.heap ∧
      R (.ok (.ret (.ref (s.heap.push o).objs.size))) { s with heap := (s.heap.push o).push { cls := .type "enumerate", data := .fields #[.none, .bool false, .ref s.heap.objs.size, rawInt 0, .none, .none] } }) :=
  .of_wp fun prog w A R s h => by
    obtain ⟨hp, g, d, tk, os⟩ := s; obtain ⟨h1, h⟩ := h
    have hsub := sub_enumerate
    have q1 : ∀ {A' : Around} {E : Value → Shared → Prop} {Q : Value → Shared → Prop}, Q (.ref hp.objs.size) ⟨hp.push o, g, d, tk, os⟩ → wpAny (model prog w) A' (pyIter v) Q E ⟨hp, g, d, tk, os⟩ :=
      fun q => B.iter prog w _ _ ⟨hp, g, d, tk, os⟩ _ h1 q
    wp_walk using q1
    refine wpAny_stack_any fun st => wpAny_pure ?_
    split
    · rename_i c _ _ _ _ _
      cases (c == Value.type "enumerate")
      · wp_walk using q1
        exact ⟨_, rfl, h⟩
      · wp_walk using q1
        exact ⟨_, rfl, h⟩
    · wp_walk using q1
      exact ⟨_, rfl, h⟩
theorem call_enumB {prog : Program} {w : World} {A : Around} {E : Value → Shared → Prop} {s : Shared} {v : Value} {o : Obj} {Hh : Heap → Prop} {Q : Value → Shared → Prop} (B : Begins v o Hh) (h1 : Hh s.heap)
    (h : ∀ h', IsEnum h' (s.heap.objs.size + 1) s.heap.objs.size 0 .none → h'.get? s.heap.objs.size = some o → h'.objs.size = s.heap.objs.size + 2 →
      (∀ b o, s.heap.get? b = some o → h'.get? b = some o) → Q (.ref (s.heap.objs.size + 1)) { s with heap := h' }) :
    wpAny (model prog w) A (call (.type "enumerate") [v]) Q E s := by
  refine callType_new F.called_enumerate (by decide) (F.typeCall_enumerate_1 _) (F.newCall_enumerate_1 _) (fun obj => F.args_object_init_2 obj _) F.entry_enumerate_new
    (meets_enumB B) ⟨h1, ?_⟩
  have hz : (s.heap.push o).objs.size = s.heap.objs.size + 1 := Heap.size_push ..
  show _ ∧ _
  rw [hz]
  have he : IsEnum ((s.heap.push o).push { cls := .type "enumerate", data := .fields #[.none, .bool false, .ref s.heap.objs.size, rawInt 0, .none, .none] }) (s.heap.objs.size + 1) s.heap.objs.size 0 .none := by
    have := Heap.get?_push_size (s.heap.push o) (o := { cls := .type "enumerate", data := .fields #[.none, .bool false, .ref s.heap.objs.size, rawInt 0, .none, .none] }) rfl
    rw [hz] at this; exact this
  refine ⟨⟨_, he, rfl⟩, h _ he (Heap.get?_push_of_some _ (Heap.get?_push_size _ B.free)) (by rw [Heap.size_push, hz]) fun b o x => Heap.get?_push_of_some _ (Heap.get?_push_of_some _ x)⟩
/-- the tuple at a, each item in a new pair -/
def IteT (K : PySem.W.Frag) (a : Addr) : It :=
  ⟨fun i H => ∃ (xs : List V) (x : V), SqT K H a xs ∧ xs[i]? = some x, fun i H v H' => ∃ T x, v = .ref T ∧ H T = none ∧ H' = upd H T (.tup [.int (i : Nat), x]) ∧ ∀ xs, SqT K H a xs → xs[i]? = some x, fun i H => ∃ xs : List V, SqT K H a xs ∧ xs.length ≤ i⟩
theorem turn_enumT {P : Program} {w : World} {K : PySem.W.Frag} {elts : List Expr} {kk : Nat} {tpos : Pos} (a e it : Addr) (n : Nat) (hat : a ≠ it) (hae : a ≠ e) :
    Turn P w K (.Tuple elts kk tpos) (IteT K a) [e, it] e (fun i h => (∃ old, IsEnum h e it ((i : Nat) : Int) old) ∧ h.IsTupleIter it a i ∧ e ≠ it) where
  mem := by simp
  obj := fun i h st b hb => by
    obtain ⟨⟨old, he⟩, ⟨o, ho, hc, hd⟩, _⟩ := st
    have e' : b = e ∨ b = it := by simpa using hb
    rcases e' with z | z
    · rw [z]; exact ⟨_, he, fun v q => nomatch q⟩
    · rw [z]; exact ⟨o, ho, fun v q => by rw [hd] at q; cases q⟩
  keep := fun i h h' st k => let ⟨⟨old, he⟩, hi, hne⟩ := st; ⟨⟨old, k e (by simp) _ he⟩, hi.at fun o q => k it (by simp) o q, hne⟩
  item := by
    intro X hP hw hK hc i pins s σ H E I hf st hg
    subst hP hw hK
    obtain ⟨⟨old, he⟩, hit, hne⟩ := st
    obtain ⟨xs, x, hq, hx⟩ := hg
    obtain ⟨its, rv, p, hz⟩ := I.tuple hq
    obtain ⟨u, hu, ru⟩ := rv.get hx
    have hel : e < s.heap.objs.size := Heap.lt_size he
    have hil : it < s.heap.objs.size := by obtain ⟨_, q, _⟩ := hit; exact Heap.lt_size q
    have D := Draws.tuple (prog := X.prog) (w := X.w) (A := X.A.in1) (I.ok.hd hc) it a hat its.toArray
    have hlt : i < its.toArray.size := by
      have := (List.getElem?_eq_some_iff.mp hu).1
      rw [List.size_toArray]
      exact this
    refine wpAny_pyNext_enum_itemD D he ⟨hit, p⟩ hlt hne (by simp [hne, Ne.symm hae]) fun x' h' tk hP ho hit' hT hsz hk => ?_
    obtain rfl : x' = u := by
      have : its.toArray[i]? = some u := by simpa using hu
      rw [this] at hP
      exact (Option.some.inj hP).symm
    refine ⟨_, rfl, wpAny_letOwnedTupleGo_enum (s := { s with heap := h', toks := tk + 1 }) ho fun h'' he' sb => ?_⟩
    have hT2 : h''.get? s.heap.objs.size = some { cls := .type "tuple", data := .seq #[.int i tk, x'] } := (sb.2 _ (Nat.ne_of_gt hel)).trans hT
    have new : ObjOk X.prog X.w (upd H s.heap.objs.size (.tup [.int (i : Nat), x])) h'' s.heap.objs.size (.tup [.int (i : Nat), x]) :=
      ⟨by show 2 ≤ sizeLine; decide, [.int i tk, x'], .cons ⟨_, rfl⟩ (.cons ru .nil), ⟨_, hT2, rfl, _, rfl⟩⟩
    have I1 : Inv X pins σ (upd H s.heap.objs.size (.tup [.int (i : Nat), x])) { s with heap := h'', toks := tk + 1 } :=
      I.turnedNew (ch := [e, it]) (fun b ob hb q => (sb.2 b (fun z => hb (by simp [z]))).trans (hk b ob (fun z => hb (by simp [z])) (fun z => hb (by simp [z])) q)) hf (Nat.le_refl _) new
    refine ⟨.ref s.heap.objs.size, _, I1, rfl, ⟨_, x, rfl, I.hok.fresh (Nat.le_refl _), rfl, fun ys hy => by rw [I.tuple_inj hy hq]; exact hx⟩, ⟨⟨x', ?_⟩, hit'.1.at fun o q => (sb.2 it (Ne.symm hne)).trans q, hne⟩, fun b hb => ?_⟩
    · have e1 : ((i + 1 : Nat) : Int) = (i : Int) + 1 := by omega
      rw [e1]; exact he'
    · have hb' : b < s.heap.objs.size := by
        have e' : b = e ∨ b = it := by simpa using hb
        rcases e' with z | z
        · rw [z]; exact hel
        · rw [z]; exact hil
      rw [upd_ne (Nat.ne_of_lt hb')]
      exact (hf b hb).1
  done := by
    intro X hP hw hK hc i pins s σ H E I hf st hg
    subst hP hw hK
    obtain ⟨⟨old, he⟩, hit, hne⟩ := st
    obtain ⟨xs, hq, hx⟩ := hg
    obtain ⟨its, rv, p, hz⟩ := I.tuple hq
    obtain ⟨f0, f1, f2, f3, f4, f5⟩ := hf it (by simp)
    have hl := rv.length
    have hT : s.TypeIs (.ref e) "enumerate" := ⟨_, he, rfl⟩
    unfold pyNext
    refine wpAny_bind (wpAny_attempt (wpAny_callSpecial?_slot (name := Str.ofString "__next__") hT F.slot_enumerate_next
      (wpAny_call_entry F.slot_enumerate_next hT F.entry_enumerate_next ?_ (F.args_enumerate_next_1 _))))
    show wpAny _ _ (field (.ref e) 2 >>= _) _ _ _
    refine wpAny_bind (wpAny_field he rfl (x := .ref it) rfl ?_)
    refine wpAny_bind (wpAny_nextOf_tuple_end (I.ok.hd hc) hit p (by simp; omega) fun h' x he' hx' => ?_)
    obtain ⟨o, ho, hcl⟩ := hx'
    refine wpAny_bind (wpAny_isInstance (T := "StopIteration") (b := true) ⟨o, ho, hcl⟩ isSubtype_stop ?_)
    exact wpAny_pure ⟨rfl, I.turned (t' := s.toks) (fun b o hb q => he' b o hb q) f0 f1 f3 f4 f5⟩
  self := fun A i s Q E st h => let ⟨⟨_, he⟩, _⟩ := st; wpAny_pyIter_enum he h
def iEnumT (K : PySem.W.Frag) (ta : TA) : TI := fun σ H R => ta σ H fun vs H1 => ∃ a xs, vs = [.ref a] ∧ SqT K H1 a xs ∧ R (IteT K a) H1
theorem pi_enumT {X : Cx} {e : Expr} {ta : TA} {p pos tpos : Pos} {elts : List Expr} {kk : Nat} (hg : Gl X "enumerate") (hm : X.mg "enumerate" = none) (ha : PA X [e] ta) (hs : starEach [e] X.env = [(false, eval e X.env)] := by rfl) :
    PI X (.Tuple elts kk tpos) (.Call (.Name "enumerate" p) [e] [] pos) (iEnumT X.K ta) := by
  refine ⟨fun pins s σ H R I h => ?_⟩
  refine Call_ (ld_blt I hg hm boot_enumerate (PyProof.Rows.callWith_type1 (thn (ha.run pos pins s σ H _ I h) fun us s1 ⟨vs, H1, I1, r1, q1⟩ => ?_) hs rfl))
  obtain ⟨a, xs, ex, hq, q⟩ := q1
  subst ex
  cases r1 with
  | cons r rr =>
    cases rr
    cases r
    obtain ⟨its, rv, p', hz⟩ := I1.tuple hq
    have hal : a < s1.heap.objs.size := by obtain ⟨_, q, _⟩ := p'; exact Heap.lt_size q
    refine call_enumB (begins_tuple a its.toArray) p' fun h' he hit hsz hk => wpAny_pyIter_enum he ?_
    have I2 : Inv X pins σ H1 { s1 with heap := h' } := I1.kept (t' := s1.toks) hk
    have ne1 : a ≠ s1.heap.objs.size := Nat.ne_of_lt hal
    have ne2 : a ≠ s1.heap.objs.size + 1 := Nat.ne_of_lt (Nat.lt_succ_of_lt hal)
    refine ⟨s1.heap.objs.size + 1, [s1.heap.objs.size + 1, s1.heap.objs.size], _, _, H1, rfl, I2, turn_enumT a (s1.heap.objs.size + 1) s1.heap.objs.size 0 ne1 ne2, ⟨⟨.none, he⟩, ⟨_, hit, rfl, rfl⟩, Nat.succ_ne_self _⟩, fun b hb => ?_, q⟩
    have e' : b = s1.heap.objs.size + 1 ∨ b = s1.heap.objs.size := by simpa using hb
    have hle : s1.heap.objs.size ≤ b := by
      rcases e' with z | z
      · rw [z]; exact Nat.le_add_right _ _
      · rw [z]; exact Nat.le_refl _
    exact I1.fpOk hle (I1.hok.fresh hle)
end Kg
/-! GG: walks over tuples, a dict comprehension over a walk, list.remove of a text. -/
namespace Kg
open PySem PySem.Spec PyProof.Rows L2
theorem walk_enumT {K : PySem.W.Frag} {a : Addr} {xs : List V} : Walk (IteT K a) xs.length (fun H => SqT K H a xs) (YPair (fun i => some (.int (i : Nat))) (fun i => xs[i]?)) := by
  refine ⟨fun i _ hi q => ⟨xs, xs[i], q, by simp [hi]⟩, fun _ q => ⟨xs, q, Nat.le_refl _⟩, fun i H v H' _ q y => ?_⟩
  obtain ⟨T, x, h1, h2, h3, h4⟩ := y
  exact ⟨T, .int (i : Nat), x, h1, h2, h3, rfl, h4 xs q⟩
theorem walk_revT {K : PySem.W.Frag} {a : Addr} {xs : List V} : Walk (RT.ItvT K a xs.length) xs.length (fun H => SqT K H a xs) (fun i H x H' => H' = H ∧ xs[xs.length - 1 - i]? = some x) :=
  ⟨fun i _ hi q => ⟨hi, xs, xs[xs.length - 1 - i], q, by simp⟩, fun _ _ => Nat.le_refl _, fun i H x H' _ q y => ⟨y.1, y.2 xs q⟩⟩
theorem dc_it {J : It} {n : Nat} {G : Hp → Prop} {Y : Nat → Hp → V → Hp → Prop} (w : Walk J n G Y) {g : TG} {tt : TT} {tk tv : TE} {vs : List Nat} {σ : L2.St} {H1 : Hp} {D : Addr} {Qd : Hp → Prop} (Pv : Nat → Hp → Prop) (h0 : Pv 0 (upd H1 D (.dK []))) (hG : ∀ i H, i ≤ n → Pv i H → G H)
    (hs : ∀ i x H H', i < n → Pv i H → Y i H x H' → g x (wipe σ vs) H' fun σ2 H2 => wipe σ2 vs = wipe σ vs ∧ tt σ2 H2 fun b H3 =>
      if b = true then tk σ2 H3 fun y H4 => tv σ2 H4 fun z H5 => ∃ kvs k, y = kV k ∧ H5 D = some (.dK kvs) ∧ kvs.length < sizeLine ∧ Pv (i + 1) (upd H5 D (.dK (putK kvs k z))) else Pv (i + 1) H3) (hd : ∀ H, Pv n H → Qd H) :
    ∃ W : Nat → Nat → Hp → Prop, (∃ m, W 0 m (upd H1 D (.dK []))) ∧ ∀ i m H, W i m H →
      (J.stop i H ∧ Qd H) ∨ (J.go i H ∧ ∃ Nx : Hp → Prop, (∀ H', Nx H' → ∃ m', m' < m ∧ W (i + 1) m' H') ∧ ∀ x H', J.yld i H x H' → g x (wipe σ vs) H' fun σ2 H2 => wipe σ2 vs = wipe σ vs ∧ tt σ2 H2 fun b H3 =>
        if b = true then tk σ2 H3 fun y H4 => tv σ2 H4 fun z H5 => ∃ kvs k, y = kV k ∧ H5 D = some (.dK kvs) ∧ kvs.length < sizeLine ∧ Nx (upd H5 D (.dK (putK kvs k z))) else Nx H3) := by
  refine ⟨fun i m H => m = n - i ∧ i ≤ n ∧ Pv i H, ⟨n, by simp, Nat.zero_le _, h0⟩, ?_⟩
  rintro i m H ⟨rfl, hi, p⟩
  have q := hG i H hi p
  by_cases hlt : i < n
  · refine .inr ⟨w.goes i H hlt q, Pv (i + 1), fun H' p' => ⟨n - (i + 1), by omega, rfl, hlt, p'⟩, fun x H' y => hs i x H H' hlt p (w.yields i H x H' hlt q y)⟩
  · have e : i = n := by omega
    subst e
    exact .inl ⟨w.stops H q, hd H p⟩
/-! list.remove of a text -/
theorem erase_mapS : ∀ (l : List Str) (j : Nat), (l.map V.str).eraseIdx j = (l.eraseIdx j).map V.str
  | [], j => by simp
  | a :: r, 0 => by simp
  | a :: r, j + 1 => by
    have ih := erase_mapS r j
    simp [ih]
def eqs (k : Str) : Value → Bool
  | .str x _ => x.cps.toList == k.cps.toList
  | _ => false
section
variable {X : Cx}
theorem strs_vals {ks : List Str} : ∀ {us : List Value}, Vals (ks.map V.str) us → ∀ y ∈ us, ∃ x t, y = Value.str x t := by
  induction ks with
  | nil =>
    intro us r y hy
    cases r
    cases hy
  | cons k ks ih =>
    intro us r y hy
    cases r with
    | cons h t =>
      obtain ⟨tt, rfl⟩ := h
      rcases List.mem_cons.mp hy with e | e
      · exact ⟨k, tt, e⟩
      · exact ih t y e
def rRemS : V → List V → Hp → VK → Prop := fun x xs H Q => ∃ (l : Addr) (ns : List Str) (k : Str) (j : Nat), x = .ref l ∧ xs = [.str k] ∧ H l = some (.lst (ns.map V.str)) ∧ ns[j]? = some k ∧ (∀ m : Nat, m < j → ns[m]? ≠ some k) ∧ Q .non (upd H l (.lst ((ns.eraseIdx j).map V.str)))
theorem mt_removeS : MtM X "list.remove" rRemS := by
  intro pins s σ H x xs v us Q I rx rxs h
  obtain ⟨l, ns, k, j, rfl, rfl, hH, hj, hno, q⟩ := h
  cases rx
  obtain ⟨u, rfl, ru⟩ := rxs.one
  obtain ⟨t, rfl⟩ := ru
  obtain ⟨z, its, n, r, hl, e⟩ := I.lstM hH
  have hi := strs_vals r
  rw [List.length_map] at hl z
  have hjn : j < ns.length := (List.getElem?_eq_some_iff.mp hj).1
  have hjl : j < its.toArray.size := by rw [List.size_toArray]; omega
  have at_ : ∀ (m : Nat) (a : Str), ns[m]? = some a → ∃ tm, its[m]? = some (.str a tm) := fun m a hm => by
    obtain ⟨w', h1, h2⟩ := r.get (i := m) (x := .str a) (by rw [List.getElem?_map, hm]; rfl)
    obtain ⟨tm, rfl⟩ := h2
    exact ⟨tm, h1⟩
  refine call_meets PySem.F.slot_list_remove ⟨_, e, rfl⟩ PySem.F.entry_list_remove (PySem.F.args_list_remove_2 _ _)
    (MeetsSeq.list_remove l its.toArray n (.str k t) (eqs k) (fun y hy => by
      obtain ⟨a, ta, rfl⟩ := hi y (by simpa using hy)
      exact SeqRoads2.EqGives.str a k ta t) j hjl ?_ ?_ (by rw [List.size_toArray]; omega)) ⟨e, ?_⟩
  · obtain ⟨tj, hjt⟩ := at_ j k hj
    obtain ⟨h1, h2⟩ := List.getElem?_eq_some_iff.mp hjt
    have e1 : its.toArray[j] = .str k tj := by simpa using h2
    rw [e1]
    show (k.cps.toList == k.cps.toList) = true
    simp
  · intro m hm hmj
    have hmn : m < ns.length := by omega
    obtain ⟨tm, hmt⟩ := at_ m _ (List.getElem?_eq_getElem hmn)
    obtain ⟨h1, h2⟩ := List.getElem?_eq_some_iff.mp hmt
    have e1 : its.toArray[m] = .str ns[m] tm := by simpa using h2
    rw [e1]
    refine beq_eq_false_iff_ne.mpr fun e2 => hno m hmj ?_
    rw [List.getElem?_eq_getElem hmn]
    congr 1
    cases hx : ns[m] with
    | mk a =>
      cases k with
      | mk b =>
        rw [hx] at e2
        congr 1
        exact Array.toList_inj.mp e2
  · have rr := r.eraseIdx j
    rw [erase_mapS] at rr
    refine ⟨.non, _, I.lset (its' := its.eraseIdx j) (t' := s.toks) hH e ?_ rr ?_, rfl, q⟩
    · show its.toArray.eraseIdxIfInBounds j = (its.eraseIdx j).toArray
      rw [List.eraseIdxIfInBounds_toArray]
    · have z2 := List.length_eraseIdx_le (l := ns) (i := j)
      rw [List.length_map]
      omega
end
section
variable {X : Cx}
/-- x = {k: v for ..} -/
theorem ps_setDc {i : Nat} {y : Str} {py : Pos} {kx vx tg iter : Expr} {ifs : List Expr} {scope : Scope} {own : List (Str × Nat)} {pos spos : Pos} {wi : TI} {g : TG} {tt : TT} {tk tv : TE} (hc : X.calm = true) (hN : X.N.Nodup) (hy : X.N[i]? = some y) (hyl : X.env.scope.names.lookup y = some .local)
    (hsw : swapsWith (.DictComp kx vx [⟨tg, iter, ifs, 0⟩] scope pos) (some (.Name y py)) spos.line X.env = pure true) (hi : PI X tg iter wi) (ok : BlkOk X.N X.env.scope scope own)
    (hg : ∀ (s : Shared) (H : Hp) (C : Addr) (cl : List (Str × Addr)) (fp : List Addr), PG (X.blk s H scope (compEnvC scope cl C X.env) fp) tg g) (ht : ∀ (s : Shared) (H : Hp) (C : Addr) (cl : List (Str × Addr)) (fp : List Addr), PTs (X.blk s H scope (compEnvC scope cl C X.env) fp) ifs tt)
    (hk : ∀ (s : Shared) (H : Hp) (C : Addr) (cl : List (Str × Addr)) (fp : List Addr), PE (X.blk s H scope (compEnvC scope cl C X.env) fp) kx tk)
    (he : ∀ (s : Shared) (H : Hp) (C : Addr) (cl : List (Str × Addr)) (fp : List Addr), PE (X.blk s H scope (compEnvC scope cl C X.env) fp) vx tv) (hs : ∀ x, foldedSetIterable iter X.env x = pure x := by intro _; rfl) :
    PS X (.Assign [.Name y py] (.DictComp kx vx [⟨tg, iter, ifs, 0⟩] scope pos) spos) (tAsg (tDc wi g tt tk tv (own.map (·.2))) (gName i)) := by
  refine ⟨fun pins s σ H D I h => ?_⟩
  rw [exec_Assign_Name_used _ _ _ _ hsw]
  refine wpAny_bind (wpAny_standAt (wpAny_bind ?_))
  show wpAny _ X.A (do let _ ← comprehension (.DictComp kx vx [⟨tg, iter, ifs, 0⟩] scope pos) scope X.env (firstIterPos [⟨tg, iter, ifs, 0⟩] pos) newDict false (eval iter X.env) (some (assign (.Name y py) X.env))) _ _ s
  have h : tDc wi g tt tk tv (own.map (·.2)) σ H (fun x H1 => gName i x σ H1 D.nx) := h
  refine wpAny_bind (thn (dc_core (Qf := fun _ s' => SP X pins D .next s') hc hN I hi ok hg ht hk he hs h fun L C s' m H' I' q hn f => ?_) fun _ s' hq => wpAny_pure (wpAny_pure hq))
  show wpAny _ _ (assign (.Name y py) X.env (.ref L)) _ _ _
  refine wpAny_assign_Name (store_ok2 (v := V.ref L) I' hN hy (.inl hyl) rfl (fun s2 I2 ⟨a, sb, ha⟩ => ?_) (.inr hyl))
  obtain ⟨f0, f1, f2, f3, f4, f5⟩ := f
  have haC : C ≠ a := by
    rcases ha with z | z
    · rw [z]; exact f1
    · exact fun e => f4 y a z e.symm
  refine ⟨m, hn.sameBut sb haC, fun h3 sb3 => ?_⟩
  exact ⟨_, H', I2.turned (t' := s2.toks) (fun b o hb e => (sb3.2 b hb).trans e) f0 f1 f3 f4 f5, q⟩
theorem sw_trueD {kx vx : Expr} {gs : List Comprehension} {scope : Scope} {pos py : Pos} {y : Str} {l : Nat} {env : Env} (hk : env.scope.kind = .function) (hy : env.scope.names.lookup y = some .local) (hl : (py.line == pos.line) = true)
    (ha : (scope.names.any fun (n, k) => n == y && (k == .local || k == .cell)) = false) : swapsWith (.DictComp kx vx gs scope pos) (some (.Name y py)) l env = pure true := by
  have ky : env.kindOf y = some .local := hy
  have hb : env.blockKind = .function := by unfold Env.blockKind; rw [hk]; rfl
  unfold swapsWith
  simp only [hb, ky, ha, Expr.pos, hl]
  rfl
end
end Kg
/-! GO: an element's children replaced; operations. -/
namespace Kg
open PySem PySem.Spec PyProof.Rows L2
namespace T
mutual
/-- the children of the element key replaced by cs -/
def setK (key : Str) (cs : List T) : T → T
  | node k ks => if k = key then node k cs else node k (setKs key cs ks)
def setKs (key : Str) (cs : List T) : List T → List T
  | [] => []
  | c :: ks => setK key cs c :: setKs key cs ks
end
theorem setKs_map (key : Str) (cs : List T) : ∀ ks : List T, setKs key cs ks = ks.map (setK key cs)
  | [] => rfl
  | c :: ks => by rw [setKs, List.map_cons, setKs_map key cs ks]
theorem setK_eq (key : Str) (cs : List T) (t : T) : t.setK key cs = if t.key = key then node t.key cs else node t.key (t.kids.map (setK key cs)) := by
  cases t with
  | node k ks => rw [setK, setKs_map, T.key, T.kids]
theorem setK_key (key : Str) (cs : List T) (t : T) : (t.setK key cs).key = t.key := by
  rw [setK_eq]
  split <;> rfl
theorem setK_none (key : Str) (cs : List T) : ∀ t : T, key ∉ t.keys → t.setK key cs = t := by
  refine indT fun t ih h => ?_
  rw [keys_eq, List.mem_cons, not_or] at h
  rw [setK_eq, if_neg (fun z => h.1 z.symm)]
  have : t.kids.map (setK key cs) = t.kids := by
    conv => rhs; rw [← List.map_id t.kids]
    apply List.map_congr_left
    intro c hc
    exact ih c hc fun z => h.2 (List.mem_flatMap.mpr ⟨c, hc, z⟩)
  rw [this]
  cases t with
  | node k ks => rfl
theorem setK_self (cs : List T) (t : T) : t.setK t.key cs = node t.key cs := by rw [setK_eq, if_pos rfl]
/-- the place of an element: what is beside its own row stays -/
theorem hole : ∀ (t : T), t.keys.Nodup → ∀ u ∈ t.pre, ∃ rest : List (Str × List Str), ∀ cs : List T, (t.setK u.key cs).desc.Perm ((u.key, cs.map key) :: (cs.flatMap desc ++ rest)) := by
  refine indT fun t ih nd u hu => ?_
  rcases pre_cases hu with rfl | ⟨c, hc, huc⟩
  · refine ⟨[], fun cs => ?_⟩
    rw [setK_self, desc_eq, List.append_nil]
    exact List.Perm.refl _
  · have uc := mem_pre_keys huc
    have ne : t.key ≠ u.key := fun z => by
      have h1 := nd
      rw [keys_eq, List.nodup_cons] at h1
      exact h1.1 (List.mem_flatMap.mpr ⟨c, hc, by rw [z]; exact uc⟩)
    obtain ⟨A, B, e⟩ := List.append_of_mem hc
    obtain ⟨rest, h⟩ := ih c hc (kid_nodup nd hc) u huc
    have off : ∀ x ∈ A ++ B, u.key ∉ x.keys := fun x hx z => by
      have h1 := nd
      rw [keys_eq, List.nodup_cons, e, List.flatMap_append, List.flatMap_cons] at h1
      have h2 := h1.2
      rw [List.nodup_append] at h2
      obtain ⟨_, h3, h4⟩ := h2
      rw [List.nodup_append] at h3
      rcases List.mem_append.mp hx with hx | hx
      · exact h4 u.key (List.mem_flatMap.mpr ⟨x, hx, z⟩) u.key (List.mem_append_left _ uc) rfl
      · exact h3.2.2 u.key uc u.key (List.mem_flatMap.mpr ⟨x, hx, z⟩) rfl
    refine ⟨(t.key, t.kids.map key) :: (A.flatMap desc ++ (rest ++ B.flatMap desc)), fun cs => ?_⟩
    have eA : A.map (setK u.key cs) = A := by
      conv => rhs; rw [← List.map_id A]
      apply List.map_congr_left
      intro x hx
      exact setK_none _ _ x (off x (List.mem_append_left _ hx))
    have eB : B.map (setK u.key cs) = B := by
      conv => rhs; rw [← List.map_id B]
      apply List.map_congr_left
      intro x hx
      exact setK_none _ _ x (off x (List.mem_append_right _ hx))
    rw [setK_eq, if_neg ne, desc_eq]
    show ((t.key, (t.kids.map (setK u.key cs)).map key) :: (t.kids.map (setK u.key cs)).flatMap desc).Perm _
    have ek : (t.kids.map (setK u.key cs)).map key = t.kids.map key := by
      rw [List.map_map]
      apply List.map_congr_left
      intro x _
      exact setK_key _ _ x
    have em : t.kids.map (setK u.key cs) = A ++ setK u.key cs c :: B := by
      rw [e, List.map_append, List.map_cons, eA, eB]
    rw [ek, em, List.flatMap_append, List.flatMap_cons]
    have h1 := h cs
    clear h off ek em eA eB ih
    generalize (t.key, t.kids.map key) = r0 at *
    generalize (u.key, cs.map key) = r1 at *
    generalize A.flatMap desc = a at *
    generalize B.flatMap desc = b at *
    generalize cs.flatMap desc = d at *
    generalize (setK u.key cs c).desc = x at *
    refine (List.Perm.cons r0 ((h1.append_right b).append_left a)).trans ?_
    have p1 : (r0 :: (a ++ (r1 :: (d ++ rest) ++ b))).Perm (r1 :: (r0 :: (a ++ (d ++ rest ++ b)))) := by
      have : (a ++ (r1 :: (d ++ rest) ++ b)).Perm (r1 :: (a ++ (d ++ rest ++ b))) := List.perm_middle
      exact (this.cons r0).trans (List.Perm.swap r1 r0 _)
    refine p1.trans (List.Perm.cons r1 ?_)
    have p2 : (a ++ (d ++ rest ++ b)).Perm (d ++ (a ++ (rest ++ b))) := by
      have e1 : a ++ (d ++ rest ++ b) = (a ++ d) ++ (rest ++ b) := by simp
      have e2 : d ++ (a ++ (rest ++ b)) = (d ++ a) ++ (rest ++ b) := by simp
      rw [e1, e2]
      exact List.perm_append_comm.append_right _
    refine (p2.cons r0).trans ?_
    exact (List.perm_middle (a := r0) (l₁ := d) (l₂ := a ++ (rest ++ b))).symm
theorem setK_kids (t : T) (nd : t.keys.Nodup) (u : T) (hu : u ∈ t.pre) : t.setK u.key u.kids = t := by
  have : ∀ t : T, t.keys.Nodup → u ∈ t.pre → t.setK u.key u.kids = t := by
    refine indT fun t ih nd hu => ?_
    rcases pre_cases hu with rfl | ⟨c, hc, huc⟩
    · rw [setK_self]
      cases u with
      | node k ks => rfl
    · have ne : t.key ≠ u.key := fun z => by
        have h1 := nd
        rw [keys_eq, List.nodup_cons] at h1
        exact h1.1 (List.mem_flatMap.mpr ⟨c, hc, by rw [z]; exact mem_pre_keys huc⟩)
      rw [setK_eq, if_neg ne]
      have : t.kids.map (setK u.key u.kids) = t.kids := by
        conv => rhs; rw [← List.map_id t.kids]
        apply List.map_congr_left
        intro x hx
        by_cases hux : u ∈ x.pre
        · exact ih x hx (kid_nodup nd hx) hux
        · refine setK_none _ _ x fun z => hux ?_
          obtain ⟨n, hn, e⟩ := List.mem_map.mp z
          have := pre_inj nd (kid_pre hx hn) hu e
          rw [← this]
          exact hn
      rw [this]
      cases t with
      | node k ks => rfl
  exact this t nd hu
/-- an element is taken out of its place -/
theorem out_desc {t u x : T} {A B : List T} (nd : t.keys.Nodup) (hu : u ∈ t.pre) (e : u.kids = A ++ x :: B) : ∃ R : List (Str × List Str),
    t.desc.Perm ((u.key, (A ++ x :: B).map key) :: (x.desc ++ R)) ∧ (t.setK u.key (A ++ B)).desc.Perm ((u.key, (A ++ B).map key) :: R) := by
  obtain ⟨rest, h⟩ := hole t nd u hu
  refine ⟨(A ++ B).flatMap desc ++ rest, ?_, h (A ++ B)⟩
  have h1 := h u.kids
  rw [setK_kids t nd u hu, e] at h1
  refine h1.trans (List.Perm.cons _ ?_)
  rw [List.flatMap_append, List.flatMap_cons, List.flatMap_append]
  have e1 : A.flatMap desc ++ (x.desc ++ B.flatMap desc) ++ rest = (A.flatMap desc ++ x.desc) ++ (B.flatMap desc ++ rest) := by simp
  have e2 : x.desc ++ (A.flatMap desc ++ B.flatMap desc ++ rest) = (x.desc ++ A.flatMap desc) ++ (B.flatMap desc ++ rest) := by simp
  rw [e1, e2]
  exact List.perm_append_comm.append_right _
/-- an element is put in -/
theorem in_desc {t u : T} {A B : List T} (nd : t.keys.Nodup) (hu : u ∈ t.pre) (e : u.kids = A ++ B) : ∃ R : List (Str × List Str),
    t.desc.Perm ((u.key, (A ++ B).map key) :: R) ∧ ∀ y : T, (t.setK u.key (A ++ [y] ++ B)).desc.Perm ((u.key, (A ++ [y] ++ B).map key) :: (y.desc ++ R)) := by
  obtain ⟨rest, h⟩ := hole t nd u hu
  refine ⟨(A ++ B).flatMap desc ++ rest, ?_, fun y => ?_⟩
  · have h1 := h u.kids
    rw [setK_kids t nd u hu, e] at h1
    exact h1
  · refine (h _).trans (List.Perm.cons _ ?_)
    rw [List.flatMap_append, List.flatMap_append, List.flatMap_append, List.flatMap_cons, List.flatMap_nil, List.append_nil]
    have e1 : A.flatMap desc ++ y.desc ++ B.flatMap desc ++ rest = (A.flatMap desc ++ y.desc) ++ (B.flatMap desc ++ rest) := by simp
    have e2 : y.desc ++ (A.flatMap desc ++ B.flatMap desc ++ rest) = (y.desc ++ A.flatMap desc) ++ (B.flatMap desc ++ rest) := by simp
    rw [e1, e2]
    exact List.perm_append_comm.append_right _
theorem Ht.ofSize : ∀ t : T, Ht t.size t := by
  refine indT fun t ih => ?_
  rw [size_eq]
  show ∀ c ∈ t.kids, Ht (sizes t.kids) c
  intro c hc
  refine (ih c hc).more ?_
  have := kid_size hc
  rw [size_eq t] at this
  omega
/-- the elements above an element, by the places of its way -/
theorem Way.cut {t u : T} {ps : List Str} (w : Way t u ps) : ∀ j, j < ps.length → ∃ n ∈ t.pre, Way n u (ps.drop j) := by
  induction w with
  | here t =>
    intro j hj
    have : j = 0 := by simpa using hj
    subst this
    exact ⟨t, self_pre t, .here t⟩
  | down hc w ih =>
    rename_i t c u ps
    intro j hj
    cases j with
    | zero => exact ⟨t, self_pre t, .down hc w⟩
    | succ j =>
      obtain ⟨n, hn, wn⟩ := ih j (by simpa using hj)
      exact ⟨n, kid_pre hc hn, by rw [List.drop_succ_cons]; exact wn⟩
end T
end Kg
/-! GP: operations as data, and which are possible. -/
namespace Kg
open PySem PySem.Spec PyProof.Rows L2
inductive Op where
  | create (k p : Str) (b : Option Str)
  | move (k p : Str) (b : Option Str)
  | remove (k : Str)
def bD : Option Str → PyData
  | none => .none
  | some x => .str x
def bV : Option Str → V
  | none => .non
  | some x => .str x
theorem bV_dp {K : PySem.W.Frag} {G : Hp} : ∀ b, Dp K G (bV b) (bD b)
  | none => .non
  | some x => .str x
theorem bV_at {K : PySem.W.Frag} {G : Hp} {v : V} : ∀ b, Dp K G v (bD b) → v = bV b
  | none, h => by cases h; rfl
  | some x, h => by cases h; rfl
def Op.d : Op → PyData
  | .create k p b => .tuple [.str "create", .str k, .str p, bD b]
  | .move k p b => .tuple [.str "move", .str k, .str p, bD b]
  | .remove k => .tuple [.str "remove", .str k]
theorem op4_at {K : PySem.W.Frag} {G : Hp} {v : V} {w k p : Str} {b : Option Str} (h : Dp K G v (.tuple [.str w, .str k, .str p, bD b])) : ∃ a, v = .ref a ∧ SqT K G a [.str w, .str k, .str p, bV b] := by
  obtain ⟨a, xs, rfl, h1, h2⟩ := h.tup_at
  cases h2 with
  | cons q1 h2 => cases q1; cases h2 with
    | cons q2 h2 => cases q2; cases h2 with
      | cons q3 h2 => cases q3; cases h2 with
        | cons q4 h2 =>
          cases h2
          rw [bV_at b q4] at h1
          exact ⟨a, rfl, h1⟩
theorem op2_at {K : PySem.W.Frag} {G : Hp} {v : V} {w k : Str} (h : Dp K G v (.tuple [.str w, .str k])) : ∃ a, v = .ref a ∧ SqT K G a [.str w, .str k] := by
  obtain ⟨a, xs, rfl, h1, h2⟩ := h.tup_at
  cases h2 with
  | cons q1 h2 => cases q1; cases h2 with
    | cons q2 h2 =>
      cases q2
      cases h2
      exact ⟨a, rfl, h1⟩
def Op.row : Op → List V
  | .create k p b => [.str "create", .str k, .str p, bV b]
  | .move k p b => [.str "move", .str k, .str p, bV b]
  | .remove k => [.str "remove", .str k]
theorem Op.at_ {K : PySem.W.Frag} {G : Hp} {v : V} : ∀ {o : Op}, Dp K G v o.d → ∃ a, v = .ref a ∧ SqT K G a o.row
  | .create _ _ _, h => op4_at h
  | .move _ _ _, h => op4_at h
  | .remove _, h => op2_at h
namespace T
def hasUp (t : T) (k : Str) : Bool := decide (k ∈ t.edges.map (·.1))
def place (t : T) (p : Str) (b : Option Str) : Bool := decide (p ∈ t.keys) && (match b with | none => true | some x => decide ((x, p) ∈ t.edges))
/-- the element p is inside the element k, or is it -/
def under (t : T) (k p : Str) : Bool := t.pre.any fun n => decide (n.key = k) && decide (p ∈ n.keys)
def poss (t : T) : Op → Bool
  | .create k p b => !decide (k ∈ t.keys) && t.place p b
  | .move k p b => t.hasUp k && t.place p b && (!decide (b = some k) && !t.under k p)
  | .remove k => t.hasUp k
theorem below_key {t : T} {k : Str} (h : t.hasUp k = true) : k ∈ t.keys := by
  have : k ∈ t.edges.map (·.1) := of_decide_eq_true h
  exact (edges_perm t).mem_iff.mp (List.mem_cons_of_mem _ this)
end T
/-- what the dict of parents tells of a key -/
theorem parD_get {t : T} (nd : t.keys.Nodup) (k : Str) : (∃ y, (k, y) ∈ t.edges ∧ valV (parD t t.edges) (Sum.inr k) = some (.str y)) ∨
    (k = t.key ∧ valV (parD t t.edges) (Sum.inr k) = some .non ∧ ∀ y, (k, y) ∉ t.edges) ∨ (k ∉ t.keys ∧ valV (parD t t.edges) (Sum.inr k) = none ∧ ∀ y, (k, y) ∉ t.edges) := by
  by_cases h : k ∈ t.edges.map (·.1)
  · obtain ⟨⟨x, y⟩, hm, rfl⟩ := List.mem_map.mp h
    exact .inl ⟨y, hm, parD_edge nd hm⟩
  · have no : ∀ y, (k, y) ∉ t.edges := fun y hy => h (List.mem_map.mpr ⟨_, hy, rfl⟩)
    by_cases e : k = t.key
    · exact .inr (.inl ⟨e, by rw [e]; exact parD_root t _, no⟩)
    · refine .inr (.inr ⟨fun z => ?_, ?_, no⟩)
      · rcases List.mem_cons.mp ((T.edges_perm t).mem_iff.mpr z) with z | z
        · exact e z
        · exact h z
      · unfold parD
        have ne : ¬ (Sum.inr t.key : L2.Key) = Sum.inr k := fun z => by
          injection z with z
          exact e z.symm
        rw [valV_neg ne]
        exact valV_map_str k _ no
theorem below_of {t : T} {k y : Str} (h : (k, y) ∈ t.edges) : t.hasUp k = true := decide_eq_true (List.mem_map.mpr ⟨_, h, rfl⟩)
theorem below_no {t : T} {k : Str} (h : ∀ y, (k, y) ∉ t.edges) : t.hasUp k = false := decide_eq_false fun z => by
  obtain ⟨⟨x, y⟩, hm, rfl⟩ := List.mem_map.mp z
  exact h y hm
theorem under_way {t u : T} {ps : List Str} {k : Str} (nd : t.keys.Nodup) (w : T.Way t u ps) : t.under k u.key = decide (k ∈ ps) := by
  have hu := w.mem
  by_cases h : k ∈ ps
  · rw [decide_eq_true h]
    obtain ⟨n, hn, e⟩ := List.mem_map.mp (w.keys k h)
    subst e
    refine List.any_eq_true.mpr ⟨n, hn, ?_⟩
    rw [decide_eq_true rfl, decide_eq_true (T.mem_pre_keys ((w.mem_iff nd hn).mp h))]
    rfl
  · rw [decide_eq_false h]
    refine List.any_eq_false.mpr fun n hn z => h ?_
    rw [Bool.and_eq_true, decide_eq_true_eq, decide_eq_true_eq] at z
    obtain ⟨rfl, z2⟩ := z
    obtain ⟨m, hm, e⟩ := List.mem_map.mp z2
    have : m = u := T.pre_inj nd (T.pre_trans t n hn hm) hu e
    exact (w.mem_iff nd hn).mpr (this ▸ hm)
theorem place_key {t : T} {p : Str} {b : Option Str} (h : t.place p b = true) : p ∈ t.keys := by
  unfold T.place at h
  rw [Bool.and_eq_true] at h
  exact of_decide_eq_true h.1
theorem key_node {t : T} {p : Str} (h : p ∈ t.keys) : ∃ u ∈ t.pre, u.key = p := by
  obtain ⟨u, hu, e⟩ := List.mem_map.mp h
  exact ⟨u, hu, e⟩
theorem cut_1 (x : V) (xs : List V) : cutV (x :: xs) (some 1) none = xs := by
  have := cut_from (x :: xs) 1
  simpa using this
theorem sIx_1 (n : Nat) : HT.sIx (n + 1) 0 (some 1) ≠ 0 := by
  show (if (1 : Int) < 0 then ((1 : Int) + ((n + 1 : Nat) : Int)).toNat else min (1 : Int).toNat (n + 1)) ≠ 0
  rw [if_neg (by decide)]
  have : (1 : Int).toNat = 1 := rfl
  rw [this]
  omega
section
variable {K : PySem.W.Frag} {σ : L2.St} {G H : Hp}
/-- d[k], a value that is data -/
theorem em_dget {i j : Nat} {p : Addr} {k : Str} {kvs : List (L2.Key × V)} {v : V} {d : PyData} (hp : G p = some (.dK kvs)) (hv : valV kvs (Sum.inr k) = some v) (hd : Dp K G v d)
    (hi : σ[i]? = some (some (.ref p))) (hj : σ[j]? = some (some (.str k))) : EvM K (tDGet (tVar i) (tVar j)) σ G H d := fun G1 H1 g Q q => by
  refine ⟨.ref p, hi, .str k, hj, p, v, rfl, ?_, q H1 G1 _ (.refl g.i) (Dp.same g.g _ _ hd)⟩
  have := DGet.k (k := Sum.inr k) (g.into _ _ hp)
  rw [hv] at this
  exact this
end
namespace T
/-- an ancestor's children, the one on the way replaced -/
theorem setK_up {t n c u : T} {cs : List T} (nd : t.keys.Nodup) (hn : n ∈ t.pre) (hc : c ∈ n.kids) (hu : u ∈ c.pre) :
    n.setK u.key cs = node n.key (n.kids.map fun x => if x.key = c.key then c.setK u.key cs else x) := by
  have ht : ∀ {x y : T}, x ∈ n.kids → y ∈ x.pre → y ∈ t.pre := fun hx hy => pre_trans t n hn (kid_pre hx hy)
  have ndn : n.keys.Nodup := by
    have : ∀ t : T, t.keys.Nodup → n ∈ t.pre → n.keys.Nodup := by
      refine indT fun t ih nd hn => ?_
      rcases pre_cases hn with rfl | ⟨c, hc, h⟩
      · exact nd
      · exact ih c hc (kid_nodup nd hc) h
    exact this t nd hn
  have ne : n.key ≠ u.key := fun z => by
    have h1 := ndn
    rw [keys_eq, List.nodup_cons] at h1
    exact h1.1 (List.mem_flatMap.mpr ⟨c, hc, by rw [z]; exact mem_pre_keys hu⟩)
  rw [setK_eq, if_neg ne]
  congr 1
  apply List.map_congr_left
  intro x hx
  by_cases e : x.key = c.key
  · rw [if_pos e]
    have : x = c := pre_inj nd (ht hx (self_pre x)) (ht hc (self_pre c)) e
    rw [this]
  · rw [if_neg e]
    refine setK_none _ _ x fun z => e ?_
    obtain ⟨m, hm, em⟩ := List.mem_map.mp z
    have hmu : m = u := pre_inj nd (ht hx hm) (ht hc hu) em
    subst hmu
    -- two children with a common element
    obtain ⟨ps, w1⟩ := way_of x m hm
    obtain ⟨qs, w2⟩ := way_of c m hu
    have := way_inj ndn (.down hx w1) (.down hc w2)
    injection this with _ h2
    obtain ⟨r1, e1⟩ := w1.head
    obtain ⟨r2, e2⟩ := w2.head
    rw [e1, e2] at h2
    injection h2
theorem Way.cut2 {t u : T} {ps : List Str} (w : Way t u ps) : ∀ j, j + 1 < ps.length → ∃ n ∈ t.pre, ∃ c ∈ n.kids, n.key = ps.getD j "" ∧ Way n u (ps.drop j) ∧ Way c u (ps.drop (j + 1)) := by
  induction w with
  | here t =>
    intro j hj
    simp at hj
  | down hc w ih =>
    rename_i t c u ps
    intro j hj
    cases j with
    | zero => exact ⟨t, self_pre t, c, hc, rfl, .down hc w, w⟩
    | succ j =>
      obtain ⟨n, hn, c', hc', e, w1, w2⟩ := ih j (by simpa using hj)
      exact ⟨n, kid_pre hc hn, c', hc', e, w1, w2⟩
end T
theorem DpAll.takes {K : PySem.W.Frag} {H : Hp} : ∀ (n : Nat) {vs : List V} {ds : List PyData}, DpAll K H vs ds → DpAll K H (vs.take n) (ds.take n)
  | 0, _, _, _ => by rw [List.take_zero, List.take_zero]; exact .nil
  | n + 1, _, _, .nil => .nil
  | n + 1, _, _, .cons a b => .cons a (DpAll.takes n b)
theorem DpAll.drops {K : PySem.W.Frag} {H : Hp} : ∀ (n : Nat) {vs : List V} {ds : List PyData}, DpAll K H vs ds → DpAll K H (vs.drop n) (ds.drop n)
  | 0, _, _, h => h
  | n + 1, _, _, .nil => .nil
  | n + 1, _, _, .cons a b => DpAll.drops n b
section
variable {K : PySem.W.Frag} {σ : L2.St} {G H : Hp} {te tf : TE} {ds es : List PyData}
/-- t[:i], t[i:] of a tuple -/
theorem em_toT {i : Nat} (h : EvM K te σ G H (.tuple ds)) (hi : EvM K tf σ G H (.int (i : Int))) : EvM K (tSl (rSlA K) te tNoPart (tPart tf)) σ G H (.tuple (ds.take i)) := fun G1 H1 g Q q =>
  h G1 H1 g _ fun H2 G2 u g2 hu => hi G2 H2 (g.tr g2) _ fun H3 G3 y g3 hy => by
    cases hy
    obtain ⟨a, xs, rfl, ha, hx⟩ := hu.tup_at
    have ha3 := Same.seqT g3.g ha
    have hx3 := DpAll.same g3.g _ _ hx
    refine ⟨(i : Int), rfl, a, xs, rfl, Same.seqT g3.i ha3, fun z => ?_, fun _ p np => ?_⟩
    · have h2 := z.2
      rw [HT.sIx_nat] at h2
      have hl := hx.length
      have : ds.take i = ds := List.take_of_length_le (by omega)
      rw [this] at q
      exact q H3 G3 _ (g2.tr g3) (.tup ha3 hx3)
    · rw [cut_to]
      exact q _ (upd G3 p (.tup (xs.take i))) _ ((g2.tr g3).tr (.add g3.i np)) (.tup (sqT upd_same) (DpAll.same (Same.new (g3.i.free np)) _ _ (DpAll.takes i hx3)))
theorem em_fromT {i : Nat} (h : EvM K te σ G H (.tuple ds)) (hi : EvM K tf σ G H (.int (i : Int))) : EvM K (tSl (rSlA K) te (tPart tf) tNoPart) σ G H (.tuple (ds.drop i)) := fun G1 H1 g Q q =>
  h G1 H1 g _ fun H2 G2 u g2 hu => hi G2 H2 (g.tr g2) _ fun H3 G3 y g3 hy => by
    cases hy
    obtain ⟨a, xs, rfl, ha, hx⟩ := hu.tup_at
    have ha3 := Same.seqT g3.g ha
    have hx3 := DpAll.same g3.g _ _ hx
    refine ⟨(i : Int), rfl, a, xs, rfl, Same.seqT g3.i ha3, fun z => ?_, fun _ p np => ?_⟩
    · have h2 := z.1
      rw [HT.sIx_nat] at h2
      have hl := hx.length
      have : ds.drop i = ds := by
        by_cases e : i = 0
        · rw [e, List.drop_zero]
        · have : xs.length = 0 := by omega
          have e2 : ds = [] := List.eq_nil_of_length_eq_zero (by omega)
          rw [e2, List.drop_nil]
      rw [this] at q
      exact q H3 G3 _ (g2.tr g3) (.tup ha3 hx3)
    · rw [cut_from]
      exact q _ (upd G3 p (.tup (xs.drop i))) _ ((g2.tr g3).tr (.add g3.i np)) (.tup (sqT upd_same) (DpAll.same (Same.new (g3.i.free np)) _ _ (DpAll.drops i hx3)))
theorem em_catT (h : EvM K te σ G H (.tuple ds)) (h' : EvM K tf σ G H (.tuple es)) (few : ds.length + es.length ≤ 100000) : EvM K (tOp (rCatA K) te tf) σ G H (.tuple (ds ++ es)) := fun G1 H1 g Q q =>
  h G1 H1 g _ fun H2 G2 u g2 hu => h' G2 H2 (g.tr g2) _ fun H3 G3 y g3 hy => by
    obtain ⟨a, xs, rfl, ha, hx⟩ := hu.tup_at
    obtain ⟨b, ys, rfl, hb, hy⟩ := hy.tup_at
    have ha3 := Same.seqT g3.g ha
    have hx3 := DpAll.same g3.g _ _ hx
    have hlx := hx.length
    have hly := hy.length
    refine ⟨a, b, xs, ys, rfl, rfl, Same.seqT g3.i ha3, Same.seqT g3.i hb, Nat.le_trans (by omega) (show 100000 ≤ sizeLine by decide), fun e => ?_, fun _ e => ?_, fun _ _ p np => ?_⟩
    · subst e
      cases hx
      exact q H3 G3 _ (g2.tr g3) (.tup hb hy)
    · subst e
      cases hy
      rw [List.append_nil] at q
      exact q H3 G3 _ (g2.tr g3) (.tup ha3 hx3)
    · exact q _ (upd G3 p (.tup (xs ++ ys))) _ ((g2.tr g3).tr (.add g3.i np)) (.tup (sqT upd_same) (DpAll.same (Same.new (g3.i.free np)) _ _ (hx3.append hy)))
end
/-- the place ahead of which: the end, or the child of that key -/
def AtB : Option Str → List T → Prop
  | none, B => B = []
  | some x, B => ∃ c B', B = c :: B' ∧ c.key = x
/-- taken out -/
def Out (t : T) (x t1 : T) : Prop := ∃ u ∈ t.pre, ∃ A B, u.kids = A ++ x :: B ∧ t1 = t.setK u.key (A ++ B)
/-- put in -/
def In (t : T) (y : T) (p : Str) (b : Option Str) (t2 : T) : Prop := ∃ u ∈ t.pre, u.key = p ∧ ∃ A B, u.kids = A ++ B ∧ AtB b B ∧ t2 = t.setK p (A ++ [y] ++ B)
/-- behind an operation -/
def After (t : T) : Op → T → Prop
  | .create k p b, t2 => In t (.node k []) p b t2
  | .move k p b, t2 => ∃ x t1, x.key = k ∧ Out t x t1 ∧ In t1 x p b t2
  | .remove k, t2 => ∃ x, x.key = k ∧ Out t x t2
theorem kids_nodup {t u : T} (nd : t.keys.Nodup) (hu : u ∈ t.pre) : (u.kids.map T.key).Nodup := by
  have : ∀ t : T, t.keys.Nodup → u ∈ t.pre → (u.kids.map T.key).Nodup := by
    refine T.indT fun t ih nd hn => ?_
    rcases T.pre_cases hn with rfl | ⟨c, hc, h⟩
    · rw [T.keys_eq, List.nodup_cons] at nd
      have h2 := nd.2
      clear nd ih hn hu
      generalize u.kids = cs at h2
      induction cs with
      | nil => exact List.nodup_nil
      | cons c cs ih =>
        rw [List.flatMap_cons, List.nodup_append] at h2
        rw [List.map_cons, List.nodup_cons]
        refine ⟨fun z => ?_, ih h2.2.1⟩
        obtain ⟨d, hd, e⟩ := List.mem_map.mp z
        exact h2.2.2 c.key (T.mem_pre_keys (T.self_pre c)) c.key (List.mem_flatMap.mpr ⟨d, hd, by rw [← e]; exact T.mem_pre_keys (T.self_pre d)⟩) rfl
    · exact ih c hc (T.kid_nodup nd hc) h
  exact this t nd hu
theorem eqV_strs (a b : Str) : eqV (.str a) (.str b) = decide (a = b) := by
  show (a == b) = _
  by_cases h : a = b
  · rw [decide_eq_true h, h]
    simp
  · rw [decide_eq_false h]
    simpa using h
/-- keys are not longer when an element is taken out, and lie among the old ones -/
theorem out_keys {t x t1 : T} (nd : t.keys.Nodup) (h : Out t x t1) : t.keys.Perm (x.keys ++ t1.keys) ∧ t1.key = t.key ∧ x ∈ t.pre ∧ t1.keys.Nodup := by
  obtain ⟨u, hu, A, B, e, rfl⟩ := h
  obtain ⟨R, h1, h2⟩ := T.out_desc nd hu e
  have k1 := h1.map (·.1)
  have k2 := h2.map (·.1)
  rw [T.desc_keys] at k1 k2
  have k1 : t.keys.Perm (u.key :: (x.keys ++ R.map (·.1))) := by
    rw [List.map_cons, List.map_append (l₁ := x.desc), T.desc_keys] at k1
    exact k1
  have k2 : (t.setK u.key (A ++ B)).keys.Perm (u.key :: R.map (·.1)) := k2
  have hp : t.keys.Perm (x.keys ++ (t.setK u.key (A ++ B)).keys) := by
    refine k1.trans ?_
    refine List.perm_middle.symm.trans ?_
    exact k2.symm.append_left _
  refine ⟨hp, T.setK_key _ _ _, T_kid_in hu (by rw [e]; exact List.mem_append_right _ (List.mem_cons_self ..)), ?_⟩
  have := hp.nodup_iff.mp nd
  rw [List.nodup_append] at this
  exact this.2.1
theorem in_keys {t y t2 : T} {p : Str} {b : Option Str} (nd : t.keys.Nodup) (h : In t y p b t2) : t2.keys.Perm (y.keys ++ t.keys) ∧ t2.key = t.key := by
  obtain ⟨u, hu, rfl, A, B, e, _, rfl⟩ := h
  obtain ⟨R, h1, h2⟩ := T.in_desc nd hu e
  have k1 := h1.map (·.1)
  have k2 := (h2 y).map (·.1)
  rw [T.desc_keys] at k1 k2
  have k1 : t.keys.Perm (u.key :: R.map (·.1)) := k1
  have k2 : (t.setK u.key (A ++ [y] ++ B)).keys.Perm (u.key :: (y.keys ++ R.map (·.1))) := by
    rw [List.map_cons, List.map_append (l₁ := y.desc), T.desc_keys] at k2
    exact k2
  refine ⟨?_, T.setK_key _ _ _⟩
  refine k2.trans ?_
  refine List.perm_middle.symm.trans ?_
  exact k1.symm.append_left _
/-! ### keys and operations by their form -/
def isKeyS (k : Str) : Bool := decide (1 ≤ k.length) && decide (k.length ≤ 8) && k.cps.toList.all fun c => decide (c ∈ abc.cps.toList)
def Op.ok : Op → Bool
  | .create k p b => isKeyS k && isKeyS p && (match b with | none => true | some x => isKeyS x)
  | .move k p b => isKeyS k && isKeyS p && (match b with | none => true | some x => isKeyS x)
  | .remove k => isKeyS k
/-- the trees that operations lead through -/
structure Steps (t : T) (os : List Op) (ts : List T) : Prop where
  len : ts.length = os.length + 1
  first : ts[0]? = some t
  each : ∀ (i : Nat) (o : Op) (a b : T), os[i]? = some o → ts[i]? = some a → ts[i + 1]? = some b → a.poss o = true ∧ After a o b
  few : ∀ a ∈ ts, a.size ≤ 1000
  nd : ∀ a ∈ ts, a.keys.Nodup
theorem out_size {t x t1 : T} (nd : t.keys.Nodup) (h : Out t x t1) : t1.size ≤ t.size := by
  have := (out_keys nd h).1.length_eq
  rw [List.length_append, T.keys_len, T.keys_len, T.keys_len] at this
  omega
end Kg
/-! GQ: kinds of data. -/
namespace Kg
open PySem PySem.Spec PyProof.Rows L2
theorem tyX_tup {K : PySem.W.Frag} {H : Hp} {a : Addr} {xs : List V} (h : SqT K H a xs) : TyX K H (.ref a) (.type "tuple") := by
  rcases h with (h | ⟨o, h⟩) | ⟨o, its, n, h, c, _⟩
  · exact .base (.tup h)
  · exact .fTuple h
  · exact .kTuple h c
theorem tyX_lst {K : PySem.W.Frag} {H : Hp} {a : Addr} {xs : List V} (h : SqL K H a xs) : TyX K H (.ref a) (.type "list") := by
  rcases h with (h | ⟨o, h⟩) | ⟨o, its, n, h, c, _⟩
  · exact .base (.lst h)
  · exact .base (.frz h)
  · exact .kList h c
theorem dp_bools {K : PySem.W.Frag} {G : Hp} : ∀ (bs : List Bool) (ys : List V), DpAll K G ys (bs.map PyData.bool) → ys = bs.map V.bl
  | [], _, h => by
    cases h
    rfl
  | b :: bs, _, h => by
    cases h with
    | cons h1 h2 =>
      cases h1
      exact congrArg _ (dp_bools bs _ h2)
theorem last_at {xs : List V} {n : Nat} {v : V} (h : xs[n]? = some v) (hl : xs.length = n + 1) : atI xs (-1) = some v := by
  have e : xs.take (n + 1) = xs.take n ++ [v] := by
    rw [List.take_succ, h]
    rfl
  rw [List.take_of_length_le (by omega)] at e
  rw [e]
  exact atI_last _ _
end Kg
/-! GR: rows of a tree, edited. -/
namespace Kg
open PySem PySem.Spec PyProof.Rows L2
abbrev Row := Str × Addr × List Str
def editRow (k : Str) (f : List Str → List Str) (e : Str × List Str) : Str × List Str := if e.1 = k then (e.1, f e.2) else e
def editR (k : Str) (f : List Str → List Str) (e : Row) : Row := if e.1 = k then (e.1, e.2.1, f e.2.2) else e
theorem editR_1 (k : Str) (f : List Str → List Str) (e : Row) : (editR k f e).1 = e.1 := by
  unfold editR
  split <;> rfl
theorem editR_2 (k : Str) (f : List Str → List Str) (e : Row) : (editR k f e).2.1 = e.2.1 := by
  unfold editR
  split <;> rfl
def rowOf (e : Row) : Str × List Str := (e.1, e.2.2)
theorem editR_row (k : Str) (f : List Str → List Str) (e : Row) : rowOf (editR k f e) = editRow k f (rowOf e) := by
  unfold editR editRow rowOf
  by_cases h : e.1 = k
  · rw [if_pos h, if_pos h]
  · rw [if_neg h, if_neg h]
theorem rows_edit (k : Str) (f : List Str → List Str) (rs : List Row) : (rs.map (editR k f)).map rowOf = (rs.map rowOf).map (editRow k f) := by
  rw [List.map_map, List.map_map]
  apply List.map_congr_left
  intro e _
  exact editR_row k f e
theorem rowsD_edit (k : Str) (f : List Str → List Str) (rs : List Row) : rowsD (rs.map (editR k f)) = rowsD rs := by
  unfold rowsD
  rw [List.map_map]
  apply List.map_congr_left
  intro e _
  show (Sum.inr (editR k f e).1, V.ref (editR k f e).2.1) = _
  rw [editR_1, editR_2]
theorem keys_edit (k : Str) (f : List Str → List Str) (rs : List Row) : (rs.map (editR k f)).map (·.1) = rs.map (·.1) := by
  rw [List.map_map]
  apply List.map_congr_left
  intro e _
  exact editR_1 k f e
theorem addrs_edit (k : Str) (f : List Str → List Str) (rs : List Row) : (rs.map (editR k f)).map (·.2.1) = rs.map (·.2.1) := by
  rw [List.map_map]
  apply List.map_congr_left
  intro e _
  exact editR_2 k f e
theorem edit_no {k : Str} {f : List Str → List Str} : ∀ {l : List (Str × List Str)}, k ∉ l.map (·.1) → l.map (editRow k f) = l
  | [], _ => rfl
  | e :: l, h => by
    rw [List.map_cons, List.mem_cons, not_or] at h
    rw [List.map_cons, edit_no h.2]
    unfold editRow
    rw [if_neg (fun z => h.1 z.symm)]
theorem key_row {k : Str} {f : List Str → List Str} {cs : List Str} : editRow k f (k, cs) = (k, f cs) := by
  unfold editRow
  rw [if_pos rfl]
theorem nodup_at {rs : List Row} (nd : (rs.map (·.1)).Nodup) {e e' : Row} (h : e ∈ rs) (h' : e' ∈ rs) (he : e.1 = e'.1) : e = e' := by
  obtain ⟨i, hi, rfl⟩ := List.getElem_of_mem h
  obtain ⟨j, hj, rfl⟩ := List.getElem_of_mem h'
  have : i = j := by
    have h1 : i < (rs.map (·.1)).length := by rw [List.length_map]; exact hi
    have h2 : j < (rs.map (·.1)).length := by rw [List.length_map]; exact hj
    refine (List.getElem?_inj h1 nd).mp ?_
    rw [List.getElem?_eq_getElem h1, List.getElem?_eq_getElem h2, List.getElem_map, List.getElem_map, he]
  subst this
  rfl
theorem nodup_ad {rs : List Row} (nd : (rs.map (·.2.1)).Nodup) {e e' : Row} (h : e ∈ rs) (h' : e' ∈ rs) (he : e.2.1 = e'.2.1) : e = e' := by
  obtain ⟨i, hi, rfl⟩ := List.getElem_of_mem h
  obtain ⟨j, hj, rfl⟩ := List.getElem_of_mem h'
  have : i = j := by
    have h1 : i < (rs.map (·.2.1)).length := by rw [List.length_map]; exact hi
    have h2 : j < (rs.map (·.2.1)).length := by rw [List.length_map]; exact hj
    refine (List.getElem?_inj h1 nd).mp ?_
    rw [List.getElem?_eq_getElem h1, List.getElem?_eq_getElem h2, List.getElem_map, List.getElem_map, he]
  subst this
  rfl
/-- the list of one row is changed -/
theorem lists_edit {H : Hp} {p : Addr} {rs : List Row} {k : Str} {a : Addr} {cs : List Str} {f : List Str → List Str} (h : Lists H p rs) (nk : (rs.map (·.1)).Nodup) (na : (rs.map (·.2.1)).Nodup) (hm : (k, a, cs) ∈ rs) :
    Lists (upd H a (.lst ((f cs).map V.str))) p (rs.map (editR k f)) := by
  refine ⟨?_, fun e he => ?_⟩
  · rw [rowsD_edit, upd_ne (h.ne hm).symm]
    exact h.1
  · obtain ⟨e0, he0, rfl⟩ := List.mem_map.mp he
    by_cases z : e0.1 = k
    · have : e0 = (k, a, cs) := nodup_at nk he0 hm z
      subst this
      unfold editR
      rw [if_pos rfl]
      exact upd_same
    · have e1 : editR k f e0 = e0 := by
        unfold editR
        rw [if_neg z]
      rw [e1, upd_ne (fun y => z (by rw [nodup_ad na he0 hm y]))]
      exact h.2 e0 he0
theorem LT.rowOf {rs : List Row} {t : T} (h : LT rs t) : (rs.map Kg.rowOf).Perm t.desc := h
/-- an element with no children is put in -/
theorem lt_create {rs : List Row} {t u : T} {A B : List T} {k : Str} (lt : LT rs t) (nd : t.keys.Nodup) (hu : u ∈ t.pre) (e : u.kids = A ++ B) (a : Addr) :
    LT (rs.map (editR u.key fun cs => cs.take A.length ++ [k] ++ cs.drop A.length) ++ [(k, a, [])]) (t.setK u.key (A ++ [T.node k []] ++ B)) := by
  obtain ⟨R, h1, h2⟩ := T.in_desc nd hu e
  have hn : u.key ∉ R.map (·.1) := by
    have := (h1.map (·.1))
    rw [T.desc_keys] at this
    have := this.nodup_iff.mp nd
    rw [List.map_cons, List.nodup_cons] at this
    exact this.1
  unfold LT
  show ((rs.map (editR u.key _) ++ [(k, a, [])]).map Kg.rowOf).Perm _
  rw [List.map_append, rows_edit]
  refine (((lt.rowOf.trans h1).map _).append_right _).trans ?_
  rw [List.map_cons, key_row, edit_no hn]
  refine List.Perm.trans ?_ (h2 (T.node k [])).symm
  have e1 : ((A ++ B).map T.key).take A.length ++ [k] ++ ((A ++ B).map T.key).drop A.length = (A ++ [T.node k []] ++ B).map T.key := by
    rw [List.map_append, List.map_append, List.map_append]
    have : (A.map T.key).length = A.length := List.length_map ..
    rw [← this, List.take_left, List.drop_left]
    rfl
  rw [e1, T.leaf_desc]
  show ((_ :: R) ++ [(k, [])]).Perm (_ :: ((k, []) :: R))
  rw [List.cons_append]
  exact (List.perm_append_singleton (k, []) R).cons _
/-- the rows behind an element that is taken out -/
theorem lt_out {rs : List Row} {t u x : T} {A B : List T} (lt : LT rs t) (nd : t.keys.Nodup) (hu : u ∈ t.pre) (e : u.kids = A ++ x :: B) :
    ((rs.map (editR u.key fun cs => cs.eraseIdx A.length)).map Kg.rowOf).Perm (x.desc ++ (t.setK u.key (A ++ B)).desc) := by
  obtain ⟨R, h1, h2⟩ := T.out_desc nd hu e
  have hn : u.key ∉ (x.desc ++ R).map (·.1) := by
    have := (h1.map (·.1))
    rw [T.desc_keys] at this
    have := this.nodup_iff.mp nd
    rw [List.map_cons, List.nodup_cons] at this
    exact this.1
  rw [rows_edit]
  refine ((lt.rowOf.trans h1).map _).trans ?_
  rw [List.map_cons, key_row, edit_no hn]
  have e1 : ((A ++ x :: B).map T.key).eraseIdx A.length = (A ++ B).map T.key := by
    rw [List.map_append, List.map_append, List.map_cons]
    have : (A.map T.key).length = A.length := List.length_map ..
    rw [← this, List.eraseIdx_append_of_length_le (Nat.le_refl _), Nat.sub_self]
    rfl
  rw [e1]
  refine List.perm_middle.symm.trans ?_
  exact h2.symm.append_left _
/-- .. and put in again -/
theorem lt_move {rs : List Row} {t1 u x : T} {A B : List T} (h : (rs.map Kg.rowOf).Perm (x.desc ++ t1.desc)) (nd : t1.keys.Nodup) (hu : u ∈ t1.pre) (off : u.key ∉ x.keys) (e : u.kids = A ++ B) :
    LT (rs.map (editR u.key fun cs => cs.take A.length ++ [x.key] ++ cs.drop A.length)) (t1.setK u.key (A ++ [x] ++ B)) := by
  obtain ⟨R, h1, h2⟩ := T.in_desc nd hu e
  have hn : u.key ∉ R.map (·.1) := by
    have := (h1.map (·.1))
    rw [T.desc_keys] at this
    have := this.nodup_iff.mp nd
    rw [List.map_cons, List.nodup_cons] at this
    exact this.1
  unfold LT
  show ((rs.map (editR u.key _)).map Kg.rowOf).Perm _
  rw [rows_edit]
  refine ((h.trans (h1.append_left _)).map _).trans ?_
  rw [List.map_append, List.map_cons, key_row, edit_no hn, edit_no (by rw [T.desc_keys]; exact off)]
  refine List.Perm.trans ?_ (h2 x).symm
  have e1 : ((A ++ B).map T.key).take A.length ++ [x.key] ++ ((A ++ B).map T.key).drop A.length = (A ++ [x] ++ B).map T.key := by
    rw [List.map_append, List.map_append, List.map_append]
    have : (A.map T.key).length = A.length := List.length_map ..
    rw [← this, List.take_left, List.drop_left]
    rfl
  rw [e1]
  exact List.perm_middle
/-- the rows hold those of a tree -/
def Has (rs : List Row) (t : T) : Prop := ∀ n ∈ t.pre, ∃ a, (n.key, a, n.kids.map T.key) ∈ rs
theorem LT.has {rs : List Row} {t : T} (h : LT rs t) : Has rs t := fun n hn => h.row hn
theorem has_of {rs : List Row} {t x : T} (h : (rs.map Kg.rowOf).Perm (x.desc ++ t.desc)) : Has rs t := fun n hn => by
  have : (n.key, n.kids.map T.key) ∈ t.desc := List.mem_map.mpr ⟨n, hn, rfl⟩
  have := h.mem_iff.mpr (List.mem_append_right _ this)
  obtain ⟨⟨k, a, cs⟩, hr, e⟩ := List.mem_map.mp this
  injection e with e1 e2
  refine ⟨a, ?_⟩
  have e1 : k = n.key := e1
  have e2 : cs = n.kids.map T.key := e2
  rw [← e1, ← e2]
  exact hr
theorem mergeK_new : ∀ (more acc : List (L2.Key × V)), ((acc ++ more).map (·.1)).Nodup → mergeK acc more = acc ++ more
  | [], acc, _ => by
    rw [List.append_nil]
    rfl
  | (k, v) :: more, acc, h => by
    show mergeK (putK acc k v) more = _
    have hv : valV acc k = none := by
      have : k ∉ acc.map (·.1) := fun z => by
        rw [List.map_append, List.map_cons, List.nodup_append] at h
        exact h.2.2 k z k (List.mem_cons_self ..) rfl
      clear h
      induction acc with
      | nil => rfl
      | cons e acc ih =>
        rw [List.map_cons, List.mem_cons, not_or] at this
        rw [valV_neg (fun z => this.1 z.symm)]
        exact ih this.2
    rw [putK_new v hv, mergeK_new more (acc ++ [(k, v)]) (by
      rw [List.append_assoc]
      exact h), List.append_assoc]
    rfl
end Kg
namespace Kg
open PySem PySem.Spec PyProof.Rows L2
theorem paired_rows {K : PySem.W.Frag} {H : Hp} : ∀ (cs : List (Addr × Row)), (∀ e ∈ cs, H e.1 = some (.tup [.str e.2.1, .ref e.2.2.1])) → Paired (fun p kv => SqT K H p [kV kv.1, kv.2]) (cs.map (·.1)) (rowsD (cs.map (·.2)))
  | [], _ => .nil
  | e :: cs, h => .cons (sqT (h e (List.mem_cons_self ..))) (paired_rows cs fun e' he => h e' (List.mem_cons_of_mem _ he))
theorem rowsD_nodup {rs : List Row} (h : (rs.map (·.1)).Nodup) : ((rowsD rs).map (·.1)).Nodup := by
  have : (rowsD rs).map (·.1) = (rs.map (·.1)).map Sum.inr := by
    unfold rowsD
    rw [List.map_map, List.map_map]
    rfl
  rw [this]
  generalize rs.map (·.1) = l at h
  induction l with
  | nil => exact List.nodup_nil
  | cons a l ih =>
    rw [List.nodup_cons] at h
    rw [List.map_cons, List.nodup_cons]
    refine ⟨fun z => h.1 ?_, ih h.2⟩
    obtain ⟨b, hb, e⟩ := List.mem_map.mp z
    injection e with e
    rw [← e]
    exact hb
theorem rowsE_perm {rs : List Row} {t : T} (lt : LT rs t) : (rowsE rs).Perm t.edges := by
  have rsE : rowsE rs = T.edgesOf (rs.map fun e => (e.1, e.2.2)) := by
    unfold rowsE T.edgesOf
    rw [List.flatMap_map]
  rw [rsE, T.edges_desc]
  exact T.perm_flatMap _ lt
theorem edD_at {es : List (Str × Str)} {x y : Str} (nd : (es.map (·.1)).Nodup) (h : (x, y) ∈ es) : valV (edD es) (Sum.inr x) = some (.str y) := valV_map_in x y es nd h
theorem edD_none {es : List (Str × Str)} {x : Str} (h : ∀ y, (x, y) ∉ es) : valV (edD es) (Sum.inr x) = none := valV_map_str x es h
end Kg
/-! GS: what is possible has a tree behind it. -/
namespace Kg
open PySem PySem.Spec PyProof.Rows L2
theorem edge_kid {t : T} {x y : Str} (h : (x, y) ∈ t.edges) : ∃ n ∈ t.pre, n.key = y ∧ ∃ A c B, n.kids = A ++ c :: B ∧ c.key = x := by
  obtain ⟨n, hn, e, c, hc, ec⟩ := T.mem_edges.mp h
  obtain ⟨A, B, e2⟩ := List.append_of_mem hc
  exact ⟨n, hn, e, A, c, B, e2, ec⟩
theorem in_ex {t : T} (y : T) {p : Str} {b : Option Str} (hp : p ∈ t.keys) (hb : ∀ x, b = some x → ∃ n ∈ t.pre, n.key = p ∧ x ∈ n.kids.map T.key) : ∃ t2, In t y p b t2 := by
  cases b with
  | none =>
    obtain ⟨u, hu, rfl⟩ := key_node hp
    exact ⟨_, u, hu, rfl, u.kids, [], (List.append_nil _).symm, rfl, rfl⟩
  | some x =>
    obtain ⟨n, hn, rfl, hx⟩ := hb x rfl
    obtain ⟨c, hc, ec⟩ := List.mem_map.mp hx
    obtain ⟨A, B, e⟩ := List.append_of_mem hc
    exact ⟨_, n, hn, rfl, A, c :: B, e, ⟨c, B, rfl, ec⟩, rfl⟩
theorem place_kid {t : T} {p : Str} {b : Option Str} (h : t.place p b = true) : ∀ x, b = some x → (x, p) ∈ t.edges := by
  intro x e
  subst e
  unfold T.place at h
  rw [Bool.and_eq_true] at h
  exact of_decide_eq_true h.2
theorem poss_after {t : T} (nd : t.keys.Nodup) : ∀ {o : Op}, t.poss o = true → ∃ t2, After t o t2
  | .create k p b, h => by
    have h0 : (!decide (k ∈ t.keys) && t.place p b) = true := h
    rw [Bool.and_eq_true] at h0
    refine in_ex _ (place_key h0.2) fun x e => ?_
    obtain ⟨n, hn, en, A, c, B, ek, ec⟩ := edge_kid (place_kid h0.2 x e)
    exact ⟨n, hn, en, by rw [ek, ← ec]; exact List.mem_map_of_mem (List.mem_append_right _ (List.mem_cons_self ..))⟩
  | .remove k, h => by
    have h0 : k ∈ t.edges.map (·.1) := of_decide_eq_true h
    obtain ⟨⟨x, y⟩, he, rfl⟩ := List.mem_map.mp h0
    obtain ⟨n, hn, en, A, c, B, ek, ec⟩ := edge_kid he
    exact ⟨_, c, ec, n, hn, A, B, ek, rfl⟩
  | .move k p b, h => by
    have h0 : (t.hasUp k && t.place p b && (!decide (b = some k) && !t.under k p)) = true := h
    rw [Bool.and_eq_true, Bool.and_eq_true, Bool.and_eq_true] at h0
    obtain ⟨⟨h1, h2⟩, h3, h4⟩ := h0
    have h1 : k ∈ t.edges.map (·.1) := of_decide_eq_true h1
    obtain ⟨⟨x, y⟩, he, rfl⟩ := List.mem_map.mp h1
    obtain ⟨n, hn, en, A, c, B, ek, ec⟩ := edge_kid he
    have ec : c.key = x := ec
    have hout : Out t c (t.setK n.key (A ++ B)) := ⟨n, hn, A, B, ek, rfl⟩
    obtain ⟨kp, k1, cm, nd1⟩ := out_keys nd hout
    have off : p ∉ c.keys := fun z => by
      have : t.under x p = true := List.any_eq_true.mpr ⟨c, cm, by rw [decide_eq_true ec, decide_eq_true z]; rfl⟩
      have h4 : (!t.under x p) = true := h4
      rw [this] at h4
      cases h4
    have pin : p ∈ (t.setK n.key (A ++ B)).keys := by
      rcases List.mem_append.mp (kp.mem_iff.mp (place_key h2)) with z | z
      · exact absurd z off
      · exact z
    have : ∃ t2, In (t.setK n.key (A ++ B)) c p b t2 := by
      refine in_ex c pin fun z e => ?_
      have hz := place_kid h2 z e
      have zx : z ≠ x := fun w => by
        have h3 : (!decide (b = some x)) = true := h3
        rw [e, w, decide_eq_true rfl] at h3
        cases h3
      -- the row of p
      obtain ⟨m, hm, em, A2, c2, B2, ek2, ec2⟩ := edge_kid hz
      obtain ⟨R, d1, d2⟩ := T.out_desc nd hn ek
      have zm : z ∈ m.kids.map T.key := by
        rw [ek2, ← ec2]
        exact List.mem_map_of_mem (List.mem_append_right _ (List.mem_cons_self ..))
      have find : ∀ cs : List Str, (p, cs) ∈ (t.setK n.key (A ++ B)).desc → z ∈ cs → ∃ q ∈ (t.setK n.key (A ++ B)).pre, q.key = p ∧ z ∈ q.kids.map T.key := fun cs hcs hzc => by
        obtain ⟨q, hq, e1⟩ := List.mem_map.mp hcs
        injection e1 with e1 e2
        exact ⟨q, hq, e1, by rw [e2]; exact hzc⟩
      by_cases emn : m = n
      · subst emn
        refine find _ (d2.mem_iff.mpr (by rw [← em]; exact List.mem_cons_self ..)) ?_
        rw [ek] at zm
        obtain ⟨w, hw, ew⟩ := List.mem_map.mp zm
        rw [← ew]
        refine List.mem_map_of_mem ?_
        rcases List.mem_append.mp hw with hw | hw
        · exact List.mem_append_left _ hw
        · rcases List.mem_cons.mp hw with hw | hw
          · subst hw
            exact absurd (ew.symm.trans ec) zx
          · exact List.mem_append_right _ hw
      · have hd : (p, m.kids.map T.key) ∈ t.desc := List.mem_map.mpr ⟨m, hm, by rw [← em]⟩
        refine find _ (d2.mem_iff.mpr ?_) zm
        rcases List.mem_cons.mp (d1.mem_iff.mp hd) with w | w
        · injection w with w _
          exact absurd (T.pre_inj nd hm hn (em.trans w)) emn
        · rcases List.mem_append.mp w with w | w
          · have : p ∈ c.desc.map (·.1) := List.mem_map.mpr ⟨_, w, rfl⟩
            rw [T.desc_keys] at this
            exact absurd this off
          · exact List.mem_cons_of_mem _ w
    obtain ⟨t2, h2⟩ := this
    exact ⟨t2, c, _, ec, hout, h2⟩
end Kg
/-! GU: comprehensions that pick texts. -/
namespace Kg
open PySem PySem.Spec PyProof.Rows L2
theorem lc_filt {J : It} {n : Nat} {G0 : Hp → Prop} {Y : Nat → Hp → V → Hp → Prop} (w : Walk J n G0 Y) {ks : List Str} (hn : n = ks.length)
    (hY : ∀ i H x H', G0 H → Y i H x H' → H' = H ∧ ∃ k, ks[i]? = some k ∧ x = .str k) {j : Nat} {tt : TT} {vs : List Nat} {σ : L2.St} {H1 : Hp} {D : Addr} {Qd : Hp → Prop} (Pf : Str → Bool)
    (few : ks.length ≤ 1000) (hw : ∀ x, wipe ((wipe σ vs).set j (some x)) vs = wipe σ vs) (hj : ∀ x, ((wipe σ vs).set j (some x))[j]? = some (some x)) (hG : ∀ ys, G0 (upd H1 D (.lst ys)))
    (htt : ∀ (k : Str) (ys : List V) (Q : Bool → Hp → Prop), k ∈ ks → Q (Pf k) (upd H1 D (.lst ys)) → tt ((wipe σ vs).set j (some (.str k))) (upd H1 D (.lst ys)) Q)
    (hd : Qd (upd H1 D (.lst ((ks.filter Pf).map V.str)))) :
    ∃ W : Nat → Nat → Hp → Prop, (∃ m, W 0 m (upd H1 D (.lst []))) ∧ ∀ i m H, W i m H →
      (J.stop i H ∧ Qd H) ∨ (J.go i H ∧ ∃ Nx : Hp → Prop, (∀ H', Nx H' → ∃ m', m' < m ∧ W (i + 1) m' H') ∧ ∀ x H', J.yld i H x H' → gName j x (wipe σ vs) H' fun σ2 H2 => wipe σ2 vs = wipe σ vs ∧ tt σ2 H2 fun b H3 =>
        if b = true then tVar j σ2 H3 fun y H4 => ∃ acc, H4 D = some (.lst acc) ∧ acc.length < sizeLine ∧ Nx (upd H4 D (.lst (acc ++ [y]))) else Nx H3) := by
  refine lc_it w (fun i H' => H' = upd H1 D (.lst (((ks.take i).filter Pf).map V.str))) rfl ?_ ?_ ?_
  · rintro i H' _ rfl
    exact hG _
  · rintro i x H' H'' hi rfl y
    obtain ⟨rfl, k, ek, rfl⟩ := hY i _ x H'' (hG _) y
    refine ⟨hw _, htt k _ _ (List.mem_of_getElem? ek) ?_⟩
    have e1 : (ks.take (i + 1)).filter Pf = (ks.take i).filter Pf ++ (if Pf k then [k] else []) := by
      rw [List.take_succ, ek, List.filter_append]
      congr 1
      show List.filter Pf [k] = _
      cases hp : Pf k with
      | true => rw [List.filter_cons_of_pos hp]; rfl
      | false => rw [List.filter_cons_of_neg (by rw [hp]; exact Bool.false_ne_true)]; rfl
    cases hp : Pf k with
    | true =>
      refine iteT ⟨.str k, hj _, _, upd_same, ?_, ?_⟩
      · rw [List.length_map]
        have h1 := List.length_filter_le Pf (ks.take i)
        rw [List.length_take] at h1
        have := sizeLine_eq
        omega
      · rw [upd_upd, e1, hp, List.map_append]
        rfl
    | false =>
      refine iteF ?_
      rw [e1, hp]
      show _ = upd H1 D (.lst (List.map V.str (_ ++ [])))
      rw [List.append_nil]
  · rintro H' rfl
    rw [hn, List.take_length]
    exact hd
end Kg
/-! GV: lists of texts compared with []; regions with two places that change. -/
namespace Kg
open PySem PySem.Spec PyProof.Rows L2
theorem shaped_strs {ks : List Str} (h : ∀ k ∈ ks, (PyData.str k).canLay0 = true) : SeqAt.shaped (.list (ks.map .str)) = true := by
  unfold SeqAt.shaped
  have h1 : PyData.canLayAll0 (ks.map .str) = true := by
    induction ks with
    | nil => rfl
    | cons k ks ih =>
      rw [List.map_cons, PyData.canLayAll0, h k (List.mem_cons_self ..), ih fun x hx => h x (List.mem_cons_of_mem _ hx)]
      rfl
  have h2 : PyData.depthAll (ks.map .str) = 0 := by
    clear h h1
    induction ks with
    | nil => rfl
    | cons k ks ih =>
      rw [List.map_cons, PyData.depthAll, ih]
      rfl
  rw [PyData.canLay0, h1, PyData.depth, h2]
  rfl
theorem key_lay {k : Str} (h : isKeyS k = true) : (PyData.str k).canLay0 = true := by
  unfold isKeyS at h
  rw [Bool.and_eq_true, List.all_eq_true] at h
  rw [PyData.canLay0]
  unfold PyData.strOk
  rw [← Array.all_toList, List.all_eq_true]
  intro c hc
  have := abc_mem c (of_decide_eq_true (h.2 c hc))
  exact decide_eq_true (by omega)
theorem eqv_nil : PyData.eqv (.list (([] : List Str).map .str)) (.list []) = true := by rfl
theorem eqv_cons (k : Str) (ks : List Str) : PyData.eqv (.list ((k :: ks).map .str)) (.list []) = false := by rfl
theorem dp_strs {K : PySem.W.Frag} {H : Hp} {a : Addr} {ks : List Str} (h : H a = some (.lst (ks.map V.str))) : Dp K H (.ref a) (.list (ks.map .str)) := .lst (sqL h) (DpAll.strs ks)
section
variable {m : List Addr} {G H G' H' : Hp} {c h : Addr} {o : HO}
theorem Grow.put (g : Grow m G H G' H') (n : H' c = none) : Grow m G H G' (upd H' c o) :=
  ⟨g.i0, fun b x hb e => by
    have := g.h b x hb e
    rw [upd_ne (ne_of_none this n)]
    exact this, g.g, fun b x e => by
    have := g.i b x e
    rw [upd_ne (ne_of_none this n)]
    exact this, g.new⟩
theorem Grow.buts {H'' : Hp} (g : Grow m G H G' H') (hm : h ∈ m) (gh : G' h = none) (B : But h H' H'') : Grow m G H G' H'' :=
  ⟨g.i0, fun b x hb e => B b x (fun z => hb (by rw [z]; exact hm)) (g.h b x hb e), g.g, fun b x e => B b x (fun z => by rw [z, gh] at e; cases e) (g.i b x e), g.new⟩
theorem Grow.grows {G'' H'' : Hp} (g : Grow m G H G' H') (hm : ∀ b ∈ m, H' b ≠ none) (g2 : Grow [] G' H' G'' H'') : Grow m G H G'' H'' := g.trans (fun b hb _ => hm b hb) g2.wide
end
end Kg
namespace Kg
open PySem PySem.Spec PyProof.Rows L2
theorem if_via {tt : TT} {tb te : TS} {D : Ends} {σ : L2.St} {H : Hp} (Ft : Bool → Hp → Prop) (ht : ∀ Kt : Bool → Hp → Prop, (∀ c H', Ft c H' → Kt c H') → tt σ H Kt)
    (hk : ∀ c H', Ft c H' → if c = true then tb D σ H' else te D σ H') : tIfS tt tb te D σ H := ht _ hk
theorem up_of {t : T} {k : Str} (hk : k ∈ t.keys) (ne : k ≠ t.key) : t.hasUp k = true := by
  rcases List.mem_cons.mp ((T.edges_perm t).mem_iff.mpr hk) with z | z
  · exact absurd z ne
  · exact decide_eq_true z
theorem place_none {t : T} {p : Str} (h : p ∈ t.keys) : t.place p none = true := by
  unfold T.place
  rw [decide_eq_true h]
  rfl
theorem place_some {t : T} {p y : Str} (h : p ∈ t.keys) (e : (y, p) ∈ t.edges) : t.place p (some y) = true := by
  unfold T.place
  rw [decide_eq_true h]
  exact decide_eq_true e
/-- what was drawn of [None] + keys -/
theorem drawn_b {ks : List Str} {i : Nat} {x : V} (e : ([V.non] ++ ks.map V.str)[i]? = some x) : ∃ b : Option Str, x = bV b ∧ ∀ y, b = some y → y ∈ ks := by
  cases i with
  | zero =>
    cases e
    exact ⟨none, rfl, fun y z => nomatch z⟩
  | succ i =>
    have e : (ks.map V.str)[i]? = some x := e
    rw [List.getElem?_map] at e
    cases hz : ks[i]? with
    | none =>
      rw [hz] at e
      cases e
    | some y =>
      rw [hz] at e
      cases e
      refine ⟨some y, rfl, fun y' z => ?_⟩
      injection z with z
      rw [← z]
      exact List.mem_of_getElem? hz
theorem kid_edge {t n : T} {y : Str} (hn : n ∈ t.pre) (hy : y ∈ n.kids.map T.key) : (y, n.key) ∈ t.edges := by
  obtain ⟨c, hc, rfl⟩ := List.mem_map.mp hy
  exact T.mem_edges.mpr ⟨n, hn, rfl, c, hc, rfl⟩
theorem create_ok {k p : Str} {b : Option Str} (hk : isKeyS k = true) (hp : isKeyS p = true) (hb : ∀ y, b = some y → isKeyS y = true) : (Op.create k p b).ok = true := by
  cases b with
  | none =>
    show (isKeyS k && isKeyS p && true) = true
    rw [hk, hp]
    rfl
  | some y =>
    show (isKeyS k && isKeyS p && isKeyS y) = true
    rw [hk, hp, hb y rfl]
    rfl
theorem move_ok {k p : Str} {b : Option Str} (hk : isKeyS k = true) (hp : isKeyS p = true) (hb : ∀ y, b = some y → isKeyS y = true) : (Op.move k p b).ok = true := by
  cases b with
  | none =>
    show (isKeyS k && isKeyS p && true) = true
    rw [hk, hp]
    rfl
  | some y =>
    show (isKeyS k && isKeyS p && isKeyS y) = true
    rw [hk, hp, hb y rfl]
    rfl
end Kg
namespace Kg
open PySem PySem.Spec PyProof.Rows L2
/-- between the draws of a deed -/
structure Fx (G H : Hp) (h fr D : Addr) (names fs : List Str) (b : Nat) (H' : Hp) : Prop where
  g : Grow [h, fr] G H G H'
  hd : Hd H' h b
  hf : H' fr = some (.lst (fs.map V.str))
  hD : H' D = some (.lst (names.map V.str))
theorem Fx.put {G H : Hp} {h fr D c : Addr} {names fs : List Str} {b : Nat} {H' : Hp} {o : HO} (F : Fx G H h fr D names fs b H') (n : H' c = none) : Fx G H h fr D names fs b (upd H' c o) := by
  obtain ⟨_, e⟩ := F.hd.at_
  exact ⟨F.g.put n, F.hd.same (by rw [upd_ne (ne_of_none e n)]), by rw [upd_ne (ne_of_none F.hf n)]; exact F.hf, by rw [upd_ne (ne_of_none F.hD n)]; exact F.hD⟩
theorem Fx.but {G H : Hp} {h fr D : Addr} {names fs : List Str} {b b' : Nat} {H' H'' : Hp} (F : Fx G H h fr D names fs b H') (gh : G h = none) (nf : fr ≠ h) (nD : D ≠ h) (B : But h H' H'') (hd : Hd H'' h b') : Fx G H h fr D names fs b' H'' :=
  ⟨F.g.buts (by simp) gh B, hd, B _ _ nf F.hf, B _ _ nD F.hD⟩
theorem Fx.ne {G H : Hp} {h fr D c : Addr} {names fs : List Str} {b : Nat} {H' : Hp} (F : Fx G H h fr D names fs b H') (n : H' c = none) : c ≠ h := fun z => by
  obtain ⟨_, e⟩ := F.hd.at_
  rw [z, e] at n
  cases n
theorem Fx.all {G H : Hp} {h fr D : Addr} {names fs : List Str} {b : Nat} {H' : Hp} (F : Fx G H h fr D names fs b H') : ∀ c ∈ [h, fr], H' c ≠ none := fun c hc => by
  have : c = h ∨ c = fr := by simpa using hc
  rcases this with z | z
  · obtain ⟨_, e⟩ := F.hd.at_
    rw [z, e]
    exact Option.some_ne_none _
  · rw [z, F.hf]
    exact Option.some_ne_none _
theorem eqv_ne {ks : List Str} (h : ks ≠ []) : PyData.eqv (.list (ks.map .str)) (.list []) = false := by
  cases ks with
  | nil => exact absurd rfl h
  | cons k ks => exact eqv_cons k ks
end Kg
namespace Kg
open PySem PySem.Spec PyProof.Rows L2
theorem Fx.grow {G H G6 H6 : Hp} {h fr D : Addr} {names fs : List Str} {b : Nat} {H' : Hp} (F : Fx G H h fr D names fs b H') (g6 : Grow [] G H' G6 H6) : Fx G H h fr D names fs b H6 :=
  ⟨⟨F.g.i0, fun b x hb e => g6.same _ _ (F.g.h b x hb e), fun _ _ e => e, g6.into, fun _ e _ => e⟩, g6.hand F.hd, g6.same _ _ F.hf, g6.same _ _ F.hD⟩
theorem lock_back {H : Hp} {p D : Addr} {o o' x : HO} (hp : H p = some o) (ne : D ≠ p) : upd (upd (upd H p o') D x) p o = upd H D x := by
  funext c
  by_cases z : c = p
  · rw [z, upd_same, upd_ne ne.symm, hp]
  · rw [upd_ne z]
    by_cases z2 : c = D
    · rw [z2, upd_same, upd_same]
    · rw [upd_ne z2, upd_ne z, upd_ne z2]
theorem up_out {t n : T} {pk : Str} (nd : t.keys.Nodup) (hn : n ∈ t.pre) (he : (n.key, pk) ∈ t.edges) : pk ∉ n.keys := fun z => by
  obtain ⟨m, hm, e, c, hc, ec⟩ := T.mem_edges.mp he
  have hcn : c = n := T.pre_inj nd (T_kid_in hm hc) hn ec
  subst hcn
  obtain ⟨q, hq, eq⟩ := List.mem_map.mp z
  have : q = m := T.pre_inj nd (T.pre_trans t c hn hq) hm (eq.trans e.symm)
  subst this
  have h1 := T.kid_size hc
  have h2 := T.pre_size c q hq
  omega
end Kg
/-! GY: a run of deeds, step by step. -/
namespace Kg
open PySem PySem.Spec PyProof.Rows L2
theorem Steps.one {t : T} (few : t.size ≤ 1000) (nd : t.keys.Nodup) : Steps t [] [t] :=
  ⟨rfl, rfl, fun i o a b h => by simp at h, fun a ha => by
    have : a = t := by simpa using ha
    rw [this]
    exact few, fun a ha => by
    have : a = t := by simpa using ha
    rw [this]
    exact nd⟩
theorem Steps.snoc {t a b : T} {os : List Op} {ts : List T} {o : Op} (s : Steps t os ts) (ha : ts[os.length]? = some a) (hp : a.poss o = true) (hf : After a o b) (few : b.size ≤ 1000) (nd : b.keys.Nodup) :
    Steps t (os ++ [o]) (ts ++ [b]) := by
  have hl := s.len
  refine ⟨?_, ?_, ?_, ?_, ?_⟩
  · rw [List.length_append, List.length_append, hl]
    rfl
  · rw [List.getElem?_append_left (by omega)]
    exact s.first
  · intro i o' a' b' h1 h2 h3
    have hi : i < os.length + 1 := by
      have := (List.getElem?_eq_some_iff.mp h1).1
      rw [List.length_append] at this
      exact this
    by_cases z : i < os.length
    · rw [List.getElem?_append_left z] at h1
      rw [List.getElem?_append_left (by omega)] at h2
      rw [List.getElem?_append_left (by omega)] at h3
      exact s.each i o' a' b' h1 h2 h3
    · have e : i = os.length := by omega
      subst e
      rw [List.getElem?_append_right (Nat.le_refl _), Nat.sub_self] at h1
      rw [List.getElem?_append_left (by omega), ha] at h2
      rw [List.getElem?_append_right (by omega), hl, Nat.sub_self] at h3
      cases h1
      cases h2
      cases h3
      exact ⟨hp, hf⟩
  · intro x hx
    rcases List.mem_append.mp hx with h | h
    · exact s.few x h
    · have : x = b := by simpa using h
      rw [this]
      exact few
  · intro x hx
    rcases List.mem_append.mp hx with h | h
    · exact s.nd x h
    · have : x = b := by simpa using h
      rw [this]
      exact nd
/-- the keys behind an operation -/
theorem after_keys {t t2 : T} (nd : t.keys.Nodup) : ∀ {o : Op}, t.poss o = true → After t o t2 → t2.key = t.key ∧ t2.keys.Nodup ∧
    (match o with | .create k _ _ => t2.keys.Perm (k :: t.keys) | .move _ _ _ => t2.keys.Perm t.keys | .remove _ => ∃ x : T, t.keys.Perm (x.keys ++ t2.keys))
  | .create k p b, hp, h => by
    obtain ⟨h1, h2⟩ := in_keys nd h
    have h1 : t2.keys.Perm (k :: t.keys) := by
      have e : (T.node k []).keys = [k] := by
        rw [T.keys_eq]
        rfl
      rw [e] at h1
      exact h1
    have h0 : (!decide (k ∈ t.keys) && t.place p b) = true := hp
    rw [Bool.and_eq_true] at h0
    have hk : k ∉ t.keys := fun z => by
      rw [decide_eq_true z] at h0
      exact absurd h0.1 Bool.false_ne_true
    exact ⟨h2, h1.nodup_iff.mpr (List.nodup_cons.mpr ⟨hk, nd⟩), h1⟩
  | .move k p b, hp, h => by
    obtain ⟨x, t1, rfl, ho, hi⟩ := h
    obtain ⟨k1, k2, _, nd1⟩ := out_keys nd ho
    obtain ⟨k3, k4⟩ := in_keys nd1 hi
    have : t2.keys.Perm t.keys := k3.trans k1.symm
    exact ⟨k4.trans k2, this.nodup_iff.mpr nd, this⟩
  | .remove k, hp, h => by
    obtain ⟨x, rfl, ho⟩ := h
    obtain ⟨k1, k2, _, nd1⟩ := out_keys nd ho
    exact ⟨k2, nd1, x, k1⟩
/-- the keys of a tree and those that are left to be taken -/
structure Stock (t : T) (fs : List Str) : Prop where
  nd : t.keys.Nodup
  kt : ∀ k ∈ t.keys, isKeyS k = true
  kf : ∀ k ∈ fs, isKeyS k = true ∧ k ∉ t.keys
  nf : fs.Nodup
  few : t.size + fs.length ≤ 19
/-- what a deed leaves: stated over the way fresh keys are spent -/
def SpendsK (o : Op) (fs fs' : List Str) : Prop := match o with
  | .create k _ _ => fs = fs' ++ [k]
  | _ => fs = fs'
theorem Stock.step {t t2 : T} {fs fs' : List Str} {o : Op} (s : Stock t fs) (hp : t.poss o = true) (ha : After t o t2) (hs : SpendsK o fs fs') : Stock t2 fs' := by
  obtain ⟨_, nd2, hk⟩ := after_keys s.nd hp ha
  cases o with
  | create k p b =>
    have hk : t2.keys.Perm (k :: t.keys) := hk
    have hs : fs = fs' ++ [k] := hs
    subst hs
    have nf := s.nf
    rw [List.nodup_append] at nf
    refine ⟨nd2, fun x hx => ?_, fun x hx => ?_, nf.1, ?_⟩
    · rcases List.mem_cons.mp (hk.mem_iff.mp hx) with z | z
      · rw [z]
        exact (s.kf k (List.mem_append_right _ (List.mem_singleton.mpr rfl))).1
      · exact s.kt x z
    · obtain ⟨h1, h2⟩ := s.kf x (List.mem_append_left _ hx)
      refine ⟨h1, fun z => ?_⟩
      rcases List.mem_cons.mp (hk.mem_iff.mp z) with z | z
      · exact nf.2.2 x hx k (List.mem_singleton.mpr rfl) z
      · exact h2 z
    · have h1 := hk.length_eq
      rw [List.length_cons, T.keys_len, T.keys_len] at h1
      have h2 := s.few
      rw [List.length_append, List.length_singleton] at h2
      omega
  | move k p b =>
    have hk : t2.keys.Perm t.keys := hk
    have hs : fs = fs' := hs
    subst hs
    refine ⟨nd2, fun x hx => s.kt x (hk.mem_iff.mp hx), fun x hx => ⟨(s.kf x hx).1, fun z => (s.kf x hx).2 (hk.mem_iff.mp z)⟩, s.nf, ?_⟩
    have h1 := hk.length_eq
    rw [T.keys_len, T.keys_len] at h1
    have h2 := s.few
    omega
  | remove k =>
    obtain ⟨x, hx⟩ : ∃ x : T, t.keys.Perm (x.keys ++ t2.keys) := hk
    have hs : fs = fs' := hs
    subst hs
    have sub : ∀ y ∈ t2.keys, y ∈ t.keys := fun y hy => hx.mem_iff.mpr (List.mem_append_right _ hy)
    refine ⟨nd2, fun y hy => s.kt y (sub y hy), fun y hy => ⟨(s.kf y hy).1, fun z => (s.kf y hy).2 (sub y z)⟩, s.nf, ?_⟩
    have h1 := hx.length_eq
    rw [List.length_append, T.keys_len, T.keys_len, T.keys_len] at h1
    have h2 := s.few
    omega
theorem Names.isKey {ks : List Str} {n : Nat} (h : Names ks n) (hn : n ≤ 26) : ∀ k ∈ ks, isKeyS k = true := by
  obtain ⟨stem, first, leap, h1, h2, h3, rfl⟩ := h
  intro k hk
  obtain ⟨i, hi, rfl⟩ := List.mem_map.mp hk
  have hi := List.mem_range.mp hi
  have ht : tailOf i = [] := by
    unfold tailOf
    rw [if_neg (by omega)]
  have hl : (nameOf stem first leap i).length = stem.length + 1 := by
    show (nameL stem first leap i).toArray.size = _
    rw [List.size_toArray]
    unfold nameL
    rw [ht, List.append_nil, List.length_append]
    rfl
  unfold isKeyS
  rw [hl, decide_eq_true (by omega), decide_eq_true (by omega)]
  show (List.all _ _) = true
  rw [List.all_eq_true]
  intro c hc
  have hc : c ∈ nameL stem first leap i := by simpa [nameOf] using hc
  unfold nameL at hc
  rw [ht, List.append_nil] at hc
  have hr : 97 ≤ c ∧ c < 123 := by
    rcases List.mem_append.mp hc with z | z
    · exact h2 c z
    · have : c = 97 + (first + leap * i) % 26 := by simpa using z
      omega
  have := abc_at ⟨c - 97, by omega⟩
  have e : 97 + (c - 97) = c := by omega
  refine decide_eq_true ?_
  have h4 : abc.cps.toList[c - 97]? = some c := by
    have h5 : abc.cps.toList[c - 97]? = some (97 + (c - 97)) := this
    rw [e] at h5
    exact h5
  exact List.mem_of_getElem? h4
theorem isKey_ok {k : Str} (h : isKeyS k = true) : KeyOk k := by
  unfold isKeyS at h
  rw [Bool.and_eq_true, Bool.and_eq_true, decide_eq_true_eq, decide_eq_true_eq, List.all_eq_true] at h
  refine ⟨h.1.2, fun c hc => ?_⟩
  have := abc_mem c (of_decide_eq_true (h.2 c hc))
  exact Nat.lt_of_lt_of_le this.2 (by decide)
theorem word_ok : KeyOk "create" ∧ KeyOk "move" ∧ KeyOk "remove" := by
  refine ⟨⟨by decide +kernel, by decide +kernel⟩, ⟨by decide +kernel, by decide +kernel⟩, ⟨by decide +kernel, by decide +kernel⟩⟩
theorem Tx.b {b : Option Str} (h : ∀ y, b = some y → isKeyS y = true) : Tx 82 0 (bD b) := by
  cases b with
  | none => exact Tx.non.more (by decide) (Nat.le_refl _)
  | some y => exact Tx.key (isKey_ok (h y rfl))
theorem Tx.op {o : Op} (h : o.ok = true) : Tx 400 1 o.d := by
  have four : ∀ (w k p : Str) (b : Option Str), KeyOk w → isKeyS k = true → isKeyS p = true → (∀ y, b = some y → isKeyS y = true) → Tx 400 1 (.tuple [.str w, .str k, .str p, bD b]) := fun w k p b h1 h2 h3 h4 =>
    ((Tx.key h1).cons ((Tx.key (isKey_ok h2)).cons ((Tx.key (isKey_ok h3)).cons ((Tx.b h4).cons Txs.nil)))).tup.more (by decide) (by decide)
  cases o with
  | create k p b =>
    cases b with
    | none =>
      have kk : (isKeyS k && isKeyS p && true) = true := h
      rw [Bool.and_eq_true, Bool.and_eq_true] at kk
      exact four "create" k p none word_ok.1 kk.1.1 kk.1.2 (fun y z => nomatch z)
    | some x =>
      have kk : (isKeyS k && isKeyS p && isKeyS x) = true := h
      rw [Bool.and_eq_true, Bool.and_eq_true] at kk
      exact four "create" k p (some x) word_ok.1 kk.1.1 kk.1.2 (fun y z => by injection z with z; rw [← z]; exact kk.2)
  | move k p b =>
    cases b with
    | none =>
      have kk : (isKeyS k && isKeyS p && true) = true := h
      rw [Bool.and_eq_true, Bool.and_eq_true] at kk
      exact four "move" k p none word_ok.2.1 kk.1.1 kk.1.2 (fun y z => nomatch z)
    | some x =>
      have kk : (isKeyS k && isKeyS p && isKeyS x) = true := h
      rw [Bool.and_eq_true, Bool.and_eq_true] at kk
      exact four "move" k p (some x) word_ok.2.1 kk.1.1 kk.1.2 (fun y z => by injection z with z; rw [← z]; exact kk.2)
  | remove k =>
    exact ((Tx.key word_ok.2.2).cons ((Tx.key (isKey_ok h)).cons Txs.nil)).tup.more (by decide) (by decide)
theorem Txs.ops : ∀ os : List Op, (∀ o ∈ os, o.ok = true) → Txs (402 * os.length) 1 (os.map Op.d)
  | [], _ => Txs.nil.more (Nat.zero_le _) (Nat.zero_le _)
  | o :: os, h => ((Tx.op (h o (List.mem_cons_self ..))).cons (Txs.ops os fun x hx => h x (List.mem_cons_of_mem _ hx))).more (by rw [List.length_cons]; omega) (Nat.le_refl _)
theorem Txs.trees : ∀ ts : List T, (∀ a ∈ ts, (∀ k ∈ a.keys, isKeyS k = true) ∧ a.size ≤ 19) → Txs (1900 * ts.length) 40 (ts.map T.d)
  | [], _ => Txs.nil.more (Nat.zero_le _) (Nat.zero_le _)
  | a :: ts, h => by
    obtain ⟨h1, h2⟩ := h a (List.mem_cons_self ..)
    have hh : T.Ht 20 a := (T.Ht.ofSize a).more (by omega)
    have hp := T.size_pos a
    exact ((Tx.tree 20 a (fun k hk => isKey_ok (h1 k hk)) hh).cons (Txs.trees ts fun x hx => h x (List.mem_cons_of_mem _ hx))).more (by rw [List.length_cons]; omega) (Nat.le_refl _)
end Kg
namespace K5
open PySem PySem.Spec PyProof.Rows L2 Kg
def topS (i : Nat) : Stmt := PySem.Challenge.pw_keyedmoves_k05_runs_beside_own_lists.main.body.getD i (.Pass ⟨0, 0, 0, 0⟩)
section
variable {P : Program} {w : World} {K : PySem.W.Frag} {mg : Str → Option Value} {base : Heap}
/-! ### walk -/
abbrev s_walk : Stmt := topS 11
theorem sc_walk : FnScope ["tree", "found", "waiting", "item"] ["tree"] (defScope s_walk) := fscope (by decide +kernel)
def sp_walk (K : PySem.W.Frag) : Sp := fun vs H Q _ => ∃ (v : V) (t : T) (G : Hp), vs = [v] ∧ Same G H ∧ Dp K G v t.d ∧ t.size ≤ 1000 ∧
  Gives K G H (.list (t.pre.map T.d)) Q
def w_walk (K : PySem.W.Frag) (G H : Hp) (v : V) (t : T) (l q : Addr) (m : Nat) (σ : L2.St) (H' : Hp) : Prop :=
  ∃ (dn ws : List T) (xs ys : List V) (y3 : Option V), σ = [some v, some (.ref l), some (.ref q), y3] ∧
    Grow [] G H G H' ∧ H' l = some (.lst xs) ∧ H' q = some (.lst ys.reverse) ∧ DpAll K G xs (dn.map T.d) ∧ DpAll K G ys (ws.map T.d) ∧
    t.pre = dn ++ T.pres ws ∧ m = T.sizes ws
theorem ok_walk {f : Addr} {fd : FuncData} {k : Nat} (F : Fun K "walk" "walk" s_walk f fd) : FnOk P w K mg base CX0 (k + 1) f fd ["tree"] (sp_walk K) := by
  refine F.ok sc_walk (fun vs H Q E h => ?_) (fun cdv A outer s H vs Q E hr h => ?_)
  · obtain ⟨v, t, G, rfl, _⟩ := h
    rfl
  · obtain ⟨v, t, G, rfl, gi, hd, few, q⟩ := h
    refine ⟨_, (pss_cons (ps_set (i := 1) sc_walk.nd rfl (Or.inl rfl) (pe_lst pa_nil))
      (pss_cons (ps_set (i := 2) sc_walk.nd rfl (Or.inl rfl) (pe_lst (pa_cons (pv 0) pa_nil)))
      (pss_cons (ps_while PassesOwn.never (pt_truth (pv 2) (by intro _; rfl)) (pss_cons (ps_set (i := 3) sc_walk.nd rfl (Or.inl rfl) (pe_bm0 PySem.F.plainAttrs_list PySem.F.slot_list_pop PySem.F.type_list_pop mt_pop (pv 2)))
        (pss_cons (ps_expr (pe_bm PySem.F.plainAttrs_list PySem.F.slot_list_append PySem.F.type_list_append mt_append (pv 1) (pa_cons (pv 3) pa_nil)))
        (pss_one (ps_expr (pe_bm PySem.F.plainAttrs_list PySem.F.slot_list_extend PySem.F.type_list_extend mt_extT (pv 2) (pa_cons (pe_revT (pe_ix ix_tup (pv 3) pe_int (fun _ _ => rfl))) pa_nil)))))))
      (pss_one (ps_ret (pv 1)))))), ?_⟩
    refine ⟨Nat.zero_le _, fun l nl => ?_⟩
    refine ⟨v, rfl, by show 1 ≤ sizeLine; decide, fun q2 nq => ?_⟩
    have gl := gi.free nl
    have ne : q2 ≠ l := fun z => by
      rw [z, upd_same] at nq
      cases nq
    have nq' : H q2 = none := by
      rw [upd_ne ne] at nq
      exact nq
    have gq := gi.free nq'
    have s2 : Grow [] G H G (upd (upd H l (.lst [])) q2 (.lst [v])) := (Grow.beside gi nl).mut nq' gq
    refine ⟨w_walk K G H v t l q2, ⟨_, [], [t], [], [v], none, rfl, s2, ?_, ?_, .nil, ?_, ?_, rfl⟩, ?_⟩
    · rw [upd_ne ne.symm, upd_same]
    · rw [upd_same]
      rfl
    · exact .one hd
    · rw [T.pres, T.pres, List.append_nil]
      rfl
    · rintro m σ' H' ⟨dn, ws, xs, ys, y3, rfl, sm, hl, hq, hx, hy, hp, rfl⟩
      have many : dn.length + T.sizes ws = t.size := by
        rw [← T.pre_len, hp, List.length_append, T.pres_len]
      refine ⟨.ref q2, rfl, !ys.reverse.isEmpty, Or.inl ⟨_, sqL hq, rfl⟩, ?_⟩
      cases ws with
      | nil =>
        cases hy
        refine iteF ?_
        rw [T.pres, List.append_nil] at hp
        refine ⟨.ref l, rfl, q H' (upd G l (.lst xs)) (.ref l) (sm.take nl hl) ?_⟩
        rw [hp]
        exact .lst (sqL upd_same) (DpAll.same (Same.new gl) _ _ hx)
      | cons w0 ws =>
        cases hy with
        | @cons y ys _ _ hy0 hy =>
          have e0 : (!(y :: ys).reverse.isEmpty) = true := by simp
          rw [e0]
          refine iteT ?_
          obtain ⟨a, c, zs, rfl, ha, hc, hz⟩ := T.at_ hy0
          have lt1 : T.sizes (w0.kids ++ ws) < T.sizes (w0 :: ws) := by
            rw [T.sizes_append, T.sizes, T.size_eq]
            omega
          have few1 : xs.length < 2000 := by
            have := hx.length
            rw [List.length_map] at this
            omega
          have few2 : ys.length + zs.length < 2000 := by
            have h1 := hy.length
            have h2 := hz.length
            rw [List.length_map] at h1 h2
            have h3 := T.kids_le w0
            have h4 : ws.length ≤ T.sizes ws := T.kids_le (.node w0.key ws)
            rw [T.sizes, T.size_eq] at many
            omega
          refine ⟨fun σ2 H2 => ∃ m', m' < T.sizes (w0 :: ws) ∧ w_walk K G H v t l q2 m' σ2 H2, fun _ _ h => h, ?_⟩
          -- item = waiting.pop()
          refine ⟨.ref q2, rfl, Or.inl ⟨rfl, _, sqL hq⟩, q2, _, .ref a, rfl, rfl, hq, ?_, ?_⟩
          · simp
          have e1 : (V.ref a :: ys).reverse.dropLast = ys.reverse := by simp
          rw [e1]
          have s3 : Grow [] G H G (upd H' q2 (.lst ys.reverse)) := sm.mut nq' gq
          have hl3 : (upd H' q2 (.lst ys.reverse)) l = some (.lst xs) := by
            rw [upd_ne ne.symm]
            exact hl
          -- found.append(item)
          refine ⟨.ref l, rfl, Or.inl ⟨rfl, _, sqL hl3⟩, .ref a, rfl, l, xs, .ref a, rfl, rfl, hl3, Nat.lt_trans few1 (by decide), ?_⟩
          -- waiting.extend(item[1][::-1])
          have s4 : Grow [] G H G (upd (upd H' q2 (.lst ys.reverse)) l (.lst (xs ++ [.ref a]))) := s3.mut nl gl
          have hq4 : (upd (upd H' q2 (.lst ys.reverse)) l (.lst (xs ++ [.ref a]))) q2 = some (.lst ys.reverse) := by
            rw [upd_ne ne, upd_same]
          refine ⟨.ref q2, rfl, Or.inl ⟨rfl, _, sqL hq4⟩, .ref a, rfl, a, _, 1, .ref c, rfl, rfl, Same.seqT s4.i ha, rfl, c, zs, rfl, Same.seqT s4.i hc, ?_⟩
          intro p np
          have nep : q2 ≠ p := ne_of_none hq4 np
          have nlp : l ≠ p := ne_of_none upd_same np
          have np' : H p = none := s4.same.free np
          refine ⟨q2, p, ys.reverse, zs.reverse, rfl, rfl, by rw [upd_ne nep]; exact hq4, upd_same, ?_, ?_⟩
          · rw [List.length_reverse, List.length_reverse]
            exact Nat.le_trans (Nat.le_of_lt few2) (by decide)
          · refine ⟨_, lt1, dn ++ [w0], w0.kids ++ ws, xs ++ [.ref a], zs ++ ys, some (.ref a), rfl, (s4.mut np' (gi.free np')).mut nq' gq, ?_, ?_, ?_, ?_, ?_, rfl⟩
            · rw [upd_ne ne.symm, upd_ne nlp, upd_same]
            · rw [upd_same, List.reverse_append]
            · rw [List.map_append]
              exact hx.append (.one hy0)
            · rw [List.map_append]
              exact hz.append hy
            · rw [hp, T.pres, T.pre_eq, T.pres_append]
              simp
theorem spM_walk {G H : Hp} {t : T} (few : t.size ≤ 1000) : SpM K (sp_walk K) G H [t.d] (.list (t.pre.map T.d)) := fun G1 H1 us g hu Q q E => by
  cases hu with
  | cons h1 h2 =>
    cases h2
    exact ⟨_, t, G1, rfl, g.i, h1, few, q⟩
/-! ### subtree: an element that is there -/
abbrev s_subtree : Stmt := topS 9
theorem sc_subtree : FnScope ["tree", "key", "item"] ["tree", "key"] (defScope s_subtree) := fscope (by decide +kernel)
def sp_subtree (K : PySem.W.Frag) : Sp := fun vs H Q _ => ∃ (v : V) (t u : T) (G : Hp), vs = [v, .str u.key] ∧ Same G H ∧ Dp K G v t.d ∧ t.size ≤ 1000 ∧
  t.keys.Nodup ∧ u ∈ t.pre ∧ Gives K G H u.d Q
theorem ok_subtree {f : Addr} {fd : FuncData} {k : Nat} (F : Fun K "subtree" "subtree" s_subtree f fd) (c_walk : Cal P w K mg base CX0 1 "walk" ["tree"] (sp_walk K)) :
    FnOk P w K mg base CX0 (k + 2) f fd ["tree", "key"] (sp_subtree K) := by
  refine F.ok sc_subtree (fun vs H Q E h => ?_) (fun cdv A outer s H vs Q E hr h => ?_)
  · obtain ⟨v, t, u, G, rfl, _⟩ := h
    rfl
  · obtain ⟨v, t, u, G, rfl, gi, hd, few, nd, hu, q⟩ := h
    refine ⟨_, (pss_cons (ps_for PassesOwn.never rfl (pi_list (c_walk.pe hr (by omega) (by rfl) (pa_cons (pv 0) pa_nil))) (pg_name (i := 2) sc_subtree.nd rfl (Or.inl rfl)) (pss_one (ps_if (pt_cmpR op_eq (pe_ix ix_tup (pv 2) pe_int (fun _ _ => rfl)) (pv 1) (nomark _)) (pss_one (ps_ret (pv 2))) pss_nil)))
      (pss_one ps_never)), ?_⟩
    refine ⟨v, rfl, v, t, G, rfl, gi, hd, few, fun H1 G1 x g hx => ?_⟩
    obtain ⟨a, xs, rfl, ha, hx⟩ := hx.lst_at
    refine ⟨a, rfl, ⟨xs, g.i.seq ha⟩, ?_⟩
    refine for_list (xs := xs) (fun i σ' H' => H' = H1 ∧ (∃ y, σ' = [some v, some (.str u.key), y]) ∧ ∀ (j : Nat) (n : T), j < i → t.pre[j]? = some n → n.key ≠ u.key) ⟨rfl, ⟨none, rfl⟩, fun j n h => by omega⟩ ?_ ?_ ?_
    · rintro i σ' H' _ ⟨rfl, _⟩
      exact g.i.seq ha
    · rintro i x σ' H' ex ⟨rfl, ⟨y, rfl⟩, no⟩
      have hi : i < t.pre.length := by
        have h1 := hx.length
        rw [List.length_map] at h1
        have := (List.getElem?_eq_some_iff.mp ex).1
        omega
      obtain ⟨v', ev, hv⟩ := hx.get (i := i) (d := t.pre[i].d) (by rw [List.getElem?_map, List.getElem?_eq_getElem hi]; rfl)
      rw [ex] at ev
      cases ev
      obtain ⟨b, c, zs, rfl, hb, _⟩ := T.at_ hv
      refine ⟨.ref b, rfl, b, _, 0, .str t.pre[i].key, rfl, rfl, Same.seqT g.i hb, rfl, .str u.key, rfl, rfl, _, rfl, ite2 (fun e => ?_) (fun e => ?_)⟩
      · have e1 : t.pre[i].key = u.key := by
          have := of_decide_eq_true e
          injection this
        have e2 : t.pre[i] = u := T.pre_inj nd (List.getElem_mem hi) hu e1
        rw [e2] at hv
        exact ⟨.ref b, rfl, q H' G1 (.ref b) g hv⟩
      · refine ⟨rfl, ⟨some (.ref b), rfl⟩, fun j n hj hn => ?_⟩
        rcases Nat.lt_succ_iff_lt_or_eq.mp hj with h | rfl
        · exact no j n h hn
        · intro z
          rw [List.getElem?_eq_getElem hi] at hn
          cases hn
          exact e (decide_eq_true (by rw [z]))
    · rintro σ' H' ⟨rfl, _, no⟩
      obtain ⟨j, hj, ej⟩ := List.getElem_of_mem hu
      have h1 := hx.length
      rw [List.length_map] at h1
      exact no j u (by omega) (by rw [List.getElem?_eq_getElem hj, ej]) rfl
theorem spM_subtree {G H : Hp} {t u : T} (few : t.size ≤ 1000) (nd : t.keys.Nodup) (hu : u ∈ t.pre) : SpM K (sp_subtree K) G H [t.d, .str u.key] u.d := fun G1 H1 us g h Q q E => by
  cases h with
  | cons h1 h2 =>
    cases h2 with
    | cons h2 h3 =>
      cases h2
      cases h3
      exact ⟨_, t, u, G1, rfl, g.i, h1, few, nd, hu, q⟩
/-! ### parents_of -/
abbrev s_parents_of : Stmt := topS 12
theorem sc_parents_of : FnScope ["tree", "parents", "item", "child"] ["tree"] (defScope s_parents_of) := fscope (by decide +kernel)
def sp_parents_of (K : PySem.W.Frag) : Sp := fun vs H Q _ => ∃ (v : V) (t : T) (G : Hp), vs = [v] ∧ Same G H ∧ Dp K G v t.d ∧ t.size ≤ 1000 ∧
  t.keys.Nodup ∧ ∀ H' G' p, Grow [] G H G' H' → H p = none → G' p = none → H' p = some (.dK (parD t t.edges)) → Q (.ref p) H'
theorem ok_parents_of {f : Addr} {fd : FuncData} {k : Nat} (F : Fun K "parents_of" "parents_of" s_parents_of f fd) (c_walk : Cal P w K mg base CX0 1 "walk" ["tree"] (sp_walk K)) :
    FnOk P w K mg base CX0 (k + 2) f fd ["tree"] (sp_parents_of K) := by
  refine F.ok sc_parents_of (fun vs H Q E h => ?_) (fun cdv A outer s H vs Q E hr h => ?_)
  · obtain ⟨v, t, G, rfl, _⟩ := h
    rfl
  · obtain ⟨v, t, G, rfl, gi, hd, few, nd, q⟩ := h
    have hu := hu_of hr
    refine ⟨_, (pss_cons (ps_set (i := 1) sc_parents_of.nd rfl (Or.inl rfl) (pe_disp (pps_cons (pe_ix ix_tup (pv 0) pe_int (fun _ _ => rfl)) pe_non pps_nil) (by rfl) (by rfl) (fun z => by cases z) (by decide)))
      (pss_cons (ps_for PassesOwn.never rfl (pi_list (c_walk.pe hr (by omega) (by rfl) (pa_cons (pv 0) pa_nil))) (pg_name (i := 2) sc_parents_of.nd rfl (Or.inl rfl)) (pss_one (ps_for PassesOwn.never rfl (pi_tup (pe_ix ix_tup (pv 2) pe_int (fun _ _ => rfl))) (pg_name (i := 3) sc_parents_of.nd rfl (Or.inl rfl)) (pss_one (ps_dput hu (pv 1) (pe_ix ix_tup (pv 3) pe_int (fun _ _ => rfl)) (pe_ix ix_tup (pv 2) pe_int (fun _ _ => rfl)) rfl)))))
      (pss_one (ps_ret (pv 1))))), ?_⟩
    obtain ⟨a0, c0, zs0, rfl, ha0, _, _⟩ := T.at_ hd
    -- parents = {tree[0]: None}
    intro p np
    have gp := gi.free np
    have g1 : Grow [] G H G (upd H p (.dK [])) := .beside gi np
    refine ⟨.ref a0, rfl, a0, _, 0, .str t.key, rfl, rfl, Same.seqT g1.i ha0, rfl, upd_same, [(Sum.inr t.key, V.non)], rfl, by show 1 ≤ 15; decide, ?_⟩
    rw [upd_upd, show mergeK [] [((Sum.inr t.key : L2.Key), V.non)] = parD t [] from rfl]
    have g2 : Grow [] G H G (upd H p (.dK (parD t []))) := .beside gi np
    -- for item in walk(tree)
    refine ⟨.ref a0, rfl, .ref a0, t, G, rfl, g2.i, hd, few, fun H3 G3 x g3 hx => ?_⟩
    obtain ⟨l, xs, rfl, hl, hx⟩ := hx.lst_at
    have hp3 : H3 p = some (.dK (parD t [])) := g3.same _ _ upd_same
    have gp3 : G3 p = none := g3.off gp upd_same
    have hxl := hx.length
    rw [List.length_map] at hxl
    have root : Grow [] G H G3 H3 := g2.tr g3
    refine ⟨l, rfl, ⟨xs, g3.i.seq hl⟩, ?_⟩
    refine for_list (xs := xs) (fun i σ' H' => (∃ y2 y3, σ' = [some (.ref a0), some (.ref p), y2, y3]) ∧ Grow [] G H G3 H' ∧
      H' p = some (.dK (parD t ((t.pre.take i).flatMap fun n => n.kids.map fun c => (c.key, n.key))))) ⟨⟨none, none, rfl⟩, root, hp3⟩ ?_ ?_ ?_
    · rintro i σ' H' _ ⟨_, g, _⟩
      exact g.i.seq hl
    · rintro i x σ' H' ex ⟨⟨y2, y3, rfl⟩, g, hp⟩
      have hi : i < t.pre.length := by
        have := (List.getElem?_eq_some_iff.mp ex).1
        omega
      obtain ⟨v', ev, hv⟩ := hx.get (i := i) (d := t.pre[i].d) (by rw [List.getElem?_map, List.getElem?_eq_getElem hi]; rfl)
      rw [ex] at ev
      cases ev
      obtain ⟨b, c, zs, rfl, hb, hc, hz⟩ := T.at_ hv
      have hzl := hz.length
      rw [List.length_map] at hzl
      -- for child in item[1]
      refine ⟨.ref b, rfl, b, _, 1, .ref c, rfl, rfl, Same.seqT g.i hb, rfl, c, rfl, ⟨zs, Same.seqT g.i hc⟩, ?_⟩
      refine for_tup (xs := zs) (fun j σ' H' => (∃ y3, σ' = [some (.ref a0), some (.ref p), some (.ref b), y3]) ∧ Grow [] G H G3 H' ∧
        H' p = some (.dK (parD t ((t.pre.take i).flatMap (fun n => n.kids.map fun c => (c.key, n.key)) ++ (t.pre[i].kids.take j).map fun c => (c.key, t.pre[i].key))))) ⟨⟨y3, rfl⟩, g, ?_⟩ ?_ ?_ ?_
      · rw [List.take_zero, List.map_nil, List.append_nil]
        exact hp
      · rintro j σ' H' _ ⟨_, g, _⟩
        exact Same.seqT g.i hc
      · rintro j x σ' H' ex ⟨⟨y3, rfl⟩, g, hp⟩
        have hj : j < t.pre[i].kids.length := by
          have := (List.getElem?_eq_some_iff.mp ex).1
          omega
        obtain ⟨v', ev, hv'⟩ := hz.get (i := j) (d := t.pre[i].kids[j].d) (by rw [List.getElem?_map, List.getElem?_eq_getElem hj]; rfl)
        rw [ex] at ev
        cases ev
        obtain ⟨b', c', zs', rfl, hb', hc', hz'⟩ := T.at_ hv'
        have eq : t.edges = ((t.pre.take i).flatMap (fun n => n.kids.map fun c => (c.key, n.key)) ++ (t.pre[i].kids.take j).map fun c => (c.key, t.pre[i].key)) ++
            ((t.pre[i].kids[j].key, t.pre[i].key) :: ((t.pre[i].kids.drop (j + 1)).map (fun c => (c.key, t.pre[i].key)) ++ (t.pre.drop (i + 1)).flatMap fun n => n.kids.map fun c => (c.key, n.key))) := by
          have e1 : t.pre = t.pre.take i ++ t.pre[i] :: t.pre.drop (i + 1) := by
            rw [← List.drop_eq_getElem_cons hi, List.take_append_drop]
          have e2 : t.pre[i].kids = t.pre[i].kids.take j ++ t.pre[i].kids[j] :: t.pre[i].kids.drop (j + 1) := by
            rw [← List.drop_eq_getElem_cons hj, List.take_append_drop]
          have e3 : t.edges = (t.pre.take i ++ t.pre[i] :: t.pre.drop (i + 1)).flatMap fun n => n.kids.map fun c => (c.key, n.key) := by
            rw [← e1]
            rfl
          rw [e3, List.flatMap_append, List.flatMap_cons]
          have e4 : (t.pre[i].kids.map fun c => (c.key, t.pre[i].key)) = (t.pre[i].kids.take j).map (fun c => (c.key, t.pre[i].key)) ++ (t.pre[i].kids[j].key, t.pre[i].key) :: (t.pre[i].kids.drop (j + 1)).map fun c => (c.key, t.pre[i].key) := by
            rw [← List.map_cons (f := fun c => (T.key c, t.pre[i].key)), ← List.map_append, ← e2]
          rw [e4]
          simp
        have nk : valV (parD t ((t.pre.take i).flatMap (fun n => n.kids.map fun c => (c.key, n.key)) ++ (t.pre[i].kids.take j).map fun c => (c.key, t.pre[i].key))) (Sum.inr t.pre[i].kids[j].key) = none := by
          have nd2 := T.edges_nodup nd
          rw [eq, List.map_append, List.map_cons] at nd2
          have ne : ¬ (Sum.inr t.key : L2.Key) = Sum.inr t.pre[i].kids[j].key := fun z => by
            injection z with z
            exact (List.nodup_cons.mp nd2).1 (by rw [z]; simp)
          unfold parD
          rw [valV_neg ne]
          refine valV_map_str _ _ fun y hy => ?_
          have nd3 := (List.nodup_append.mp (List.nodup_cons.mp nd2).2).2.2
          exact nd3 _ (List.mem_map.mpr ⟨_, hy, rfl⟩) _ (List.mem_cons_self ..) rfl
        have el := T.edges_len t
        have ll : (parD t ((t.pre.take i).flatMap (fun n => n.kids.map fun c => (c.key, n.key)) ++ (t.pre[i].kids.take j).map fun c => (c.key, t.pre[i].key))).length < sizeLine := by
          have : ((t.pre.take i).flatMap (fun n => n.kids.map fun c => (c.key, n.key)) ++ (t.pre[i].kids.take j).map fun c => (c.key, t.pre[i].key)).length ≤ t.edges.length := by
            rw [eq, List.length_append (bs := _ :: _)]
            omega
          unfold parD
          rw [List.length_cons, List.length_map]
          exact Nat.lt_of_le_of_lt (by omega : _ ≤ 2000) (by decide)
        refine ⟨.ref b, rfl, b, _, 0, .str t.pre[i].key, rfl, rfl, Same.seqT g.i hb, rfl, .ref p, rfl, .ref b', rfl, b', _, 0, .str t.pre[i].kids[j].key, rfl, rfl, Same.seqT g.i hb', rfl, p, _, rfl,
          DPut.k (k := Sum.inr t.pre[i].kids[j].key) hp ll, ⟨some (.ref b'), rfl⟩, g.mut np gp3, ?_⟩
        rw [upd_same, putK_new _ nk, List.take_succ, List.getElem?_eq_getElem hj, List.map_append, ← List.append_assoc]
        exact congrArg (fun z => some (HO.dK z)) (parD_snoc t _ (t.pre[i].kids[j].key, t.pre[i].key)).symm
      · rintro σ' H' ⟨⟨y3, rfl⟩, g, hp⟩
        refine ⟨⟨some (.ref b), y3, rfl⟩, g, ?_⟩
        rw [hzl, List.take_length] at hp
        rw [hp, List.take_succ, List.getElem?_eq_getElem hi, List.flatMap_append]
        simp
    · rintro σ' H' ⟨⟨y2, y3, rfl⟩, g, hp⟩
      rw [hxl, List.take_length] at hp
      exact ⟨.ref p, rfl, q H' G3 p g np gp3 hp⟩
/-! ### path_of: of an element that is there -/
abbrev s_path_of : Stmt := topS 10
theorem sc_path_of : FnScope ["tree", "key", "parents", "path"] ["tree", "key"] (defScope s_path_of) := fscope (by decide +kernel)
def sp_path_of (K : PySem.W.Frag) : Sp := fun vs H Q _ => ∃ (v : V) (t u : T) (ps : List Str) (G : Hp), vs = [v, .str u.key] ∧ Same G H ∧ Dp K G v t.d ∧ t.size ≤ 1000 ∧
  t.keys.Nodup ∧ T.Way t u ps ∧ Gives K G H (.tuple (ps.map .str)) Q
theorem ok_path_of {f : Addr} {fd : FuncData} {k : Nat} (F : Fun K "path_of" "path_of" s_path_of f fd) (c_parents_of : Cal P w K mg base CX0 2 "parents_of" ["tree"] (sp_parents_of K))
    (z_tuple : mg "tuple" = none) (z_str : mg "str" = none) (z_isinstance : mg "isinstance" = none) :
    FnOk P w K mg base CX0 (k + 3) f fd ["tree", "key"] (sp_path_of K) := by
  refine F.ok sc_path_of (fun vs H Q E h => ?_) (fun cdv A outer s H vs Q E hr h => ?_)
  · obtain ⟨v, t, u, ps, G, rfl, _⟩ := h
    rfl
  · obtain ⟨v, t, u, ps, G, rfl, gi, hd, few, nd, way, q⟩ := h
    have hu := hu_of hr
    refine ⟨_, (pss_cons (ps_set (i := 2) sc_path_of.nd rfl (Or.inl rfl) (c_parents_of.pe hr (by omega) (by rfl) (pa_cons (pv 0) pa_nil)))
      (pss_cons (ps_if (PW.pt (pw_or (pt_not (pt_val (pe_callB call_isi (by rfl) z_isinstance (by decide +kernel) (pa_cons (pv 1) (pa_cons (pe_bltn (v := .ty "str") (by rfl) z_str (by decide +kernel) rfl) pa_nil))))) (pw_or1 (pt_cmp (pc_dnotin hu (pv 1) (pv 2)))))) (pss_one ps_never) pss_nil)
      (pss_cons (ps_set (i := 3) sc_path_of.nd rfl (Or.inl rfl) (pe_lst (pa_cons (pv 1) pa_nil)))
      (pss_cons (ps_while PassesOwn.never (pt_cmp (pc_notN (pe_dget hu (pv 2) (pe_ix ix_list (pv 3) (pe_un un_neg pe_int) (fun _ _ => rfl)) (fun _ _ => rfl)))) (pss_one (ps_expr (pe_bm PySem.F.plainAttrs_list PySem.F.slot_list_append PySem.F.type_list_append mt_append (pv 3) (pa_cons (pe_dget hu (pv 2) (pe_ix ix_list (pv 3) (pe_un un_neg pe_int) (fun _ _ => rfl)) (fun _ _ => rfl)) pa_nil)))))
      (pss_one (ps_ret (pe_callTy call_tuple_of (by rfl) z_tuple (by decide +kernel) (pa_cons (pe_revL (pv 3)) pa_nil)))))))), ?_⟩
    refine ⟨v, rfl, v, t, G, rfl, gi, hd, few, nd, fun H1 G1 p g np gp hp => ?_⟩
    have there : ∃ z, valV (parD t t.edges) (Sum.inr u.key) = some z := by
      obtain ⟨r, e⟩ := way.last
      cases hl : r with
      | nil =>
        obtain ⟨r', e'⟩ := way.head
        rw [hl] at e
        rw [e] at e'
        injection e' with e1 _
        exact ⟨_, by rw [e1]; exact parD_root t _⟩
      | cons x xs =>
        have h1 : ps[r.length]? = some u.key := by rw [e]; simp
        have h2 : ps[r.length - 1]? = some ps[r.length - 1]! := by
          have hlt : r.length - 1 < ps.length := by rw [e]; simp; omega
          rw [List.getElem?_eq_getElem hlt]
          simp [hlt]
        have e1 : r.length - 1 + 1 = r.length := by rw [hl, List.length_cons]; omega
        exact ⟨_, parD_edge nd (way.step (r.length - 1) _ _ h2 (by rw [e1]; exact h1))⟩
    obtain ⟨z0, ez0⟩ := there
    -- the test
    refine ⟨.str u.key, rfl, .str u.key, .ty "str", .type "str", .type "str", true, rfl, .ty "str", .base (.str u.key), kit_ty (by decide +kernel), true, rfl, iteF ?_⟩
    refine ⟨.str u.key, rfl, .ref p, rfl, p, _, rfl, DGet.k (k := Sum.inr u.key) hp, _, rfl, ?_⟩
    rw [ez0]
    refine iteF ?_
    -- path = [key]
    refine ⟨.str u.key, rfl, by show 1 ≤ sizeLine; decide, fun l nl => ?_⟩
    have nl0 : H l = none := g.same.free nl
    have gl : G1 l = none := g.i.free nl
    have nlp : l ≠ p := fun z => by
      rw [z, hp] at nl
      cases nl
    have hlen := way.len
    obtain ⟨r0, e0⟩ := way.last
    have hpos : 0 < ps.length := by rw [e0]; simp
    have hlast : ps[ps.length - 1]? = some u.key := by rw [e0]; simp
    refine ⟨fun m σ' H' => m < ps.length ∧ σ' = [some v, some (.str u.key), some (.ref p), some (.ref l)] ∧ Grow [] G H G1 H' ∧
      H' p = some (.dK (parD t t.edges)) ∧ H' l = some (.lst ((ps.drop m).reverse.map V.str)), ⟨ps.length - 1, by omega, rfl, g.mut nl0 gl, ?_, ?_⟩, ?_⟩
    · rw [upd_ne nlp.symm]
      exact hp
    · rw [upd_same, List.drop_eq_getElem_cons (by omega), show ps.length - 1 + 1 = ps.length by omega, List.drop_length]
      have : ps[ps.length - 1] = u.key := by
        rw [List.getElem?_eq_getElem (by omega)] at hlast
        exact Option.some.inj hlast
      rw [this]
      rfl
    · rintro m σ' H' ⟨hm, rfl, gg, hp', hl'⟩
      have eat : atI ((ps.drop m).reverse.map V.str) (-1) = some (.str ps[m]) := by
        rw [List.drop_eq_getElem_cons hm, List.reverse_cons, List.map_append]
        exact atI_last _ _
      have get : ∀ {z : V}, valV (parD t t.edges) (Sum.inr ps[m]) = some z → DGet H' p (.str ps[m]) (some z) := fun {z} h => h ▸ DGet.k (k := Sum.inr ps[m]) hp'
      cases m with
      | zero =>
        have er : valV (parD t t.edges) (Sum.inr ps[0]) = some .non := by
          obtain ⟨r', e'⟩ := way.head
          have : ps[0] = t.key := by
            have : ps[0]? = some t.key := by rw [e']; rfl
            rw [List.getElem?_eq_getElem hm] at this
            exact Option.some.inj this
          rw [this]
          exact parD_root t _
        refine ⟨.ref p, rfl, .ref l, rfl, 1, rfl, l, _, -1, _, rfl, rfl, sqL hl', eat, p, .non, rfl, get er, ?_⟩
        refine ⟨_, rfl, iteF ?_⟩
        -- return tuple(path[::-1])
        refine ⟨.ref l, rfl, l, _, rfl, sqL hl', fun l2 nl2 => ?_⟩
        have n2 : H l2 = none := gg.same.free nl2
        refine ⟨l2, _, rfl, .inl ⟨sqL upd_same, fun p3 np3 => ?_⟩⟩
        have g5 : Grow [] G H G1 (upd H' l2 (.lst ((ps.drop 0).reverse.map V.str).reverse)) := gg.mut n2 (gg.i.free nl2)
        have n3 : H p3 = none := g5.same.free np3
        have e5 : ((ps.drop 0).reverse.map V.str).reverse = ps.map V.str := by
          rw [← List.map_reverse, List.reverse_reverse, List.drop_zero]
        refine q _ (upd G1 p3 (.tup (ps.map V.str))) (.ref p3) ?_ (.tup (sqT upd_same) (DpAll.strs ps))
        rw [e5] at g5 np3 ⊢
        exact g5.tr (.add g5.i np3)
      | succ m =>
        have er : valV (parD t t.edges) (Sum.inr ps[m + 1]) = some (.str ps[m]) :=
          parD_edge nd (way.step m _ _ (List.getElem?_eq_getElem (by omega)) (List.getElem?_eq_getElem hm))
        refine ⟨.ref p, rfl, .ref l, rfl, 1, rfl, l, _, -1, _, rfl, rfl, sqL hl', eat, p, _, rfl, get er, ?_⟩
        refine ⟨_, rfl, iteT ?_⟩
        refine ⟨fun σ2 H2 => ∃ m', m' < m + 1 ∧ (m' < ps.length ∧ σ2 = [some v, some (.str u.key), some (.ref p), some (.ref l)] ∧ Grow [] G H G1 H2 ∧
          H2 p = some (.dK (parD t t.edges)) ∧ H2 l = some (.lst ((ps.drop m').reverse.map V.str))), fun _ _ h => h, ?_⟩
        refine ⟨.ref l, rfl, Or.inl ⟨rfl, _, sqL hl'⟩, .ref p, rfl, .ref l, rfl, 1, rfl, l, _, -1, _, rfl, rfl, sqL hl', eat, p, _, rfl, get er, l, _, _, rfl, rfl, hl', ?_, ?_⟩
        · rw [List.length_map, List.length_reverse, List.length_drop]
          exact Nat.lt_of_le_of_lt (by omega : _ ≤ 1000) (by decide)
        · refine ⟨m, by omega, by omega, rfl, gg.mut nl0 gl, ?_, ?_⟩
          · rw [upd_ne nlp.symm]
            exact hp'
          · rw [upd_same, List.drop_eq_getElem_cons (show m < ps.length by omega), List.reverse_cons, List.map_append]
            rfl
theorem spM_path_of {G H : Hp} {t u : T} {ps : List Str} (few : t.size ≤ 1000) (nd : t.keys.Nodup) (way : T.Way t u ps) : SpM K (sp_path_of K) G H [t.d, .str u.key] (.tuple (ps.map .str)) := fun G1 H1 us g h Q q E => by
  cases h with
  | cons h1 h2 =>
    cases h2 with
    | cons h2 h3 =>
      cases h2
      cases h3
      exact ⟨_, t, u, ps, G1, rfl, g.i, h1, few, nd, way, q⟩
/-! ### _law_hand -/
abbrev s__law_hand : Stmt := topS 29
theorem sc__law_hand : FnScope ["_law_script", "_law_k", "_law_cell", "_law_great"] ["_law_script", "_law_k"] (defScope s__law_hand) := fscope (by decide +kernel)
def sp__law_hand (K : PySem.W.Frag) : Sp := fun vs H Q _ => ∃ (a : Addr) (ns : List Int) (k : Nat), vs = [.ref a, .int (k : Int)] ∧ SqL K H a (ns.map V.int) ∧ k ≤ 100 ∧
  ∀ p o, H p = none → Hd (upd H p o) p 1000000 → Q (.ref p) (upd H p o)
theorem ok__law_hand {f : Addr} {fd : FuncData} {k : Nat} (F : Fun K "_law_hand" "_law_hand" s__law_hand f fd) (z_len : mg "len" = none) (z_abs : mg "abs" = none) (z_int : mg "int" = none) :
    FnOk P w K mg base CX0 (k + 1) f fd ["_law_script", "_law_k"] (sp__law_hand K) := by
  refine F.ok sc__law_hand (fun vs H Q E h => ?_) (fun cdv A outer s H vs Q E hr h => ?_)
  · obtain ⟨a, ns, k, rfl, _⟩ := h
    rfl
  · obtain ⟨a, ns, k, rfl, hs, hk, q⟩ := h
    refine ⟨_, (Evl.pss_cut (ps_set (i := 2) sc__law_hand.nd rfl (Or.inl rfl) (pe_ifExp (pt_cmpR op_lt (pv 1) (pe_callB call_len_seq (by rfl) z_len (by decide +kernel) (pa_cons (pv 0) pa_nil)) (nomark _)) (pe_ix ix_list (pv 0) (pv 1) (fun _ _ => rfl)) (pe_op op_add (pe_op op_mul pe_int (pv 1)) pe_int)))
      (pss_cons (ps_set (i := 3) sc__law_hand.nd rfl (Or.inl rfl) (pe_op op_mul (pe_op op_mod (pe_callB call_abs (by rfl) z_abs (by decide +kernel) (pa_cons (pv 2) pa_nil)) (pe_op op_powG (pe_op op_pow pe_int pe_int) pe_int)) (pe_callTy call_int1 (by rfl) z_int (by decide +kernel) (pa_cons (pe_cmpR op_ge (pe_callB call_abs (by rfl) z_abs (by decide +kernel) (pa_cons (pv 2) pa_nil)) (pe_op op_pow pe_int pe_int) (nomark _)) pa_nil))))
      (pss_one (ps_ret (pe_lst (pa_cons (pv 3) (pa_cons (pe_op op_mod (pe_op op_mul (pe_op op_add (pe_op op_add (pe_op op_mod (pv 2) pe_int) (pe_op op_mul (pe_op op_mul pe_int (pv 1)) (pv 1))) pe_int) pe_int) pe_int) (pa_cons pe_int pa_nil)))))))), ?_⟩
    refine ⟨fun σ' H' => H' = H ∧ ∃ c : Int, σ' = [some (.ref a), some (.int k), some (.int c), none], ?_, ?_⟩
    · refine ⟨.int k, rfl, .ref a, rfl, a, _, rfl, .inl hs, _, _, rfl, rfl, _, rfl, ite2 (fun e => ?_) (fun e => ?_)⟩
      · have hl : (k : Int) < ((ns.map V.int).length : Int) := of_decide_eq_true e
        rw [List.length_map] at hl
        have hl' : k < ns.length := by omega
        refine ⟨.ref a, rfl, .int k, rfl, a, _, _, .int ns[k], rfl, rfl, hs, atI_nat (by rw [List.getElem?_map, List.getElem?_eq_getElem hl']; rfl), rfl, _, rfl⟩
      · refine ⟨.int k, rfl, _, _, rfl, rfl, .inl ⟨by decide, by decide⟩, _, _, rfl, rfl, rfl, _, rfl⟩
    · rintro σ' H' ⟨rfl, c, rfl⟩
      have habs : (0 : Int) ≤ (if c < 0 then -c else c) := by
        by_cases hc : c < 0
        · rw [if_pos hc]
          omega
        · rw [if_neg hc]
          omega
      generalize hz : (if c < 0 then -c else c) = z at habs
      refine ⟨.int c, rfl, c, rfl, 10, 60, rfl, rfl, ⟨by decide, by decide, by decide⟩, (10 : Int) ^ (60 : Int).toNat, 5, rfl, rfl, ⟨by decide +kernel, rfl⟩, _, 10 ^ 300, rfl, rfl, (by show (0 : Int) < 10 ^ 300; decide +kernel),
        .int c, rfl, c, rfl, 10, 18, rfl, rfl, ⟨by decide, by decide, by decide⟩, _, _, rfl, rfl, .inr ⟨_, rfl, _, _, rfl, rfl, .inr ?_, ?_⟩⟩
      · have two : ∀ b : Bool, (-2 ^ 64 < (if b = true then (1 : Int) else 0)) ∧ (if b = true then (1 : Int) else 0) < 2 ^ 64 := by decide
        exact two _
      rw [hz]
      generalize hb : (decide ((10 : Int) ^ (18 : Int).toNat ≤ z)) = b
      have hg : (0 : Int) ≤ z % 10 ^ 300 * (if b = true then 1 else 0) := by
        have h0 : (0 : Int) ≤ z % 10 ^ 300 := Int.emod_nonneg _ (by decide +kernel)
        cases b with
        | true =>
          show (0 : Int) ≤ z % 10 ^ 300 * 1
          omega
        | false =>
          show (0 : Int) ≤ z % 10 ^ 300 * 0
          omega
      have hc1 : 0 ≤ c % 2305843009213693951 := Int.emod_nonneg _ (by decide)
      have hc2 : c % 2305843009213693951 < 2305843009213693951 := Int.emod_lt_of_pos _ (by decide)
      have hkk : (104729 * (k : Int)) * k ≤ 104729 * 100 * 100 := by
        have h1 : 104729 * (k : Int) ≤ 104729 * 100 := by omega
        have h2 : (104729 * (k : Int)) * k ≤ (104729 * 100) * k := Int.mul_le_mul_of_nonneg_right h1 (by omega)
        omega
      have hk0 : 0 ≤ (104729 * (k : Int)) * k := Int.mul_nonneg (by omega) (by omega)
      refine ⟨.int (z % 10 ^ 300 * (if b = true then (1 : Int) else 0)), rfl, .int c, rfl, _, 2305843009213693951, rfl, rfl, (by show (0 : Int) < 2305843009213693951; decide), .int k, rfl, _, _, rfl, rfl, .inl ⟨by decide, by decide⟩, .int k, rfl, _, _, rfl, rfl, .inr ⟨by omega, by omega⟩,
        _, _, rfl, rfl, _, _, rfl, rfl, _, _, rfl, rfl, .inr ⟨by decide, by decide⟩, _, _, rfl, rfl, (by show (0 : Int) < 2305843009213693921; decide), (by show 3 ≤ sizeLine; decide), fun p np => ?_⟩
      refine q p _ np ⟨_, _, 0, upd_same, hg, Int.emod_nonneg _ (by decide), ?_, by decide, by decide⟩
      exact Int.lt_trans (Int.emod_lt_of_pos _ (by decide)) (by decide)
/-! ### _law_take -/
abbrev s__law_take : Stmt := topS 30
theorem sc__law_take : FnScope ["_law_hand_here", "_law_many", "_law_digit", "_law_turn", "_law_prime", "_law_mixed"] ["_law_hand_here", "_law_many"] (defScope s__law_take) := fscope (by decide +kernel)
def sp__law_take : Sp := fun vs H Q _ => ∃ (h : Addr) (n b : Nat), vs = [.ref h, .int (n : Int)] ∧ 0 < n ∧ n ≤ 1000000 ∧ Hd H h (b + 1) ∧
  ∀ (r : Nat) (H' : Hp), r < n → But h H H' → Hd H' h b → Q (.int (r : Int)) H'
theorem ok__law_take {f : Addr} {fd : FuncData} {k : Nat} (F : Fun K "_law_take" "_law_take" s__law_take f fd) :
    FnOk P w K mg base CX0 (k + 1) f fd ["_law_hand_here", "_law_many"] sp__law_take := by
  refine F.ok sc__law_take (fun vs H Q E h => ?_) (fun cdv A outer s H vs Q E hr h => ?_)
  · obtain ⟨h, n, b, rfl, _⟩ := h
    rfl
  · obtain ⟨h, n, b, rfl, n0, n1, ⟨g, x, t, hh, g0, x0, x1, t0, t1⟩, q⟩ := h
    refine ⟨_, (pss_cons (ps_if (pt_cmpR op_gt (pe_ix ix_list (pv 0) pe_int (fun _ _ => rfl)) pe_int (nomark _)) (pss_cons (ps_set (i := 2) sc__law_take.nd rfl (Or.inl rfl) (pe_op op_mod (pe_ix ix_list (pv 0) pe_int (fun _ _ => rfl)) (pv 1)))
        (pss_cons (ps_asg (pe_op op_fdiv (pe_ix ix_list (pv 0) pe_int (fun _ _ => rfl)) (pv 1)) (pg_sub (pv 0) pe_int set_list))
        (pss_one (ps_ret (pv 2))))) pss_nil)
      (pss_cons (ps_set (i := 3) sc__law_take.nd rfl (Or.inl rfl) (pe_op op_add (pe_ix ix_list (pv 0) pe_int (fun _ _ => rfl)) pe_int))
      (pss_cons (ps_asg (pv 3) (pg_sub (pv 0) pe_int set_list))
      (pss_cons (ps_set (i := 4) sc__law_take.nd rfl (Or.inl rfl) (pe_ix ix_list (pe_lst (pa_cons pe_int (pa_cons pe_int (pa_cons pe_int (pa_cons pe_int (pa_cons pe_int (pa_cons pe_int pa_nil))))))) (pe_op op_mod (pv 3) pe_int) (fun _ _ => rfl)))
      (pss_cons (ps_set (i := 5) sc__law_take.nd rfl (Or.inl rfl) (pe_op op_mod (pe_op op_pow (pe_op op_add (pe_op op_add (pe_ix ix_list (pv 0) pe_int (fun _ _ => rfl)) (pe_op op_mul (pe_op op_mul pe_int (pv 3)) (pv 3))) (pe_op op_mul pe_int (pv 3))) pe_int) (pv 4)))
      (pss_one (ps_ret (pe_op op_mod (pe_op op_fdiv (pe_op op_mod (pe_op op_mul (pv 5) (pe_op op_add (pe_op op_mod (pv 5) pe_int) (pe_op op_mul pe_int (pv 3)))) pe_int) pe_int) (pv 1))))))))), ?_⟩
    have nz : (0 : Int) < (n : Int) := by omega
    have toN : ∀ z : Int, ∃ r : Nat, z % (n : Int) = (r : Int) ∧ r < n := fun z => by
      have h1 := Int.emod_nonneg z (show (n : Int) ≠ 0 by omega)
      have h2 := Int.emod_lt_of_pos z nz
      exact ⟨(z % (n : Int)).toNat, by omega, by omega⟩
    refine ⟨.ref h, rfl, h, _, 0, .int g, rfl, rfl, sqL hh, rfl, g, 0, rfl, rfl, _, rfl, ite2 (fun e => ?_) (fun e => ?_)⟩
    · obtain ⟨r, er, hr'⟩ := toN g
      refine ⟨.ref h, rfl, h, _, 0, .int g, rfl, rfl, sqL hh, rfl, .int n, rfl, g, n, rfl, rfl, nz, ?_⟩
      refine ⟨.ref h, rfl, h, _, 0, .int g, rfl, rfl, sqL hh, rfl, .int n, rfl, g, n, rfl, rfl, ⟨nz, by omega⟩, .ref h, rfl, h, _, 0, 0, rfl, rfl, hh, rfl, ?_⟩
      refine ⟨.int (g % n), rfl, ?_⟩
      show Q (.int (g % n)) _
      rw [er]
      exact q r _ hr' (But.upd _) ⟨g / n, x, t, upd_same, Int.ediv_nonneg g0 (by omega), x0, x1, t0, by omega⟩
    · refine ⟨.ref h, rfl, h, _, 2, .int t, rfl, rfl, sqL hh, rfl, t, 1, rfl, rfl, ?_⟩
      refine ⟨.int (t + 1), rfl, .ref h, rfl, h, _, 2, 2, rfl, rfl, hh, rfl, ?_⟩
      refine ⟨(by show 6 ≤ sizeLine; decide), fun l nl => ?_⟩
      have hne : h ≠ l := ne_of_none upd_same nl
      have hd : Hd (upd H h (.lst [.int g, .int x, .int (t + 1)])) h b := ⟨g, x, t + 1, upd_same, g0, x0, x1, by omega, by omega⟩
      have hh2 : (upd (upd H h (.lst [.int g, .int x, .int (t + 1)])) l (.lst [.int 2147483647, .int 2147483629, .int 2147483587, .int 2147483579, .int 2147483563, .int 2147483549])) h = some (.lst [.int g, .int x, .int (t + 1)]) := by
        rw [upd_ne hne, upd_same]
      have pick : ∃ pr : Int, atI [V.int 2147483647, V.int 2147483629, V.int 2147483587, V.int 2147483579, V.int 2147483563, V.int 2147483549] ((t + 1) % 6) = some (.int pr) ∧ 0 < pr ∧ pr < 2147483648 := by
        have h1 := Int.emod_nonneg (t + 1) (show (6 : Int) ≠ 0 by decide)
        have h2 := Int.emod_lt_of_pos (t + 1) (show (0 : Int) < 6 by decide)
        generalize (t + 1) % 6 = m at h1 h2
        have : m = 0 ∨ m = 1 ∨ m = 2 ∨ m = 3 ∨ m = 4 ∨ m = 5 := by omega
        rcases this with rfl | rfl | rfl | rfl | rfl | rfl <;> exact ⟨_, rfl, by decide, by decide⟩
      obtain ⟨pr, epr, p0, p1⟩ := pick
      refine ⟨.int (t + 1), rfl, t + 1, 6, rfl, rfl, (by show (0 : Int) < 6; decide), l, _, (t + 1) % 6, .int pr, rfl, rfl, sqL upd_same, epr, ?_⟩
      have b1 : 65537 * (t + 1) * (t + 1) ≤ 65537 * 1000000 * 1000000 := by
        have h1 : 65537 * (t + 1) ≤ 65537 * 1000000 := by omega
        have h2 : 65537 * (t + 1) * (t + 1) ≤ (65537 * 1000000) * (t + 1) := Int.mul_le_mul_of_nonneg_right h1 (by omega)
        omega
      have b0 : 0 ≤ 65537 * (t + 1) * (t + 1) := Int.mul_nonneg (by omega) (by omega)
      refine ⟨.ref h, rfl, h, _, 1, .int x, rfl, rfl, sqL hh2, rfl, .int (t + 1), rfl, 65537, t + 1, rfl, rfl, .inl ⟨by decide, by decide⟩, .int (t + 1), rfl, 65537 * (t + 1), t + 1, rfl, rfl, .inr ⟨by omega, by omega⟩,
        x, 65537 * (t + 1) * (t + 1), rfl, rfl, .int (t + 1), rfl, 31, t + 1, rfl, rfl, .inl ⟨by decide, by decide⟩, x + 65537 * (t + 1) * (t + 1), 31 * (t + 1), rfl, rfl,
        x + 65537 * (t + 1) * (t + 1) + 31 * (t + 1), 3, rfl, rfl, ⟨by decide, by decide, by omega⟩, .int pr, rfl, _, pr, rfl, rfl, p0, ?_⟩
      have hm : ∀ y : Int, 0 ≤ y % pr ∧ y % pr < 2147483648 := fun y => ⟨Int.emod_nonneg _ (by omega), Int.lt_trans (Int.emod_lt_of_pos _ p0) p1⟩
      obtain ⟨m0, m1⟩ := hm ((x + 65537 * (t + 1) * (t + 1) + 31 * (t + 1)) ^ (3 : Int).toNat)
      generalize hmix : (x + 65537 * (t + 1) * (t + 1) + 31 * (t + 1)) ^ (3 : Int).toNat % pr = mix at m0 m1
      have hmix' : (fun i j : Int => V.int (i % j)) ((x + 65537 * (t + 1) * (t + 1) + 31 * (t + 1)) ^ (3 : Int).toNat) pr = V.int mix := by rw [← hmix]
      rw [hmix']
      obtain ⟨r, er, hr'⟩ := toN (mix * (mix % 10007 + 13 * (t + 1)) % 2305843009213693907 / 97)
      refine ⟨.int mix, rfl, .int mix, rfl, mix, 10007, rfl, rfl, (by show (0 : Int) < 10007; decide), .int (t + 1), rfl, 13, t + 1, rfl, rfl, .inl ⟨by decide, by decide⟩, mix % 10007, 13 * (t + 1), rfl, rfl,
        mix, mix % 10007 + 13 * (t + 1), rfl, rfl, .inl ⟨by omega, by omega⟩, _, 2305843009213693907, rfl, rfl, (by show (0 : Int) < 2305843009213693907; decide), _, 97, rfl, rfl, ⟨by decide, by decide⟩, .int n, rfl, _, n, rfl, rfl, nz, ?_⟩
      show Q (.int (mix * (mix % 10007 + 13 * (t + 1)) % 2305843009213693907 / 97 % (n : Int))) _
      rw [er]
      exact q r _ hr' ((But.upd _).new nl) (hd.same (by rw [upd_ne hne]; rfl))
/-! ### _law_of -/
abbrev s__law_of : Stmt := topS 31
theorem sc__law_of : FnScope ["_law_hand_here", "_law_items"] ["_law_hand_here", "_law_items"] (defScope s__law_of) := fscope (by decide +kernel)
def sp__law_of (K : PySem.W.Frag) : Sp := fun vs H Q _ => ∃ (h : Addr) (b : Nat), Hd H h (b + 1) ∧
  ((∃ (l : Addr) (xs : List V), vs = [.ref h, .ref l] ∧ l ≠ h ∧ SqL K H l xs ∧ 0 < xs.length ∧ xs.length ≤ 1000000 ∧
    ∀ (i : Nat) (x : V) (H' : Hp), xs[i]? = some x → But h H H' → Hd H' h b → Q x H') ∨
   ∃ (z : Str), vs = [.ref h, .str z] ∧ 0 < z.length ∧ z.length ≤ 1000 ∧
    ∀ (c : Nat) (H' : Hp), c ∈ z.cps.toList → But h H H' → Hd H' h b → Q (.str ⟨#[c]⟩) H')
theorem ok__law_of {f : Addr} {fd : FuncData} {k : Nat} (F : Fun K "_law_of" "_law_of" s__law_of f fd) (c__law_take : Cal P w K mg base CX0 1 "_law_take" ["_law_hand_here", "_law_many"] sp__law_take) (z_len : mg "len" = none) :
    FnOk P w K mg base CX0 (k + 2) f fd ["_law_hand_here", "_law_items"] (sp__law_of K) := by
  refine F.ok sc__law_of (fun vs H Q E h => ?_) (fun cdv A outer s H vs Q E hr h => ?_)
  · obtain ⟨h, b, hd, ⟨l, xs, rfl, _⟩ | ⟨z, rfl, _⟩⟩ := h <;> rfl
  · obtain ⟨h, b, hd, ⟨l, xs, rfl, ne, hl, l0, l1, q⟩ | ⟨z, rfl, l0, l1, q⟩⟩ := h
    · refine ⟨_, (pss_one (ps_ret (pe_ix ix_list (pv 1) (c__law_take.pe hr (by omega) (by rfl) (pa_cons (pv 0) (pa_cons (pe_callB call_len_seq (by rfl) z_len (by decide +kernel) (pa_cons (pv 1) pa_nil)) pa_nil))) (fun _ _ => rfl)))), ?_⟩
      refine ⟨.ref l, rfl, .ref h, rfl, .ref l, rfl, l, xs, rfl, .inl hl, h, xs.length, b, rfl, l0, l1, hd, fun r H' hr' bt hd' => ?_⟩
      exact ⟨l, xs, r, xs[r], rfl, rfl, But.seq bt ne hl, atI_nat (List.getElem?_eq_getElem hr'), q r _ H' (List.getElem?_eq_getElem hr') bt hd'⟩
    · have line := sizeLine_eq
      refine ⟨_, (pss_one (ps_ret (pe_ix ix_str (pv 1) (c__law_take.pe hr (by omega) (by rfl) (pa_cons (pv 0) (pa_cons (pe_callB call_len (by rfl) z_len (by decide +kernel) (pa_cons (pv 1) pa_nil)) pa_nil))) (fun _ _ => rfl)))), ?_⟩
      refine ⟨.str z, rfl, .ref h, rfl, .str z, rfl, .str z, z.length, rfl, ⟨by omega, rfl⟩, h, z.length, b, rfl, l0, by omega, hd, fun r H' hr' bt hd' => ?_⟩
      have hr2 : r < z.cps.toList.length := by rw [Array.length_toList]; exact hr'
      exact ⟨z, r, z.cps.toList[r], rfl, rfl, by omega, atI_nat (List.getElem?_eq_getElem hr2), q _ H' (List.getElem_mem hr2) bt hd'⟩
abbrev s__law_keys : Stmt := topS 32
theorem sc__law_keys : FnScope ["_law_hand_here", "_law_many", "_law_letters", "_law_first", "_law_leap", "_law_stem", "_law_found", "_law_nth", "_law_tail"] ["_law_hand_here", "_law_many"] (defScope s__law_keys) := fscope (by decide +kernel)
def sp__law_keys : Sp := fun vs H Q _ => ∃ (h : Addr) (n b : Nat), vs = [.ref h, .int (n : Int)] ∧ n ≤ 700 ∧ Hd H h (b + 4) ∧
  ∀ (H' : Hp) (p : Addr) (ks : List Str), But h H H' → H p = none → p ≠ h → H' p = some (.lst (ks.map V.str)) → Names ks n → Hd H' h b → Q (.ref p) H'
theorem ok__law_keys {f : Addr} {fd : FuncData} {k : Nat} (F : Fun K "_law_keys" "_law_keys" s__law_keys f fd) (c__law_take : Cal P w K mg base CX0 1 "_law_take" ["_law_hand_here", "_law_many"] sp__law_take)
    (c__law_of : Cal P w K mg base CX0 2 "_law_of" ["_law_hand_here", "_law_items"] (sp__law_of K)) (z_range : mg "range" = none) :
    FnOk P w K mg base CX0 (k + 3) f fd ["_law_hand_here", "_law_many"] sp__law_keys := by
  refine F.ok sc__law_keys (fun vs H Q E h => ?_) (fun cdv A outer s H vs Q E hr h => ?_)
  · obtain ⟨h, n, b, rfl, _⟩ := h
    rfl
  · obtain ⟨h, n, b, rfl, n1, hd, q⟩ := h
    refine ⟨_, (pss_cons (ps_set (i := 2) sc__law_keys.nd rfl (Or.inl rfl) pe_str)
      (pss_cons (ps_par (by rfl) sc__law_keys.nd (i := 3) (j := 4) rfl rfl (by decide) rfl rfl (pa_cons (c__law_take.pe hr (by omega) (by rfl) (pa_cons (pv 0) (pa_cons pe_int pa_nil))) (pa_cons (c__law_of.pe hr (by omega) (by rfl) (pa_cons (pv 0) (pa_cons (pe_lst (pa_cons pe_int (pa_cons pe_int (pa_cons pe_int (pa_cons pe_int (pa_cons pe_int (pa_cons pe_int pa_nil))))))) pa_nil))) pa_nil)) (by rfl))
      (pss_cons (ps_set (i := 5) sc__law_keys.nd rfl (Or.inl rfl) (pe_op op_repS (c__law_of.pe hr (by omega) (by rfl) (pa_cons (pv 0) (pa_cons (pv 2) pa_nil))) (c__law_of.pe hr (by omega) (by rfl) (pa_cons (pv 0) (pa_cons (pe_lst (pa_cons pe_int (pa_cons pe_int (pa_cons pe_int (pa_cons pe_int (pa_cons pe_int pa_nil)))))) pa_nil)))))
      (pss_cons (ps_set (i := 6) sc__law_keys.nd rfl (Or.inl rfl) (pe_lst pa_nil))
      (pss_cons (ps_for PassesOwn.never rfl (pi_range1 (by rfl) z_range (pa_cons (pv 1) pa_nil)) (pg_name (i := 7) sc__law_keys.nd rfl (Or.inl rfl)) (Evl.pss_cut (ps_set (i := 8) sc__law_keys.nd rfl (Or.inl rfl) (pe_ifExp (pt_cmpR op_gt (pv 7) pe_int (nomark _)) (pe_ix ix_str (pv 2) (pe_op op_sub (pe_op op_fdiv (pv 7) pe_int) pe_int) (fun _ _ => rfl)) pe_str))
        (pss_one (ps_expr (pe_bm PySem.F.plainAttrs_list PySem.F.slot_list_append PySem.F.type_list_append mt_append (pv 6) (pa_cons (pe_op op_add_str (pe_op op_add_str (pv 5) (pe_ix ix_str (pv 2) (pe_op op_mod (pe_op op_add (pv 3) (pe_op op_mul (pv 4) (pv 7))) pe_int) (fun _ _ => rfl))) (pv 8)) pa_nil))))))
      (pss_one (ps_ret (pv 6)))))))), ?_⟩
    have line := sizeLine_eq
    -- first, leap
    refine ⟨.ref h, rfl, h, 26, b + 3, rfl, by decide, by decide, hd, fun r H1 hr1 b1 hd1 => ?_⟩
    refine ⟨.ref h, rfl, (by show 6 ≤ sizeLine; decide), fun l1 nl1 => ?_⟩
    obtain ⟨_, eh1⟩ := hd1.at_
    have hne1 : l1 ≠ h := fun z => by rw [z, eh1] at nl1; cases nl1
    refine ⟨h, b + 2, hd1.same (by rw [upd_ne hne1.symm]), .inl ⟨l1, _, rfl, hne1, sqL upd_same, by show 0 < 6; decide, by show 6 ≤ 1000000; decide, fun i x H2 ex b2 hd2 => ?_⟩⟩
    have leaps : ∃ leap : Nat, x = .int (leap : Int) ∧ (leap = 1 ∨ leap = 3 ∨ leap = 5 ∨ leap = 7 ∨ leap = 9 ∨ leap = 11) := by
      have hi : i < 6 := (List.getElem?_eq_some_iff.mp ex).1
      have : i = 0 ∨ i = 1 ∨ i = 2 ∨ i = 3 ∨ i = 4 ∨ i = 5 := by omega
      rcases this with rfl | rfl | rfl | rfl | rfl | rfl <;> cases ex
      · exact ⟨1, rfl, by omega⟩
      · exact ⟨3, rfl, by omega⟩
      · exact ⟨5, rfl, by omega⟩
      · exact ⟨7, rfl, by omega⟩
      · exact ⟨9, rfl, by omega⟩
      · exact ⟨11, rfl, by omega⟩
    obtain ⟨leap, rfl, hleap⟩ := leaps
    refine ⟨_, _, rfl, ?_⟩
    -- stem
    refine ⟨.ref h, rfl, .str abc, rfl, h, b + 1, hd2, .inr ⟨abc, rfl, by decide +kernel, by decide +kernel, fun c H3 hc b3 hd3 => ?_⟩⟩
    refine ⟨.ref h, rfl, (by show 5 ≤ sizeLine; decide), fun l2 nl2 => ?_⟩
    obtain ⟨_, eh3⟩ := hd3.at_
    have hne2 : l2 ≠ h := fun z => by rw [z, eh3] at nl2; cases nl2
    refine ⟨h, b, hd3.same (by rw [upd_ne hne2.symm]), .inl ⟨l2, _, rfl, hne2, sqL upd_same, by show 0 < 5; decide, by show 5 ≤ 1000000; decide, fun i x H4 ex b4 hd4 => ?_⟩⟩
    have reps : ∃ m : Nat, x = .int (m : Int) ∧ m ≤ 6 := by
      have hi : i < 5 := (List.getElem?_eq_some_iff.mp ex).1
      have : i = 0 ∨ i = 1 ∨ i = 2 ∨ i = 3 ∨ i = 4 := by omega
      rcases this with rfl | rfl | rfl | rfl | rfl <;> cases ex
      · exact ⟨0, rfl, by omega⟩
      · exact ⟨0, rfl, by omega⟩
      · exact ⟨1, rfl, by omega⟩
      · exact ⟨3, rfl, by omega⟩
      · exact ⟨6, rfl, by omega⟩
    obtain ⟨m, rfl, hm⟩ := reps
    refine ⟨⟨#[c]⟩, m, rfl, rfl, rfl, by omega, ?_⟩
    have estem : repS ⟨#[c]⟩ m = ⟨(List.replicate m c).toArray⟩ := by
      show Str.mk _ = _
      exact congrArg (fun z => Str.mk (List.toArray z)) (rep_one c m)
    rw [estem]
    -- found = []
    refine ⟨Nat.zero_le _, fun l nl => ?_⟩
    obtain ⟨_, eh4⟩ := hd4.at_
    have hne : l ≠ h := fun z => by rw [z, eh4] at nl; cases nl
    have b5 : But h H H4 := b1.trans (((But.refl h H1).new nl1).trans (b2.trans (b3.trans (((But.refl h H3).new nl2).trans b4))))
    have nl0 : H l = none := by
      cases e : H l with
      | none => rfl
      | some o =>
        rw [b5 l o hne e] at nl
        cases nl
    refine ⟨.int n, rfl, n, rfl, by omega, by omega, ?_⟩
    refine for_range (lo := 0) (n := (n : Int).toNat) (fun i σ' H' => (∃ y7 y8, σ' = [some (.ref h), some (.int n), some (.str abc), some (.int r), some (.int leap), some (.str ⟨(List.replicate m c).toArray⟩), some (.ref l), y7, y8]) ∧
      But h H H' ∧ Hd H' h b ∧ H' l = some (.lst (((List.range i).map (nameOf (List.replicate m c) r leap)).map V.str))) ⟨⟨none, none, rfl⟩, b5.new nl, hd4.same (by rw [upd_ne hne.symm]), upd_same⟩ ?_ ?_
    · rintro i σ' H' hi ⟨⟨y7, y8, rfl⟩, bt, hdt, hl⟩
      have hin : i < n := by omega
      refine ⟨fun σ2 H2 => H2 = H' ∧ σ2 = [some (.ref h), some (.int n), some (.str abc), some (.int r), some (.int leap), some (.str ⟨(List.replicate m c).toArray⟩), some (.ref l), some (.int ((0 : Int) + (i : Int))), some (.str ⟨(tailOf i).toArray⟩)], ?_, ?_⟩
      · refine ⟨.int ((0 : Int) + (i : Int)), rfl, _, _, rfl, rfl, _, rfl, ite2 (fun e => ?_) (fun e => ?_)⟩
        · have hb : (25 : Int) < (0 : Int) + (i : Int) := of_decide_eq_true e
          have hlt : i / 26 - 1 < 26 := by omega
          refine ⟨.str abc, rfl, .int ((0 : Int) + (i : Int)), rfl, _, 26, rfl, rfl, ⟨by decide, by decide⟩, _, 1, rfl, rfl, abc, _, 97 + (i / 26 - 1), rfl, rfl, (by rw [abc_len]; omega), ?_, rfl, ?_⟩
          · have ei : ((0 : Int) + (i : Int)) / 26 - 1 = ((i / 26 - 1 : Nat) : Int) := by omega
            rw [ei]
            exact abc_atI hlt
          · unfold tailOf
            rw [if_pos (by omega)]
            rfl
        · have hb : ¬ (25 : Int) < (0 : Int) + (i : Int) := fun z => e (decide_eq_true z)
          refine ⟨rfl, ?_⟩
          unfold tailOf
          rw [if_neg (by omega)]
          rfl
      · rintro σ2 H2 ⟨rfl, rfl⟩
        have hlt : (r + leap * i) % 26 < 26 := Nat.mod_lt _ (by decide)
        have lstem : (⟨(List.replicate m c).toArray⟩ : Str).length = m := by
          show (List.replicate m c).toArray.size = m
          simp
        have ltail : (⟨(tailOf i).toArray⟩ : Str).length ≤ 1 := by
          show (tailOf i).toArray.size ≤ 1
          unfold tailOf
          split <;> simp
        refine ⟨.ref l, rfl, Or.inl ⟨rfl, _, sqL hl⟩, .str ⟨(List.replicate m c).toArray⟩, rfl, .str abc, rfl, .int r, rfl, .int leap, rfl, .int ((0 : Int) + (i : Int)), rfl, leap, (0 : Int) + (i : Int), rfl, rfl, .inl ⟨by omega, by omega⟩,
          r, _, rfl, rfl, _, 26, rfl, rfl, (by show (0 : Int) < 26; decide), abc, _, 97 + (r + leap * i) % 26, rfl, rfl, (by rw [abc_len]; omega), ?_, ⟨(List.replicate m c).toArray⟩, ⟨#[97 + (r + leap * i) % 26]⟩, rfl, rfl, ?_, ?_⟩
        · have e1 : ((r : Int) + (leap : Int) * ((0 : Int) + (i : Int))) % 26 = (((r + leap * i) % 26 : Nat) : Int) := by
            rw [Int.zero_add]
            push_cast
            rfl
          rw [e1]
          exact abc_atI hlt
        · rw [lstem]
          show m + 1 ≤ sizeLine
          omega
        · have e2 : (⟨(List.replicate m c).toArray⟩ : Str) ++ (⟨#[97 + (r + leap * i) % 26]⟩ : Str) = ⟨(List.replicate m c ++ [97 + (r + leap * i) % 26]).toArray⟩ := str_app _ [97 + (r + leap * i) % 26]
          rw [e2]
          have l2 : (⟨(List.replicate m c ++ [97 + (r + leap * i) % 26]).toArray⟩ : Str).length = m + 1 := by
            show (List.replicate m c ++ [97 + (r + leap * i) % 26]).toArray.size = m + 1
            simp
          refine ⟨.str ⟨(tailOf i).toArray⟩, rfl, _, _, rfl, rfl, (by rw [l2]; omega), ?_⟩
          rw [str_app]
          refine ⟨l, _, _, rfl, rfl, hl, ?_, ⟨_, _, rfl⟩, ?_, hdt.same (by rw [upd_ne hne.symm]), ?_⟩
          · rw [List.length_map, List.length_map, List.length_range]
            omega
          · intro b' o hb' e
            rw [upd_ne (fun z => by rw [z, nl0] at e; cases e)]
            exact bt b' o hb' e
          · rw [upd_same, List.range_succ, List.map_append, List.map_append]
            rfl
    · rintro σ' H' ⟨⟨y7, y8, rfl⟩, bt, hdt, hl⟩
      refine ⟨.ref l, rfl, q H' l _ bt nl0 hne hl ⟨List.replicate m c, r, leap, by simp; omega, ?_, hleap, by rw [Int.toNat_natCast]⟩ hdt⟩
      intro c' hc'
      have : c' = c := (List.mem_replicate.mp hc').2
      rw [this]
      exact abc_mem c hc
/-! ### _law_nested -/
abbrev s__law_nested : Stmt := topS 33
theorem sc__law_nested : FnScope ["_law_lists", "_law_label", "_law_child"] ["_law_lists", "_law_label"] (defScope s__law_nested) := fscope (by decide +kernel)
def sp__law_nested (K : PySem.W.Frag) (D : Nat) : Sp := fun vs H Q _ => ∃ (p : Addr) (rs : List (Str × Addr × List Str)) (t n : T) (G : Hp), vs = [.ref p, .str n.key] ∧ Same G H ∧ Lists G p rs ∧ LT rs t ∧
  t.keys.Nodup ∧ t.size ≤ 1000 ∧ n ∈ t.pre ∧ T.Ht D n ∧ Gives K G H n.d Q
theorem ok__law_nested {f : Addr} {fd : FuncData} (F : Fun K "_law_nested" "_law_nested" s__law_nested f fd) (gf : mg "_law_nested" = some (.ref f)) (kf : PySem.W.keepIn K (.ref f) = true) (bf : Binds K fd ["_law_lists", "_law_label"] [])
    (z_tuple : mg "tuple" = none) : ∀ D : Nat, FnOk P w K mg base CX0 (D + 1) f fd ["_law_lists", "_law_label"] (sp__law_nested K D) := by
  intro D
  induction D with
  | zero =>
    refine F.ok sc__law_nested (fun vs H Q E h => ?_) (fun cdv A outer s H vs Q E hr h => ?_)
    · obtain ⟨p, rs, t, n, G, rfl, _⟩ := h
      rfl
    · obtain ⟨p, rs, t, n, G, _, _, _, _, _, _, _, hh, _⟩ := h
      exact hh.elim
  | succ D ih =>
    have c__law_nested : Cal P w K mg base CX0 (D + 1) "_law_nested" ["_law_lists", "_law_label"] (sp__law_nested K D) := ⟨f, fd, ih, gf, kf, bf⟩
    refine F.ok sc__law_nested (fun vs H Q E h => ?_) (fun cdv A outer s H vs Q E hr h => ?_)
    · obtain ⟨p, rs, t, n, G, rfl, _⟩ := h
      rfl
    · obtain ⟨p, rs, t, n, G, rfl, gi, hl, lt, nd, few, hn, hh, q⟩ := h
      have hu := hu_of hr
      refine ⟨_, (pss_one (ps_ret (pe_tup (pa_cons (pv 1) (pa_cons (pe_callTy call_tuple_of (by rfl) z_tuple (by decide +kernel) (pa_cons (pe_lc (own := [("_law_child", 2)]) (g := gName 2) (tt := tYes) (te := tCall (sp__law_nested K D) [] E0 (tCons (tVar 0) (tCons (tVar 2) tNil))) rfl sc__law_nested.nd (pi_list (pe_dget hu (pv 0) (pv 1) (fun _ _ => rfl))) (blkOk_by (own := [("_law_child", 2)]) (N := ["_law_lists", "_law_label", "_law_child"]) (sc := defScope s__law_nested) (by decide +kernel)) (fun _ _ _ _ _ => (pg_name (i := 2) sc__law_nested.nd rfl (Or.inl rfl))) (fun _ _ _ _ _ => pts_nil) (fun _ _ _ _ _ => (c__law_nested.pe hr (by omega) (by rfl) (pa_cons (pv 0) (pa_cons (pv 2) pa_nil))))) pa_nil)) pa_nil))))), ?_⟩
      obtain ⟨a, hr'⟩ := lt.row hn
      have ndr : (rs.map (·.1)).Nodup := lt.keys.nodup_iff.mpr nd
      have fk := T.pre_kids hn
      have q' : Gives K G H (.tuple [.str n.key, .tuple (n.kids.map T.d)]) Q := by
        rw [← T.d_eq]
        exact q
      refine (em_tup (ea_cons (em_var rfl (.str n.key)) (ea_cons (em_tuple (em_lcL (ds := (n.kids.map T.key).map .str) (gs := n.kids.map T.d)
        (em_row hl ndr hr' rfl rfl) (by rw [List.length_map, List.length_map]; omega) (fun _ => rfl) (by rw [List.length_map, List.length_map, List.length_map]) ?_)) ea_nil)) (by show 2 ≤ 100000; decide)).now gi q'
      · intro i x b d G1 H1 eb ed g hx
        rw [List.map_map, List.getElem?_map] at eb
        rw [List.getElem?_map] at ed
        cases hc : n.kids[i]? with
        | none =>
          rw [hc] at eb
          cases eb
        | some c =>
          rw [hc] at eb ed
          cases eb
          cases ed
          cases hx
          have hcm : c ∈ n.kids := List.mem_of_getElem? hc
          have hcp : c ∈ t.pre := by
            have : ∀ (t n : T), n ∈ t.pre → c ∈ n.kids → c ∈ t.pre := by
              refine T.indT fun t ih n hn hc => ?_
              rcases T.pre_cases hn with rfl | ⟨c', hc', hnc⟩
              · exact T.kid_pre hc (T.self_pre c)
              · exact T.kid_pre hc' (ih c' hc' n hnc hc)
            exact this t n hn hcm
          intro G2 H2 g2 Q2 q2
          exact ⟨.ref p, rfl, .str c.key, rfl, p, rs, t, c, G2, rfl, g2.i, hl.same (g.g.trans g2.g), lt, nd, few, hcp, hh c hcm, q2⟩
/-! ### _law_parents -/
abbrev s__law_parents : Stmt := topS 34
theorem sc__law_parents : FnScope ["_law_lists", "_law_found", "_law_name", "_law_some", "_law_child"] ["_law_lists"] (defScope s__law_parents) := fscope (by decide +kernel)
def sp__law_parents : Sp := fun vs H Q _ => ∃ (p : Addr) (rs : List (Str × Addr × List Str)) (G : Hp), vs = [.ref p] ∧ Same G H ∧ Lists G p rs ∧
  ((rowsE rs).map (·.1)).Nodup ∧ (rowsE rs).length ≤ 1000 ∧ ∀ H' q, Grow [] G H G H' → H q = none → H' q = some (.dK (edD (rowsE rs))) → Q (.ref q) H'
theorem ok__law_parents {f : Addr} {fd : FuncData} {k : Nat} (F : Fun K "_law_parents" "_law_parents" s__law_parents f fd) :
    FnOk P w K mg base CX0 (k + 1) f fd ["_law_lists"] sp__law_parents := by
  refine F.ok sc__law_parents (fun vs H Q E h => ?_) (fun cdv A outer s H vs Q E hr h => ?_)
  · obtain ⟨p, rs, G, rfl, _⟩ := h
    rfl
  · obtain ⟨p, rs, G, rfl, gi, hl, nd, few, q⟩ := h
    have hu := hu_of hr
    refine ⟨_, (pss_cons (ps_set (i := 1) sc__law_parents.nd rfl (Or.inl rfl) pe_dnewK)
      (pss_cons (ps_lock (ps_for PassesOwn.never rfl (pi_items (pv 0)) (pg_tup rfl (pgs_cons (pg_name (i := 2) sc__law_parents.nd rfl (Or.inl rfl)) (pgs_cons (pg_name (i := 3) sc__law_parents.nd rfl (Or.inl rfl)) pgs_nil))) (pss_one (ps_for PassesOwn.never rfl (pi_list (pv 3)) (pg_name (i := 4) sc__law_parents.nd rfl (Or.inl rfl)) (pss_one (ps_dput hu (pv 1) (pv 4) (pv 2) rfl))))))
      (pss_one (ps_ret (pv 1))))), ?_⟩
    intro d nd0
    have hp : H p = some (.dK (rowsD rs)) := gi _ _ hl.1
    have ndp : d ≠ p := fun z => by
      rw [z, hp] at nd0
      cases nd0
    have hp1 : (upd H d (.dK [])) p = some (.dK (rowsD rs)) := by
      rw [upd_ne ndp.symm]
      exact hp
    refine ⟨p, _, hp1, trivial, fun od => ?_⟩
    refine ⟨.ref p, rfl, p, od, rowsD rs, rfl, upd_same, ?_⟩
    have lenR : (rowsD rs).length = rs.length := by
      unfold rowsD
      rw [List.length_map]
    refine for_it walk_items (fun i σ' H' => (∃ y2 y3 y4, σ' = [some (.ref p), some (.ref d), y2, y3, y4]) ∧ H' p = some (.frz od (.dK (rowsD rs))) ∧
      (∀ b o, b ≠ p → H b = some o → H' b = some o) ∧ H' d = some (.dK (edD (rowsE (rs.take i))))) ⟨⟨none, none, none, rfl⟩, upd_same, ?_, ?_⟩ ?_ ?_ ?_
    · intro b o hb e
      rw [upd_ne hb, upd_ne (ne_of_none e nd0)]
      exact e
    · rw [upd_ne ndp, upd_same]
      rfl
    · rintro i σ' H' _ ⟨_, h1, _⟩
      exact h1
    · rintro i x σ' H' H2 hi ⟨⟨y2, y3, y4, rfl⟩, h1, h2, h3⟩ ⟨T, x1, x2, rfl, nT, rfl, e1, e2⟩
      rw [lenR] at hi
      have er : (rowsD rs)[i]? = some (Sum.inr rs[i].1, V.ref rs[i].2.1) := by
        unfold rowsD
        rw [List.getElem?_map, List.getElem?_eq_getElem hi]
        rfl
      dsimp only at e1 e2
      rw [er] at e1 e2
      cases e1
      cases e2
      have hmem : rs[i] ∈ rs := List.getElem_mem hi
      have nTp : p ≠ T := ne_of_none h1 nT
      have nTd : d ≠ T := ne_of_none h3 nT
      have hT0 : H T = none := by
        cases e : H T with
        | none => rfl
        | some o =>
          rw [h2 T o nTp.symm e] at nT
          cases nT
      refine ⟨T, _, rfl, sqT upd_same, rfl, _, _, rfl, _, _, rfl, rfl, ?_⟩
      have hla : ∀ H3 : Hp, (∀ b o, b ≠ p → H b = some o → H3 b = some o) → SqL K H3 rs[i].2.1 (rs[i].2.2.map V.str) := fun H3 hh =>
        sqL (hh _ _ (hl.ne hmem) (gi _ _ (hl.2 _ hmem)))
      have h2' : ∀ b o, b ≠ p → H b = some o → (upd H' T (.tup [.str rs[i].1, .ref rs[i].2.1])) b = some o := fun b o hb e => by
        rw [upd_ne (ne_of_none e hT0)]
        exact h2 b o hb e
      refine ⟨.ref rs[i].2.1, rfl, rs[i].2.1, rfl, ⟨_, hla _ h2'⟩, ?_⟩
      refine for_list (xs := rs[i].2.2.map V.str) (fun j σ' H' => (∃ y4, σ' = [some (.ref p), some (.ref d), some (.str rs[i].1), some (.ref rs[i].2.1), y4]) ∧ H' p = some (.frz od (.dK (rowsD rs))) ∧
        (∀ b o, b ≠ p → H b = some o → H' b = some o) ∧ H' d = some (.dK (edD (rowsE (rs.take i) ++ (rs[i].2.2.take j).map fun c => (c, rs[i].1))))) ⟨⟨y4, rfl⟩, ?_, h2', ?_⟩ ?_ ?_ ?_
      · rw [upd_ne nTp]
        exact h1
      · rw [upd_ne nTd, h3, List.take_zero, List.map_nil, List.append_nil]
      · rintro j σ' H' _ ⟨_, _, hh, _⟩
        exact hla _ hh
      · rintro j x σ' H' ex ⟨⟨y4, rfl⟩, g1, g2, g3⟩
        rw [List.getElem?_map] at ex
        cases hc : rs[i].2.2[j]? with
        | none =>
          rw [hc] at ex
          cases ex
        | some c =>
          rw [hc] at ex
          cases ex
          have hj : j < rs[i].2.2.length := (List.getElem?_eq_some_iff.mp hc).1
          have ec : rs[i].2.2[j] = c := by
            rw [List.getElem?_eq_getElem hj] at hc
            exact Option.some.inj hc
          have eq : rowsE rs = (rowsE (rs.take i) ++ (rs[i].2.2.take j).map fun c => (c, rs[i].1)) ++ ((c, rs[i].1) :: ((rs[i].2.2.drop (j + 1)).map (fun c => (c, rs[i].1)) ++ rowsE (rs.drop (i + 1)))) := by
            have e1 : rs = rs.take i ++ rs[i] :: rs.drop (i + 1) := by
              rw [← List.drop_eq_getElem_cons hi, List.take_append_drop]
            have e2 : rs[i].2.2 = rs[i].2.2.take j ++ c :: rs[i].2.2.drop (j + 1) := by
              rw [← ec, ← List.drop_eq_getElem_cons hj, List.take_append_drop]
            have e3 : rowsE rs = rowsE (rs.take i ++ rs[i] :: rs.drop (i + 1)) := by rw [← e1]
            have e4 : (rs[i].2.2.map fun c => (c, rs[i].1)) = (rs[i].2.2.take j).map (fun c => (c, rs[i].1)) ++ (c, rs[i].1) :: (rs[i].2.2.drop (j + 1)).map fun c => (c, rs[i].1) := by
              rw [← List.map_cons (f := fun c => (c, rs[i].1)), ← List.map_append, ← e2]
            rw [e3]
            unfold rowsE
            rw [List.flatMap_append, List.flatMap_cons, e4]
            simp
          have nk : valV (edD (rowsE (rs.take i) ++ (rs[i].2.2.take j).map fun c => (c, rs[i].1))) (Sum.inr c) = none := by
            refine valV_map_str _ _ fun y hy => ?_
            rw [eq, List.map_append, List.map_cons] at nd
            exact (List.nodup_append.mp nd).2.2 _ (List.mem_map.mpr ⟨_, hy, rfl⟩) _ (List.mem_cons_self ..) rfl
          have ll : (edD (rowsE (rs.take i) ++ (rs[i].2.2.take j).map fun c => (c, rs[i].1))).length < sizeLine := by
            have : (rowsE (rs.take i) ++ (rs[i].2.2.take j).map fun c => (c, rs[i].1)).length ≤ (rowsE rs).length := by
              rw [eq, List.length_append (bs := _ :: _)]
              omega
            unfold edD
            rw [List.length_map]
            exact Nat.lt_of_le_of_lt (by omega : _ ≤ 2000) (by decide)
          refine ⟨.str rs[i].1, rfl, .ref d, rfl, .str c, rfl, d, _, rfl, DPut.k (k := Sum.inr c) g3 ll, ⟨_, rfl⟩, ?_, fun b o hb e => ?_, ?_⟩
          · rw [upd_ne ndp.symm]
            exact g1
          · rw [upd_ne (ne_of_none e nd0)]
            exact g2 b o hb e
          · rw [upd_same, putK_new _ nk, List.take_succ, hc, List.map_append, ← List.append_assoc]
            exact congrArg (fun z => some (HO.dK z)) (edD_snoc _ (c, rs[i].1)).symm
      · rintro σ' H' ⟨⟨y4, rfl⟩, g1, g2, g3⟩
        refine ⟨⟨_, _, y4, rfl⟩, g1, g2, ?_⟩
        rw [List.length_map, List.take_length] at g3
        have e3 : rowsE (rs.take (i + 1)) = rowsE (rs.take i) ++ rs[i].2.2.map fun c => (c, rs[i].1) := by
          rw [List.take_succ, List.getElem?_eq_getElem hi]
          unfold rowsE
          rw [List.flatMap_append]
          simp
        rw [g3, e3]
    · rintro σ' H' ⟨⟨y2, y3, y4, rfl⟩, h1, h2, h3⟩
      refine ⟨h1, .ref d, rfl, q _ d ?_ nd0 ?_⟩
      · refine ⟨gi, fun b o _ e => ?_, fun _ _ e => e, fun b o e => ?_, fun _ e _ => e⟩
        · by_cases hb : b = p
          · rw [hb, upd_same]
            rw [hb, hp] at e
            exact e
          · rw [upd_ne hb]
            exact h2 b o hb e
        · have e' := gi b o e
          by_cases hb : b = p
          · rw [hb, upd_same]
            rw [hb, hp] at e'
            exact e'
          · rw [upd_ne hb]
            exact h2 b o hb e'
      · rw [upd_ne ndp, h3, lenR, List.take_length]
/-! ### _law_grown -/
abbrev s__law_grown : Stmt := topS 35
theorem sc__law_grown : FnScope ["_law_hand_here", "_law_names", "_law_deep", "_law_lists", "_law_levels", "_law_way", "_law_at", "_law_name", "_law_homes", "_law_home", "_law_one"] ["_law_hand_here", "_law_names", "_law_deep"] (defScope s__law_grown) := fscope (by decide +kernel)
def sp__law_grown (K : PySem.W.Frag) : Sp := fun vs H Q _ => ∃ (h l : Addr) (ks : List Str) (deep b : Nat), vs = [.ref h, .ref l, .int (deep : Int)] ∧ l ≠ h ∧ SqL K H l (ks.map V.str) ∧ ks.Nodup ∧ 0 < ks.length ∧ ks.length ≤ 700 ∧
  1 < deep ∧ deep ≤ 1000 ∧ Hd H h (b + 1 + 4 * ks.length) ∧ ∀ H' p rs t, Grown H h p ks deep H' rs t → Hd H' h b → Q (.ref p) H'
theorem ok__law_grown {f : Addr} {fd : FuncData} {k : Nat} (F : Fun K "_law_grown" "_law_grown" s__law_grown f fd) (c__law_take : Cal P w K mg base CX0 1 "_law_take" ["_law_hand_here", "_law_many"] sp__law_take)
    (c__law_of : Cal P w K mg base CX0 2 "_law_of" ["_law_hand_here", "_law_items"] (sp__law_of K)) (z_len : mg "len" = none) (z_enumerate : mg "enumerate" = none) :
    FnOk P w K mg base CX0 (k + 3) f fd ["_law_hand_here", "_law_names", "_law_deep"] (sp__law_grown K) := by
  refine F.ok sc__law_grown (fun vs H Q E h => ?_) (fun cdv A outer s H vs Q E hr h => ?_)
  · obtain ⟨h, l, ks, deep, b, rfl, _⟩ := h
    rfl
  · obtain ⟨h, l, ks, deep, b, rfl, nlh, hl, nd, k0, k1, d0, d1, hd, q⟩ := h
    have hu := hu_of hr
    refine ⟨_, (pss_cons (ps_asg (pe_tup (pa_cons (pe_disp (pps_cons (pe_ix ix_list (pv 1) pe_int (fun _ _ => rfl)) (pe_lst pa_nil) pps_nil) (by rfl) (by rfl) (fun z => by cases z) (by decide)) (pa_cons (pe_disp (pps_cons (pe_ix ix_list (pv 1) pe_int (fun _ _ => rfl)) pe_int pps_nil) (by rfl) (by rfl) (fun z => by cases z) (by decide)) (pa_cons (c__law_take.pe hr (by omega) (by rfl) (pa_cons (pv 0) (pa_cons pe_int pa_nil))) pa_nil)))) (pg_tup rfl (pgs_cons (pg_name (i := 3) sc__law_grown.nd rfl (Or.inl rfl)) (pgs_cons (pg_name (i := 4) sc__law_grown.nd rfl (Or.inr rfl)) (pgs_cons (pg_name (i := 5) sc__law_grown.nd rfl (Or.inl rfl)) pgs_nil)))))
      (pss_cons (ps_for PassesOwn.never rfl (pi_enum (by rfl) z_enumerate (pa_cons (pe_slice sl_list (pv 1) (po_some pe_int) po_none) pa_nil)) (pg_tup rfl (pgs_cons (pg_name (i := 6) sc__law_grown.nd rfl (Or.inl rfl)) (pgs_cons (pg_name (i := 7) sc__law_grown.nd rfl (Or.inl rfl)) pgs_nil))) (pss_cons (ps_setLc (i := 8) (own := [("_law_one", 10)]) (g := gName 10) (tt := fun σ H Q => tDGet (tVar 4) (tVar 10) σ H fun x H1 => tVar 2 σ H1 fun y H2 => ∃ i j, x = .int i ∧ y = .int j ∧ ∃ k, V.bl (decide (i < j)) = .bl k ∧ Q k H2) (te := tVar 10) rfl sc__law_grown.nd rfl rfl (sw_true rfl rfl rfl (by decide +kernel)) (pi_list (pe_slice sl_list (pv 1) po_none (po_some (pe_op op_add (pv 6) pe_int)))) (blkOk_by (own := [("_law_one", 10)]) (N := ["_law_hand_here", "_law_names", "_law_deep", "_law_lists", "_law_levels", "_law_way", "_law_at", "_law_name", "_law_homes", "_law_home", "_law_one"]) (sc := defScope s__law_grown) (by decide +kernel)) (fun _ _ _ _ _ => (pg_name (i := 10) sc__law_grown.nd rfl (Or.inl rfl))) (fun _ _ _ _ _ => (pts_one (pt_cmpR op_lt (pe_dget hu (pv 4) (pv 10) (fun _ _ => rfl)) (pv 2) (nomark _)))) (fun _ _ _ _ _ => (pv 10)))
        (pss_cons (ps_set (i := 9) sc__law_grown.nd rfl (Or.inl rfl) (c__law_of.pe hr (by omega) (by rfl) (pa_cons (pv 0) (pa_cons (pe_op op_cat (pe_slice sl_list (pe_lst (pa_cons (pe_ix ix_list (pv 8) (pe_un un_neg pe_int) (fun _ _ => rfl)) (pa_cons (pe_ix ix_list (pv 8) pe_int (fun _ _ => rfl)) (pa_cons (c__law_of.pe hr (by omega) (by rfl) (pa_cons (pv 0) (pa_cons (pv 8) pa_nil))) (pa_cons (c__law_of.pe hr (by omega) (by rfl) (pa_cons (pv 0) (pa_cons (pe_slice sl_list (pv 8) (po_some (pe_un un_neg pe_int)) po_none) pa_nil))) pa_nil))))) (po_some (pv 5)) po_none) (pe_lst (pa_cons (pe_ix ix_list (pv 8) (pe_un un_neg pe_int) (fun _ _ => rfl)) pa_nil))) pa_nil))))
        (pss_cons (ps_expr (pe_bm PySem.F.plainAttrs_list PySem.F.slot_list_insert PySem.F.type_list_insert mt_insert (pe_dget hu (pv 3) (pv 9) (fun _ _ => rfl)) (pa_cons (c__law_take.pe hr (by omega) (by rfl) (pa_cons (pv 0) (pa_cons (pe_op op_add (pe_callB call_len_seq (by rfl) z_len (by decide +kernel) (pa_cons (pe_dget hu (pv 3) (pv 9) (fun _ _ => rfl)) pa_nil)) pe_int) pa_nil))) (pa_cons (pv 7) pa_nil))))
        (pss_cons (ps_dput hu (pv 3) (pv 7) (pe_lst pa_nil) rfl)
        (pss_one (ps_dput hu (pv 4) (pv 7) (pe_op op_add (pe_dget hu (pv 4) (pv 9) (fun _ _ => rfl)) pe_int) rfl)))))))
      (pss_one (ps_ret (pv 3))))), ?_⟩
    obtain ⟨hx, ehx⟩ := hd.at_
    obtain ⟨r0, kr, ek⟩ : ∃ r0 kr, ks = r0 :: kr := by
      cases ks with
      | nil => exact absurd k0 (by simp)
      | cons a b => exact ⟨a, b, rfl⟩
    have at0 : atI (ks.map V.str) 0 = some (.str r0) := by
      rw [ek]
      exact atI_nat (j := 0) rfl
    -- {names[0]: []}
    intro p np
    have hph : p ≠ h := fun z => by rw [z, ehx] at np; cases np
    have B1 : But h H (upd H p (.dK [])) := (But.refl h H).new np
    refine ⟨.ref l, rfl, l, _, 0, .str r0, rfl, rfl, But.seq B1 nlh hl, at0, Nat.zero_le _, fun a0 na0 => ?_⟩
    have na0p : a0 ≠ p := fun z => by rw [z, upd_same] at na0; cases na0
    have na0' : H a0 = none := by rw [upd_ne na0p] at na0; exact na0
    have ha0h : a0 ≠ h := fun z => by rw [z, ehx] at na0'; cases na0'
    refine ⟨by rw [upd_ne na0p.symm, upd_same], [(Sum.inr r0, V.ref a0)], rfl, (by show 1 ≤ 15; decide), ?_⟩
    have B2 : But h H (upd (upd (upd H p (.dK [])) a0 (.lst [])) p (.dK (mergeK [] [(Sum.inr r0, V.ref a0)]))) := fun b' o hb e => by
      rw [upd_ne (ne_of_none e np), upd_ne (ne_of_none e na0'), upd_ne (ne_of_none e np)]
      exact e
    -- {names[0]: 1}
    intro q2 nq
    have nqp : q2 ≠ p := fun z => by rw [z, upd_same] at nq; cases nq
    have nqa : q2 ≠ a0 := fun z => by rw [z, upd_ne na0p, upd_same] at nq; cases nq
    have nq' : H q2 = none := by
      rw [upd_ne nqp, upd_ne nqa, upd_ne nqp] at nq
      exact nq
    have hqh : q2 ≠ h := fun z => by rw [z, ehx] at nq'; cases nq'
    refine ⟨.ref l, rfl, l, _, 0, .str r0, rfl, rfl, But.seq (B2.new nq) nlh hl, at0, upd_same, [(Sum.inr r0, V.int 1)], rfl, (by show 1 ≤ 15; decide), ?_⟩
    rw [upd_upd]
    have B3 : But h H (upd (upd (upd (upd H p (.dK [])) a0 (.lst [])) p (.dK (mergeK [] [(Sum.inr r0, V.ref a0)]))) q2 (.dK (mergeK [] [(Sum.inr r0, V.int 1)]))) := B2.new nq
    have hd3 : Hd (upd (upd (upd (upd H p (.dK [])) a0 (.lst [])) p (.dK (mergeK [] [(Sum.inr r0, V.ref a0)]))) q2 (.dK (mergeK [] [(Sum.inr r0, V.int 1)]))) h (b + 1 + 4 * ks.length) := hd.same (by
      rw [upd_ne hqh.symm, upd_ne hph.symm, upd_ne ha0h.symm, upd_ne hph.symm])
    have fp3 : (upd (upd (upd (upd H p (.dK [])) a0 (.lst [])) p (.dK (mergeK [] [(Sum.inr r0, V.ref a0)]))) q2 (.dK (mergeK [] [(Sum.inr r0, V.int 1)]))) p = some (.dK [(Sum.inr r0, V.ref a0)]) := by
      rw [upd_ne nqp.symm, upd_same]
      rfl
    have fa3 : (upd (upd (upd (upd H p (.dK [])) a0 (.lst [])) p (.dK (mergeK [] [(Sum.inr r0, V.ref a0)]))) q2 (.dK (mergeK [] [(Sum.inr r0, V.int 1)]))) a0 = some (.lst []) := by
      rw [upd_ne nqa.symm, upd_ne na0p, upd_same]
    have fq3 : (upd (upd (upd (upd H p (.dK [])) a0 (.lst [])) p (.dK (mergeK [] [(Sum.inr r0, V.ref a0)]))) q2 (.dK (mergeK [] [(Sum.inr r0, V.int 1)]))) q2 = some (.dK [(Sum.inr r0, V.int 1)]) := upd_same
    generalize (upd (upd (upd (upd H p (.dK [])) a0 (.lst [])) p (.dK (mergeK [] [(Sum.inr r0, V.ref a0)]))) q2 (.dK (mergeK [] [(Sum.inr r0, V.int 1)]))) = H3 at B3 hd3 fp3 fa3 fq3 ⊢
    -- take(hand, 4)
    refine ⟨.ref h, rfl, h, 4, b + 4 * ks.length, rfl, by decide, by decide, hd3.less (by omega), fun way H4 hway B4 hd4 => ?_⟩
    refine ⟨(by show 3 ≤ sizeLine; decide), fun tp ntp => ?_⟩
    refine ⟨tp, _, rfl, sqT upd_same, rfl, _, _, rfl, _, _, rfl, _, _, rfl, rfl, ?_⟩
    have B5 : But h H3 (upd H4 tp (.tup [.ref p, .ref q2, .int (way : Int)])) := B4.new ntp
    obtain ⟨_, eh4⟩ := hd4.at_
    have tph : tp ≠ h := fun z => by rw [z, eh4] at ntp; cases ntp
    have hd5 : Hd (upd H4 tp (.tup [.ref p, .ref q2, .int (way : Int)])) h (b + 4 * ks.length) := hd4.same (by rw [upd_ne tph.symm])
    generalize (upd H4 tp (.tup [.ref p, .ref q2, .int (way : Int)])) = H5 at B5 hd5 ⊢
    -- enumerate(names[1:])
    refine ⟨.ref l, rfl, 1, rfl, l, _, rfl, But.seq (B3.trans B5) nlh hl, fun c nc => ?_⟩
    rw [show cutV (ks.map V.str) (some 1) none = (ks.drop 1).map V.str by
      rw [List.map_drop]
      exact cut_from _ 1]
    obtain ⟨_, eh5⟩ := hd5.at_
    have hch : c ≠ h := fun z => by rw [z, eh5] at nc; cases nc
    have ncf : ∀ {x : Addr} {o : HO}, x ≠ h → H3 x = some o → x ≠ c := fun {x o} hxh e => ne_of_none (B5 x o hxh e) nc
    have nc' : H c = none := by
      cases e : H c with
      | none => rfl
      | some o =>
        rw [B5 c o hch (B3 c o hch e)] at nc
        cases nc
    refine ⟨c, _, rfl, sqL upd_same, ?_⟩
    refine for_it (walk_enum (xs := (ks.drop 1).map V.str)) (fun i σ' H' => (∃ y6 y7 y8 y9 y10, σ' = [some (.ref h), some (.ref l), some (.int (deep : Int)), some (.ref p), some (.ref q2), some (.int (way : Int)), y6, y7, y8, y9, y10]) ∧
      ∃ rs t lv, Gw K H h c p q2 ks deep i (b + 4 * (ks.length - 1 - i)) H' rs t lv) ⟨⟨none, none, none, none, none, rfl⟩, [(r0, a0, [])], .node r0 [], fun _ => 1, ?_⟩ ?_ ?_ ?_
    · have B6 : But h H (upd H5 c (.lst ((ks.drop 1).map V.str))) := (B3.trans B5).new nc
      have up : ∀ {x : Addr} {o : HO}, x ≠ h → H3 x = some o → (upd H5 c (.lst ((ks.drop 1).map V.str))) x = some o := fun {x o} hxh e => by
        rw [upd_ne (ncf hxh e)]
        exact B5 x o hxh e
      exact {
        bt := B6
        hd := (hd5.same (by rw [upd_ne hch.symm])).less (by omega)
        ls := ⟨up hph fp3, fun e he => by
          rw [List.mem_singleton.mp he]
          exact up ha0h fa3⟩
        lt := by
          unfold Kg.LT
          rw [T.leaf_desc]
          exact List.Perm.refl _
        rk := by rw [ek]; rfl
        fr := fun e he => by
          rw [List.mem_singleton.mp he]
          exact ⟨na0', ncf ha0h fa3⟩
        an := by simp
        lq := by
          rw [show ks.take (0 + 1) = [r0] by rw [ek]; rfl]
          exact up hqh fq3
        lvt := fun e he c hc => by
          rw [T.leaf_desc] at he
          rw [List.mem_singleton.mp he] at hc
          cases hc
        rt := by rw [ek]; rfl
        l1 := rfl
        ld := fun _ _ => by show 1 ≤ deep; omega
        hc := upd_same }
    · rintro i σ' H' _ ⟨_, rs, t, lv, g⟩
      exact sqL g.hc
    · rintro i x σ' H' H2 hi ⟨⟨y6, y7, y8, y9, y10, rfl⟩, rs, t, lv, g⟩ ⟨T0, x1, x2, rfl, nT, rfl, e1, e2⟩
      rw [List.length_map, List.length_drop] at hi
      have hik : i + 1 < ks.length := by omega
      have e1' : x1 = .int (i : Int) := (Option.some.inj e1).symm
      have e2' : x2 = .str ks[i + 1] := by
        have : ((ks.drop 1).map V.str)[i]? = some x2 := e2
        rw [List.getElem?_map, List.getElem?_drop, Nat.add_comm 1 i, List.getElem?_eq_getElem hik] at this
        exact (Option.some.inj this).symm
      subst e1' e2'
      refine ⟨T0, _, rfl, sqT upd_same, rfl, _, _, rfl, _, _, rfl, rfl, ?_⟩
      obtain ⟨_, ehp⟩ := g.hd.at_
      have nTh : T0 ≠ h := fun z => by rw [z, ehp] at nT; cases nT
      have C0 : But h H' (upd H' T0 (.tup [.int (i : Int), .str ks[i + 1]])) := (But.refl h H').new nT
      have hdT : Hd (upd H' T0 (.tup [.int (i : Int), .str ks[i + 1]])) h (b + 4 * (ks.length - 1 - i)) := g.hd.same (by rw [upd_ne nTh.symm])
      generalize (upd H' T0 (.tup [.int (i : Int), .str ks[i + 1]])) = J0 at C0 hdT ⊢
      have ndr : (rs.map (·.1)).Nodup := by
        rw [g.rk]
        exact nd.sublist (List.take_sublist _ _)
      have nd' : t.keys.Nodup := g.lt.keys.nodup_iff.mp ndr
      have memk : ∀ k, k ∈ t.keys ↔ k ∈ ks.take (i + 1) := fun k => by rw [← g.rk]; exact g.lt.keys.mem_iff.symm
      -- names[:at + 1]
      refine ⟨.ref l, rfl, .int (i : Int), rfl, (i : Int), 1, rfl, rfl, _, rfl, l, _, rfl, But.seq (g.bt.trans C0) nlh hl, fun c2 nc2 => ?_⟩
      rw [show cutV (ks.map V.str) none (some ((i : Int) + 1)) = (ks.take (i + 1)).map V.str by
        rw [List.map_take]
        exact cut_to _ (i + 1)]
      obtain ⟨_, eh0⟩ := hdT.at_
      have c2h : c2 ≠ h := fun z => by rw [z, eh0] at nc2; cases nc2
      have C1 : But h H' (upd J0 c2 (.lst ((ks.take (i + 1)).map V.str))) := C0.new nc2
      have hd1 : Hd (upd J0 c2 (.lst ((ks.take (i + 1)).map V.str))) h (b + 4 * (ks.length - 1 - i)) := hdT.same (by rw [upd_ne c2h.symm])
      have fc2 : (upd J0 c2 (.lst ((ks.take (i + 1)).map V.str))) c2 = some (.lst ((ks.take (i + 1)).map V.str)) := upd_same
      generalize (upd J0 c2 (.lst ((ks.take (i + 1)).map V.str))) = J1 at C1 hd1 fc2 ⊢
      have lq1 : J1 q2 = some (.dK (lvD lv (ks.take (i + 1)))) := C1 _ _ hqh g.lq
      refine ⟨c2, rfl, ⟨_, sqL fc2⟩, fun D nD => ?_⟩
      obtain ⟨_, eh1⟩ := hd1.at_
      have Dh : D ≠ h := fun z => by rw [z, eh1] at nD; cases nD
      have Dq : q2 ≠ D := ne_of_none lq1 nD
      have Dc2 : c2 ≠ D := ne_of_none fc2 nD
      refine lc_list (K := K) (a := c2) (vs := [10]) (g := gName 10) (te := tVar 10) (σ := [some (.ref h), some (.ref l), some (.int (deep : Int)), some (.ref p), some (.ref q2), some (.int (way : Int)), some (.int (i : Int)), some (.str ks[i + 1]), y8, y9, y10])
        (tt := fun σ H Q => tDGet (tVar 4) (tVar 10) σ H fun x H1 => tVar 2 σ H1 fun y H2 => ∃ i j, x = .int i ∧ y = .int j ∧ ∃ k, V.bl (decide (i < j)) = .bl k ∧ Q k H2) (xs := (ks.take (i + 1)).map V.str) (fun j J => J = upd J1 D (.lst ((((ks.take (i + 1)).take j).filter fun k => decide (lv k < deep)).map V.str))) rfl ?_ ?_ ?_
      · rintro j J _ rfl
        exact sqL (by rw [upd_ne Dc2]; exact fc2)
      · rintro j x J ex rfl
        rw [List.getElem?_map] at ex
        cases hx0 : (ks.take (i + 1))[j]? with
        | none =>
          rw [hx0] at ex
          cases ex
        | some k =>
          rw [hx0] at ex
          cases ex
          have hk : k ∈ ks.take (i + 1) := List.mem_of_getElem? hx0
          have gq : DGet (upd J1 D (.lst ((((ks.take (i + 1)).take j).filter fun k => decide (lv k < deep)).map V.str))) q2 (.str k) (some (.int (lv k : Int))) := by
            have := DGet.k (k := Sum.inr k) (H := upd J1 D (.lst ((((ks.take (i + 1)).take j).filter fun k => decide (lv k < deep)).map V.str))) (by rw [upd_ne Dq]; exact lq1)
            rw [lvD_at hk] at this
            exact this
          have next : (((ks.take (i + 1)).take (j + 1)).filter fun k => decide (lv k < deep)) = (((ks.take (i + 1)).take j).filter fun k => decide (lv k < deep)) ++ (if lv k < deep then [k] else []) := by
            rw [List.take_succ, hx0, List.filter_append]
            congr 1
            by_cases hlt : lv k < deep
            · simp [hlt]
            · simp [hlt]
          refine ⟨rfl, .ref q2, rfl, .str k, rfl, q2, _, rfl, gq, .int (deep : Int), rfl, _, _, rfl, rfl, _, rfl, ite2 (fun e => ?_) (fun e => ?_)⟩
          · have hlt : lv k < deep := by
              have : (lv k : Int) < (deep : Int) := of_decide_eq_true e
              omega
            refine ⟨.str k, rfl, _, upd_same, ?_, ?_⟩
            · rw [List.length_map]
              have h1 := List.length_filter_le (fun k => decide (lv k < deep)) ((ks.take (i + 1)).take j)
              have h2 : ((ks.take (i + 1)).take j).length ≤ ks.length := by
                rw [List.length_take, List.length_take]
                omega
              exact Nat.lt_of_le_of_lt (by omega : _ ≤ 700) (by decide)
            · rw [upd_upd, next, if_pos hlt, List.map_append]
              rfl
          · have hlt : ¬ lv k < deep := fun z => e (decide_eq_true (by omega))
            rw [next, if_neg hlt, List.append_nil]
      · rintro J rfl
        rw [List.length_map, List.take_length]
        obtain ⟨hs, ehs⟩ : ∃ hs, hs = (ks.take (i + 1)).filter fun k => decide (lv k < deep) := ⟨_, rfl⟩
        have hsin : ∀ k ∈ hs, k ∈ ks.take (i + 1) ∧ lv k < deep := fun k hk => by
          rw [ehs, List.mem_filter] at hk
          exact ⟨hk.1, of_decide_eq_true hk.2⟩
        have rin : r0 ∈ hs := by
          rw [ehs, List.mem_filter]
          have hr0 : t.key = r0 := by rw [g.rt, ek]; rfl
          refine ⟨?_, decide_eq_true ?_⟩
          · rw [← memk, ← hr0]
            exact T.mem_pre_keys (T.self_pre t)
          · rw [← hr0, g.l1]
            exact d0
        have hslen : hs.length ≤ 700 := by
          rw [ehs]
          have h1 := List.length_filter_le (fun k => decide (lv k < deep)) (ks.take (i + 1))
          rw [List.length_take] at h1
          omega
        have hspos : 0 < hs.length := List.length_pos_of_mem rin
        rw [← ehs]
        have C2 : But h H' (upd J1 D (.lst (hs.map V.str))) := C1.new nD
        have hd2 : Hd (upd J1 D (.lst (hs.map V.str))) h (b + 4 * (ks.length - 1 - (i + 1)) + 4) := (hd1.same (by rw [upd_ne Dh.symm])).less (by omega)
        have fD : (upd J1 D (.lst (hs.map V.str))) D = some (.lst (hs.map V.str)) := upd_same
        generalize (upd J1 D (.lst (hs.map V.str))) = J2 at C2 hd2 fD ⊢
        generalize b + 4 * (ks.length - 1 - (i + 1)) = B at hd2 ⊢
        obtain ⟨lst, elst, hlst⟩ : ∃ lst, atI (hs.map V.str) (-1) = some (.str lst) ∧ lst ∈ hs := by
          have hne : hs ≠ [] := fun z => by rw [z] at hspos; exact absurd hspos (by decide)
          refine ⟨hs.getLast hne, ?_, List.getLast_mem hne⟩
          have : hs.map V.str = hs.dropLast.map V.str ++ [V.str (hs.getLast hne)] := by
            rw [← List.map_singleton, ← List.map_append, List.dropLast_concat_getLast]
          rw [this]
          exact atI_last _ _
        have efst : atI (hs.map V.str) 0 = some (.str hs[0]) := atI_nat (j := 0) (by rw [List.getElem?_map, List.getElem?_eq_getElem hspos]; rfl)
        have lenm : (hs.map V.str).length = hs.length := List.length_map ..
        -- home
        refine ⟨.ref h, rfl, .ref D, rfl, 1, rfl, D, _, -1, .str lst, rfl, rfl, sqL fD, elst, .ref D, rfl, D, _, 0, .str hs[0], rfl, rfl, sqL fD, efst,
          .ref h, rfl, .ref D, rfl, h, B + 3, hd2, .inl ⟨D, _, rfl, Dh, sqL fD, (by rw [lenm]; exact hspos), (by rw [lenm]; omega), fun i1 x1 J3 ex1 B3' hd3' => ?_⟩⟩
        have fD3 : J3 D = some (.lst (hs.map V.str)) := B3' _ _ Dh fD
        refine ⟨.ref h, rfl, .ref D, rfl, 3, rfl, -3, rfl, D, _, rfl, sqL fD3, fun c3 nc3 => ?_⟩
        rw [show cutV (hs.map V.str) (some (-3)) none = (hs.map V.str).drop ((hs.map V.str).length - 3) from cut_back _ 3 (by decide)]
        obtain ⟨_, eh3⟩ := hd3'.at_
        have c3h : c3 ≠ h := fun z => by rw [z, eh3] at nc3; cases nc3
        refine ⟨h, B + 2, hd3'.same (by rw [upd_ne c3h.symm]), .inl ⟨c3, _, rfl, c3h, sqL upd_same, (by rw [List.length_drop, lenm]; omega), (by rw [List.length_drop, lenm]; omega), fun i2 x2 J5 ex2 B5' hd5' => ?_⟩⟩
        have D3 : But h J2 J5 := B3'.trans (((But.refl h J3).new nc3).trans B5')
        have fD5 : J5 D = some (.lst (hs.map V.str)) := D3 _ _ Dh fD
        have hx1 : x1 ∈ hs.map V.str := List.mem_of_getElem? ex1
        have hx2 : x2 ∈ hs.map V.str := List.mem_of_mem_drop (List.mem_of_getElem? ex2)
        refine ⟨(by show 4 ≤ sizeLine; decide), fun c4 nc4 => ?_⟩
        refine ⟨.int (way : Int), rfl, (way : Int), rfl, c4, _, rfl, sqL upd_same, fun c5 nc5 => ?_⟩
        obtain ⟨hx5, eh5'⟩ := hd5'.at_
        have c4h : c4 ≠ h := fun z => by rw [z, eh5'] at nc4; cases nc4
        have c4D : D ≠ c4 := ne_of_none fD5 nc4
        have fD6 : (upd J5 c4 (.lst [.str lst, .str hs[0], x1, x2])) D = some (.lst (hs.map V.str)) := by rw [upd_ne c4D]; exact fD5
        have fh6 : (upd J5 c4 (.lst [.str lst, .str hs[0], x1, x2])) h = some (.lst hx5) := by rw [upd_ne c4h.symm]; exact eh5'
        have c5h : c5 ≠ h := fun z => by rw [z, fh6] at nc5; cases nc5
        have c5D : D ≠ c5 := ne_of_none fD6 nc5
        have fD7 : (upd (upd J5 c4 (.lst [.str lst, .str hs[0], x1, x2])) c5 (.lst (cutV [.str lst, .str hs[0], x1, x2] (some (way : Int)) none))) D = some (.lst (hs.map V.str)) := by rw [upd_ne c5D]; exact fD6
        refine ⟨.ref D, rfl, 1, rfl, D, _, -1, .str lst, rfl, rfl, sqL fD7, elst, (by show 1 ≤ sizeLine; decide), fun c6 nc6 => ?_⟩
        have c56 : c5 ≠ c6 := ne_of_none upd_same nc6
        refine ⟨c5, c6, _, _, rfl, rfl, (by rw [upd_ne c56, upd_same]), upd_same, ?_, fun c7 nc7 => ?_⟩
        · have := cutV_length [.str lst, .str hs[0], x1, x2] (some (way : Int)) none
          exact Nat.le_trans (show _ ≤ 5 by simp only [List.length_cons, List.length_nil] at this ⊢; omega) (by decide)
        have D7 : But h J2 (upd (upd (upd (upd J5 c4 (.lst [.str lst, .str hs[0], x1, x2])) c5 (.lst (cutV [.str lst, .str hs[0], x1, x2] (some (way : Int)) none))) c6 (.lst [.str lst])) c7
            (.lst (cutV [.str lst, .str hs[0], x1, x2] (some (way : Int)) none ++ [.str lst]))) := (((D3.new nc4).new nc5).new nc6).new nc7
        have c6h : c6 ≠ h := fun z => by
          rw [z, upd_ne c5h.symm, fh6] at nc6
          cases nc6
        have c7h : c7 ≠ h := fun z => by
          rw [z, upd_ne c6h.symm, upd_ne c5h.symm, fh6] at nc7
          cases nc7
        refine ⟨h, B + 1, hd5'.same (by rw [upd_ne c7h.symm, upd_ne c6h.symm, upd_ne c5h.symm, upd_ne c4h.symm]), .inl ⟨c7, _, rfl, c7h, sqL upd_same, (by rw [List.length_append]; simp), ?_, fun i3 x3 J10 ex3 B10 hd10 => ?_⟩⟩
        · have := cutV_length [.str lst, .str hs[0], x1, x2] (some (way : Int)) none
          rw [List.length_append]
          simp only [List.length_cons, List.length_nil] at this ⊢
          omega
        have D10 : But h J2 J10 := D7.trans B10
        obtain ⟨home, hhome, rfl⟩ : ∃ home ∈ hs, x3 = .str home := by
          have hm := List.mem_of_getElem? ex3
          rw [cut_from] at hm
          rcases List.mem_append.mp hm with z | z
          · have z := List.mem_of_mem_drop z
            simp only [List.mem_cons, List.not_mem_nil, or_false] at z
            rcases z with rfl | rfl | rfl | rfl
            · exact ⟨_, hlst, rfl⟩
            · exact ⟨_, List.getElem_mem hspos, rfl⟩
            · exact mem_map_str hx1
            · exact mem_map_str hx2
          · rw [List.mem_singleton.mp z]
            exact ⟨_, hlst, rfl⟩
        obtain ⟨hm1, hm2⟩ := hsin home hhome
        have htk : home ∈ t.keys := (memk home).mpr hm1
        obtain ⟨n, hn, en⟩ := List.mem_map.mp htk
        obtain ⟨a, hra⟩ := g.lt.row hn
        rw [en] at hra
        have E10 : But h H' J10 := C2.trans D10
        have rowne : ∀ e ∈ rs, e.2.1 ≠ h := fun e he z => by
          have := (g.fr e he).1
          rw [z, ehx] at this
          cases this
        have fp10 : J10 p = some (.dK (rowsD rs)) := E10 _ _ hph g.ls.1
        have fr10 : ∀ e ∈ rs, J10 e.2.1 = some (.lst (e.2.2.map V.str)) := fun e he => E10 _ _ (rowne e he) (g.ls.2 e he)
        have dg10 : ∀ {J : Hp}, J p = some (.dK (rowsD rs)) → DGet J p (.str home) (some (.ref a)) := fun {J} e => by
          have := DGet.k (k := Sum.inr home) e
          rw [rows_at ndr hra] at this
          exact this
        have cslen : (n.kids.map T.key).length ≤ 700 := by
          have h1 := T.pre_kids hn
          have h2 := g.lt.keys.length_eq
          rw [g.rk, List.length_take, T.keys_len] at h2
          rw [List.length_map]
          omega
        -- lists[home].insert(take(hand, len(lists[home]) + 1), name)
        refine ⟨.ref p, rfl, .str home, rfl, p, .ref a, rfl, dg10 fp10, Or.inl ⟨rfl, _, sqL (fr10 _ hra)⟩, .ref h, rfl, .ref p, rfl, .str home, rfl, p, .ref a, rfl, dg10 fp10, a, _, rfl, .inl (sqL (fr10 _ hra)), _, 1, rfl, rfl,
          h, (n.kids.map T.key).length + 1, B, (by simp), (by omega), (by omega), hd10, fun r J11 hr11 B11 hd11 => ?_⟩
        have E11 : But h H' J11 := E10.trans B11
        have fp11 : J11 p = some (.dK (rowsD rs)) := E11 _ _ hph g.ls.1
        have fq11 : J11 q2 = some (.dK (lvD lv (ks.take (i + 1)))) := E11 _ _ hqh g.lq
        have fc11 : J11 c = some (.lst ((ks.drop 1).map V.str)) := E11 _ _ hch g.hc
        have fr11 : ∀ e ∈ rs, J11 e.2.1 = some (.lst (e.2.2.map V.str)) := fun e he => E11 _ _ (rowne e he) (g.ls.2 e he)
        have ha11 : J11 a = some (.lst ((n.kids.map T.key).map V.str)) := fr11 _ hra
        have aH : H a = none := (g.fr _ hra).1
        have ac : a ≠ c := (g.fr _ hra).2
        have ap : a ≠ p := ne_of ha11 fp11 (fun z => nomatch z)
        have aq : a ≠ q2 := ne_of ha11 fq11 (fun z => nomatch z)
        have ah : a ≠ h := rowne _ hra
        obtain ⟨hx11, eh11⟩ := hd11.at_
        refine ⟨.str ks[i + 1], rfl, a, _, (r : Int), .str ks[i + 1], rfl, rfl, ha11, ?_, by omega, by omega, ?_⟩
        · rw [List.length_map]
          exact Nat.lt_of_le_of_lt cslen (by decide)
        rw [Int.toNat_natCast]
        have ein : ((n.kids.map T.key).map V.str).take r ++ [V.str ks[i + 1]] ++ ((n.kids.map T.key).map V.str).drop r = ((n.kids.map T.key).take r ++ [ks[i + 1]] ++ (n.kids.map T.key).drop r).map V.str := by
          rw [List.map_append, List.map_append, List.map_take, List.map_drop]
          rfl
        rw [ein]
        -- lists[name] = []
        refine ⟨Nat.zero_le _, fun a2 na2 => ?_⟩
        have fp12 : (upd J11 a (.lst (((n.kids.map T.key).take r ++ [ks[i + 1]] ++ (n.kids.map T.key).drop r).map V.str))) p = some (.dK (rowsD rs)) := by rw [upd_ne ap.symm]; exact fp11
        have a2a : a2 ≠ a := fun z => by rw [z, upd_same] at na2; cases na2
        have na2' : J11 a2 = none := by rw [upd_ne a2a] at na2; exact na2
        have a2p : p ≠ a2 := ne_of_none fp11 na2'
        have a2q : q2 ≠ a2 := ne_of_none fq11 na2'
        have a2c : c ≠ a2 := ne_of_none fc11 na2'
        have a2h : h ≠ a2 := ne_of_none eh11 na2'
        have a2H : H a2 = none := by
          cases e : H a2 with
          | none => rfl
          | some o =>
            rw [E11 a2 o a2h.symm (g.bt a2 o a2h.symm e)] at na2'
            cases na2'
        have nname : ks[i + 1] ∉ ks.take (i + 1) := fun z => by
          have e3 : ks = ks.take (i + 1) ++ ks[i + 1] :: ks.drop (i + 1 + 1) := by
            rw [← List.drop_eq_getElem_cons hik, List.take_append_drop]
          rw [e3] at nd
          exact (List.nodup_append.mp nd).2.2 _ z _ (List.mem_cons_self ..) rfl
        have tk1 : ks.take (i + 1 + 1) = ks.take (i + 1) ++ [ks[i + 1]] := by
          rw [List.take_succ, List.getElem?_eq_getElem hik]
          rfl
        have rsl : rs.length = i + 1 := by
          have := congrArg List.length g.rk
          rw [List.length_map, List.length_take] at this
          omega
        refine ⟨.ref p, rfl, .str ks[i + 1], rfl, p, _, rfl, DPut.k (k := Sum.inr ks[i + 1]) (by rw [upd_ne a2p]; exact fp12) ?_, ?_⟩
        · unfold rowsD
          rw [List.length_map]
          exact Nat.lt_of_le_of_lt (by omega : _ ≤ 700) (by decide)
        have pq : p ≠ q2 := nqp.symm
        have fq13 : (upd (upd (upd J11 a (.lst (((n.kids.map T.key).take r ++ [ks[i + 1]] ++ (n.kids.map T.key).drop r).map V.str))) a2 (.lst [])) p (.dK (putK (rowsD rs) (Sum.inr ks[i + 1]) (.ref a2)))) q2 = some (.dK (lvD lv (ks.take (i + 1)))) := by
          rw [upd_ne pq.symm, upd_ne a2q, upd_ne aq.symm]
          exact fq11
        have dgq : DGet (upd (upd (upd J11 a (.lst (((n.kids.map T.key).take r ++ [ks[i + 1]] ++ (n.kids.map T.key).drop r).map V.str))) a2 (.lst [])) p (.dK (putK (rowsD rs) (Sum.inr ks[i + 1]) (.ref a2)))) q2 (.str home) (some (.int (lv home : Int))) := by
          have := DGet.k (k := Sum.inr home) fq13
          rw [lvD_at hm1] at this
          exact this
        -- levels[name] = levels[home] + 1
        refine ⟨.ref q2, rfl, .str home, rfl, q2, _, rfl, dgq, (lv home : Int), 1, rfl, rfl, .ref q2, rfl, .str ks[i + 1], rfl, q2, _, rfl, DPut.k (k := Sum.inr ks[i + 1]) fq13 ?_, ?_⟩
        · unfold lvD
          rw [List.length_map, List.length_take]
          exact Nat.lt_of_le_of_lt (by omega : _ ≤ 700) (by decide)
        have ep : putK (rowsD rs) (Sum.inr ks[i + 1]) (.ref a2) = rowsD (rs.map (putR home r ks[i + 1]) ++ [(ks[i + 1], a2, [])]) := by
          rw [putK_new _ (rows_none (by rw [g.rk]; exact nname))]
          have : rowsD (rs.map (putR home r ks[i + 1]) ++ [(ks[i + 1], a2, [])]) = rowsD (rs.map (putR home r ks[i + 1])) ++ [(Sum.inr ks[i + 1], V.ref a2)] := by
            unfold rowsD
            rw [List.map_append]
            rfl
          rw [this, rowsD_putR]
        have eq' : putK (lvD lv (ks.take (i + 1))) (Sum.inr ks[i + 1]) (.int ((lv home : Int) + 1)) = lvD (fun k => if k = ks[i + 1] then lv home + 1 else lv k) (ks.take (i + 1 + 1)) := by
          rw [putK_new _ (lvD_none nname), tk1, lvD_put lv _ _ _ nname]
          rfl
        rw [ep, eq']
        have rsN : ∀ e ∈ rs, e.1 = home → e = (home, a, n.kids.map T.key) := fun e he e1 => by
          have h1 := rows_at ndr (show (e.1, e.2.1, e.2.2) ∈ rs from he)
          rw [e1, rows_at ndr hra] at h1
          have h2 : e.2.1 = a := by
            have := Option.some.inj h1
            injection this with this
            exact this.symm
          have inj : ∀ l : List (Str × Addr × List Str), (l.map (·.1)).Nodup → e ∈ l → (home, a, n.kids.map T.key) ∈ l → e = (home, a, n.kids.map T.key) := by
            intro l
            induction l with
            | nil => intro _ h; cases h
            | cons x l ih =>
              intro nd h1 h2
              rw [List.map_cons, List.nodup_cons] at nd
              rcases List.mem_cons.mp h1 with z1 | z1
              · rcases List.mem_cons.mp h2 with z2 | z2
                · rw [z1, z2]
                · exact absurd (List.mem_map.mpr ⟨_, z2, by rw [← z1, e1]⟩) nd.1
              · rcases List.mem_cons.mp h2 with z2 | z2
                · exact absurd (List.mem_map.mpr ⟨_, z1, by rw [← z2, e1]⟩) nd.1
                · exact ih nd.2 z1 z2
          exact inj rs ndr he hra
        have rsA : ∀ e ∈ rs, e.1 ≠ home → e.2.1 ≠ a := fun e he e1 z => by
          have inj : ∀ l : List (Str × Addr × List Str), (l.map (·.2.1)).Nodup → e ∈ l → (home, a, n.kids.map T.key) ∈ l → e = (home, a, n.kids.map T.key) := by
            intro l
            induction l with
            | nil => intro _ h; cases h
            | cons x l ih =>
              intro nd h1 h2
              rw [List.map_cons, List.nodup_cons] at nd
              rcases List.mem_cons.mp h1 with z1 | z1
              · rcases List.mem_cons.mp h2 with z2 | z2
                · rw [z1, z2]
                · exact absurd (List.mem_map.mpr ⟨_, z2, by rw [← z1, z]⟩) nd.1
              · rcases List.mem_cons.mp h2 with z2 | z2
                · exact absurd (List.mem_map.mpr ⟨_, z1, by rw [← z2, z]⟩) nd.1
                · exact ih nd.2 z1 z2
          exact e1 (congrArg (·.1) (inj rs g.an he hra))
        have keysP := T.ins_keys (home := home) (i := r) (x := ks[i + 1]) nd' htk
        have nint : ks[i + 1] ∉ t.keys := fun z => nname ((memk _).mp z)
        refine ⟨⟨_, _, _, _, _, rfl⟩, rs.map (putR home r ks[i + 1]) ++ [(ks[i + 1], a2, [])], t.ins home r ks[i + 1], fun k => if k = ks[i + 1] then lv home + 1 else lv k, ?_⟩
        exact {
          bt := fun b' o hb e => by
            rw [upd_ne (ne_of_none e nq'), upd_ne (ne_of_none e np), upd_ne (ne_of_none e a2H), upd_ne (ne_of_none e aH)]
            exact E11 b' o hb (g.bt b' o hb e)
          hd := hd11.same (by rw [upd_ne hqh.symm, upd_ne hph.symm, upd_ne a2h, upd_ne ah.symm])
          ls := ⟨by rw [upd_ne pq, upd_same], fun e he => by
            rcases List.mem_append.mp he with z | z
            · obtain ⟨e0, he0, rfl⟩ := List.mem_map.mp z
              rw [putR_2]
              have f0 := fr11 e0 he0
              have ne1 : e0.2.1 ≠ q2 := ne_of f0 fq11 (fun z => nomatch z)
              have ne2 : e0.2.1 ≠ p := ne_of f0 fp11 (fun z => nomatch z)
              have ne3 : e0.2.1 ≠ a2 := ne_of_none f0 na2'
              rw [upd_ne ne1, upd_ne ne2, upd_ne ne3]
              by_cases e1 : e0.1 = home
              · have e2 := rsN e0 he0 e1
                unfold putR
                rw [if_pos e1, e2, upd_same]
              · unfold putR
                rw [if_neg e1, upd_ne (rsA e0 he0 e1)]
                exact f0
            · rw [List.mem_singleton.mp z]
              show (upd _ _ _) a2 = _
              rw [upd_ne a2q.symm, upd_ne a2p.symm, upd_same]
              rfl⟩
          lt := g.lt.ins nd' htk a2
          rk := by
            rw [List.map_append, List.map_map, tk1, ← g.rk]
            congr 1
            apply List.map_congr_left
            intro e _
            exact putR_1 home r ks[i + 1] e
          fr := fun e he => by
            rcases List.mem_append.mp he with z | z
            · obtain ⟨e0, he0, rfl⟩ := List.mem_map.mp z
              rw [putR_2]
              exact g.fr e0 he0
            · rw [List.mem_singleton.mp z]
              exact ⟨a2H, a2c.symm⟩
          an := by
            rw [List.map_append, List.map_map]
            have e3 : (rs.map ((fun x : Str × Addr × List Str => x.2.1) ∘ putR home r ks[i + 1])) = rs.map (·.2.1) := by
              apply List.map_congr_left
              intro e _
              exact putR_2 home r ks[i + 1] e
            rw [e3]
            refine nd_snoc g.an fun z => ?_
            obtain ⟨e0, he0, e1⟩ := List.mem_map.mp z
            have := fr11 e0 he0
            rw [e1, na2'] at this
            cases this
          lq := upd_same
          lvt := fun e he c' hc' => by
            have he2 := (T.ins_desc home r ks[i + 1] t nd' htk).mem_iff.mp he
            rcases List.mem_append.mp he2 with z | z
            · obtain ⟨e0, he0, rfl⟩ := List.mem_map.mp z
              have k0 : e0.1 ∈ t.keys := by
                rw [← T.desc_keys]
                exact List.mem_map.mpr ⟨e0, he0, rfl⟩
              have n0 : e0.1 ≠ ks[i + 1] := fun z => nint (z ▸ k0)
              have kid : ∀ c' ∈ e0.2, c' ≠ ks[i + 1] ∧ lv c' = lv e0.1 + 1 := fun c' hc' => by
                refine ⟨fun z => nint ?_, g.lvt e0 he0 c' hc'⟩
                rw [← z, ← (T.edges_perm t).mem_iff]
                refine List.mem_cons_of_mem _ (List.mem_map.mpr ⟨(c', e0.1), ?_, rfl⟩)
                rw [T.edges_desc]
                exact List.mem_flatMap.mpr ⟨e0, he0, List.mem_map.mpr ⟨c', hc', rfl⟩⟩
              unfold T.putRow at hc' ⊢
              by_cases e1 : e0.1 = home
              · rw [if_pos e1] at hc' ⊢
                show (if c' = ks[i + 1] then lv home + 1 else lv c') = (if e0.1 = ks[i + 1] then lv home + 1 else lv e0.1) + 1
                rw [if_neg n0]
                have hc2 : c' ∈ e0.2.take r ++ [ks[i + 1]] ++ e0.2.drop r := hc'
                by_cases e2 : c' = ks[i + 1]
                · rw [if_pos e2, e1]
                · rw [if_neg e2]
                  have : c' ∈ e0.2 := by
                    rcases List.mem_append.mp hc2 with z1 | z1
                    · rcases List.mem_append.mp z1 with z2 | z2
                      · exact List.mem_of_mem_take z2
                      · exact absurd (List.mem_singleton.mp z2) e2
                    · exact List.mem_of_mem_drop z1
                  exact (kid c' this).2
              · rw [if_neg e1] at hc' ⊢
                show (if c' = ks[i + 1] then lv home + 1 else lv c') = (if e0.1 = ks[i + 1] then lv home + 1 else lv e0.1) + 1
                rw [if_neg n0, if_neg (kid c' hc').1]
                exact (kid c' hc').2
            · rw [List.mem_singleton.mp z] at hc'
              cases hc'
          rt := by rw [T.ins_key]; exact g.rt
          l1 := by
            rw [T.ins_key]
            show (if t.key = ks[i + 1] then lv home + 1 else lv t.key) = 1
            have hz : ¬ t.key = ks[i + 1] := fun z => by
              have h9 := T.mem_pre_keys (T.self_pre t)
              rw [z] at h9
              exact nint h9
            rw [if_neg hz]
            exact g.l1
          ld := fun k hk => by
            show (if k = ks[i + 1] then lv home + 1 else lv k) ≤ deep
            by_cases e2 : k = ks[i + 1]
            · rw [if_pos e2]
              omega
            · rw [if_neg e2]
              rcases List.mem_append.mp (keysP.mem_iff.mp hk) with z | z
              · exact g.ld k z
              · exact absurd (List.mem_singleton.mp z) e2
          hc := by
            have cq : c ≠ q2 := ne_of fc11 fq11 (fun z => nomatch z)
            have cp : c ≠ p := ne_of fc11 fp11 (fun z => nomatch z)
            rw [upd_ne cq, upd_ne cp, upd_ne a2c, upd_ne ac.symm]
            exact fc11 }
    · rintro σ' H' ⟨⟨y6, y7, y8, y9, y10, rfl⟩, rs, t, lv, g⟩
      have e1 : ((ks.drop 1).map V.str).length + 1 = ks.length := by
        rw [List.length_map, List.length_drop]
        omega
      have nd' : t.keys.Nodup := by
        rw [← g.lt.keys.nodup_iff, g.rk, e1, List.take_length]
        exact nd
      refine ⟨.ref p, rfl, q H' p rs t ⟨g.bt, np, g.ls, g.lt, ?_, fun e he => (g.fr e he).1, g.rt, nd', ?_⟩ (g.hd.less (by omega))⟩
      · rw [g.rk, e1, List.take_length]
      · exact g.lvt.ht deep t g.ld (by rw [g.l1]; omega)
end
end K5
namespace K5
open PySem PySem.Spec PyProof.Rows L2 Kg
section
variable {P : Program} {w : World} {K : PySem.W.Frag} {mg : Str → Option Value} {base : Heap}
/-! ### is_below_root -/
abbrev s_is_below_root : Stmt := topS 22
theorem sc_is_below_root : FnScope ["parents", "key"] ["parents", "key"] (defScope s_is_below_root) := fscope (by decide +kernel)
def sp_is_below_root : Sp := fun vs H Q _ => ∃ (p : Addr) (t : T) (x : Str), vs = [.ref p, .str x] ∧ t.keys.Nodup ∧ H p = some (.dK (parD t t.edges)) ∧ Q (.bl (t.hasUp x)) H
theorem ok_is_below_root {f : Addr} {fd : FuncData} {k : Nat} (F : Fun K "is_below_root" "is_below_root" s_is_below_root f fd) :
    FnOk P w K mg base CX0 (k + 1) f fd ["parents", "key"] sp_is_below_root := by
  refine F.ok sc_is_below_root (fun vs H Q E h => ?_) (fun cdv A outer s H vs Q E hr h => ?_)
  · obtain ⟨p, t, x, rfl, _⟩ := h
    rfl
  · obtain ⟨p, t, x, rfl, nd, hp, q⟩ := h
    have hu := hu_of hr
    refine ⟨_, (pss_one (ps_ret (pe_cmp (pc_notN (pe_dget1 hu (pv 0) (pv 1) ⟨rfl, rfl, rfl, rfl⟩)) rfl))), ?_⟩
    refine ⟨.ref p, rfl, p, rfl, .inl ⟨_, .inl hp⟩, .str x, rfl, _, DGet.k (k := Sum.inr x) hp, ?_⟩
    rcases parD_get nd x with ⟨y, hm, e⟩ | ⟨_, e, no⟩ | ⟨_, e, no⟩
    · rw [e]
      rw [below_of hm] at q
      exact q
    · rw [e]
      rw [below_no no] at q
      exact q
    · rw [e]
      rw [below_no no] at q
      exact q
/-! ### is_place -/
abbrev s_is_place : Stmt := topS 23
theorem sc_is_place : FnScope ["parents", "parent", "before"] ["parents", "parent", "before"] (defScope s_is_place) := fscope (by decide +kernel)
def sp_is_place : Sp := fun vs H Q _ => ∃ (p : Addr) (t : T) (x : Str) (b : Option Str), vs = [.ref p, .str x, bV b] ∧ t.keys.Nodup ∧ H p = some (.dK (parD t t.edges)) ∧ Q (.bl (t.place x b)) H
theorem ok_is_place {f : Addr} {fd : FuncData} {k : Nat} (F : Fun K "is_place" "is_place" s_is_place f fd) :
    FnOk P w K mg base CX0 (k + 1) f fd ["parents", "parent", "before"] sp_is_place := by
  refine F.ok sc_is_place (fun vs H Q E h => ?_) (fun cdv A outer s H vs Q E hr h => ?_)
  · obtain ⟨p, t, x, b, rfl, _⟩ := h
    rfl
  · obtain ⟨p, t, x, b, rfl, nd, hp, q⟩ := h
    have hu := hu_of hr
    refine ⟨_, (pss_cons (ps_if (pt_cmp (pc_dnotin hu (pv 1) (pv 0))) (pss_one (ps_ret pe_bl)) pss_nil)
      (pss_one (ps_ret (pe_or (pe_cmp (pc_isN (pv 2)) rfl) (pe_one (pe_cmpR op_eq (pe_dget1 hu (pv 0) (pv 2) ⟨rfl, rfl, rfl, rfl⟩) (pv 1) (nomark _))))))), ?_⟩
    have there : ∀ z, (valV (parD t t.edges) (Sum.inr x) = some z → x ∈ t.keys) := fun z hz => by
      rcases parD_get nd x with ⟨y, hm, _⟩ | ⟨e, _⟩ | ⟨_, e, _⟩
      · exact T.below_key (below_of hm)
      · rw [e]
        exact T.mem_pre_keys (T.self_pre t)
      · rw [hz] at e
        cases e
    refine ⟨.str x, rfl, .ref p, rfl, p, _, rfl, DGet.k (k := Sum.inr x) hp, _, rfl, ?_⟩
    cases hv : valV (parD t t.edges) (Sum.inr x) with
    | none =>
      refine iteT ?_
      have : x ∉ t.keys := fun z => by
        rcases parD_get nd x with ⟨y, _, e⟩ | ⟨_, e, _⟩ | ⟨e, _⟩
        · rw [hv] at e
          cases e
        · rw [hv] at e
          cases e
        · exact e z
      unfold T.place at q
      rw [decide_eq_false this] at q
      exact q
    | some z =>
      refine iteF ?_
      have hx := there z hv
      unfold T.place at q
      rw [decide_eq_true hx] at q
      cases b with
      | none => exact ⟨.non, rfl, true, rfl, iteT q⟩
      | some c =>
        refine ⟨.str c, rfl, false, rfl, iteF ?_⟩
        refine ⟨.ref p, rfl, p, rfl, .inl ⟨_, .inl hp⟩, .str c, rfl, _, DGet.k (k := Sum.inr c) hp, .str x, rfl, ?_⟩
        rcases parD_get nd c with ⟨y, hm, e⟩ | ⟨_, e, no⟩ | ⟨_, e, no⟩
        · rw [e]
          refine ⟨rfl, ?_⟩
          have : decide (V.str y = V.str x) = decide ((c, x) ∈ t.edges) := by
            by_cases h : y = x
            · rw [decide_eq_true (by rw [h]), decide_eq_true (by rw [← h]; exact hm)]
            · rw [decide_eq_false (fun z => h (by injection z)), decide_eq_false (fun z => h (T.edges_fun nd hm z))]
          show Q (.bl (decide (V.str y = V.str x))) H
          rw [this]
          exact q
        · rw [e]
          refine ⟨rfl, ?_⟩
          have e2 : decide ((c, x) ∈ t.edges) = false := decide_eq_false (no x)
          simp only [e2] at q
          exact q
        · rw [e]
          refine ⟨rfl, ?_⟩
          have e2 : decide ((c, x) ∈ t.edges) = false := decide_eq_false (no x)
          simp only [e2] at q
          exact q
end
end K5
namespace K5
open PySem PySem.Spec PyProof.Rows L2 Kg
section
variable {P : Program} {w : World} {K : PySem.W.Frag} {mg : Str → Option Value} {base : Heap}
/-! ### can_create -/
abbrev s_can_create : Stmt := topS 20
theorem sc_can_create : FnScope ["tree", "operation", "parents"] ["tree", "operation"] (defScope s_can_create) := fscope (by decide +kernel)
def sp_can_create (K : PySem.W.Frag) : Sp := fun vs H Q _ => ∃ (v v2 : V) (t : T) (x p : Str) (b : Option Str) (G : Hp), vs = [v, v2] ∧ Same G H ∧ Dp K G v t.d ∧ t.size ≤ 1000 ∧ t.keys.Nodup ∧
  Dp K G v2 (Op.create x p b).d ∧ Gives K G H (.bool (t.poss (.create x p b))) Q
theorem ok_can_create {f : Addr} {fd : FuncData} {k : Nat} (F : Fun K "can_create" "can_create" s_can_create f fd) (c_parents_of : Cal P w K mg base CX0 2 "parents_of" ["tree"] (sp_parents_of K))
    (c_is_place : Cal P w K mg base CX0 1 "is_place" ["parents", "parent", "before"] sp_is_place) :
    FnOk P w K mg base CX0 (k + 3) f fd ["tree", "operation"] (sp_can_create K) := by
  refine F.ok sc_can_create (fun vs H Q E h => ?_) (fun cdv A outer s H vs Q E hr h => ?_)
  · obtain ⟨v, v2, t, x, p, b, G, rfl, _⟩ := h
    rfl
  · obtain ⟨v, v2, t, x, p, b, G, rfl, gi, hd, few, nd, ho, q⟩ := h
    have hu := hu_of hr
    refine ⟨_, (pss_cons (ps_set (i := 2) sc_can_create.nd rfl (Or.inl rfl) (c_parents_of.pe hr (by omega) (by rfl) (pa_cons (pv 0) pa_nil)))
      (pss_one (ps_ret (pe_and (pe_cmp (pc_dnotin hu (pe_ix ix_tup (pv 1) pe_int (fun _ _ => rfl)) (pv 2)) rfl) (pe_one (c_is_place.pe hr (by omega) (by rfl) (pa_cons (pv 2) (pa_cons (pe_ix ix_tup (pv 1) pe_int (fun _ _ => rfl)) (pa_cons (pe_ix ix_tup (pv 1) pe_int (fun _ _ => rfl)) pa_nil))))))))), ?_⟩
    obtain ⟨oa, rfl, hoa⟩ := Op.at_ ho
    refine ⟨v, rfl, v, t, G, rfl, gi, hd, few, nd, fun H1 G1 a g na ga ha => ?_⟩
    have so : SqT K H1 oa (Op.create x p b).row := Same.seqT g.into hoa
    refine ⟨.ref oa, rfl, oa, _, 1, .str x, rfl, rfl, so, rfl, .ref a, rfl, a, _, rfl, DGet.k (k := Sum.inr x) ha, _, rfl, ?_⟩
    have isS : (valV (parD t t.edges) (Sum.inr x)).isSome = decide (x ∈ t.keys) := by
      rcases parD_get nd x with ⟨y, hm, e⟩ | ⟨e0, e, no⟩ | ⟨e0, e, no⟩
      · rw [e, decide_eq_true (T.below_key (below_of hm))]
        rfl
      · rw [e, e0, decide_eq_true (T.mem_pre_keys (T.self_pre t))]
        rfl
      · rw [e, decide_eq_false e0]
        rfl
    rw [isS]
    refine ite2 (fun e => ?_) (fun e => ?_)
    · refine ⟨.ref a, rfl, .ref oa, rfl, oa, _, 2, .str p, rfl, rfl, so, rfl, .ref oa, rfl, oa, _, 3, bV b, rfl, rfl, so, rfl, ?_⟩
      refine ⟨a, t, p, b, rfl, nd, ha, q H1 G1 _ g ?_⟩
      show Dp K G1 _ (.bool (!decide (x ∈ t.keys) && t.place p b))
      rw [e]
      exact .bl _
    · refine q H1 G1 _ g ?_
      show Dp K G1 _ (.bool (!decide (x ∈ t.keys) && t.place p b))
      rw [eq_false_of_ne_true e]
      exact .bl _
/-! ### can_move -/
abbrev s_can_move : Stmt := topS 21
theorem sc_can_move : FnScope ["tree", "operation", "key", "parent", "before", "parents"] ["tree", "operation"] (defScope s_can_move) := fscope (by decide +kernel)
def sp_can_move (K : PySem.W.Frag) : Sp := fun vs H Q _ => ∃ (v v2 : V) (t : T) (x p : Str) (b : Option Str) (G : Hp), vs = [v, v2] ∧ Same G H ∧ Dp K G v t.d ∧ t.size ≤ 1000 ∧ t.keys.Nodup ∧
  Dp K G v2 (Op.move x p b).d ∧ Gives K G H (.bool (t.poss (.move x p b))) Q
theorem ok_can_move {f : Addr} {fd : FuncData} {k : Nat} (F : Fun K "can_move" "can_move" s_can_move f fd) (c_parents_of : Cal P w K mg base CX0 2 "parents_of" ["tree"] (sp_parents_of K))
    (c_is_place : Cal P w K mg base CX0 1 "is_place" ["parents", "parent", "before"] sp_is_place) (c_is_below_root : Cal P w K mg base CX0 1 "is_below_root" ["parents", "key"] sp_is_below_root)
    (c_path_of : Cal P w K mg base CX0 3 "path_of" ["tree", "key"] (sp_path_of K)) :
    FnOk P w K mg base CX0 (k + 4) f fd ["tree", "operation"] (sp_can_move K) := by
  refine F.ok sc_can_move (fun vs H Q E h => ?_) (fun cdv A outer s H vs Q E hr h => ?_)
  · obtain ⟨v, v2, t, x, p, b, G, rfl, _⟩ := h
    rfl
  · obtain ⟨v, v2, t, x, p, b, G, rfl, gi, hd, few, nd, ho, q⟩ := h
    refine ⟨_, (pss_cons (ps_asg (pe_slice sl_tupA (pv 1) (po_some pe_int) po_none) (pg_tup rfl (pgs_cons (pg_name (i := 2) sc_can_move.nd rfl (Or.inl rfl)) (pgs_cons (pg_name (i := 3) sc_can_move.nd rfl (Or.inl rfl)) (pgs_cons (pg_name (i := 4) sc_can_move.nd rfl (Or.inl rfl)) pgs_nil)))))
      (pss_cons (ps_set (i := 5) sc_can_move.nd rfl (Or.inl rfl) (c_parents_of.pe hr (by omega) (by rfl) (pa_cons (pv 0) pa_nil)))
      (pss_cons (ps_if (PW.pt (pw_or (pt_not (pt_val (c_is_below_root.pe hr (by omega) (by rfl) (pa_cons (pv 5) (pa_cons (pv 2) pa_nil))))) (pw_or1 (pt_not (pt_val (c_is_place.pe hr (by omega) (by rfl) (pa_cons (pv 5) (pa_cons (pv 3) (pa_cons (pv 4) pa_nil))))))))) (pss_one (ps_ret pe_bl)) pss_nil)
      (pss_one (ps_ret (pe_and (pe_cmpR op_ne (pv 4) (pv 2) (nomark _)) (pe_one (pe_cmpR op_notIn_seq (pv 2) (c_path_of.pe hr (by omega) (by rfl) (pa_cons (pv 0) (pa_cons (pv 3) pa_nil))) (by rfl))))))))), ?_⟩
    obtain ⟨oa, rfl, hoa⟩ := Op.at_ ho
    refine ⟨.ref oa, rfl, 1, rfl, oa, _, rfl, Same.seqT gi hoa, fun z => absurd z.1 (sIx_1 3), fun _ tp ntp => ?_⟩
    have ec : cutV (Op.move x p b).row (some 1) none = [.str x, .str p, bV b] := cut_1 _ _
    rw [ec]
    refine ⟨tp, _, rfl, sqT upd_same, rfl, _, _, rfl, _, _, rfl, _, _, rfl, rfl, ?_⟩
    have g0 : Grow [] G H G (upd H tp (.tup [.str x, .str p, bV b])) := .beside gi ntp
    refine ⟨v, rfl, v, t, G, rfl, g0.i, hd, few, nd, fun H1 G1 a g na ga ha => ?_⟩
    have gg := g0.tr g
    have out : ∀ r : Bool, t.poss (.move x p b) = r → ∀ H2 G2, Grow [] G H G2 H2 → Q (.bl r) H2 := fun r e H2 G2 g2 => q H2 G2 _ g2 (by rw [e]; exact .bl _)
    refine ⟨.ref a, rfl, .str x, rfl, a, t, x, rfl, nd, ha, _, rfl, ?_⟩
    cases hb : t.hasUp x with
    | false =>
      refine iteT (iteT ?_)
      refine out false ?_ H1 G1 gg
      show (t.hasUp x && t.place p b && (!decide (b = some x) && !t.under x p)) = false
      rw [hb]
      rfl
    | true =>
      refine iteF ?_
      refine ⟨.ref a, rfl, .str p, rfl, bV b, rfl, a, t, p, b, rfl, nd, ha, _, rfl, ?_⟩
      cases hp : t.place p b with
      | false =>
        refine iteT ?_
        refine out false ?_ H1 G1 gg
        show (t.hasUp x && t.place p b && (!decide (b = some x) && !t.under x p)) = false
        rw [hb, hp]
        rfl
      | true =>
        refine iteF ?_
        have ebk : decide (bV b = V.str x) = decide (b = some x) := by
          cases b with
          | none =>
            rw [decide_eq_false (fun z => nomatch z), decide_eq_false (fun z => nomatch z)]
          | some y =>
            by_cases e : y = x
            · rw [decide_eq_true (by rw [e]; rfl), decide_eq_true (by rw [e])]
            · rw [decide_eq_false (fun z => e (by injection z)), decide_eq_false (fun z => e (by injection z))]
        refine ⟨bV b, rfl, .str x, rfl, by cases b <;> rfl, _, rfl, ?_⟩
        rw [ebk]
        refine ite2 (fun e => ?_) (fun e => ?_)
        · obtain ⟨u, hu, rfl⟩ := key_node (place_key hp)
          obtain ⟨ps, way⟩ := T.way_of t u hu
          refine ⟨.str x, rfl, v, rfl, .str u.key, rfl, v, t, u, ps, G1, rfl, g.i, Dp.same g.g _ _ hd, few, nd, way, fun H2 G2 y g2 hy => ?_⟩
          obtain ⟨c, ys, rfl, hc, hy⟩ := hy.tup_at
          have ey := DpAll.strs_eq ps hy
          subst ey
          refine ⟨c, _, rfl, .inr (Same.seqT g2.i hc), rfl, flat_strs _, ?_⟩
          refine out _ ?_ H2 G2 (gg.tr g2)
          show (t.hasUp x && t.place u.key b && (!decide (b = some x) && !t.under x u.key)) = _
          rw [hb, hp, e, under_way nd way]
          show (!decide (x ∈ ps)) = !inV (.str x) (ps.map V.str)
          rw [inV_strs]
        · refine out false ?_ H1 G1 gg
          show (t.hasUp x && t.place p b && (!decide (b = some x) && !t.under x p)) = false
          rw [hb, hp, eq_false_of_ne_true e]
          rfl
/-! ### is_possible -/
abbrev s_is_possible : Stmt := topS 19
theorem sc_is_possible : FnScope ["tree", "operation"] ["tree", "operation"] (defScope s_is_possible) := fscope (by decide +kernel)
def sp_is_possible (K : PySem.W.Frag) : Sp := fun vs H Q _ => ∃ (v v2 : V) (t : T) (o : Op) (G : Hp), vs = [v, v2] ∧ Same G H ∧ Dp K G v t.d ∧ t.size ≤ 1000 ∧ t.keys.Nodup ∧
  Dp K G v2 o.d ∧ Gives K G H (.bool (t.poss o)) Q
theorem ok_is_possible {f : Addr} {fd : FuncData} {k : Nat} (F : Fun K "is_possible" "is_possible" s_is_possible f fd) (c_parents_of : Cal P w K mg base CX0 2 "parents_of" ["tree"] (sp_parents_of K))
    (c_can_create : Cal P w K mg base CX0 3 "can_create" ["tree", "operation"] (sp_can_create K)) (c_can_move : Cal P w K mg base CX0 4 "can_move" ["tree", "operation"] (sp_can_move K))
    (c_is_below_root : Cal P w K mg base CX0 1 "is_below_root" ["parents", "key"] sp_is_below_root) :
    FnOk P w K mg base CX0 (k + 5) f fd ["tree", "operation"] (sp_is_possible K) := by
  refine F.ok sc_is_possible (fun vs H Q E h => ?_) (fun cdv A outer s H vs Q E hr h => ?_)
  · obtain ⟨v, v2, t, o, G, rfl, _⟩ := h
    rfl
  · obtain ⟨v, v2, t, o, G, rfl, gi, hd, few, nd, ho, q⟩ := h
    refine ⟨_, (pss_cons (ps_if (pt_cmpR op_eq (pe_ix ix_tup (pv 1) pe_int (fun _ _ => rfl)) pe_str (nomark _)) (pss_one (ps_ret (c_can_create.pe hr (by omega) (by rfl) (pa_cons (pv 0) (pa_cons (pv 1) pa_nil))))) pss_nil)
      (pss_cons (ps_if (pt_cmpR op_eq (pe_ix ix_tup (pv 1) pe_int (fun _ _ => rfl)) pe_str (nomark _)) (pss_one (ps_ret (c_can_move.pe hr (by omega) (by rfl) (pa_cons (pv 0) (pa_cons (pv 1) pa_nil))))) pss_nil)
      (pss_one (ps_ret (c_is_below_root.pe hr (by omega) (by rfl) (pa_cons (c_parents_of.pe hr (by omega) (by rfl) (pa_cons (pv 0) pa_nil)) (pa_cons (pe_ix ix_tup (pv 1) pe_int (fun _ _ => rfl)) pa_nil))))))), ?_⟩
    obtain ⟨oa, rfl, hoa⟩ := Op.at_ ho
    have so := Same.seqT gi hoa
    cases o with
    | create x p b =>
      refine ⟨.ref oa, rfl, oa, _, 0, _, rfl, rfl, so, rfl, rfl, true, rfl, iteT ?_⟩
      exact ⟨v, rfl, .ref oa, rfl, v, .ref oa, t, x, p, b, G, rfl, gi, hd, few, nd, ho, q⟩
    | move x p b =>
      refine ⟨.ref oa, rfl, oa, _, 0, _, rfl, rfl, so, rfl, rfl, false, rfl, iteF ?_⟩
      refine ⟨.ref oa, rfl, oa, _, 0, _, rfl, rfl, so, rfl, rfl, true, rfl, iteT ?_⟩
      exact ⟨v, rfl, .ref oa, rfl, v, .ref oa, t, x, p, b, G, rfl, gi, hd, few, nd, ho, q⟩
    | remove x =>
      refine ⟨.ref oa, rfl, oa, _, 0, _, rfl, rfl, so, rfl, rfl, false, rfl, iteF ?_⟩
      refine ⟨.ref oa, rfl, oa, _, 0, _, rfl, rfl, so, rfl, rfl, false, rfl, iteF ?_⟩
      refine ⟨v, rfl, v, t, G, rfl, gi, hd, few, nd, fun H1 G1 a g na ga ha => ?_⟩
      refine ⟨.ref oa, rfl, oa, _, 1, .str x, rfl, rfl, Same.seqT g.into hoa, rfl, ?_⟩
      exact ⟨a, t, x, rfl, nd, ha, q H1 G1 _ g (.bl _)⟩
end
end K5
namespace K5
open PySem PySem.Spec PyProof.Rows L2 Kg
section
variable {P : Program} {w : World} {K : PySem.W.Frag} {mg : Str → Option Value} {base : Heap}
/-! ### with_children -/
abbrev s_with_children : Stmt := topS 27
theorem sc_with_children : FnScope ["tree", "key", "children", "old_children", "item", "changed", "above", "siblings", "child"] ["tree", "key", "children"] (defScope s_with_children) := fscope (by decide +kernel)
def sp_with_children (K : PySem.W.Frag) : Sp := fun vs H Q _ => ∃ (v vc : V) (t u : T) (cs : List T) (G : Hp), vs = [v, .str u.key, vc] ∧ Same G H ∧ Dp K G v t.d ∧ t.size ≤ 1000 ∧ t.keys.Nodup ∧ u ∈ t.pre ∧
  Dp K G vc (.tuple (cs.map T.d)) ∧ Gives K G H (t.setK u.key cs).d Q
theorem ok_with_children {f : Addr} {fd : FuncData} {k : Nat} (F : Fun K "with_children" "with_children" s_with_children f fd) (c_walk : Cal P w K mg base CX0 1 "walk" ["tree"] (sp_walk K))
    (c_path_of : Cal P w K mg base CX0 3 "path_of" ["tree", "key"] (sp_path_of K)) (z_reversed : mg "reversed" = none) (z_tuple : mg "tuple" = none) :
    FnOk P w K mg base CX0 (k + 4) f fd ["tree", "key", "children"] (sp_with_children K) := by
  refine F.ok sc_with_children (fun vs H Q E h => ?_) (fun cdv A outer s H vs Q E hr h => ?_)
  · obtain ⟨v, vc, t, u, cs, G, rfl, _⟩ := h
    rfl
  · obtain ⟨v, vc, t, u, cs, G, rfl, gi, hd, few, nd, hu', hdc, q⟩ := h
    have hu := hu_of hr
    refine ⟨_, (pss_cons (ps_setDc (i := 3) (own := [("item", 4)]) (g := gName 4) (tt := tYes) (tk := tOp (rIxT K) (tVar 4) (tC (.int 0))) (tv := tOp (rIxT K) (tVar 4) (tC (.int 1))) rfl sc_with_children.nd rfl rfl (sw_trueD rfl rfl rfl (by decide +kernel)) (pi_list (c_walk.pe hr (by omega) (by rfl) (pa_cons (pv 0) pa_nil))) (blkOk_by (own := [("item", 4)]) (N := ["tree", "key", "children", "old_children", "item", "changed", "above", "siblings", "child"]) (sc := defScope s_with_children) (by decide +kernel)) (fun _ _ _ _ _ => (pg_name (i := 4) sc_with_children.nd rfl (Or.inl rfl))) (fun _ _ _ _ _ => pts_nil) (fun _ _ _ _ _ => (pe_ix ix_tup (pv 4) pe_int (fun _ _ => rfl))) (fun _ _ _ _ _ => (pe_ix ix_tup (pv 4) pe_int (fun _ _ => rfl))))
      (pss_cons (ps_set (i := 5) sc_with_children.nd rfl (Or.inr rfl) (pe_tup (pa_cons (pv 1) (pa_cons (pv 2) pa_nil))))
      (pss_cons (ps_for PassesOwn.never rfl (RT.pi_revA (by rfl) z_reversed (pe_slice sl_tupA (c_path_of.pe hr (by omega) (by rfl) (pa_cons (pv 0) (pa_cons (pv 1) pa_nil))) po_none (po_some (pe_un un_neg pe_int)))) (pg_name (i := 6) sc_with_children.nd rfl (Or.inl rfl)) (pss_cons (ps_setLc (i := 7) (own := [("child", 8)]) (g := gName 8) (tt := tYes) (te := tIf (tTest (tOp rEq (tOp (rIxT K) (tVar 8) (tC (.int 0))) (tOp (rIxT K) (tVar 5) (tC (.int 0))))) (tVar 5) (tVar 8)) rfl sc_with_children.nd rfl rfl (sw_true rfl rfl rfl (by decide +kernel)) (pi_tup (pe_dget hu (pv 3) (pv 6) (fun _ _ => rfl))) (blkOk_by (own := [("child", 8)]) (N := ["tree", "key", "children", "old_children", "item", "changed", "above", "siblings", "child"]) (sc := defScope s_with_children) (by decide +kernel)) (fun _ _ _ _ _ => (pg_name (i := 8) sc_with_children.nd rfl (Or.inl rfl))) (fun _ _ _ _ _ => pts_nil) (fun _ _ _ _ _ => (pe_ifExp (pt_cmpR op_eq (pe_ix ix_tup (pv 8) pe_int (fun _ _ => rfl)) (pe_ix ix_tup (pv 5) pe_int (fun _ _ => rfl)) (nomark _)) (pv 5) (pv 8))))
        (pss_one (ps_set (i := 5) sc_with_children.nd rfl (Or.inr rfl) (pe_tup (pa_cons (pv 6) (pa_cons (pe_callTy call_tuple_of (by rfl) z_tuple (by decide +kernel) (pa_cons (pv 7) pa_nil)) pa_nil)))))))
      (pss_one (ps_ret (pv 5)))))), ?_⟩
    -- the dict
    refine ⟨v, rfl, v, t, G, rfl, gi, hd, few, fun H1 G1 x g hx => ?_⟩
    obtain ⟨la, xs, rfl, hla, hxs⟩ := hx.lst_at
    have hlx := hxs.length
    rw [List.length_map, T.pre_len] at hlx
    refine ⟨la, rfl, ⟨xs, g.i.seq hla⟩, fun D nD => ?_⟩
    refine dc_it (walk_list (xs := xs)) (fun i H' => ∃ kvs, H' = upd H1 D (.dK kvs) ∧ kvs.length ≤ i ∧ ∀ n ∈ t.pre.take i, ∃ z, valV kvs (Sum.inr n.key) = some z ∧ Dp K G1 z (.tuple (n.kids.map T.d))) ⟨[], rfl, Nat.le_refl _, fun n hn => by simp at hn⟩ ?_ ?_ ?_
    · rintro i H' _ ⟨kvs, rfl, _⟩
      exact (Grow.beside (m := []) g.i nD).i.seq hla
    · rintro i x H' H'' hi ⟨kvs, rfl, lk, hk⟩ ⟨rfl, ex⟩
      refine ⟨rfl, ?_⟩
      show tOp (rIxT K) (tVar 4) (tC (.int 0)) _ _ _
      have hp : i < t.pre.length := by rw [T.pre_len]; omega
      obtain ⟨x', ex', hx'⟩ := hxs.get (i := i) (d := t.pre[i].d) (by rw [List.getElem?_map, List.getElem?_eq_getElem hp]; rfl)
      rw [ex] at ex'
      cases ex'
      obtain ⟨b, c, zs, rfl, hb, hc, hz⟩ := T.at_ hx'
      have sb : SqT K (upd H1 D (.dK kvs)) b [.str t.pre[i].key, .ref c] := Same.seqT (Grow.beside (m := []) g.i nD).i hb
      refine ⟨.ref b, rfl, b, _, 0, _, rfl, rfl, sb, rfl, .ref b, rfl, b, _, 1, _, rfl, rfl, sb, rfl, kvs, Sum.inr t.pre[i].key, rfl, upd_same, Nat.lt_of_le_of_lt (by omega : _ ≤ 1000) (by decide), ?_⟩
      refine ⟨_, by rw [upd_upd], Nat.le_trans (DSub.putK_len _ _ _) (by omega), fun n hn => ?_⟩
      rw [valV_put]
      by_cases e : (Sum.inr n.key : L2.Key) = Sum.inr t.pre[i].key
      · rw [if_pos e]
        have e1 : n = t.pre[i] := T.pre_inj nd (List.mem_of_mem_take hn) (List.getElem_mem hp) (by injection e)
        refine ⟨_, rfl, ?_⟩
        rw [e1]
        exact .tup hc hz
      · rw [if_neg e]
        rw [List.take_succ, List.getElem?_eq_getElem hp] at hn
        rcases List.mem_append.mp hn with h | h
        · exact hk n h
        · have : n = t.pre[i] := by simpa using h
          exact absurd (by rw [this]) e
    rintro H2 ⟨kvs, rfl, lk, hk⟩
    have hk : ∀ n ∈ t.pre, ∃ z, valV kvs (Sum.inr n.key) = some z ∧ Dp K G1 z (.tuple (n.kids.map T.d)) := fun n hn => hk n (by
      rw [List.take_of_length_le (by rw [T.pre_len]; omega)]
      exact hn)
    have gD : G1 D = none := g.i.free nD
    have g2 : Grow [] G H (upd G1 D (.dK kvs)) (upd H1 D (.dK kvs)) := g.tr (.add g.i nD)
    have hk2 : ∀ n ∈ t.pre, ∃ z, valV kvs (Sum.inr n.key) = some z ∧ Dp K (upd G1 D (.dK kvs)) z (.tuple (n.kids.map T.d)) := fun n hn => by
      obtain ⟨z, h1, h2⟩ := hk n hn
      exact ⟨z, h1, Dp.same (Same.new gD) _ _ h2⟩
    have hDD : (upd G1 D (.dK kvs)) D = some (.dK kvs) := upd_same
    generalize (upd G1 D (.dK kvs)) = G2 at g2 hk2 hDD
    generalize (upd H1 D (.dK kvs)) = H2 at g2 ⊢
    clear hk g hla hxs nD gD
    -- changed
    have ev1 : EvM K (tTup (tCons (tVar 1) (tCons (tVar 2) tNil))) [some v, some (.str u.key), some vc, some (.ref D), none, none, none, none, none] G2 H2 (T.node u.key cs).d := by
      rw [T.d_eq]
      exact em_tup (ea_cons (em_var rfl (.str _)) (ea_cons (em_var rfl (Dp.same g2.g _ _ hdc)) ea_nil)) (by show 2 ≤ 100000; decide)
    show tSeq (tAsg (tTup (tCons (tVar 1) (tCons (tVar 2) tNil))) (gName 5)) _ _ _ _
    refine s_seq (s_set ?_)
    refine ev1.now g2.i fun H3 G3 c0 g3 dc0 => ?_
    have gg3 := g2.tr g3
    obtain ⟨ps, way⟩ := T.way_of t u hu'
    have hlen := way.len
    obtain ⟨r0, e0⟩ := way.last
    have hpos : 0 < ps.length := by rw [e0]; simp
    refine ⟨v, rfl, .str u.key, rfl, v, t, u, ps, G3, rfl, g3.i, Dp.same gg3.g _ _ hd, few, nd, way, fun H4 G4 x g4 hx => ?_⟩
    obtain ⟨a, xs, rfl, ha, hx⟩ := hx.tup_at
    have ex := DpAll.strs_eq ps hx
    subst ex
    refine ⟨1, rfl, -1, rfl, a, _, rfl, Same.seqT g4.i ha, fun z => ?_, fun _ p np => ?_⟩
    · have := z.2
      rw [sIx_last, List.length_map] at this
      omega
    rw [cut_last, ← List.map_dropLast]
    have gg5 : Grow [] G H (upd G4 p (.tup (ps.dropLast.map V.str))) (upd H4 p (.tup (ps.dropLast.map V.str))) := (gg3.tr g4).tr (.add g4.i np)
    have g45 : Grow [] G2 H2 (upd G4 p (.tup (ps.dropLast.map V.str))) (upd H4 p (.tup (ps.dropLast.map V.str))) := (g3.tr g4).tr (.add g4.i np)
    have sp : SqT K (upd G4 p (.tup (ps.dropLast.map V.str))) p (ps.dropLast.map V.str) := sqT upd_same
    have dc5 : Dp K (upd G4 p (.tup (ps.dropLast.map V.str))) c0 (T.node u.key cs).d := Dp.same (g4.g.trans (Same.new (g4.i.free np))) _ _ dc0
    generalize (upd G4 p (.tup (ps.dropLast.map V.str))) = G5 at gg5 g45 sp dc5
    generalize (upd H4 p (.tup (ps.dropLast.map V.str))) = H5 at gg5 g45 ⊢
    refine ⟨p, _, rfl, .inr ⟨Same.seqT gg5.i sp, ?_⟩⟩
    have hk5 : ∀ n ∈ t.pre, ∃ z, valV kvs (Sum.inr n.key) = some z ∧ Dp K G5 z (.tuple (n.kids.map T.d)) := fun n hn => by
      obtain ⟨z, h1, h2⟩ := hk2 n hn
      exact ⟨z, h1, Dp.same g45.g _ _ h2⟩
    have hD5 : G5 D = some (.dK kvs) := g45.g _ _ hDD
    clear hk2 hDD g45 ev1 g2 gg3 g3 g4 dc0 ha hx np
    refine for_it (walk_revT (xs := ps.dropLast.map V.str)) (fun i σ' H' => ∃ (n : T) (j : Nat) (G' : Hp) (c' : V) (y6 y7 : Option V), i + j = ps.length - 1 ∧ n ∈ t.pre ∧ T.Way n u (ps.drop j) ∧ Grow [] G5 H5 G' H' ∧
        Dp K G' c' (n.setK u.key cs).d ∧ σ' = [some v, some (.str u.key), some vc, some (.ref D), none, some c', y6, y7, none]) ?_ ?_ ?_ ?_
    · refine ⟨u, ps.length - 1, G5, c0, none, none, by omega, hu', ?_, .refl gg5.i, ?_, rfl⟩
      · have : ps.drop (ps.length - 1) = [u.key] := by
          rw [e0]
          simp
        rw [this]
        exact .here u
      · rw [T.setK_self]
        exact dc5
    · rintro i σ' H' _ ⟨n, j, G', c', y6, y7, _, _, _, g', _⟩
      exact Same.seqT g'.into sp
    · rintro i x σ' H'' H' hi ⟨n, j, G', c', y6, y7, hij, hn, wn, g', dn, rfl⟩ ⟨rfl, ex⟩
      rw [List.length_map, List.length_dropLast] at hi
      -- the element above
      have hj : j - 1 + 1 < ps.length := by omega
      obtain ⟨m, hm, c, hc, em, wm, wc⟩ := way.cut2 (j - 1) hj
      have ej : j - 1 + 1 = j := by omega
      rw [ej] at wc
      have ecn : c = n := by
        obtain ⟨r1, e1⟩ := wc.head
        obtain ⟨r2, e2⟩ := wn.head
        rw [e1] at e2
        injection e2 with e3 _
        exact T.pre_inj nd (T_kid_in hm hc) hn e3
      subst ecn
      have exm : x = .str m.key := by
        rw [List.length_map, List.length_dropLast, List.getElem?_map, List.getElem?_dropLast, if_pos (by omega)] at ex
        have e3 : ps.length - 1 - 1 - i = j - 1 := by omega
        rw [e3, List.getElem?_eq_getElem (by omega)] at ex
        rw [em, List.getD_eq_getElem?_getD, List.getElem?_eq_getElem (by omega)]
        exact (Option.some.inj ex).symm
      subst exm
      obtain ⟨z, hz, dz⟩ := hk5 m hm
      have mk : m.kids.length ≤ 1000 := by
        have := T.pre_kids hm
        omega
      have uc : u ∈ c.pre := wc.mem
      have up := T.setK_up (cs := cs) nd hm hc uc
      -- siblings
      have ev : EvM K (tLc (iTup K (tDGet (tVar 3) (tVar 6))) (gName 8) tYes (tIf (tTest (tOp rEq (tOp (rIxT K) (tVar 8) (tC (.int 0))) (tOp (rIxT K) (tVar 5) (tC (.int 0))))) (tVar 5) (tVar 8)) [8])
          [some v, some (.str u.key), some vc, some (.ref D), none, some c', some (.str m.key), y7, none] G' H' (.list ((m.kids.map fun x => if x.key = c.key then c.setK u.key cs else x).map T.d)) := by
        refine em_lcT (ds := m.kids.map T.d) (em_dget (g'.g _ _ hD5) hz (Dp.same g'.g _ _ dz) rfl rfl) (by rw [List.length_map]; omega) (fun _ => rfl) (by rw [List.length_map, List.length_map, List.length_map]) ?_
        intro i2 x b d G6 H6 eb ed g6 hx
        rw [List.getElem?_map] at eb
        rw [List.map_map, List.getElem?_map] at ed
        cases hkk : m.kids[i2]? with
        | none =>
          rw [hkk] at eb
          cases eb
        | some y =>
          rw [hkk] at eb ed
          cases eb
          cases ed
          obtain ⟨xa, xc, xz, rfl, sx, _⟩ := T.at_ hx
          have dn6 : Dp K G6 c' (c.setK u.key cs).d := Dp.same g6.g _ _ dn
          obtain ⟨ca, cc, cz, rfl, sc, _⟩ := T.at_ dn6
          rw [T.setK_key] at sc
          intro G7 H7 g7 Q7 q7
          refine ⟨.ref xa, rfl, xa, _, 0, _, rfl, rfl, Same.seqT g7.into sx, rfl, .ref ca, rfl, ca, _, 0, _, rfl, rfl, Same.seqT g7.into sc, rfl, rfl, _, rfl, ?_⟩
          refine ite2 (fun e => ?_) (fun e => ?_)
          · have e1 : y.key = c.key := by
              have := of_decide_eq_true e
              injection this
            refine ⟨.ref ca, rfl, q7 H7 G7 _ (.refl g7.i) ?_⟩
            show Dp K G7 _ (T.d (if y.key = c.key then c.setK u.key cs else y))
            rw [if_pos e1]
            exact Dp.same g7.g _ _ dn6
          · have e1 : ¬ y.key = c.key := fun z => e (decide_eq_true (by rw [z]))
            refine ⟨.ref xa, rfl, q7 H7 G7 _ (.refl g7.i) ?_⟩
            show Dp K G7 _ (T.d (if y.key = c.key then c.setK u.key cs else y))
            rw [if_neg e1]
            exact Dp.same g7.g _ _ hx
      try dsimp only
      refine s_seq (s_set ?_)
      refine ev.now g'.i fun H8 G8 sv g8 dsv => ?_
      have ev2 : EvM K (tTup (tCons (tVar 6) (tCons (tCB (fun xs H Q => ∃ p ys, xs = [.ref p] ∧
          ((SqL K H p ys ∧ ∀ l, H l = none → Q (.ref l) (upd H l (.tup ys))) ∨ (SqT K H p ys ∧ Q (.ref p) H))) (tCons (tVar 7) tNil)) tNil)))
          [some v, some (.str u.key), some vc, some (.ref D), none, some c', some (.str m.key), some sv, none] G8 H8 (m.setK u.key cs).d := by
        rw [up, T.d_eq]
        exact em_tup (ea_cons (em_var rfl (.str _)) (ea_cons (em_tuple (em_var rfl dsv)) ea_nil)) (by show 2 ≤ 100000; decide)
      show tAsg (tTup (tCons (tVar 6) (tCons (tCB _ (tCons (tVar 7) tNil)) tNil))) (gName 5) _ _ _
      refine s_set ?_
      refine ev2.now g8.i fun H9 G9 nv g9 dnv => ?_
      exact ⟨m, j - 1, G9, nv, _, _, by omega, hm, wm, (g'.tr g8).tr g9, dnv, rfl⟩
    · rintro σ' H' ⟨n, j, G', c', y6, y7, hij, hn, wn, g', dn, rfl⟩
      rw [List.length_map, List.length_dropLast] at hij
      have j0 : j = 0 := by omega
      subst j0
      have : n = t := by
        obtain ⟨r1, e1⟩ := wn.head
        obtain ⟨r2, e2⟩ := way.head
        rw [List.drop_zero, e2] at e1
        injection e1 with e3 _
        exact T.pre_inj nd hn (T.self_pre t) e3.symm
      subst this
      exact ⟨c', rfl, q H' G' c' (gg5.tr g') dn⟩
theorem spM_with_children {G H : Hp} {t u : T} {cs : List T} (few : t.size ≤ 1000) (nd : t.keys.Nodup) (hu : u ∈ t.pre) : SpM K (sp_with_children K) G H [t.d, .str u.key, .tuple (cs.map T.d)] (t.setK u.key cs).d := fun G1 H1 us g h Q q E => by
  cases h with
  | cons h1 h2 =>
    cases h2 with
    | cons h2 h3 =>
      cases h2
      cases h3 with
      | cons h3 h4 =>
        cases h4
        exact ⟨_, _, t, u, cs, G1, rfl, g.i, h1, few, nd, hu, h3, q⟩
end
end K5
namespace K5
open PySem PySem.Spec PyProof.Rows L2 Kg
section
variable {P : Program} {w : World} {K : PySem.W.Frag} {mg : Str → Option Value} {base : Heap}
/-! ### put_in -/
abbrev s_put_in : Stmt := topS 25
theorem sc_put_in : FnScope ["tree", "item", "parent", "before", "children", "at", "child"] ["tree", "item", "parent", "before"] (defScope s_put_in) := fscope (by decide +kernel)
def sp_put_in (K : PySem.W.Frag) : Sp := fun vs H Q _ => ∃ (v vi : V) (t y t2 : T) (p : Str) (b : Option Str) (G : Hp), vs = [v, vi, .str p, bV b] ∧ Same G H ∧ Dp K G v t.d ∧ t.size ≤ 1000 ∧ t.keys.Nodup ∧ Dp K G vi y.d ∧
  In t y p b t2 ∧ Gives K G H t2.d Q
theorem ok_put_in {f : Addr} {fd : FuncData} {k : Nat} (F : Fun K "put_in" "put_in" s_put_in f fd) (c_subtree : Cal P w K mg base CX0 2 "subtree" ["tree", "key"] (sp_subtree K))
    (c_with_children : Cal P w K mg base CX0 4 "with_children" ["tree", "key", "children"] (sp_with_children K)) (z_len : mg "len" = none) :
    FnOk P w K mg base CX0 (k + 5) f fd ["tree", "item", "parent", "before"] (sp_put_in K) := by
  refine F.ok sc_put_in (fun vs H Q E h => ?_) (fun cdv A outer s H vs Q E hr h => ?_)
  · obtain ⟨v, vi, t, y, t2, p, b, G, rfl, _⟩ := h
    rfl
  · obtain ⟨v, vi, t, y, t2, p, b, G, rfl, gi, hd, few, nd, hy, ⟨u, hu, rfl, A', B, e, hb, rfl⟩, q⟩ := h
    refine ⟨_, (pss_cons (ps_set (i := 4) sc_put_in.nd rfl (Or.inl rfl) (pe_ix ix_tup (c_subtree.pe hr (by omega) (by rfl) (pa_cons (pv 0) (pa_cons (pv 2) pa_nil))) pe_int (fun _ _ => rfl)))
      (pss_cons (ps_set (i := 5) sc_put_in.nd rfl (Or.inl rfl) (pe_callB call_len_seq (by rfl) z_len (by decide +kernel) (pa_cons (pv 4) pa_nil)))
      (Evl.pss_cut (ps_if (pt_cmp (pc_notN (pv 3))) (pss_one (ps_set (i := 5) sc_put_in.nd rfl (Or.inl rfl) (pe_bm PySem.F.plainAttrs_list PySem.F.slot_list_index PySem.F.type_list_index mt_index (pe_lc (own := [("child", 6)]) (g := gName 6) (tt := tYes) (te := tOp (rIxT K) (tVar 6) (tC (.int 0))) rfl sc_put_in.nd (pi_tup (pv 4)) (blkOk_by (own := [("child", 6)]) (N := ["tree", "item", "parent", "before", "children", "at", "child"]) (sc := defScope s_put_in) (by decide +kernel)) (fun _ _ _ _ _ => (pg_name (i := 6) sc_put_in.nd rfl (Or.inl rfl))) (fun _ _ _ _ _ => pts_nil) (fun _ _ _ _ _ => (pe_ix ix_tup (pv 6) pe_int (fun _ _ => rfl)))) (pa_cons (pv 3) pa_nil)))) pss_nil)
      (pss_one (ps_ret (c_with_children.pe hr (by omega) (by rfl) (pa_cons (pv 0) (pa_cons (pv 2) (pa_cons (pe_op op_catA (pe_op op_catA (pe_slice sl_tupA (pv 4) po_none (po_some (pv 5))) (pe_tup (pa_cons (pv 1) pa_nil))) (pe_slice sl_tupA (pv 4) (po_some (pv 5)) po_none)) pa_nil))))))))), ?_⟩
    have uk : u.kids.length ≤ 1000 := by
      have := T.pre_kids hu
      omega
    have ev : EvM K (tOp (rIxT K) (tCall (sp_subtree K) [] E0 (tCons (tVar 0) (tCons (tVar 2) tNil))) (tC (.int 1))) [some v, some vi, some (.str u.key), some (bV b), none, none, none] G H (.tuple (u.kids.map T.d)) := by
      refine em_ixT (ds := [.str u.key, .tuple (u.kids.map T.d)]) ?_ em_int (atI_nat (j := 1) rfl)
      rw [← T.d_eq]
      exact em_call (ea_cons (em_var rfl hd) (ea_cons (em_var rfl (.str _)) ea_nil)) (spM_subtree few nd hu)
    show tSeq (tAsg (tOp _ (tCall (sp_subtree K) [] E0 (tCons (tVar 0) (tCons (tVar 2) tNil))) (tC (.int 1))) (gName 4)) _ _ _ _
    refine s_seq (s_set ?_)
    refine ev.now gi fun H1 G1 cv g1 dcv => ?_
    obtain ⟨ca, xs, rfl, hca, hxs⟩ := dcv.tup_at
    have hlx := hxs.length
    rw [List.length_map] at hlx
    refine ⟨.ref ca, rfl, ca, xs, rfl, .inr (Same.seqT g1.i hca), ?_⟩
    -- the place
    have last : ∀ H2 G2, Grow [] G1 H1 G2 H2 → ∀ y6 : Option V, tRet (tCall (sp_with_children K) [] E0 (tCons (tVar 0) (tCons (tVar 2) (tCons (tOp (rCatA K) (tOp (rCatA K) (tSl (rSlA K) (tVar 4) tNoPart (tPart (tVar 5))) (tTup (tCons (tVar 1) tNil))) (tSl (rSlA K) (tVar 4) (tPart (tVar 5)) tNoPart)) tNil))))
        { nx := fun x H' => Q V.non H', rt := Q } [some v, some vi, some (.str u.key), some (bV b), some (.ref ca), some (.int (A'.length : Int)), y6] H2 := fun H2 G2 g2 y6 => by
      have gg := g1.tr g2
      have ev2 : EvM K (tCall (sp_with_children K) [] E0 (tCons (tVar 0) (tCons (tVar 2) (tCons (tOp (rCatA K) (tOp (rCatA K) (tSl (rSlA K) (tVar 4) tNoPart (tPart (tVar 5))) (tTup (tCons (tVar 1) tNil))) (tSl (rSlA K) (tVar 4) (tPart (tVar 5)) tNoPart)) tNil))))
          [some v, some vi, some (.str u.key), some (bV b), some (.ref ca), some (.int (A'.length : Int)), y6] G2 H2 (t.setK u.key (A' ++ [y] ++ B)).d := by
        have e4 : (A' ++ [y] ++ B).map T.d = ((u.kids.map T.d).take A'.length ++ [y.d]) ++ (u.kids.map T.d).drop A'.length := by
          rw [e, List.map_append, List.map_append, List.map_append]
          have : (A'.map T.d).length = A'.length := List.length_map ..
          rw [← this, List.take_left, List.drop_left]
          rfl
        have ec : EvM K (tVar 4) [some v, some vi, some (.str u.key), some (bV b), some (.ref ca), some (.int (A'.length : Int)), y6] G2 H2 (.tuple (u.kids.map T.d)) := em_var rfl (Dp.same g2.g _ _ dcv)
        have e5 : EvM K (tVar 5) [some v, some vi, some (.str u.key), some (bV b), some (.ref ca), some (.int (A'.length : Int)), y6] G2 H2 (.int (A'.length : Int)) := em_var rfl (.int _)
        refine em_call (ea_cons (em_var rfl (Dp.same gg.g _ _ hd)) (ea_cons (em_var rfl (.str _)) (ea_cons ?_ ea_nil))) (spM_with_children few nd hu)
        rw [e4]
        refine em_catT (em_catT (em_toT ec e5) (em_tup (ea_cons (em_var rfl (Dp.same gg.g _ _ hy)) ea_nil) (by show 1 ≤ 100000; decide)) ?_) (em_fromT ec e5) ?_
        · rw [List.length_take, List.length_map]
          show _ + 1 ≤ _
          omega
        · rw [List.length_append, List.length_take, List.length_drop, List.length_map]
          show _ + 1 + _ ≤ _
          omega
      exact ev2.now g2.i fun H3 G3 r g3 dr => q H3 G3 r (gg.tr g3) dr
    cases b with
    | none =>
      refine ⟨fun σ' H' => ∃ G2 y6, Grow [] G1 H1 G2 H' ∧ σ' = [some v, some vi, some (.str u.key), some .non, some (.ref ca), some (.int (A'.length : Int)), y6], ?_, ?_⟩
      · refine ⟨.non, rfl, _, rfl, iteF ?_⟩
        have hb' : B = [] := hb
        refine ⟨G1, none, .refl g1.i, ?_⟩
        have : xs.length = A'.length := by rw [hlx, e, hb', List.append_nil]
        rw [this]
        rfl
      · rintro σ' H' ⟨G2, y6, g2, rfl⟩
        exact last H' G2 g2 y6
    | some x =>
      refine ⟨fun σ' H' => ∃ G2 y6, Grow [] G1 H1 G2 H' ∧ σ' = [some v, some vi, some (.str u.key), some (.str x), some (.ref ca), some (.int (A'.length : Int)), y6], ?_, ?_⟩
      · refine ⟨.str x, rfl, _, rfl, iteT ?_⟩
        obtain ⟨c, B', eB, ex⟩ := hb
        have ev3 : EvM K (tLc (iTup K (tVar 4)) (gName 6) tYes (tOp (rIxT K) (tVar 6) (tC (.int 0))) [6])
            [some v, some vi, some (.str u.key), some (.str x), some (.ref ca), some (.int (xs.length : Int)), none] G1 H1 (.list ((u.kids.map T.key).map .str)) := by
          refine em_lcT (ds := u.kids.map T.d) (em_var rfl dcv) (by rw [List.length_map]; omega) (fun _ => rfl) (by rw [List.length_map, List.length_map, List.length_map]) ?_
          intro i x b d G6 H6 eb ed g6 hx
          rw [List.getElem?_map] at eb
          rw [List.map_map, List.getElem?_map] at ed
          cases hkk : u.kids[i]? with
          | none =>
            rw [hkk] at eb
            cases eb
          | some n =>
            rw [hkk] at eb ed
            cases eb
            cases ed
            refine em_ixT (ds := [.str n.key, .tuple (n.kids.map T.d)]) (em_var rfl ?_) em_int (atI_nat (j := 0) rfl)
            rw [← T.d_eq]
            exact hx
        show tAsg (tBM _ _ _ (tLc (iTup _ (tVar 4)) (gName 6) tYes (tOp (rIxT K) (tVar 6) (tC (.int 0))) [6]) (tCons (tVar 3) tNil)) (gName 5) _ _ _
        refine s_set ?_
        refine ev3.now g1.i fun H2 G2 lv g2 dlv => ?_
        obtain ⟨l, ys, rfl, hl, hys⟩ := dlv.lst_at
        have eys := DpAll.strs_eq _ hys
        subst eys
        refine ⟨.inl ⟨rfl, _, g2.i.seq hl⟩, .str x, rfl, l, _, .str x, A'.length, .str x, rfl, rfl, g2.i.seq hl, rfl, flat_strs _, ?_, ?_, ?_, ?_⟩
        · rw [List.getElem?_map, List.getElem?_map, e, eB, List.getElem?_append_right (Nat.le_refl _), Nat.sub_self]
          show some (V.str c.key) = _
          rw [ex]
        · rw [eqV_strs]
          exact decide_eq_true rfl
        · intro m z hm hz
          rw [List.getElem?_map, List.getElem?_map] at hz
          cases hkk : u.kids[m]? with
          | none =>
            rw [hkk] at hz
            cases hz
          | some n =>
            rw [hkk] at hz
            cases hz
            rw [eqV_strs]
            refine decide_eq_false fun z => ?_
            have h1 := kids_nodup nd hu
            have e1 : (u.kids.map T.key)[m]? = some x := by
              rw [List.getElem?_map, hkk]
              exact congrArg some z
            have e2 : (u.kids.map T.key)[A'.length]? = some x := by
              rw [List.getElem?_map, e, eB, List.getElem?_append_right (Nat.le_refl _), Nat.sub_self]
              exact congrArg some ex
            have hlt : A'.length < (u.kids.map T.key).length := (List.getElem?_eq_some_iff.mp e2).1
            have := (List.getElem?_inj (by omega) h1).mp (e1.trans e2.symm)
            omega
        · exact ⟨G2, none, g2, rfl⟩
      · rintro σ' H' ⟨G2, y6, g2, rfl⟩
        exact last H' G2 g2 y6
theorem spM_put_in {G H : Hp} {t y t2 : T} {p : Str} {b : Option Str} (few : t.size ≤ 1000) (nd : t.keys.Nodup) (h : In t y p b t2) : SpM K (sp_put_in K) G H [t.d, y.d, .str p, bD b] t2.d := fun G1 H1 us g hh Q q E => by
  cases hh with
  | cons h1 hh =>
    cases hh with
    | cons h2 hh =>
      cases hh with
      | cons h3 hh =>
        cases h3
        cases hh with
        | cons h4 hh =>
          cases hh
          rw [bV_at b h4]
          exact ⟨_, _, t, y, t2, p, b, G1, rfl, g.i, h1, few, nd, h2, h, q⟩
end
end K5
namespace K5
open PySem PySem.Spec PyProof.Rows L2 Kg
section
variable {P : Program} {w : World} {K : PySem.W.Frag} {mg : Str → Option Value} {base : Heap}
/-! ### take_out -/
abbrev s_take_out : Stmt := topS 26
theorem sc_take_out : FnScope ["tree", "key", "parent", "children", "child"] ["tree", "key"] (defScope s_take_out) := fscope (by decide +kernel)
def sp_take_out (K : PySem.W.Frag) : Sp := fun vs H Q _ => ∃ (v : V) (t x t1 : T) (G : Hp), vs = [v, .str x.key] ∧ Same G H ∧ Dp K G v t.d ∧ t.size ≤ 1000 ∧ t.keys.Nodup ∧ Out t x t1 ∧ Gives K G H t1.d Q
theorem ok_take_out {f : Addr} {fd : FuncData} {k : Nat} (F : Fun K "take_out" "take_out" s_take_out f fd) (c_subtree : Cal P w K mg base CX0 2 "subtree" ["tree", "key"] (sp_subtree K))
    (c_parents_of : Cal P w K mg base CX0 2 "parents_of" ["tree"] (sp_parents_of K)) (c_with_children : Cal P w K mg base CX0 4 "with_children" ["tree", "key", "children"] (sp_with_children K)) (z_tuple : mg "tuple" = none) :
    FnOk P w K mg base CX0 (k + 5) f fd ["tree", "key"] (sp_take_out K) := by
  refine F.ok sc_take_out (fun vs H Q E h => ?_) (fun cdv A outer s H vs Q E hr h => ?_)
  · obtain ⟨v, t, x, t1, G, rfl, _⟩ := h
    rfl
  · obtain ⟨v, t, x, t1, G, rfl, gi, hd, few, nd, ⟨u, hu', A', B, e, rfl⟩, q⟩ := h
    have hu := hu_of hr
    refine ⟨_, (pss_cons (ps_set (i := 2) sc_take_out.nd rfl (Or.inl rfl) (pe_dget hu (c_parents_of.pe hr (by omega) (by rfl) (pa_cons (pv 0) pa_nil)) (pv 1) (fun _ _ => rfl)))
      (pss_cons (ps_set (i := 3) sc_take_out.nd rfl (Or.inl rfl) (pe_ix ix_tup (c_subtree.pe hr (by omega) (by rfl) (pa_cons (pv 0) (pa_cons (pv 2) pa_nil))) pe_int (fun _ _ => rfl)))
      (pss_one (ps_ret (c_with_children.pe hr (by omega) (by rfl) (pa_cons (pv 0) (pa_cons (pv 2) (pa_cons (pe_callTy call_tuple_of (by rfl) z_tuple (by decide +kernel) (pa_cons (pe_lc (own := [("child", 4)]) (g := gName 4) (te := tVar 4) rfl sc_take_out.nd (pi_tup (pv 3)) (blkOk_by (own := [("child", 4)]) (N := ["tree", "key", "parent", "children", "child"]) (sc := defScope s_take_out) (by decide +kernel)) (fun _ _ _ _ _ => (pg_name (i := 4) sc_take_out.nd rfl (Or.inl rfl))) (tt := tTest (tOp rNe (tOp (rIxT K) (tVar 4) (tC (.int 0))) (tVar 1))) (fun _ _ _ _ _ => (pts_one (pt_cmpR op_ne (pe_ix ix_tup (pv 4) pe_int (fun _ _ => rfl)) (pv 1) (nomark _)))) (fun _ _ _ _ _ => (pv 4))) pa_nil)) pa_nil)))))))), ?_⟩
    have uk : u.kids.length ≤ 1000 := by
      have := T.pre_kids hu'
      omega
    have xm : x ∈ u.kids := by rw [e]; exact List.mem_append_right _ (List.mem_cons_self ..)
    have xe : (x.key, u.key) ∈ t.edges := T.mem_edges.mpr ⟨u, hu', rfl, x, xm, rfl⟩
    refine ⟨v, rfl, v, t, G, rfl, gi, hd, few, nd, fun H1 G1 a g na ga ha => ?_⟩
    refine ⟨.str x.key, rfl, a, .str u.key, rfl, ?_, ?_⟩
    · have := DGet.k (k := Sum.inr x.key) ha
      rw [parD_edge nd xe] at this
      exact this
    have ev : EvM K (tOp (rIxT K) (tCall (sp_subtree K) [] E0 (tCons (tVar 0) (tCons (tVar 2) tNil))) (tC (.int 1))) [some v, some (.str x.key), some (.str u.key), none, none] G1 H1 (.tuple (u.kids.map T.d)) := by
      refine em_ixT (ds := [.str u.key, .tuple (u.kids.map T.d)]) ?_ em_int (atI_nat (j := 1) rfl)
      rw [← T.d_eq]
      exact em_call (ea_cons (em_var rfl (Dp.same g.g _ _ hd)) (ea_cons (em_var rfl (.str _)) ea_nil)) (spM_subtree few nd hu')
    show tSeq (tAsg (tOp _ (tCall (sp_subtree K) [] E0 (tCons (tVar 0) (tCons (tVar 2) tNil))) (tC (.int 1))) (gName 3)) _ _ _ _
    refine s_seq (s_set ?_)
    refine ev.now g.i fun H2 G2 cv g2 dcv => ?_
    obtain ⟨ca, xs, rfl, hca, hxs⟩ := dcv.tup_at
    have hlx := hxs.length
    rw [List.length_map] at hlx
    have gg := g.tr g2
    refine ⟨v, rfl, .str u.key, rfl, .ref ca, rfl, ca, rfl, ⟨xs, Same.seqT g2.i hca⟩, fun D nD => ?_⟩
    have gD : G2 D = none := g2.i.free nD
    have kn := kids_nodup nd hu'
    have filt : ∀ cs : List T, ∀ z : T, z.key ≠ x.key → (cs ++ [z]).filter (fun n => !decide (n.key = x.key)) = cs.filter (fun n => !decide (n.key = x.key)) ++ [z] := fun cs z hz => by
      rw [List.filter_append]
      congr 1
      rw [List.filter_cons_of_pos (by rw [decide_eq_false hz]; rfl), List.filter_nil]
    refine lc_it (walk_tup (xs := xs)) (fun i H' => ∃ ys, H' = upd H2 D (.lst ys) ∧ DpAll K G2 ys (((u.kids.take i).filter fun n => !decide (n.key = x.key)).map T.d)) ⟨[], rfl, .nil⟩ ?_ ?_ ?_
    · rintro i H' _ ⟨ys, rfl, _⟩
      exact Same.seqT (Grow.beside (m := []) g2.i nD).i hca
    · rintro i z H'' H' hi ⟨ys, rfl, hys⟩ ⟨rfl, ex⟩
      refine ⟨rfl, ?_⟩
      have hp : i < u.kids.length := by omega
      obtain ⟨z', ez', hz'⟩ := hxs.get (i := i) (d := u.kids[i].d) (by rw [List.getElem?_map, List.getElem?_eq_getElem hp]; rfl)
      rw [ex] at ez'
      cases ez'
      obtain ⟨b, c, zs, rfl, hb, hc, hz⟩ := T.at_ hz'
      have sb : SqT K (upd H2 D (.lst ys)) b [.str u.kids[i].key, .ref c] := Same.seqT (Grow.beside (m := []) g2.i nD).i hb
      refine ⟨.ref b, rfl, b, _, 0, _, rfl, rfl, sb, rfl, .str x.key, rfl, rfl, _, rfl, ?_⟩
      have lys : ys.length ≤ 1000 := by
        have h1 := hys.length
        rw [List.length_map] at h1
        have h2 := List.length_filter_le (fun n : T => !decide (n.key = x.key)) (u.kids.take i)
        have h3 := List.length_take_le i u.kids
        have h4 : (u.kids.take i).length ≤ u.kids.length := by rw [List.length_take]; omega
        omega
      refine ite2 (fun e1 => ?_) (fun e1 => ?_)
      · have e2 : u.kids[i].key ≠ x.key := fun z => by
          rw [z, decide_eq_true rfl] at e1
          cases e1
        refine ⟨.ref b, rfl, ys, upd_same, Nat.lt_of_le_of_lt lys (by decide), ys ++ [.ref b], by rw [upd_upd], ?_⟩
        rw [List.take_succ, List.getElem?_eq_getElem hp]
        show DpAll K G2 _ (List.map T.d (List.filter _ (List.take i u.kids ++ [u.kids[i]])))
        rw [filt _ _ e2, List.map_append]
        exact hys.append (.one hz')
      · have e2 : u.kids[i].key = x.key := by
          by_cases h : u.kids[i].key = x.key
          · exact h
          · exact absurd (by rw [decide_eq_false (fun z => h (by injection z))]; rfl) e1
        refine ⟨ys, rfl, ?_⟩
        rw [List.take_succ, List.getElem?_eq_getElem hp]
        show DpAll K G2 _ (List.map T.d (List.filter _ (List.take i u.kids ++ [u.kids[i]])))
        rw [List.filter_append, List.filter_cons_of_neg (by rw [decide_eq_true e2]; exact Bool.false_ne_true), List.filter_nil, List.append_nil]
        exact hys
    rintro H3 ⟨ys, rfl, hys⟩
    rw [hlx, List.take_length] at hys
    have ef : u.kids.filter (fun n => !decide (n.key = x.key)) = A' ++ B := by
      rw [e, List.map_append, List.map_cons, List.nodup_append] at kn
      obtain ⟨_, k2, k3⟩ := kn
      rw [List.nodup_cons] at k2
      rw [e, List.filter_append, List.filter_cons_of_neg (by rw [decide_eq_true rfl]; exact Bool.false_ne_true)]
      congr 1
      · refine List.filter_eq_self.mpr fun n hn => ?_
        rw [decide_eq_false (fun z => k3 n.key (List.mem_map_of_mem hn) x.key (List.mem_cons_self ..) z)]
        rfl
      · refine List.filter_eq_self.mpr fun n hn => ?_
        rw [decide_eq_false (fun z => k2.1 (by rw [← z]; exact List.mem_map_of_mem hn))]
        rfl
    rw [ef] at hys
    refine ⟨D, ys, rfl, .inl ⟨sqL upd_same, fun tp ntp => ?_⟩⟩
    have g3 : Grow [] G2 H2 G2 (upd H2 D (.lst ys)) := .beside g2.i nD
    have g4 : Grow [] G2 H2 (upd G2 tp (.tup ys)) (upd (upd H2 D (.lst ys)) tp (.tup ys)) := g3.tr (.add g3.i ntp)
    have dt : Dp K (upd G2 tp (.tup ys)) (.ref tp) (.tuple ((A' ++ B).map T.d)) := .tup (sqT upd_same) (DpAll.same (Same.new (g3.i.free ntp)) _ _ hys)
    refine ⟨v, .ref tp, t, u, A' ++ B, _, rfl, g4.i, Dp.same (gg.tr g4).g _ _ hd, few, nd, hu', dt, fun H5 G5 r g5 dr => ?_⟩
    exact q H5 G5 r ((gg.tr g4).tr g5) dr
theorem spM_take_out {G H : Hp} {t x t1 : T} (few : t.size ≤ 1000) (nd : t.keys.Nodup) (h : Out t x t1) : SpM K (sp_take_out K) G H [t.d, .str x.key] t1.d := fun G1 H1 us g hh Q q E => by
  cases hh with
  | cons h1 hh =>
    cases hh with
    | cons h2 hh =>
      cases h2
      cases hh
      exact ⟨_, t, x, t1, G1, rfl, g.i, h1, few, nd, h, q⟩
end
end K5
namespace K5
open PySem PySem.Spec PyProof.Rows L2 Kg
section
variable {P : Program} {w : World} {K : PySem.W.Frag} {mg : Str → Option Value} {base : Heap}
/-! ### after -/
abbrev s_after : Stmt := topS 24
theorem sc_after : FnScope ["tree", "operation", "key", "rest"] ["tree", "operation"] (defScope s_after) := fscope (by decide +kernel)
def sp_after (K : PySem.W.Frag) : Sp := fun vs H Q _ => ∃ (v v2 : V) (t t2 : T) (o : Op) (G : Hp), vs = [v, v2] ∧ Same G H ∧ Dp K G v t.d ∧ t.size ≤ 1000 ∧ t.keys.Nodup ∧ Dp K G v2 o.d ∧ After t o t2 ∧ Gives K G H t2.d Q
theorem ok_after {f : Addr} {fd : FuncData} {k : Nat} (F : Fun K "after" "after" s_after f fd) (c_subtree : Cal P w K mg base CX0 2 "subtree" ["tree", "key"] (sp_subtree K))
    (c_put_in : Cal P w K mg base CX0 5 "put_in" ["tree", "item", "parent", "before"] (sp_put_in K)) (c_take_out : Cal P w K mg base CX0 5 "take_out" ["tree", "key"] (sp_take_out K)) :
    FnOk P w K mg base CX0 (k + 6) f fd ["tree", "operation"] (sp_after K) := by
  refine F.ok sc_after (fun vs H Q E h => ?_) (fun cdv A outer s H vs Q E hr h => ?_)
  · obtain ⟨v, v2, t, t2, o, G, rfl, _⟩ := h
    rfl
  · obtain ⟨v, v2, t, t2, o, G, rfl, gi, hd, few, nd, ho, ha, q⟩ := h
    refine ⟨_, (pss_cons (ps_set (i := 2) sc_after.nd rfl (Or.inl rfl) (pe_ix ix_tup (pv 1) pe_int (fun _ _ => rfl)))
      (pss_cons (ps_if (pt_cmpR op_eq (pe_ix ix_tup (pv 1) pe_int (fun _ _ => rfl)) pe_str (nomark _)) (pss_one (ps_ret (c_put_in.pe hr (by omega) (by rfl) (pa_cons (pv 0) (pa_cons (pe_tup (pa_cons (pv 2) (pa_cons (pe_tup pa_nil) pa_nil))) (pa_cons (pe_ix ix_tup (pv 1) pe_int (fun _ _ => rfl)) (pa_cons (pe_ix ix_tup (pv 1) pe_int (fun _ _ => rfl)) pa_nil))))))) pss_nil)
      (pss_cons (ps_set (i := 3) sc_after.nd rfl (Or.inl rfl) (c_take_out.pe hr (by omega) (by rfl) (pa_cons (pv 0) (pa_cons (pv 2) pa_nil))))
      (pss_cons (ps_if (pt_cmpR op_eq (pe_ix ix_tup (pv 1) pe_int (fun _ _ => rfl)) pe_str (nomark _)) (pss_one (ps_ret (pv 3))) pss_nil)
      (pss_one (ps_ret (c_put_in.pe hr (by omega) (by rfl) (pa_cons (pv 3) (pa_cons (c_subtree.pe hr (by omega) (by rfl) (pa_cons (pv 0) (pa_cons (pv 2) pa_nil))) (pa_cons (pe_ix ix_tup (pv 1) pe_int (fun _ _ => rfl)) (pa_cons (pe_ix ix_tup (pv 1) pe_int (fun _ _ => rfl)) pa_nil))))))))))), ?_⟩
    obtain ⟨oa, rfl, hoa⟩ := Op.at_ ho
    have so := Same.seqT gi hoa
    cases o with
    | create x p b =>
      refine ⟨.ref oa, rfl, oa, _, 1, _, rfl, rfl, so, rfl, ?_⟩
      refine ⟨.ref oa, rfl, oa, _, 0, _, rfl, rfl, so, rfl, rfl, true, rfl, iteT ?_⟩
      have ev : EvM K (tCall (sp_put_in K) [] E0 (tCons (tVar 0) (tCons (tTup (tCons (tVar 2) (tCons (tTup tNil) tNil))) (tCons (tOp (rIxT K) (tVar 1) (tC (.int 2))) (tCons (tOp (rIxT K) (tVar 1) (tC (.int 3))) tNil)))))
          [some v, some (.ref oa), some (.str x), none] G H t2.d := by
        refine em_call (ea_cons (em_var rfl hd) (ea_cons (em_tup (ds := [.str x, .tuple []]) (ea_cons (em_var rfl (.str _)) (ea_cons (em_tup ea_nil (by show 0 ≤ 100000; decide)) ea_nil)) (by show 2 ≤ 100000; decide)) (ea_cons (em_ixT (em_var rfl ho) em_int (atI_nat (j := 2) rfl)) (ea_cons (em_ixT (em_var rfl ho) em_int (atI_nat (j := 3) rfl)) ea_nil)))) ?_
        have := spM_put_in (K := K) (G := G) (H := H) few nd ha
        rw [show (T.node x []).d = .tuple [.str x, .tuple []] by rw [T.d_eq]; rfl] at this
        exact this
      exact ev.now gi q
    | move x p b =>
      obtain ⟨y, t1, rfl, hout, hin⟩ := ha
      obtain ⟨kp, k1, ym, nd1⟩ := out_keys nd hout
      have few1 := Nat.le_trans (out_size nd hout) few
      refine ⟨.ref oa, rfl, oa, _, 1, _, rfl, rfl, so, rfl, ?_⟩
      refine ⟨.ref oa, rfl, oa, _, 0, _, rfl, rfl, so, rfl, rfl, false, rfl, iteF ?_⟩
      have ev : EvM K (tCall (sp_take_out K) [] E0 (tCons (tVar 0) (tCons (tVar 2) tNil))) [some v, some (.ref oa), some (.str y.key), none] G H t1.d :=
        em_call (ea_cons (em_var rfl hd) (ea_cons (em_var rfl (.str _)) ea_nil)) (spM_take_out few nd hout)
      show tSeq (tAsg (tCall (sp_take_out K) [] E0 (tCons (tVar 0) (tCons (tVar 2) tNil))) (gName 3)) _ _ _ _
      refine s_seq (s_set ?_)
      refine ev.now gi fun H1 G1 rv g1 drv => ?_
      refine ⟨.ref oa, rfl, oa, _, 0, _, rfl, rfl, Same.seqT g1.into hoa, rfl, rfl, false, rfl, iteF ?_⟩
      have ho1 := Dp.same g1.g _ _ ho
      have ev2 : EvM K (tCall (sp_put_in K) [] E0 (tCons (tVar 3) (tCons (tCall (sp_subtree K) [] E0 (tCons (tVar 0) (tCons (tVar 2) tNil))) (tCons (tOp (rIxT K) (tVar 1) (tC (.int 2))) (tCons (tOp (rIxT K) (tVar 1) (tC (.int 3))) tNil)))))
          [some v, some (.ref oa), some (.str y.key), some rv] G1 H1 t2.d := by
        refine em_call (ea_cons (em_var rfl drv) (ea_cons (em_call (ea_cons (em_var rfl (Dp.same g1.g _ _ hd)) (ea_cons (em_var rfl (.str _)) ea_nil)) (spM_subtree few nd ym)) (ea_cons (em_ixT (em_var rfl ho1) em_int (atI_nat (j := 2) rfl)) (ea_cons (em_ixT (em_var rfl ho1) em_int (atI_nat (j := 3) rfl)) ea_nil)))) (spM_put_in few1 nd1 hin)
      exact ev2.now g1.i fun H2 G2 r g2 dr => q H2 G2 r (g1.tr g2) dr
    | remove x =>
      obtain ⟨y, rfl, hout⟩ := ha
      refine ⟨.ref oa, rfl, oa, _, 1, _, rfl, rfl, so, rfl, ?_⟩
      refine ⟨.ref oa, rfl, oa, _, 0, _, rfl, rfl, so, rfl, rfl, false, rfl, iteF ?_⟩
      have ev : EvM K (tCall (sp_take_out K) [] E0 (tCons (tVar 0) (tCons (tVar 2) tNil))) [some v, some (.ref oa), some (.str y.key), none] G H t2.d :=
        em_call (ea_cons (em_var rfl hd) (ea_cons (em_var rfl (.str _)) ea_nil)) (spM_take_out few nd hout)
      show tSeq (tAsg (tCall (sp_take_out K) [] E0 (tCons (tVar 0) (tCons (tVar 2) tNil))) (gName 3)) _ _ _ _
      refine s_seq (s_set ?_)
      refine ev.now gi fun H1 G1 rv g1 drv => ?_
      refine ⟨.ref oa, rfl, oa, _, 0, _, rfl, rfl, Same.seqT g1.into hoa, rfl, rfl, true, rfl, iteT ?_⟩
      exact ⟨rv, rfl, q H1 G1 rv g1 drv⟩
end
end K5
namespace K5
open PySem PySem.Spec PyProof.Rows L2 Kg
section
variable {P : Program} {w : World} {K : PySem.W.Frag} {mg : Str → Option Value} {base : Heap}
/-! ### is_key: of a text -/
abbrev s_is_key : Stmt := topS 8
theorem sc_is_key : FnScope ["value", "letter"] ["value"] (defScope s_is_key) := fscope (by decide +kernel)
def sp_is_key (K : PySem.W.Frag) : Sp := fun vs H Q _ => ∃ (x : Str) (G : Hp), vs = [.str x] ∧ x.length ≤ 100000 ∧ Same G H ∧ Gives K G H (.bool (isKeyS x)) Q
theorem ok_is_key {f : Addr} {fd : FuncData} {k : Nat} (F : Fun K "is_key" "is_key" s_is_key f fd) (z_isinstance : mg "isinstance" = none) (z_str : mg "str" = none) (z_len : mg "len" = none) (z_all : mg "all" = none)
    {tL tM : Tok} (g_LETTERS : mg "LETTERS" = some (.str abc tL)) (g_MOST_LETTERS : mg "MOST_LETTERS" = some (.int 8 tM)) :
    FnOk P w K mg base CX0 (k + 1) f fd ["value"] (sp_is_key K) := by
  refine F.ok sc_is_key (fun vs H Q E h => ?_) (fun cdv A outer s H vs Q E hr h => ?_)
  · obtain ⟨x, G, rfl, _⟩ := h
    rfl
  · obtain ⟨x, G, rfl, few, gi, q⟩ := h
    refine ⟨_, (pss_cons (ps_if (PW.pt (pw_or (pt_not (pt_val (pe_callB call_isi (by rfl) z_isinstance (by decide +kernel) (pa_cons (pv 0) (pa_cons (pe_bltn (v := .ty "str") (by rfl) z_str (by decide +kernel) rfl) pa_nil))))) (pw_or1 (pt_not (pt_chain op_le op_le pe_int (pe_callB call_len_str (by rfl) z_len (by decide +kernel) (pa_cons (pv 0) pa_nil)) (pe_glob (v := .int 8) (by rfl) g_MOST_LETTERS ⟨_, rfl⟩)))))) (pss_one (ps_ret pe_bl)) pss_nil)
      (pss_one (ps_ret (pe_callB (cr_all rfl) (by rfl) z_all (by decide +kernel) (pa_cons (pe_lc (own := [("letter", 1)]) (g := gName 1) (tt := tYes) (te := tOp (fun x y H Q => ∃ (c : Nat) (z : Str), x = .str ⟨#[c]⟩ ∧ y = .str z ∧ Q (.bl (decide (c ∈ z.cps.toList))) H) (tVar 1) (tC (.str abc))) rfl sc_is_key.nd (pi_str (pv 0)) (blkOk_by (own := [("letter", 1)]) (N := ["value", "letter"]) (sc := defScope s_is_key) (by decide +kernel)) (fun _ _ _ _ _ => (pg_name (i := 1) sc_is_key.nd rfl (Or.inl rfl))) (fun _ _ _ _ _ => pts_nil) (fun _ _ _ _ _ => (pe_cmpR op_in_sign (pv 1) (pe_glob (v := .str abc) (by rfl) g_LETTERS ⟨_, rfl⟩) (by rfl)))) pa_nil))))), ?_⟩
    refine ⟨.str x, rfl, .str x, .ty "str", .type "str", .type "str", true, rfl, .ty "str", .base (.str x), kit_ty (by decide +kernel), true, rfl, iteF ?_⟩
    refine ⟨.str x, rfl, x, rfl, Nat.le_trans few (by decide), 1, (x.length : Int), rfl, rfl, _, rfl, ?_⟩
    have no : isKeyS x = false → Q (.bl false) H := fun e => q H G _ (.refl gi) (by rw [e]; exact .bl _)
    by_cases h1 : 1 ≤ x.length
    · rw [decide_eq_true (by omega)]
      refine iteT ?_
      refine ⟨(x.length : Int), 8, rfl, rfl, _, rfl, ?_⟩
      by_cases h2 : x.length ≤ 8
      · rw [decide_eq_true (by omega)]
        refine iteF ?_
        refine ⟨.str x, rfl, x, rfl, fun D nD => ?_⟩
        refine lc_it walk_str (fun i H' => H' = upd H D (.lst (((x.cps.toList.take i).map fun c => decide (c ∈ abc.cps.toList)).map V.bl))) rfl (fun _ _ _ _ => trivial) ?_ ?_
        · rintro i z H' H'' hi rfl ⟨rfl, c, ec, rfl⟩
          refine ⟨rfl, ?_⟩
          refine s_yes ?_
          refine ⟨.str ⟨#[c]⟩, rfl, c, abc, rfl, rfl, _, upd_same, ?_, ?_⟩
          · rw [List.length_map, List.length_map, List.length_take]
            have h8 : x.cps.toList.length ≤ 8 := by
              rw [Array.length_toList]
              exact h2
            have := sizeLine_eq
            omega
          · rw [upd_upd, List.take_succ]
            have : x.cps.toList[i]? = some c := by rw [Array.getElem?_toList]; exact ec
            rw [this, List.map_append, List.map_append]
            rfl
        · rintro H' rfl
          refine ⟨D, (x.cps.toList.map fun c => decide (c ∈ abc.cps.toList)), rfl, ?_, ?_⟩
          · rw [List.take_of_length_le (by rw [Array.length_toList]; exact Nat.le_refl _)]
            exact sqL upd_same
          · refine q _ G _ (.beside gi nD) ?_
            have : isKeyS x = (x.cps.toList.map fun c => decide (c ∈ abc.cps.toList)).all id := by
              unfold isKeyS
              rw [decide_eq_true h1, decide_eq_true h2, List.all_map]
              rfl
            rw [this]
            exact .bl _
      · rw [decide_eq_false (by omega)]
        refine iteT ?_
        refine no ?_
        unfold isKeyS
        rw [decide_eq_false h2, Bool.and_false]
        rfl
    · rw [decide_eq_false (by omega)]
      refine iteF ⟨false, rfl, iteT ?_⟩
      refine no ?_
      unfold isKeyS
      rw [decide_eq_false h1]
      rfl
theorem spM_is_key {G H : Hp} {x : Str} (few : x.length ≤ 100000) : SpM K (sp_is_key K) G H [.str x] (.bool (isKeyS x)) := fun G1 H1 us g hh Q q E => by
  cases hh with
  | cons h1 hh =>
    cases h1
    cases hh
    exact ⟨x, G1, rfl, few, g.i, q⟩
end
end K5
namespace K5
open PySem PySem.Spec PyProof.Rows L2 Kg
section
variable {P : Program} {w : World} {K : PySem.W.Frag} {mg : Str → Option Value} {base : Heap}
/-! ### is_operation: of one that is -/
abbrev s_is_operation : Stmt := topS 16
theorem sc_is_operation : FnScope ["value"] ["value"] (defScope s_is_operation) := fscope (by decide +kernel)
def sp_is_operation (K : PySem.W.Frag) : Sp := fun vs H Q _ => ∃ (v : V) (o : Op) (G : Hp), vs = [v] ∧ Same G H ∧ Dp K G v o.d ∧ o.ok = true ∧ Gives K G H (.bool true) Q
theorem isKeyS_len {x : Str} (h : isKeyS x = true) : x.length ≤ 100000 := by
  unfold isKeyS at h
  rw [Bool.and_eq_true, Bool.and_eq_true, decide_eq_true_eq, decide_eq_true_eq] at h
  omega
theorem ok_is_operation {f : Addr} {fd : FuncData} {k : Nat} (F : Fun K "is_operation" "is_operation" s_is_operation f fd) (c_is_key : Cal P w K mg base CX0 1 "is_key" ["value"] (sp_is_key K))
    (z_isinstance : mg "isinstance" = none) (z_tuple : mg "tuple" = none) (z_len : mg "len" = none) :
    FnOk P w K mg base CX0 (k + 2) f fd ["value"] (sp_is_operation K) := by
  refine F.ok sc_is_operation (fun vs H Q E h => ?_) (fun cdv A outer s H vs Q E hr h => ?_)
  · obtain ⟨v, o, G, rfl, _⟩ := h
    rfl
  · obtain ⟨v, o, G, rfl, gi, ho, ok, q⟩ := h
    refine ⟨_, (pss_cons (ps_if (pt_not (pt_val (pe_callB call_isi (by rfl) z_isinstance (by decide +kernel) (pa_cons (pv 0) (pa_cons (pe_bltn (v := .ty "tuple") (by rfl) z_tuple (by decide +kernel) rfl) pa_nil))))) (pss_one (ps_ret pe_bl)) pss_nil)
      (pss_cons (ps_if (pt_cmpR op_eq (pe_callB call_len_seq (by rfl) z_len (by decide +kernel) (pa_cons (pv 0) pa_nil)) pe_int (nomark _)) (pss_one (ps_ret (pe_and (pe_cmpR op_eq (pe_ix ix_tup (pv 0) pe_int (fun _ _ => rfl)) pe_str (nomark _)) (pe_one (c_is_key.pe hr (by omega) (by rfl) (pa_cons (pe_ix ix_tup (pv 0) pe_int (fun _ _ => rfl)) pa_nil)))))) pss_nil)
      (pss_cons (ps_if (PW.pt (pw_or (pt_cmpR op_ne (pe_callB call_len_seq (by rfl) z_len (by decide +kernel) (pa_cons (pv 0) pa_nil)) pe_int (nomark _)) (pw_or1 (pt_cmpR op_notIn_seq (pe_ix ix_tup (pv 0) pe_int (fun _ _ => rfl)) (pe_tup (pa_cons pe_str (pa_cons pe_str pa_nil))) (by rfl))))) (pss_one (ps_ret pe_bl)) pss_nil)
      (pss_one (ps_ret (pe_and (c_is_key.pe hr (by omega) (by rfl) (pa_cons (pe_ix ix_tup (pv 0) pe_int (fun _ _ => rfl)) pa_nil)) (pe_and (c_is_key.pe hr (by omega) (by rfl) (pa_cons (pe_ix ix_tup (pv 0) pe_int (fun _ _ => rfl)) pa_nil)) (pe_one (pe_or (pe_cmp (pc_isN (pe_ix ix_tup (pv 0) pe_int (fun _ _ => rfl))) rfl) (pe_one (c_is_key.pe hr (by omega) (by rfl) (pa_cons (pe_ix ix_tup (pv 0) pe_int (fun _ _ => rfl)) pa_nil)))))))))))), ?_⟩
    obtain ⟨oa, rfl, hoa⟩ := Op.at_ ho
    have so := Same.seqT gi hoa
    refine ⟨.ref oa, rfl, .ref oa, .ty "tuple", .type "tuple", .type "tuple", true, rfl, .ty "tuple", tyX_tup so, kit_ty (by decide +kernel), true, rfl, iteF ?_⟩
    cases o with
    | remove x =>
      have kx : isKeyS x = true := ok
      refine ⟨.ref oa, rfl, oa, _, rfl, .inr so, rfl, true, rfl, iteT ?_⟩
      refine ⟨.ref oa, rfl, oa, _, 0, _, rfl, rfl, so, rfl, rfl, true, rfl, iteT ?_⟩
      refine ⟨.ref oa, rfl, oa, _, 1, .str x, rfl, rfl, so, rfl, ?_⟩
      refine ⟨x, G, rfl, isKeyS_len kx, gi, ?_⟩
      rw [kx]
      exact q
    | create x p b =>
      have kk := ok
      unfold Op.ok at kk
      rw [Bool.and_eq_true, Bool.and_eq_true] at kk
      obtain ⟨⟨kx, kp⟩, kb⟩ := kk
      refine ⟨.ref oa, rfl, oa, _, rfl, .inr so, rfl, false, rfl, iteF ?_⟩
      refine ⟨.ref oa, rfl, oa, _, rfl, .inr so, rfl, false, rfl, iteF ?_⟩
      refine ⟨.ref oa, rfl, oa, _, 0, _, rfl, rfl, so, rfl, (by show 2 ≤ sizeLine; decide), fun tp ntp => ?_⟩
      refine ⟨tp, _, rfl, .inr (sqT upd_same), rfl, rfl, false, rfl, iteF ?_⟩
      have g1 : Grow [] G H G (upd H tp (.tup [.str "create", .str "move"])) := .beside gi ntp
      generalize (upd H tp (.tup [.str "create", .str "move"])) = H1 at g1 ⊢
      refine ⟨.ref oa, rfl, oa, _, 1, .str x, rfl, rfl, Same.seqT g1.i hoa, rfl, x, G, rfl, isKeyS_len kx, g1.i, fun H2 G2 y2 g2 d2 => ?_⟩
      rw [kx] at d2
      cases d2
      refine ⟨true, rfl, iteT ?_⟩
      refine ⟨.ref oa, rfl, oa, _, 2, .str p, rfl, rfl, Same.seqT g2.into hoa, rfl, p, G2, rfl, isKeyS_len kp, g2.i, fun H3 G3 y3 g3 d3 => ?_⟩
      rw [kp] at d3
      cases d3
      refine ⟨true, rfl, iteT ?_⟩
      have gg := (g1.tr g2).tr g3
      refine ⟨.ref oa, rfl, oa, _, 3, bV b, rfl, rfl, Same.seqT gg.into hoa, rfl, _, rfl, ?_⟩
      cases b with
      | none => exact iteT (q H3 G3 _ gg (.bl _))
      | some z =>
        refine iteF ?_
        refine ⟨.ref oa, rfl, oa, _, 3, .str z, rfl, rfl, Same.seqT gg.into hoa, rfl, z, G3, rfl, isKeyS_len kb, g3.i, fun H4 G4 y4 g4 d4 => ?_⟩
        have kb' : isKeyS z = true := kb
        rw [kb'] at d4
        exact q H4 G4 _ (gg.tr g4) d4
    | move x p b =>
      have kk := ok
      unfold Op.ok at kk
      rw [Bool.and_eq_true, Bool.and_eq_true] at kk
      obtain ⟨⟨kx, kp⟩, kb⟩ := kk
      refine ⟨.ref oa, rfl, oa, _, rfl, .inr so, rfl, false, rfl, iteF ?_⟩
      refine ⟨.ref oa, rfl, oa, _, rfl, .inr so, rfl, false, rfl, iteF ?_⟩
      refine ⟨.ref oa, rfl, oa, _, 0, _, rfl, rfl, so, rfl, (by show 2 ≤ sizeLine; decide), fun tp ntp => ?_⟩
      refine ⟨tp, _, rfl, .inr (sqT upd_same), rfl, rfl, false, rfl, iteF ?_⟩
      have g1 : Grow [] G H G (upd H tp (.tup [.str "create", .str "move"])) := .beside gi ntp
      generalize (upd H tp (.tup [.str "create", .str "move"])) = H1 at g1 ⊢
      refine ⟨.ref oa, rfl, oa, _, 1, .str x, rfl, rfl, Same.seqT g1.i hoa, rfl, x, G, rfl, isKeyS_len kx, g1.i, fun H2 G2 y2 g2 d2 => ?_⟩
      rw [kx] at d2
      cases d2
      refine ⟨true, rfl, iteT ?_⟩
      refine ⟨.ref oa, rfl, oa, _, 2, .str p, rfl, rfl, Same.seqT g2.into hoa, rfl, p, G2, rfl, isKeyS_len kp, g2.i, fun H3 G3 y3 g3 d3 => ?_⟩
      rw [kp] at d3
      cases d3
      refine ⟨true, rfl, iteT ?_⟩
      have gg := (g1.tr g2).tr g3
      refine ⟨.ref oa, rfl, oa, _, 3, bV b, rfl, rfl, Same.seqT gg.into hoa, rfl, _, rfl, ?_⟩
      cases b with
      | none => exact iteT (q H3 G3 _ gg (.bl _))
      | some z =>
        refine iteF ?_
        refine ⟨.ref oa, rfl, oa, _, 3, .str z, rfl, rfl, Same.seqT gg.into hoa, rfl, z, G3, rfl, isKeyS_len kb, g3.i, fun H4 G4 y4 g4 d4 => ?_⟩
        have kb' : isKeyS z = true := kb
        rw [kb'] at d4
        exact q H4 G4 _ (gg.tr g4) d4
theorem spM_is_operation {G H : Hp} {o : Op} (ok : o.ok = true) : SpM K (sp_is_operation K) G H [o.d] (.bool true) := fun G1 H1 us g hh Q q E => by
  cases hh with
  | cons h1 hh =>
    cases hh
    exact ⟨_, o, G1, rfl, g.i, h1, ok, q⟩
end
end K5
namespace K5
open PySem PySem.Spec PyProof.Rows L2 Kg
section
variable {P : Program} {w : World} {K : PySem.W.Frag} {mg : Str → Option Value} {base : Heap}
/-! ### are_operations: of such that are -/
abbrev s_are_operations : Stmt := topS 15
theorem sc_are_operations : FnScope ["value", "item"] ["value"] (defScope s_are_operations) := fscope (by decide +kernel)
def sp_are_operations (K : PySem.W.Frag) : Sp := fun vs H Q _ => ∃ (v : V) (os : List Op) (G : Hp), vs = [v] ∧ Same G H ∧ Dp K G v (.tuple (os.map Op.d)) ∧ os.length ≤ 400 ∧ (∀ o ∈ os, o.ok = true) ∧ Gives K G H (.bool true) Q
theorem ok_are_operations {f : Addr} {fd : FuncData} {k : Nat} (F : Fun K "are_operations" "are_operations" s_are_operations f fd) (c_is_operation : Cal P w K mg base CX0 2 "is_operation" ["value"] (sp_is_operation K))
    (z_isinstance : mg "isinstance" = none) (z_tuple : mg "tuple" = none) (z_len : mg "len" = none) (z_all : mg "all" = none) {tM : Tok} (g_MOST_OPERATIONS : mg "MOST_OPERATIONS" = some (.int 400 tM)) :
    FnOk P w K mg base CX0 (k + 3) f fd ["value"] (sp_are_operations K) := by
  refine F.ok sc_are_operations (fun vs H Q E h => ?_) (fun cdv A outer s H vs Q E hr h => ?_)
  · obtain ⟨v, os, G, rfl, _⟩ := h
    rfl
  · obtain ⟨v, os, G, rfl, gi, ho, few, ok, q⟩ := h
    refine ⟨_, (pss_cons (ps_if (PW.pt (pw_or (pt_not (pt_val (pe_callB call_isi (by rfl) z_isinstance (by decide +kernel) (pa_cons (pv 0) (pa_cons (pe_bltn (v := .ty "tuple") (by rfl) z_tuple (by decide +kernel) rfl) pa_nil))))) (pw_or1 (pt_cmpR op_gt (pe_callB call_len_seq (by rfl) z_len (by decide +kernel) (pa_cons (pv 0) pa_nil)) (pe_glob (v := .int 400) (by rfl) g_MOST_OPERATIONS ⟨_, rfl⟩) (nomark _))))) (pss_one (ps_ret pe_bl)) pss_nil)
      (pss_one (ps_ret (pe_callB (cr_all rfl) (by rfl) z_all (by decide +kernel) (pa_cons (pe_lc (own := [("item", 1)]) (g := gName 1) (tt := tYes) (te := tCall (sp_is_operation K) [] E0 (tCons (tVar 1) tNil)) rfl sc_are_operations.nd (pi_tup (pv 0)) (blkOk_by (own := [("item", 1)]) (N := ["value", "item"]) (sc := defScope s_are_operations) (by decide +kernel)) (fun _ _ _ _ _ => (pg_name (i := 1) sc_are_operations.nd rfl (Or.inl rfl))) (fun _ _ _ _ _ => pts_nil) (fun _ _ _ _ _ => (c_is_operation.pe hr (by omega) (by rfl) (pa_cons (pv 1) pa_nil)))) pa_nil))))), ?_⟩
    obtain ⟨oa, xs, rfl, hoa, hxs⟩ := ho.tup_at
    have so := Same.seqT gi hoa
    have hl := hxs.length
    rw [List.length_map] at hl
    refine ⟨.ref oa, rfl, .ref oa, .ty "tuple", .type "tuple", .type "tuple", true, rfl, .ty "tuple", tyX_tup so, kit_ty (by decide +kernel), true, rfl, iteF ?_⟩
    refine ⟨.ref oa, rfl, oa, xs, rfl, .inr so, (xs.length : Int), 400, rfl, rfl, _, rfl, ?_⟩
    rw [decide_eq_false (by omega)]
    refine iteF ?_
    have ev : EvM K (tLc (iTup K (tVar 0)) (gName 1) tYes (tCall (sp_is_operation K) [] E0 (tCons (tVar 1) tNil)) [1]) [some (.ref oa), none] G H (.list ((List.replicate os.length true).map PyData.bool)) := by
      refine em_lcT (ds := os.map Op.d) (em_var rfl ho) (by rw [List.length_map]; omega) (fun _ => rfl) (by rw [List.length_map, List.length_map, List.length_replicate]) ?_
      intro i x b d G6 H6 eb ed g6 hx
      rw [List.getElem?_map] at eb ed
      cases hkk : os[i]? with
      | none =>
        rw [hkk] at eb
        cases eb
      | some o =>
        rw [hkk] at eb
        cases eb
        have : d = .bool true := by
          cases hr : (List.replicate os.length true)[i]? with
          | none =>
            rw [hr] at ed
            cases ed
          | some r =>
            rw [hr] at ed
            cases ed
            have : r = true := List.eq_of_mem_replicate (List.mem_of_getElem? hr)
            rw [this]
        rw [this]
        exact em_call (ea_cons (em_var rfl hx) ea_nil) (spM_is_operation (ok o (List.mem_of_getElem? hkk)))
    have fin : tLc (iTup K (tVar 0)) (gName 1) tYes (tCall (sp_is_operation K) [] E0 (tCons (tVar 1) tNil)) [1] [some (.ref oa), none] H (fun v H1 => rAll K [v] H1 Q) := ?_
    · exact fin
    refine ev.now gi fun H1 G1 r g1 dr => ?_
    obtain ⟨la, ys, rfl, hla, hys⟩ := dr.lst_at
    have ey := dp_bools _ _ hys
    subst ey
    refine ⟨la, List.replicate os.length true, rfl, g1.i.seq hla, ?_⟩
    have : (List.replicate os.length true).all id = true := by
      rw [List.all_eq_true]
      intro x hx
      rw [(List.mem_replicate.mp hx).2]
      rfl
    rw [this]
    exact q H1 G1 _ g1 (.bl _)
theorem spM_are_operations {G H : Hp} {os : List Op} (few : os.length ≤ 400) (ok : ∀ o ∈ os, o.ok = true) : SpM K (sp_are_operations K) G H [.tuple (os.map Op.d)] (.bool true) := fun G1 H1 us g hh Q q E => by
  cases hh with
  | cons h1 hh =>
    cases hh
    exact ⟨_, os, G1, rfl, g.i, h1, few, ok, q⟩
end
end K5
namespace K5
open PySem PySem.Spec PyProof.Rows L2 Kg
section
variable {P : Program} {w : World} {K : PySem.W.Frag} {mg : Str → Option Value} {base : Heap}
/-! ### moments: of operations that are possible -/
abbrev s_moments : Stmt := topS 18
theorem sc_moments : FnScope ["tree", "operations", "trees", "index", "operation"] ["tree", "operations"] (defScope s_moments) := fscope (by decide +kernel)
def sp_moments (K : PySem.W.Frag) : Sp := fun vs H Q _ => ∃ (v v2 : V) (t : T) (os : List Op) (ts : List T) (G : Hp), vs = [v, v2] ∧ Same G H ∧ Dp K G v t.d ∧ Dp K G v2 (.tuple (os.map Op.d)) ∧ os.length ≤ 400 ∧
  (∀ o ∈ os, o.ok = true) ∧ Steps t os ts ∧ Gives K G H (.tuple (ts.map T.d)) Q
theorem ok_moments {f : Addr} {fd : FuncData} {k : Nat} (F : Fun K "moments" "moments" s_moments f fd) (c_are_operations : Cal P w K mg base CX0 3 "are_operations" ["value"] (sp_are_operations K))
    (c_is_possible : Cal P w K mg base CX0 5 "is_possible" ["tree", "operation"] (sp_is_possible K)) (c_after : Cal P w K mg base CX0 6 "after" ["tree", "operation"] (sp_after K))
    (z_enumerate : mg "enumerate" = none) (z_tuple : mg "tuple" = none) :
    FnOk P w K mg base CX0 (k + 7) f fd ["tree", "operations"] (sp_moments K) := by
  refine F.ok sc_moments (fun vs H Q E h => ?_) (fun cdv A outer s H vs Q E hr h => ?_)
  · obtain ⟨v, v2, t, os, ts, G, rfl, _⟩ := h
    rfl
  · obtain ⟨v, v2, t, os, ts, G, rfl, gi, hd, ho, few, ok, st, q⟩ := h
    refine ⟨_, (pss_cons (ps_if (pt_not (pt_val (c_are_operations.pe hr (by omega) (by rfl) (pa_cons (pv 1) pa_nil)))) (pss_one ps_never) pss_nil)
      (pss_cons (ps_set (i := 2) sc_moments.nd rfl (Or.inl rfl) (pe_lst (pa_cons (pv 0) pa_nil)))
      (pss_cons (ps_for PassesOwn.never rfl (pi_enumT (by rfl) z_enumerate (pa_cons (pv 1) pa_nil)) (pg_tup rfl (pgs_cons (pg_name (i := 3) sc_moments.nd rfl (Or.inl rfl)) (pgs_cons (pg_name (i := 4) sc_moments.nd rfl (Or.inl rfl)) pgs_nil))) (pss_cons (ps_if (pt_not (pt_val (c_is_possible.pe hr (by omega) (by rfl) (pa_cons (pe_ix ix_list (pv 2) (pe_un un_neg pe_int) (fun _ _ => rfl)) (pa_cons (pv 4) pa_nil))))) (pss_one ps_never) pss_nil)
        (pss_one (ps_expr (pe_bm PySem.F.plainAttrs_list PySem.F.slot_list_append PySem.F.type_list_append mt_append (pv 2) (pa_cons (c_after.pe hr (by omega) (by rfl) (pa_cons (pe_ix ix_list (pv 2) (pe_un un_neg pe_int) (fun _ _ => rfl)) (pa_cons (pv 4) pa_nil))) pa_nil))))))
      (pss_one (ps_ret (pe_callTy call_tuple_of (by rfl) z_tuple (by decide +kernel) (pa_cons (pv 2) pa_nil))))))), ?_⟩
    refine ⟨v2, rfl, v2, os, G, rfl, gi, ho, few, ok, fun H1 G1 r1 g1 d1 => ?_⟩
    cases d1
    refine ⟨true, rfl, iteF ?_⟩
    refine ⟨v, rfl, (by show 1 ≤ sizeLine; decide), fun l nl => ?_⟩
    have gl := g1.i.free nl
    obtain ⟨oa, xs, rfl, hoa, hxs⟩ := ho.tup_at
    have hlx := hxs.length
    rw [List.length_map] at hlx
    have g2 : Grow [] G1 H1 G1 (upd H1 l (.lst [v])) := .beside g1.i nl
    refine ⟨.ref oa, rfl, oa, xs, rfl, Same.seqT (g1.tr g2).into hoa, ?_⟩
    refine for_it (walk_enumT (xs := xs)) (fun i σ' H' => ∃ (G' : Hp) (ys : List V) (y3 y4 : Option V), Grow [] G1 H1 G' H' ∧ G' l = none ∧ H' l = some (.lst ys) ∧ DpAll K G' ys ((ts.take (i + 1)).map T.d) ∧
        σ' = [some v, some (.ref oa), some (.ref l), y3, y4]) ?_ ?_ ?_ ?_
    · refine ⟨G1, [v], none, none, g2, gl, upd_same, ?_, rfl⟩
      have : ts.take 1 = [t] := by
        have h1 := st.first
        cases ts with
        | nil => cases h1
        | cons a r =>
          cases h1
          rfl
      rw [this]
      exact .one (Dp.same g1.g _ _ hd)
    · rintro i σ' H' _ ⟨G', ys, y3, y4, g', _⟩
      exact Same.seqT (g1.tr g').into hoa
    · rintro i x σ' H' H'' hi ⟨G', ys, y3, y4, g', gl', hl', hys, rfl⟩ ⟨tp, a1, a2, rfl, ntp, rfl, e1, e2⟩
      cases e1
      have hi' : i < os.length := by omega
      obtain ⟨ov, eo, dov⟩ := hxs.get (i := i) (d := os[i].d) (by rw [List.getElem?_map, List.getElem?_eq_getElem hi']; rfl)
      have e2 : xs[i]? = some a2 := e2
      rw [e2] at eo
      cases eo
      refine ⟨tp, _, rfl, sqT upd_same, rfl, _, _, rfl, _, _, rfl, rfl, ?_⟩
      have g3 : Grow [] G1 H1 G' (upd H' tp (.tup [.int (i : Nat), a2])) := g'.tr (.beside g'.i ntp)
      have tl : tp ≠ l := fun z => by
        rw [z, hl'] at ntp
        cases ntp
      have hl3 : (upd H' tp (.tup [.int (i : Nat), a2])) l = some (.lst ys) := by
        rw [upd_ne tl.symm]
        exact hl'
      generalize (upd H' tp (.tup [.int (i : Nat), a2])) = H3 at g3 hl3 ⊢
      have it : i < ts.length := by
        rw [st.len]
        omega
      have it2 : i + 1 < ts.length := by
        rw [st.len]
        omega
      have hl0 := hys.length
      rw [List.length_map, List.length_take, Nat.min_eq_left (by omega)] at hl0
      -- the last tree
      obtain ⟨tv, etv, dtv⟩ := hys.get (i := i) (d := ts[i].d) (by rw [List.getElem?_map, List.getElem?_take_of_lt (by omega), List.getElem?_eq_getElem it]; rfl)
      have eat : atI ys (-1) = some tv := last_at etv (by omega)
      obtain ⟨hp, haf⟩ := st.each i os[i] ts[i] ts[i + 1] (List.getElem?_eq_getElem hi') (List.getElem?_eq_getElem it) (List.getElem?_eq_getElem it2)
      have fi := st.few ts[i] (List.getElem_mem it)
      have ni := st.nd ts[i] (List.getElem_mem it)
      have do3 : Dp K G' a2 os[i].d := Dp.same (g1.tr g3).g _ _ dov
      refine ⟨.ref l, rfl, 1, rfl, l, ys, -1, tv, rfl, rfl, sqL hl3, eat, a2, rfl, tv, a2, ts[i], os[i], G', rfl, g3.i, dtv, fi, ni, do3, fun H4 G4 r4 g4 d4 => ?_⟩
      rw [hp] at d4
      cases d4
      refine ⟨true, rfl, iteF ?_⟩
      have hl4 : H4 l = some (.lst ys) := g4.same _ _ hl3
      have gl4 : G4 l = none := g4.off gl' hl3
      refine ⟨.ref l, rfl, Or.inl ⟨rfl, _, sqL hl4⟩, .ref l, rfl, 1, rfl, l, ys, -1, tv, rfl, rfl, sqL hl4, eat, a2, rfl, tv, a2, ts[i], ts[i + 1], os[i], G4, rfl, g4.i, Dp.same g4.g _ _ dtv, fi, ni, Dp.same g4.g _ _ do3, haf, fun H5 G5 r5 g5 d5 => ?_⟩
      have hl5 : H5 l = some (.lst ys) := g5.same _ _ hl4
      have gl5 : G5 l = none := g5.off gl4 hl4
      have gg := (g3.tr g4).tr g5
      refine ⟨l, ys, r5, rfl, rfl, hl5, Nat.lt_of_le_of_lt (by omega : ys.length ≤ 1000) (by decide), ?_⟩
      refine ⟨G5, ys ++ [r5], _, _, gg.mut nl gl5, gl5, upd_same, ?_, rfl⟩
      rw [List.take_succ, List.getElem?_eq_getElem it2, List.map_append]
      exact (DpAll.same (g4.tr g5).g _ _ hys).append (.one d5)
    · rintro σ' H' ⟨G', ys, y3, y4, g', gl', hl', hys, rfl⟩
      rw [hlx, ← st.len, List.take_length] at hys
      refine ⟨.ref l, rfl, l, ys, rfl, .inl ⟨sqL hl', fun p np => ?_⟩⟩
      exact q _ (upd G' p (.tup ys)) _ ((g1.tr g').tr (.add g'.i np)) (.tup (sqT upd_same) (DpAll.same (Same.new (g'.i.free np)) _ _ hys))
theorem spM_moments {G H : Hp} {t : T} {os : List Op} {ts : List T} (few : os.length ≤ 400) (ok : ∀ o ∈ os, o.ok = true) (st : Steps t os ts) : SpM K (sp_moments K) G H [t.d, .tuple (os.map Op.d)] (.tuple (ts.map T.d)) := fun G1 H1 us g hh Q q E => by
  cases hh with
  | cons h1 hh =>
    cases hh with
    | cons h2 hh =>
      cases hh
      exact ⟨_, _, t, os, ts, G1, rfl, g.i, h1, h2, few, ok, st, q⟩
/-! ### run -/
abbrev s_run : Stmt := topS 17
theorem sc_run : FnScope ["tree", "operations"] ["tree", "operations"] (defScope s_run) := fscope (by decide +kernel)
def sp_run (K : PySem.W.Frag) : Sp := fun vs H Q _ => ∃ (v v2 : V) (t e : T) (os : List Op) (ts : List T) (G : Hp), vs = [v, v2] ∧ Same G H ∧ Dp K G v t.d ∧ Dp K G v2 (.tuple (os.map Op.d)) ∧ os.length ≤ 400 ∧
  (∀ o ∈ os, o.ok = true) ∧ Steps t os ts ∧ ts[os.length]? = some e ∧ Gives K G H e.d Q
theorem ok_run {f : Addr} {fd : FuncData} {k : Nat} (F : Fun K "run" "run" s_run f fd) (c_moments : Cal P w K mg base CX0 7 "moments" ["tree", "operations"] (sp_moments K)) :
    FnOk P w K mg base CX0 (k + 8) f fd ["tree", "operations"] (sp_run K) := by
  refine F.ok sc_run (fun vs H Q E h => ?_) (fun cdv A outer s H vs Q E hr h => ?_)
  · obtain ⟨v, v2, t, e, os, ts, G, rfl, _⟩ := h
    rfl
  · obtain ⟨v, v2, t, e, os, ts, G, rfl, gi, hd, ho, few, ok, st, he, q⟩ := h
    refine ⟨_, (pss_one (ps_ret (pe_ix ix_tup (c_moments.pe hr (by omega) (by rfl) (pa_cons (pv 0) (pa_cons (pv 1) pa_nil))) (pe_un un_neg pe_int) (fun _ _ => rfl)))), ?_⟩
    refine ⟨v, rfl, v2, rfl, v, v2, t, os, ts, G, rfl, gi, hd, ho, few, ok, st, fun H1 G1 r1 g1 d1 => ?_⟩
    obtain ⟨a, xs, rfl, ha, hx⟩ := d1.tup_at
    obtain ⟨ev, eev, dev⟩ := hx.get (i := os.length) (d := e.d) (by rw [List.getElem?_map, he]; rfl)
    have hl := hx.length
    rw [List.length_map, st.len] at hl
    have eat : atI xs (-1) = some ev := last_at eev (by omega)
    exact ⟨1, rfl, a, xs, -1, ev, rfl, rfl, Same.seqT g1.i ha, eat, q H1 G1 _ g1 dev⟩
theorem spM_run {G H : Hp} {t e : T} {os : List Op} {ts : List T} (few : os.length ≤ 400) (ok : ∀ o ∈ os, o.ok = true) (st : Steps t os ts) (he : ts[os.length]? = some e) : SpM K (sp_run K) G H [t.d, .tuple (os.map Op.d)] e.d := fun G1 H1 us g hh Q q E => by
  cases hh with
  | cons h1 hh =>
    cases hh with
    | cons h2 hh =>
      cases hh
      exact ⟨_, _, t, e, os, ts, G1, rfl, g.i, h1, h2, few, ok, st, he, q⟩
end
end K5
namespace K5
open PySem PySem.Spec PyProof.Rows L2 Kg
section
variable {P : Program} {w : World} {K : PySem.W.Frag} {mg : Str → Option Value} {base : Heap}
/-! ### _law_inside -/
abbrev s__law_inside : Stmt := topS 36
theorem sc__law_inside : FnScope ["_law_lists", "_law_name", "_law_found", "_law_child"] ["_law_lists", "_law_name"] (defScope s__law_inside) := fscope (by decide +kernel)
def sp__law_inside (K : PySem.W.Frag) (D : Nat) : Sp := fun vs H Q _ => ∃ (p : Addr) (rs : List (Str × Addr × List Str)) (t n : T) (G : Hp), vs = [.ref p, .str n.key] ∧ Same G H ∧ Lists G p rs ∧ (rs.map (·.1)).Nodup ∧ Has rs t ∧
  t.keys.Nodup ∧ t.size ≤ 1000 ∧ n ∈ t.pre ∧ T.Ht D n ∧ ∀ H' G' l, Grow [] G H G' H' → H l = none → G' l = none → H' l = some (.lst (n.keys.map V.str)) → Q (.ref l) H'
theorem ok__law_inside {f : Addr} {fd : FuncData} (F : Fun K "_law_inside" "_law_inside" s__law_inside f fd) (gf : mg "_law_inside" = some (.ref f)) (kf : PySem.W.keepIn K (.ref f) = true) (bf : Binds K fd ["_law_lists", "_law_name"] []) :
    ∀ D : Nat, FnOk P w K mg base CX0 (D + 1) f fd ["_law_lists", "_law_name"] (sp__law_inside K D) := by
  intro D
  induction D with
  | zero =>
    refine F.ok sc__law_inside (fun vs H Q E h => ?_) (fun cdv A outer s H vs Q E hr h => ?_)
    · obtain ⟨p, rs, t, n, G, rfl, _⟩ := h
      rfl
    · obtain ⟨p, rs, t, n, G, _, _, _, _, _, _, _, _, hh, _⟩ := h
      exact hh.elim
  | succ D ih =>
    have c__law_inside : Cal P w K mg base CX0 (D + 1) "_law_inside" ["_law_lists", "_law_name"] (sp__law_inside K D) := ⟨f, fd, ih, gf, kf, bf⟩
    refine F.ok sc__law_inside (fun vs H Q E h => ?_) (fun cdv A outer s H vs Q E hr h => ?_)
    · obtain ⟨p, rs, t, n, G, rfl, _⟩ := h
      rfl
    · obtain ⟨p, rs, t, n, G, rfl, gi, hl, ndr, lt, nd, few, hn, hh, q⟩ := h
      have hu := hu_of hr
      refine ⟨_, (pss_cons (ps_set (i := 2) sc__law_inside.nd rfl (Or.inl rfl) (pe_lst (pa_cons (pv 1) pa_nil)))
        (pss_cons (ps_for PassesOwn.never rfl (pi_list (pe_dget hu (pv 0) (pv 1) (fun _ _ => rfl))) (pg_name (i := 3) sc__law_inside.nd rfl (Or.inl rfl)) (pss_one (ps_expr (pe_bm PySem.F.plainAttrs_list PySem.F.slot_list_extend PySem.F.type_list_extend mt_extend (pv 2) (pa_cons (c__law_inside.pe hr (by omega) (by rfl) (pa_cons (pv 0) (pa_cons (pv 3) pa_nil))) pa_nil)))))
        (pss_one (ps_ret (pv 2))))), ?_⟩
      obtain ⟨a, hr'⟩ := lt n hn
      have fk := T.pre_size t n hn
      refine ⟨.str n.key, rfl, (by show 1 ≤ sizeLine; decide), fun l nl => ?_⟩
      have gl := gi.free nl
      have g1 : Grow [] G H G (upd H l (.lst [.str n.key])) := .beside gi nl
      refine ⟨.ref p, rfl, .str n.key, rfl, p, .ref a, rfl, ?_, a, rfl, ⟨_, g1.i.seq (sqL (hl.2 _ hr'))⟩, ?_⟩
      · have := DGet.k (k := Sum.inr n.key) (g1.i _ _ hl.1)
        rw [rows_at ndr hr'] at this
        exact this
      refine for_list (xs := (n.kids.map T.key).map V.str) (fun i σ' H' => (∃ y, σ' = [some (.ref p), some (.str n.key), some (.ref l), y]) ∧ (∃ G', Grow [] G H G' H' ∧ G' l = none) ∧
        H' l = some (.lst ((n.key :: (n.kids.take i).flatMap T.keys).map V.str))) ⟨⟨none, rfl⟩, ⟨G, g1, gl⟩, upd_same⟩ ?_ ?_ ?_
      · rintro i σ' H' _ ⟨_, ⟨G', g, _⟩, _⟩
        exact g.into.seq (sqL (hl.2 _ hr'))
      · rintro i x σ' H' ex ⟨⟨y, rfl⟩, ⟨G', g, gl'⟩, hl'⟩
        rw [List.map_map, List.getElem?_map] at ex
        cases hc : n.kids[i]? with
        | none =>
          rw [hc] at ex
          cases ex
        | some c =>
          rw [hc] at ex
          cases ex
          have hcm : c ∈ n.kids := List.mem_of_getElem? hc
          refine ⟨.ref l, rfl, Or.inl ⟨rfl, _, sqL hl'⟩, .ref p, rfl, .str c.key, rfl, p, rs, t, c, G', rfl, g.i, hl.same g.g, ndr, lt, nd, few, T_kid_in hn hcm, hh c hcm, fun H2 G2 b g2 nb gb hb => ?_⟩
          have hl2 : H2 l = some (.lst ((n.key :: (n.kids.take i).flatMap T.keys).map V.str)) := g2.same _ _ hl'
          have gl2 : G2 l = none := g2.off gl' hl'
          refine ⟨l, b, _, _, rfl, rfl, hl2, hb, ?_, ⟨_, rfl⟩, ⟨G2, (g.tr g2).mut nl gl2, gl2⟩, ?_⟩
          · rw [List.length_map, List.length_map, T.keys_len]
            have h1 : (n.key :: (n.kids.take i).flatMap T.keys).length ≤ n.keys.length := by
              rw [T.keys_eq, List.length_cons, List.length_cons]
              have : n.kids.flatMap T.keys = (n.kids.take i).flatMap T.keys ++ (n.kids.drop i).flatMap T.keys := by
                rw [← List.flatMap_append, List.take_append_drop]
              rw [this, List.length_append]
              omega
            rw [T.keys_len] at h1
            have h2 := T.kid_size hcm
            exact Nat.le_trans (by omega : _ ≤ 3000) (by decide)
          · rw [upd_same, List.take_succ, hc, List.flatMap_append, ← List.map_append]
            simp
      · rintro σ' H' ⟨⟨y, rfl⟩, ⟨G', g, gl'⟩, hl'⟩
        rw [List.length_map, List.length_map, List.take_length, ← T.keys_eq] at hl'
        exact ⟨.ref l, rfl, q H' G' l g nl gl' hl'⟩
end
end K5
namespace K5
open PySem PySem.Spec PyProof.Rows L2 Kg
section
variable {P : Program} {w : World} {K : PySem.W.Frag} {mg : Str → Option Value} {base : Heap}
/-! ### _law_step: of an operation that is possible -/
abbrev s__law_step : Stmt := topS 37
abbrev N__law_step : List Str := ["_law_lists", "_law_root", "_law_deed_here", "_law_now", "_law_above", "_law_word", "_law_name", "_law_home", "_law_ahead", "_law_some", "_law_one"]
theorem sc__law_step : FnScope ["_law_lists", "_law_root", "_law_deed_here", "_law_now", "_law_above", "_law_word", "_law_name", "_law_home", "_law_ahead", "_law_some", "_law_one"] ["_law_lists", "_law_root", "_law_deed_here"] (defScope s__law_step) := fscope (by decide +kernel)
def sp__law_step (K : PySem.W.Frag) : Sp := fun vs H Q _ => ∃ (p : Addr) (v : V) (rs : List Kg.Row) (t t2 : T) (o : Op) (G : Hp), vs = [.ref p, .str t.key, v] ∧ Same G H ∧ Lists H p rs ∧ LT rs t ∧ t.keys.Nodup ∧ t.size ≤ 19 ∧ Dp K G v o.d ∧
  t.poss o = true ∧ After t o t2 ∧ ∀ H' p2 rs2, Same H H' → H p2 = none → (∀ e ∈ rs2, H e.2.1 = none) → Lists H' p2 rs2 → LT rs2 t2 → Q (.ref p2) H'
abbrev rList (K : PySem.W.Frag) : List V → Hp → VK → Prop := fun xs H Q => ∃ p ys, xs = [.ref p] ∧ (SqL K H p ys ∨ SqT K H p ys) ∧ ∀ l, H l = none → Q (.ref l) (upd H l (.lst ys))
set_option maxHeartbeats 1000000 in
theorem ok__law_step {f : Addr} {fd : FuncData} {k : Nat} (F : Fun K "_law_step" "_law_step" s__law_step f fd)
    (c__law_parents : Cal P w K mg base CX0 1 "_law_parents" ["_law_lists"] sp__law_parents) (c__law_inside : Cal P w K mg base CX0 21 "_law_inside" ["_law_lists", "_law_name"] (sp__law_inside K 20))
    (z_dict : mg "dict" = none) (z_list : mg "list" = none) (z_len : mg "len" = none) :
    FnOk P w K mg base CX0 (k + 22) f fd ["_law_lists", "_law_root", "_law_deed_here"] (sp__law_step K) := by
  refine F.ok sc__law_step (fun vs H Q E h => ?_) (fun cdv A outer s H vs Q E hr h => ?_)
  · obtain ⟨p, v, rs, t, t2, o, G, rfl, _⟩ := h
    rfl
  · obtain ⟨p, v, rs, t, t2, o, G, rfl, gi, hl, lt, nd, few, ho, hpo, haf, q⟩ := h
    have hu := hu_of hr
    refine ⟨_, (pss_cons (ps_asg (pe_tup (pa_cons (pe_callTy (call_dictP rfl) (by rfl) z_dict (by decide +kernel) (pa_cons (pe_lock (pe_lc (own := [("_law_name", 6), ("_law_some", 9)]) (g := gTup K 2 (gCons (gName 6) (gCons (gName 9) gNil))) (tt := tYes) (te := tTup (tCons (tVar 6) (tCons (tCB (rList K) (tCons (tVar 9) tNil)) tNil))) rfl sc__law_step.nd (pi_items (pv 0)) (blkOk_by (own := [("_law_name", 6), ("_law_some", 9)]) (N := N__law_step) (sc := defScope s__law_step) (by decide +kernel)) (fun _ _ _ _ _ => (pg_tup rfl (pgs_cons (pg_name (i := 6) sc__law_step.nd rfl (Or.inl rfl)) (pgs_cons (pg_name (i := 9) sc__law_step.nd rfl (Or.inl rfl)) pgs_nil)))) (fun _ _ _ _ _ => pts_nil) (fun _ _ _ _ _ => (pe_tup (pa_cons (pv 6) (pa_cons (pe_callTy call_list_of (by rfl) z_list (by decide +kernel) (pa_cons (pv 9) pa_nil)) pa_nil)))))) pa_nil)) (pa_cons (c__law_parents.pe hr (by omega) (by rfl) (pa_cons (pv 0) pa_nil)) pa_nil))) (pg_tup rfl (pgs_cons (pg_name (i := 3) sc__law_step.nd rfl (Or.inr rfl)) (pgs_cons (pg_name (i := 4) sc__law_step.nd rfl (Or.inl rfl)) pgs_nil))))
      (pss_cons (ps_par (by rfl) sc__law_step.nd (i := 5) (j := 6) rfl rfl (by decide) rfl rfl (pa_cons (pe_ix ix_tup (pv 2) pe_int (fun _ _ => rfl)) (pa_cons (pe_ix ix_tup (pv 2) pe_int (fun _ _ => rfl)) pa_nil)) (by rfl))
      (pss_cons (ps_if (pt_cmpR op_eq (pv 5) pe_str (nomark _)) (pss_cons (ps_if (pt_cmp (pc_din hu (pv 6) (pv 3))) (pss_one (ps_ret pe_non)) pss_nil)
        (pss_one (ps_dput hu (pv 3) (pv 6) (pe_lst pa_nil) rfl))) (pss_one (ps_if (pt_cmp (pc_dnotin hu (pv 6) (pv 4))) (pss_one (ps_ret pe_non)) (pss_one (ps_expr (pe_bm PySem.F.plainAttrs_list PySem.F.slot_list_remove PySem.F.type_list_remove mt_removeS (pe_dget hu (pv 3) (pe_dget hu (pv 4) (pv 6) (fun _ _ => rfl)) (fun _ _ => rfl)) (pa_cons (pv 6) pa_nil)))))))
      (pss_cons (ps_if (pt_cmpR op_eq (pv 5) pe_str (nomark _)) (pss_one (ps_ret (pe_callTy (call_dictP rfl) (by rfl) z_dict (by decide +kernel) (pa_cons (pe_lc (own := [("_law_one", 10)]) (g := gName 10) (tt := tYes) (te := tTup (tCons (tVar 10) (tCons (tDGet (tVar 3) (tVar 10)) tNil))) rfl sc__law_step.nd (pi_list (c__law_inside.pe hr (by omega) (by rfl) (pa_cons (pv 3) (pa_cons (pv 1) pa_nil)))) (blkOk_by (own := [("_law_one", 10)]) (N := N__law_step) (sc := defScope s__law_step) (by decide +kernel)) (fun _ _ _ _ _ => (pg_name (i := 10) sc__law_step.nd rfl (Or.inl rfl))) (fun _ _ _ _ _ => pts_nil) (fun _ _ _ _ _ => (pe_tup (pa_cons (pv 10) (pa_cons (pe_dget hu (pv 3) (pv 10) (fun _ _ => rfl)) pa_nil))))) pa_nil)))) pss_nil)
      (pss_cons (ps_par (by rfl) sc__law_step.nd (i := 7) (j := 8) rfl rfl (by decide) rfl rfl (pa_cons (pe_ix ix_tup (pv 2) pe_int (fun _ _ => rfl)) (pa_cons (pe_ix ix_tup (pv 2) pe_int (fun _ _ => rfl)) pa_nil)) (by rfl))
      (pss_cons (ps_if (PW.pt (pw_or (pt_cmp (pc_dnotin hu (pv 7) (pv 0))) (pw_or1 (PW.pt (pw_and (pt_cmpR op_eq (pv 5) pe_str (nomark _)) (pw_and1 (pt_cmpR op_in_seq (pv 7) (c__law_inside.pe hr (by omega) (by rfl) (pa_cons (pv 0) (pa_cons (pv 6) pa_nil))) (by rfl)))))))) (pss_one (ps_ret pe_non)) pss_nil)
      (pss_cons (ps_if (PW.pt (pw_and (pt_cmp (pc_notN (pv 8))) (pw_and1 (pt_cmpR op_notIn_seq (pv 8) (pe_dget hu (pv 3) (pv 7) (fun _ _ => rfl)) (by rfl))))) (pss_one (ps_ret pe_non)) pss_nil)
      (pss_cons (ps_expr (pe_bm PySem.F.plainAttrs_list PySem.F.slot_list_insert PySem.F.type_list_insert mt_insert (pe_dget hu (pv 3) (pv 7) (fun _ _ => rfl)) (pa_cons (pe_ifExp (pt_cmp (pc_isN (pv 8))) (pe_callB call_len_seq (by rfl) z_len (by decide +kernel) (pa_cons (pe_dget hu (pv 3) (pv 7) (fun _ _ => rfl)) pa_nil)) (pe_bm PySem.F.plainAttrs_list PySem.F.slot_list_index PySem.F.type_list_index mt_index (pe_dget hu (pv 3) (pv 7) (fun _ _ => rfl)) (pa_cons (pv 8) pa_nil))) (pa_cons (pv 6) pa_nil))))
      (pss_one (ps_ret (pv 3))))))))))), ?_⟩
    have hp : H p = some (.dK (rowsD rs)) := hl.1
    have ndr : (rs.map (·.1)).Nodup := lt.keys.nodup_iff.mpr nd
    have lrs : rs.length ≤ 19 := by
      have := lt.keys.length_eq
      rw [List.length_map, T.keys_len] at this
      omega
    refine ⟨p, _, hp, trivial, fun od => ?_⟩
    refine ⟨.ref p, rfl, p, od, rowsD rs, rfl, upd_same, fun D nD => ?_⟩
    have lenR : (rowsD rs).length = rs.length := by
      unfold rowsD
      rw [List.length_map]
    have Dp' : D ≠ p := fun z => by
      rw [z, upd_same] at nD
      cases nD
    refine lc_it walk_items (fun i H' => ∃ cs : List (Addr × Kg.Row), cs.map (fun e => rowOf e.2) = (rs.take i).map rowOf ∧ H' p = some (.frz od (.dK (rowsD rs))) ∧ (∀ b o, b ≠ p → H b = some o → H' b = some o) ∧
      H' D = some (.lst (cs.map fun e => V.ref e.1)) ∧ (∀ e ∈ cs, H' e.1 = some (.tup [.str e.2.1, .ref e.2.2.1]) ∧ H' e.2.2.1 = some (.lst (e.2.2.2.map V.str)) ∧ H e.2.2.1 = none ∧ e.2.2.1 ≠ D ∧ e.1 ≠ D) ∧ (cs.map (·.2.2.1)).Nodup) ?_ ?_ ?_ ?_
    · refine ⟨[], rfl, ?_, fun b o hb e => ?_, upd_same, fun e he => by simp at he, List.nodup_nil⟩
      · rw [upd_ne Dp'.symm, upd_same]
      · have h1 : (upd H p (.frz od (.dK (rowsD rs)))) b = some o := by
          rw [upd_ne hb]
          exact e
        rw [upd_ne (ne_of_none h1 nD)]
        exact h1
    · rintro i H' _ ⟨cs, _, h1, _⟩
      exact h1
    · rintro i x H' H2 hi ⟨cs, c1, c2, c3, c4, c5, c6⟩ ⟨T, x1, x2, rfl, nT, rfl, e1, e2⟩
      rw [lenR] at hi
      have er : (rowsD rs)[i]? = some (Sum.inr rs[i].1, V.ref rs[i].2.1) := by
        unfold rowsD
        rw [List.getElem?_map, List.getElem?_eq_getElem hi]
        rfl
      have e1 : (rowsD rs)[i]?.map (fun kv => kV kv.1) = some x1 := e1
      have e2 : (rowsD rs)[i]?.map Prod.snd = some x2 := e2
      rw [er] at e1 e2
      obtain rfl : x1 = .str rs[i].1 := (Option.some.inj e1).symm
      obtain rfl : x2 = .ref rs[i].2.1 := (Option.some.inj e2).symm
      have hrow : H rs[i].2.1 = some (.lst (rs[i].2.2.map V.str)) := hl.2 _ (List.getElem_mem hi)
      have rne : rs[i].2.1 ≠ p := hl.ne (List.getElem_mem hi)
      refine ⟨T, _, rfl, sqT upd_same, rfl, _, _, rfl, _, _, rfl, rfl, rfl, ?_⟩
      refine s_yes ?_
      have k1 : ∀ b o, H' b = some o → (upd H' T (.tup [.str rs[i].1, .ref rs[i].2.1])) b = some o := fun b o e => by
        rw [upd_ne (ne_of_none e nT)]
        exact e
      have r1 := k1 _ _ (c3 _ _ rne hrow)
      generalize (upd H' T (.tup [.str rs[i].1, .ref rs[i].2.1])) = H1 at k1 r1 ⊢
      refine ⟨.str rs[i].1, rfl, .ref rs[i].2.1, rfl, rs[i].2.1, _, rfl, .inl (sqL r1), fun l1 nl1 => ⟨(by show 2 ≤ sizeLine; decide), fun tp ntp => ?_⟩⟩
      have k2 : ∀ b o, H1 b = some o → (upd H1 l1 (.lst (rs[i].2.2.map V.str))) b = some o := fun b o e => by
        rw [upd_ne (ne_of_none e nl1)]
        exact e
      have h2l : (upd H1 l1 (.lst (rs[i].2.2.map V.str))) l1 = some (.lst (rs[i].2.2.map V.str)) := upd_same
      generalize (upd H1 l1 (.lst (rs[i].2.2.map V.str))) = H2 at k2 h2l ntp ⊢
      have k3 : ∀ b o, H2 b = some o → (upd H2 tp (.tup [.str rs[i].1, .ref l1])) b = some o := fun b o e => by
        rw [upd_ne (ne_of_none e ntp)]
        exact e
      have h3t : (upd H2 tp (.tup [.str rs[i].1, .ref l1])) tp = some (.tup [.str rs[i].1, .ref l1]) := upd_same
      generalize (upd H2 tp (.tup [.str rs[i].1, .ref l1])) = H3 at k3 h3t ⊢
      have kk : ∀ b o, H' b = some o → H3 b = some o := fun b o e => k3 _ _ (k2 _ _ (k1 _ _ e))
      have l1D : l1 ≠ D := fun z => by
        have := k1 _ _ c4
        rw [← z, nl1] at this
        cases this
      have tpD : tp ≠ D := fun z => by
        have := k2 _ _ (k1 _ _ c4)
        rw [← z, ntp] at this
        cases this
      have lcs : cs.length = i := by
        have := congrArg List.length c1
        rw [List.length_map, List.length_map, List.length_take] at this
        omega
      refine ⟨_, kk _ _ c4, ?_, cs ++ [(tp, rs[i].1, l1, rs[i].2.2)], ?_, ?_, ?_, ?_, ?_, ?_⟩
      · rw [List.length_map, lcs]
        exact Nat.lt_of_le_of_lt (by omega : i ≤ 19) (by decide)
      · rw [List.map_append, c1, List.take_succ, List.getElem?_eq_getElem hi, List.map_append]
        rfl
      · rw [upd_ne Dp'.symm]
        exact kk _ _ c2
      · intro b o hb e
        have := c3 b o hb e
        by_cases z : b = D
        · rw [z] at e hb
          have h1 : (upd H p (.frz od (.dK (rowsD rs)))) D = some o := by
            rw [upd_ne hb]
            exact e
          rw [nD] at h1
          cases h1
        · rw [upd_ne z]
          exact kk _ _ this
      · rw [upd_same, List.map_append]
        rfl
      · intro e he
        rcases List.mem_append.mp he with he | he
        · obtain ⟨d1, d2, d3, d4, d5⟩ := c5 e he
          refine ⟨?_, ?_, d3, d4, d5⟩
          · rw [upd_ne d5]
            exact kk _ _ d1
          · rw [upd_ne d4]
            exact kk _ _ d2
        · have : e = (tp, rs[i].1, l1, rs[i].2.2) := by simpa using he
          subst this
          refine ⟨?_, ?_, ?_, l1D, tpD⟩
          · show (upd H3 D _) tp = _
            rw [upd_ne tpD]
            exact h3t
          · show (upd H3 D _) l1 = _
            rw [upd_ne l1D]
            exact k3 _ _ h2l
          · show H l1 = none
            cases hz : H l1 with
            | none => rfl
            | some oo =>
              by_cases z : l1 = p
              · rw [z, k1 _ _ c2] at nl1
                cases nl1
              · rw [k1 _ _ (c3 _ _ z hz)] at nl1
                cases nl1
      · rw [List.map_append, List.nodup_append]
        refine ⟨c6, by simp, fun a ha b hb z => ?_⟩
        have hb' : b = l1 := by simpa using hb
        obtain ⟨e, he, rfl⟩ := List.mem_map.mp ha
        have := k1 _ _ (c5 e he).2.1
        rw [z, hb', nl1] at this
        cases this
    rintro H1 ⟨cs, c1, c2, c3, c4, c5, c6⟩
    rw [lenR, List.take_length] at c1
    refine ⟨c2, ?_⟩
    have same1 : Same H (upd H1 p (.dK (rowsD rs))) := fun b o e => by
      by_cases z : b = p
      · subst z
        rw [hp] at e
        cases e
        exact upd_same
      · rw [upd_ne z]
        exact c3 b o z e
    have Dh : (upd H1 p (.dK (rowsD rs))) D = some (.lst (cs.map fun e => V.ref e.1)) := by
      rw [upd_ne Dp']
      exact c4
    have c5' : ∀ e ∈ cs, (upd H1 p (.dK (rowsD rs))) e.1 = some (.tup [.str e.2.1, .ref e.2.2.1]) ∧ (upd H1 p (.dK (rowsD rs))) e.2.2.1 = some (.lst (e.2.2.2.map V.str)) ∧ H e.2.2.1 = none := fun e he => by
      obtain ⟨d1, d2, d3, _⟩ := c5 e he
      refine ⟨?_, ?_, d3⟩
      · rw [upd_ne (fun z => by rw [z, c2] at d1; cases d1)]
        exact d1
      · rw [upd_ne (fun z => by rw [z, hp] at d3; cases d3)]
        exact d2
    generalize (upd H1 p (.dK (rowsD rs))) = H2 at same1 Dh c5' ⊢
    clear c2 c3 c4 c5
    refine ⟨D, cs.map (·.1), rowsD (cs.map (·.2)), rfl, ?_, paired_rows cs fun e he => (c5' e he).1, fun p3 np3 => ?_⟩
    · rw [List.map_map]
      exact sqL Dh
    have r3 : (cs.map (·.2)).map rowOf = rs.map rowOf := by
      rw [List.map_map]
      exact c1
    have na3 : ((cs.map (·.2)).map (·.2.1)).Nodup := by
      rw [List.map_map]
      exact c6
    have fr3 : ∀ e ∈ cs.map (·.2), H2 e.2.1 = some (.lst (e.2.2.map V.str)) ∧ H e.2.1 = none := fun e he => by
      obtain ⟨e0, h0, rfl⟩ := List.mem_map.mp he
      exact (c5' e0 h0).2
    have lt3 : LT (cs.map (·.2)) t := by
      show ((cs.map (·.2)).map rowOf).Perm _
      rw [r3]
      exact lt
    have nk3 : ((cs.map (·.2)).map (·.1)).Nodup := lt3.keys.nodup_iff.mpr nd
    generalize (cs.map (·.2)) = rs3 at r3 na3 fr3 lt3 nk3 ⊢
    rw [mergeK_new (rowsD rs3) [] (rowsD_nodup nk3), List.nil_append]
    have l3 : Lists (upd H2 p3 (.dK (rowsD rs3))) p3 rs3 := ⟨upd_same, fun e he => by
      rw [upd_ne (ne_of_none (fr3 e he).1 np3)]
      exact (fr3 e he).1⟩
    have same3 : Same H (upd H2 p3 (.dK (rowsD rs3))) := same1.trans (Same.new np3)
    have np3H : H p3 = none := same1.free np3
    have fr3' : ∀ e ∈ rs3, H e.2.1 = none := fun e he => (fr3 e he).2
    generalize (upd H2 p3 (.dK (rowsD rs3))) = H3 at l3 same3 ⊢
    clear same1 Dh c5' fr3 c6 c1
    have rsP := rowsE_perm lt
    have rsN : ((rowsE rs).map (·.1)).Nodup := ((rsP.map (·.1)).nodup_iff).mpr (List.nodup_cons.mp (T.edges_nodup nd)).2
    refine ⟨.ref p, rfl, p, rs, H, rfl, same3, hl, rsN, ?_, fun H4 ab g4 nab hab => ?_⟩
    · rw [rsP.length_eq]
      have := T.edges_len t
      omega
    refine ⟨(by show 2 ≤ sizeLine; decide), fun tq ntq => ⟨tq, _, rfl, sqT upd_same, rfl, _, _, rfl, _, _, rfl, rfl, ?_⟩⟩
    have same5 : Same H3 (upd H4 tq (.tup [.ref p3, .ref ab])) := g4.same.trans (Same.new ntq)
    have hab5 : (upd H4 tq (.tup [.ref p3, .ref ab])) ab = some (.dK (edD (rowsE rs))) := by
      rw [upd_ne (ne_of_none hab ntq)]
      exact hab
    have abp : ab ≠ p3 := fun z => by
      rw [z, l3.1] at nab
      cases nab
    have abr : ∀ e ∈ rs3, ab ≠ e.2.1 := fun e he z => by
      rw [z, l3.2 e he] at nab
      cases nab
    have l5 := l3.same same5
    have sameH := same3.trans same5
    generalize (upd H4 tq (.tup [.ref p3, .ref ab])) = H5 at l5 sameH hab5 ⊢
    clear same3 same5 l3 g4 nab hab ntq
    obtain ⟨oa, rfl, hoa⟩ := Op.at_ ho
    have so := Same.seqT (gi.trans sameH) hoa
    have lists5 : Lists H5 p rs := hl.same sameH
    cases o with
    | create x pp b =>
      obtain ⟨u, hu', rfl, A', B, e, hb, rfl⟩ := haf
      have hx : x ∉ t.keys := by
        have h0 : (!decide (x ∈ t.keys) && t.place u.key b) = true := hpo
        rw [Bool.and_eq_true] at h0
        intro z
        rw [decide_eq_true z] at h0
        exact absurd h0.1 Bool.false_ne_true
      have kn := kids_nodup nd hu'
      have fewK : (A' ++ B).length ≤ 19 := by
        rw [← e]
        have := T.pre_kids hu'
        omega
      rw [e] at kn
      refine ⟨.ref oa, rfl, oa, _, 0, _, rfl, rfl, so, rfl, .ref oa, rfl, oa, _, 1, _, rfl, rfl, so, rfl, _, _, rfl, ?_⟩
      refine ⟨.str "create", rfl, rfl, true, rfl, iteT ?_⟩
      have hx3 : x ∉ rs3.map (·.1) := fun z => hx (lt3.keys.mem_iff.mp z)
      refine ⟨.str x, rfl, .ref p3, rfl, p3, _, rfl, DGet.k (k := Sum.inr x) l5.1, _, rfl, ?_⟩
      rw [rows_none hx3]
      refine iteF ?_
      refine ⟨(by show 0 ≤ sizeLine; decide), fun a0 na0 => ⟨.ref p3, rfl, .str x, rfl, p3, _, rfl, .inl ⟨rowsD rs3, Sum.inr x, ?_, rfl, ?_, rfl⟩, ?_⟩⟩
      · rw [upd_ne (ne_of_none l5.1 na0)]
        exact l5.1
      · unfold rowsD
        rw [List.length_map]
        have := lt3.keys.length_eq
        rw [List.length_map, T.keys_len] at this
        exact Nat.lt_of_le_of_lt (by omega : rs3.length ≤ 19) (by decide)
      rw [putK_new _ (rows_none hx3)]
      have a0p : a0 ≠ p3 := fun z => by
        rw [z, l5.1] at na0
        cases na0
      have eR : rowsD rs3 ++ [(Sum.inr x, V.ref a0)] = rowsD (rs3 ++ [(x, a0, [])]) := by
        unfold rowsD
        rw [List.map_append]
        rfl
      rw [eR]
      have same6 : Same H (upd (upd H5 a0 (.lst [])) p3 (.dK (rowsD (rs3 ++ [(x, a0, [])])))) := fun bb o ee => by
        rw [upd_ne (ne_of_none ee np3H)]
        exact Same.new na0 bb o (sameH bb o ee)
      have l6 : Lists (upd (upd H5 a0 (.lst [])) p3 (.dK (rowsD (rs3 ++ [(x, a0, [])])))) p3 (rs3 ++ [(x, a0, [])]) := by
        refine ⟨upd_same, fun ee he => ?_⟩
        rcases List.mem_append.mp he with he | he
        · rw [upd_ne (l5.ne he), upd_ne (ne_of_none (l5.2 ee he) na0)]
          exact l5.2 ee he
        · have : ee = (x, a0, []) := by simpa using he
          subst this
          show upd _ p3 _ a0 = _
          rw [upd_ne a0p, upd_same]
          rfl
      have nk6 : ((rs3 ++ [((x, a0, []) : Kg.Row)]).map fun e => e.1).Nodup := by
        rw [List.map_append, List.nodup_append]
        refine ⟨nk3, by simp, fun a ha bb hb z => ?_⟩
        have : bb = x := by simpa using hb
        rw [z, this] at ha
        exact hx3 ha
      have na6 : ((rs3 ++ [((x, a0, []) : Kg.Row)]).map fun e => e.2.1).Nodup := by
        rw [List.map_append, List.nodup_append]
        refine ⟨na3, by simp, fun a ha bb hb z => ?_⟩
        have : bb = a0 := by simpa using hb
        obtain ⟨ee, he, rfl⟩ := List.mem_map.mp ha
        have h1 := l5.2 ee he
        rw [z, this, na0] at h1
        cases h1
      obtain ⟨au, hau⟩ := lt3.row hu'
      rw [e] at hau
      have hrow : (u.key, au, (A' ++ B).map T.key) ∈ rs3 ++ [(x, a0, [])] := List.mem_append_left _ hau
      have auH : H au = none := fr3' _ hau
      have lists6 := hl.same same6
      have so6 := Same.seqT (gi.trans same6) hoa
      have lt6 := lt_create (k := x) lt3 nd hu' e a0
      have ukx : u.key ≠ x := fun z => hx (by rw [← z]; exact T.mem_pre_keys hu')
      have rE : (rs3 ++ [(x, a0, [])]).map (editR u.key fun cs => cs.take A'.length ++ [x] ++ cs.drop A'.length) = rs3.map (editR u.key fun cs => cs.take A'.length ++ [x] ++ cs.drop A'.length) ++ [(x, a0, [])] := by
        rw [List.map_append]
        congr 1
        show [editR u.key _ (x, a0, [])] = _
        unfold editR
        rw [if_neg (fun z => ukx z.symm)]
      generalize (upd (upd H5 a0 (.lst [])) p3 (.dK (rowsD (rs3 ++ [(x, a0, [])])))) = H6 at same6 l6 lists6 so6 ⊢
      generalize hR6 : rs3 ++ [(x, a0, [])] = R6 at l6 nk6 na6 hrow rE
      have fin : Q (.ref p3) (upd H6 au (.lst ((((A' ++ B).map T.key).take A'.length ++ [x] ++ ((A' ++ B).map T.key).drop A'.length).map V.str))) := by
        refine q _ p3 _ (fun bb o ee => ?_) np3H (fun ee he => ?_) (lists_edit (f := fun cs => cs.take A'.length ++ [x] ++ cs.drop A'.length) l6 nk6 na6 hrow) ?_
        · rw [upd_ne (ne_of_none ee auH)]
          exact same6 bb o ee
        · obtain ⟨e1, h1, rfl⟩ := List.mem_map.mp he
          rw [editR_2]
          rw [← hR6] at h1
          rcases List.mem_append.mp h1 with h1 | h1
          · exact fr3' e1 h1
          · have : e1 = (x, a0, []) := by simpa using h1
            rw [this]
            exact sameH.free na0
        · rw [rE]
          exact lt6
      refine ⟨.str "create", rfl, rfl, false, rfl, iteF ?_⟩
      refine ⟨.ref oa, rfl, oa, _, 2, _, rfl, rfl, so6, rfl, .ref oa, rfl, oa, _, 3, _, rfl, rfl, so6, rfl, _, _, rfl, ?_⟩
      obtain ⟨a1, ha1⟩ := lt.row hu'
      refine ⟨.str u.key, rfl, .ref p, rfl, p, _, rfl, DGet.k (k := Sum.inr u.key) lists6.1, _, rfl, ?_⟩
      rw [rows_at ndr ha1]
      refine iteF ?_
      refine ⟨.str "create", rfl, rfl, false, rfl, iteF (iteF ?_)⟩
      have get6 : DGet H6 p3 (.str u.key) (some (.ref au)) := by
        have := DGet.k (k := Sum.inr u.key) l6.1
        rw [rows_at nk6 hrow] at this
        exact this
      have row6 : H6 au = some (.lst (((A' ++ B).map T.key).map V.str)) := l6.2 _ hrow
      have lA : (A'.map T.key).length = A'.length := List.length_map ..
      have lK : (((A' ++ B).map T.key).map V.str).length ≤ 19 := by
        rw [List.length_map, List.length_map]
        exact fewK
      have big : (19 : Nat) < sizeLine := by decide
      have lA' : A'.length ≤ 19 := by
        have := fewK
        rw [List.length_append] at this
        omega
      have putE : ∀ n : Int, n.toNat = A'.length → (((A' ++ B).map T.key).map V.str).take n.toNat ++ [V.str x] ++ (((A' ++ B).map T.key).map V.str).drop n.toNat =
          (((A' ++ B).map T.key).take A'.length ++ [x] ++ ((A' ++ B).map T.key).drop A'.length).map V.str := fun n hn => by
        rw [hn]
        generalize (A' ++ B).map T.key = L
        rw [List.map_append, List.map_append, List.map_take, List.map_drop]
        rfl
      cases b with
      | none =>
        have hB : B = [] := hb
        refine ⟨.non, rfl, _, rfl, iteF (iteF ?_)⟩
        refine ⟨.ref p3, rfl, .str u.key, rfl, p3, .ref au, rfl, get6, Or.inl ⟨rfl, _, sqL row6⟩, .non, rfl, _, rfl, iteT ?_⟩
        refine ⟨.ref p3, rfl, .str u.key, rfl, p3, .ref au, rfl, get6, au, _, rfl, .inl (sqL row6), ?_⟩
        have hn : ((((A' ++ B).map T.key).map V.str).length : Int).toNat = A'.length := by
          rw [List.length_map, List.length_map, hB, List.append_nil]
          omega
        refine ⟨.str x, rfl, au, _, _, _, rfl, rfl, row6, by omega, by omega, by omega, ?_⟩
        rw [putE _ hn]
        exact ⟨.ref p3, rfl, fin⟩
      | some y =>
        obtain ⟨c, B', eB, ey⟩ := hb
        have ym : inV (.str y) (((A' ++ B).map T.key).map V.str) = true := by
          rw [inV_strs]
          refine decide_eq_true (List.mem_map.mpr ⟨c, ?_, ey⟩)
          rw [eB]
          exact List.mem_append_right _ (List.mem_cons_self ..)
        have eyA : ((A' ++ B).map T.key)[A'.length]? = some y := by
          rw [List.getElem?_map, eB, List.getElem?_append_right (Nat.le_refl _), Nat.sub_self]
          exact congrArg some ey
        refine ⟨.str y, rfl, _, rfl, iteT ?_⟩
        refine ⟨.str y, rfl, .ref p3, rfl, .str u.key, rfl, p3, .ref au, rfl, get6, au, _, rfl, .inl (sqL row6), rfl, flat_strs _, _, rfl, ?_⟩
        rw [show (if true then !inV (V.str y) (((A' ++ B).map T.key).map V.str) else inV (V.str y) (((A' ++ B).map T.key).map V.str)) = false by
          rw [ym]
          rfl]
        refine iteF ?_
        refine ⟨.ref p3, rfl, .str u.key, rfl, p3, .ref au, rfl, get6, Or.inl ⟨rfl, _, sqL row6⟩, .str y, rfl, _, rfl, iteF ?_⟩
        refine ⟨.ref p3, rfl, .str u.key, rfl, p3, .ref au, rfl, get6, Or.inl ⟨rfl, _, sqL row6⟩, .str y, rfl, au, _, .str y, A'.length, .str y, rfl, rfl, sqL row6, rfl, flat_strs _, ?_, ?_, ?_, ?_⟩
        · rw [List.getElem?_map, eyA]
          rfl
        · rw [eqV_strs]
          exact decide_eq_true rfl
        · intro m z hm hz
          rw [List.getElem?_map] at hz
          cases hkk : ((A' ++ B).map T.key)[m]? with
          | none =>
            rw [hkk] at hz
            cases hz
          | some nn =>
            rw [hkk] at hz
            cases hz
            rw [eqV_strs]
            refine decide_eq_false fun z => ?_
            rw [z] at hkk
            have hlt : A'.length < ((A' ++ B).map T.key).length := (List.getElem?_eq_some_iff.mp eyA).1
            have := (List.getElem?_inj (by omega) kn).mp (hkk.trans eyA.symm)
            omega
        · refine ⟨.str x, rfl, au, _, _, _, rfl, rfl, row6, by omega, by omega, by omega, ?_⟩
          rw [putE _ (by omega)]
          exact ⟨.ref p3, rfl, fin⟩
    | move x pp b =>
      obtain ⟨y0, t1, rfl, hout, hin⟩ := haf
      obtain ⟨kp1, k1, ym0, nd1⟩ := out_keys nd hout
      obtain ⟨v0, hv0, A0, B0, e0, rfl⟩ := hout
      obtain ⟨u, hu', rfl, A', B, e, hb, rfl⟩ := hin
      have sz1 : (t.setK v0.key (A0 ++ B0)).size ≤ 19 := Nat.le_trans (out_size nd ⟨v0, hv0, A0, B0, e0, rfl⟩) few
      have kn := kids_nodup nd1 hu'
      have fewK : (A' ++ B).length ≤ 19 := by
        rw [← e]
        have := T.pre_kids hu'
        omega
      rw [e] at kn
      have ukT : u.key ∈ (t.setK v0.key (A0 ++ B0)).keys := T.mem_pre_keys hu'
      have uoff : u.key ∉ y0.keys := fun z => by
        have h1 := kp1.nodup_iff.mp nd
        rw [List.nodup_append] at h1
        exact h1.2.2 _ z _ ukT rfl
      have uInT : u.key ∈ t.keys := kp1.mem_iff.mpr (List.mem_append_right _ ukT)
      refine ⟨.ref oa, rfl, oa, _, 0, _, rfl, rfl, so, rfl, .ref oa, rfl, oa, _, 1, _, rfl, rfl, so, rfl, _, _, rfl, ?_⟩
      refine ⟨.str "move", rfl, rfl, false, rfl, iteF ?_⟩
      have ym : y0 ∈ v0.kids := by
        rw [e0]
        exact List.mem_append_right _ (List.mem_cons_self ..)
      have ye : (y0.key, v0.key) ∈ rowsE rs := rsP.mem_iff.mpr (T.mem_edges.mpr ⟨v0, hv0, rfl, y0, ym, rfl⟩)
      refine ⟨.str y0.key, rfl, .ref ab, rfl, ab, _, rfl, DGet.k (k := Sum.inr y0.key) hab5, _, rfl, ?_⟩
      rw [edD_at rsN ye]
      refine iteF ?_
      obtain ⟨av, hav⟩ := lt3.row hv0
      have rowv : H5 av = some (.lst ((v0.kids.map T.key).map V.str)) := l5.2 _ hav
      have getA : DGet H5 ab (.str y0.key) (some (.str v0.key)) := by
        have := DGet.k (k := Sum.inr y0.key) hab5
        rw [edD_at rsN ye] at this
        exact this
      have getV : DGet H5 p3 (.str v0.key) (some (.ref av)) := by
        have := DGet.k (k := Sum.inr v0.key) l5.1
        rw [rows_at nk3 hav] at this
        exact this
      have kn0 := kids_nodup nd hv0
      have eY : (v0.kids.map T.key)[A0.length]? = some y0.key := by
        rw [List.getElem?_map, e0, List.getElem?_append_right (Nat.le_refl _), Nat.sub_self]
        rfl
      refine ⟨.ref p3, rfl, .ref ab, rfl, .str y0.key, rfl, ab, .str v0.key, rfl, getA, p3, .ref av, rfl, getV, Or.inl ⟨rfl, _, sqL rowv⟩, .str y0.key, rfl, av, _, y0.key, A0.length, rfl, rfl, rowv, eY, ?_, ?_⟩
      · intro m hm z
        have hlt : A0.length < (v0.kids.map T.key).length := (List.getElem?_eq_some_iff.mp eY).1
        have := (List.getElem?_inj (by omega) kn0).mp (z.trans eY.symm)
        omega
      have avH : H av = none := fr3' _ hav
      have l6 := lists_edit (f := fun cs => cs.eraseIdx A0.length) l5 nk3 na3 hav
      have nk6 : ((rs3.map (editR v0.key fun cs => cs.eraseIdx A0.length)).map fun e => e.1).Nodup := by
        rw [keys_edit]
        exact nk3
      have na6 : ((rs3.map (editR v0.key fun cs => cs.eraseIdx A0.length)).map fun e => e.2.1).Nodup := by
        rw [addrs_edit]
        exact na3
      have fr6 : ∀ ee ∈ rs3.map (editR v0.key fun cs => cs.eraseIdx A0.length), H ee.2.1 = none := fun ee he => by
        obtain ⟨e1, h1, rfl⟩ := List.mem_map.mp he
        rw [editR_2]
        exact fr3' e1 h1
      have same6 : Same H (upd H5 av (.lst (((v0.kids.map T.key).eraseIdx A0.length).map V.str))) := fun bb o ee => by
        rw [upd_ne (ne_of_none ee avH)]
        exact sameH bb o ee
      have lo := lt_out lt3 nd hv0 e0
      have lists6 := hl.same same6
      have so6 := Same.seqT (gi.trans same6) hoa
      generalize (upd H5 av (.lst (((v0.kids.map T.key).eraseIdx A0.length).map V.str))) = H6 at same6 l6 lists6 so6 ⊢
      generalize rs3.map (editR v0.key fun cs => cs.eraseIdx A0.length) = R6 at l6 nk6 na6 fr6 lo
      obtain ⟨au, hrow⟩ := has_of lo u hu'
      rw [e] at hrow
      have auH : H au = none := fr6 _ hrow
      have fin : Q (.ref p3) (upd H6 au (.lst ((((A' ++ B).map T.key).take A'.length ++ [y0.key] ++ ((A' ++ B).map T.key).drop A'.length).map V.str))) := by
        refine q _ p3 _ (fun bb o ee => ?_) np3H (fun ee he => by
          obtain ⟨e1, h1, rfl⟩ := List.mem_map.mp he
          rw [editR_2]
          exact fr6 e1 h1) (lists_edit (f := fun cs => cs.take A'.length ++ [y0.key] ++ cs.drop A'.length) l6 nk6 na6 hrow) (lt_move lo nd1 hu' uoff e)
        rw [upd_ne (ne_of_none ee auH)]
        exact same6 bb o ee
      refine ⟨.str "move", rfl, rfl, false, rfl, iteF ?_⟩
      refine ⟨.ref oa, rfl, oa, _, 2, _, rfl, rfl, so6, rfl, .ref oa, rfl, oa, _, 3, _, rfl, rfl, so6, rfl, _, _, rfl, ?_⟩
      obtain ⟨uo, huo, euo⟩ := key_node uInT
      obtain ⟨a1, ha1⟩ := lt.row huo
      rw [euo] at ha1
      refine ⟨.str u.key, rfl, .ref p, rfl, p, _, rfl, DGet.k (k := Sum.inr u.key) lists6.1, _, rfl, ?_⟩
      rw [rows_at ndr ha1]
      refine iteF ?_
      refine ⟨.str "move", rfl, rfl, true, rfl, iteT ?_⟩
      have yh : T.Ht 20 y0 := (T.Ht.ofSize y0).more (by
        have := T.pre_size t y0 ym0
        omega)
      refine ⟨.str u.key, rfl, .ref p, rfl, .str y0.key, rfl, p, rs, t, y0, H6, rfl, fun _ _ z => z, lists6, ndr, lt.has, nd, by omega, ym0, yh, fun H7 G7 li g7 nli gli hli => ?_⟩
      refine ⟨li, _, rfl, .inl (sqL hli), rfl, flat_strs _, _, rfl, ?_⟩
      rw [show (if false then !inV (V.str u.key) (y0.keys.map V.str) else inV (V.str u.key) (y0.keys.map V.str)) = false by
        rw [inV_strs, decide_eq_false uoff]
        rfl]
      refine iteF ?_
      -- the heap has grown
      have l7 := l6.same g7.same
      have same7 := same6.trans g7.same
      have fin7 : Q (.ref p3) (upd H7 au (.lst ((((A' ++ B).map T.key).take A'.length ++ [y0.key] ++ ((A' ++ B).map T.key).drop A'.length).map V.str))) := by
        refine q _ p3 _ (fun bb o ee => ?_) np3H (fun ee he => by
          obtain ⟨e1, h1, rfl⟩ := List.mem_map.mp he
          rw [editR_2]
          exact fr6 e1 h1) (lists_edit (f := fun cs => cs.take A'.length ++ [y0.key] ++ cs.drop A'.length) l7 nk6 na6 hrow) (lt_move lo nd1 hu' uoff e)
        rw [upd_ne (ne_of_none ee auH)]
        exact same7 bb o ee
      clear fin l6
      have get6 : DGet H7 p3 (.str u.key) (some (.ref au)) := by
        have := DGet.k (k := Sum.inr u.key) l7.1
        rw [rows_at nk6 hrow] at this
        exact this
      have row6 : H7 au = some (.lst (((A' ++ B).map T.key).map V.str)) := l7.2 _ hrow
      have lA : (A'.map T.key).length = A'.length := List.length_map ..
      have lK : (((A' ++ B).map T.key).map V.str).length ≤ 19 := by
        rw [List.length_map, List.length_map]
        exact fewK
      have big : (19 : Nat) < sizeLine := by decide
      have lA' : A'.length ≤ 19 := by
        have := fewK
        rw [List.length_append] at this
        omega
      have putE : ∀ n : Int, n.toNat = A'.length → (((A' ++ B).map T.key).map V.str).take n.toNat ++ [V.str y0.key] ++ (((A' ++ B).map T.key).map V.str).drop n.toNat =
          (((A' ++ B).map T.key).take A'.length ++ [y0.key] ++ ((A' ++ B).map T.key).drop A'.length).map V.str := fun n hn => by
        rw [hn]
        generalize (A' ++ B).map T.key = L
        rw [List.map_append, List.map_append, List.map_take, List.map_drop]
        rfl
      cases b with
      | none =>
        have hB : B = [] := hb
        refine ⟨.non, rfl, _, rfl, iteF (iteF ?_)⟩
        refine ⟨.ref p3, rfl, .str u.key, rfl, p3, .ref au, rfl, get6, Or.inl ⟨rfl, _, sqL row6⟩, .non, rfl, _, rfl, iteT ?_⟩
        refine ⟨.ref p3, rfl, .str u.key, rfl, p3, .ref au, rfl, get6, au, _, rfl, .inl (sqL row6), ?_⟩
        have hn : ((((A' ++ B).map T.key).map V.str).length : Int).toNat = A'.length := by
          rw [List.length_map, List.length_map, hB, List.append_nil]
          omega
        refine ⟨.str y0.key, rfl, au, _, _, _, rfl, rfl, row6, by omega, by omega, by omega, ?_⟩
        rw [putE _ hn]
        exact ⟨.ref p3, rfl, fin7⟩
      | some y =>
        obtain ⟨c, B', eB, ey⟩ := hb
        have ym : inV (.str y) (((A' ++ B).map T.key).map V.str) = true := by
          rw [inV_strs]
          refine decide_eq_true (List.mem_map.mpr ⟨c, ?_, ey⟩)
          rw [eB]
          exact List.mem_append_right _ (List.mem_cons_self ..)
        have eyA : ((A' ++ B).map T.key)[A'.length]? = some y := by
          rw [List.getElem?_map, eB, List.getElem?_append_right (Nat.le_refl _), Nat.sub_self]
          exact congrArg some ey
        refine ⟨.str y, rfl, _, rfl, iteT ?_⟩
        refine ⟨.str y, rfl, .ref p3, rfl, .str u.key, rfl, p3, .ref au, rfl, get6, au, _, rfl, .inl (sqL row6), rfl, flat_strs _, _, rfl, ?_⟩
        rw [show (if true then !inV (V.str y) (((A' ++ B).map T.key).map V.str) else inV (V.str y) (((A' ++ B).map T.key).map V.str)) = false by
          rw [ym]
          rfl]
        refine iteF ?_
        refine ⟨.ref p3, rfl, .str u.key, rfl, p3, .ref au, rfl, get6, Or.inl ⟨rfl, _, sqL row6⟩, .str y, rfl, _, rfl, iteF ?_⟩
        refine ⟨.ref p3, rfl, .str u.key, rfl, p3, .ref au, rfl, get6, Or.inl ⟨rfl, _, sqL row6⟩, .str y, rfl, au, _, .str y, A'.length, .str y, rfl, rfl, sqL row6, rfl, flat_strs _, ?_, ?_, ?_, ?_⟩
        · rw [List.getElem?_map, eyA]
          rfl
        · rw [eqV_strs]
          exact decide_eq_true rfl
        · intro m z hm hz
          rw [List.getElem?_map] at hz
          cases hkk : ((A' ++ B).map T.key)[m]? with
          | none =>
            rw [hkk] at hz
            cases hz
          | some nn =>
            rw [hkk] at hz
            cases hz
            rw [eqV_strs]
            refine decide_eq_false fun z => ?_
            rw [z] at hkk
            have hlt : A'.length < ((A' ++ B).map T.key).length := (List.getElem?_eq_some_iff.mp eyA).1
            have := (List.getElem?_inj (by omega) kn).mp (hkk.trans eyA.symm)
            omega
        · refine ⟨.str y0.key, rfl, au, _, _, _, rfl, rfl, row6, by omega, by omega, by omega, ?_⟩
          rw [putE _ (by omega)]
          exact ⟨.ref p3, rfl, fin7⟩
    | remove x =>
      obtain ⟨y0, rfl, hout⟩ := haf
      obtain ⟨kp1, k1, ym0, nd1⟩ := out_keys nd hout
      have sz1 := Nat.le_trans (out_size nd hout) few
      obtain ⟨v0, hv0, A0, B0, e0, rfl⟩ := hout
      refine ⟨.ref oa, rfl, oa, _, 0, _, rfl, rfl, so, rfl, .ref oa, rfl, oa, _, 1, _, rfl, rfl, so, rfl, _, _, rfl, ?_⟩
      refine ⟨.str "remove", rfl, rfl, false, rfl, iteF ?_⟩
      have ym : y0 ∈ v0.kids := by
        rw [e0]
        exact List.mem_append_right _ (List.mem_cons_self ..)
      have ye : (y0.key, v0.key) ∈ rowsE rs := rsP.mem_iff.mpr (T.mem_edges.mpr ⟨v0, hv0, rfl, y0, ym, rfl⟩)
      refine ⟨.str y0.key, rfl, .ref ab, rfl, ab, _, rfl, DGet.k (k := Sum.inr y0.key) hab5, _, rfl, ?_⟩
      rw [edD_at rsN ye]
      refine iteF ?_
      obtain ⟨av, hav⟩ := lt3.row hv0
      have rowv : H5 av = some (.lst ((v0.kids.map T.key).map V.str)) := l5.2 _ hav
      have getA : DGet H5 ab (.str y0.key) (some (.str v0.key)) := by
        have := DGet.k (k := Sum.inr y0.key) hab5
        rw [edD_at rsN ye] at this
        exact this
      have getV : DGet H5 p3 (.str v0.key) (some (.ref av)) := by
        have := DGet.k (k := Sum.inr v0.key) l5.1
        rw [rows_at nk3 hav] at this
        exact this
      have kn0 := kids_nodup nd hv0
      have eY : (v0.kids.map T.key)[A0.length]? = some y0.key := by
        rw [List.getElem?_map, e0, List.getElem?_append_right (Nat.le_refl _), Nat.sub_self]
        rfl
      refine ⟨.ref p3, rfl, .ref ab, rfl, .str y0.key, rfl, ab, .str v0.key, rfl, getA, p3, .ref av, rfl, getV, Or.inl ⟨rfl, _, sqL rowv⟩, .str y0.key, rfl, av, _, y0.key, A0.length, rfl, rfl, rowv, eY, ?_, ?_⟩
      · intro m hm z
        have hlt : A0.length < (v0.kids.map T.key).length := (List.getElem?_eq_some_iff.mp eY).1
        have := (List.getElem?_inj (by omega) kn0).mp (z.trans eY.symm)
        omega
      have avH : H av = none := fr3' _ hav
      have l6 := lists_edit (f := fun cs => cs.eraseIdx A0.length) l5 nk3 na3 hav
      have nk6 : ((rs3.map (editR v0.key fun cs => cs.eraseIdx A0.length)).map fun e => e.1).Nodup := by
        rw [keys_edit]
        exact nk3
      have na6 : ((rs3.map (editR v0.key fun cs => cs.eraseIdx A0.length)).map fun e => e.2.1).Nodup := by
        rw [addrs_edit]
        exact na3
      have fr6 : ∀ ee ∈ rs3.map (editR v0.key fun cs => cs.eraseIdx A0.length), H ee.2.1 = none := fun ee he => by
        obtain ⟨e1, h1, rfl⟩ := List.mem_map.mp he
        rw [editR_2]
        exact fr3' e1 h1
      have same6 : Same H (upd H5 av (.lst (((v0.kids.map T.key).eraseIdx A0.length).map V.str))) := fun bb o ee => by
        rw [upd_ne (ne_of_none ee avH)]
        exact sameH bb o ee
      have lo := lt_out lt3 nd hv0 e0
      have lists6 := hl.same same6
      have so6 := Same.seqT (gi.trans same6) hoa
      generalize (upd H5 av (.lst (((v0.kids.map T.key).eraseIdx A0.length).map V.str))) = H6 at same6 l6 lists6 so6 ⊢
      generalize rs3.map (editR v0.key fun cs => cs.eraseIdx A0.length) = R6 at l6 nk6 na6 fr6 lo
      refine ⟨.str "remove", rfl, rfl, true, rfl, iteT ?_⟩
      generalize t.setK v0.key (A0 ++ B0) = t1 at k1 nd1 sz1 lo q kp1
      have th : T.Ht 20 t1 := (T.Ht.ofSize t1).more (by omega)
      refine ⟨.ref p3, rfl, .str t.key, rfl, p3, R6, t1, t1, H6, by rw [k1]; rfl, fun _ _ z => z, l6, nk6, has_of lo, nd1, by omega, T.self_pre t1, th, fun H7 G7 li g7 nli gli hli => ?_⟩
      refine ⟨li, rfl, ⟨_, sqL hli⟩, fun D2 nD2 => ?_⟩
      have l7 := l6.same g7.same
      have same7 := same6.trans g7.same
      have lk : (t1.keys.map V.str).length = t1.pre.length := by rw [List.length_map, T.keys_len, T.pre_len]
      refine lc_it (walk_list (xs := t1.keys.map V.str)) (fun i H' => ∃ cs2 : List (Addr × Kg.Row), cs2.map (fun e => rowOf e.2) = t1.desc.take i ∧ Same H7 H' ∧ H' D2 = some (.lst (cs2.map fun e => V.ref e.1)) ∧
        ∀ e ∈ cs2, H' e.1 = some (.tup [.str e.2.1, .ref e.2.2.1]) ∧ e.2 ∈ R6 ∧ e.1 ≠ D2) ⟨[], rfl, Same.new nD2, upd_same, fun e he => by simp at he⟩ ?_ ?_ ?_
      · rintro i H' _ ⟨cs2, _, s7, _⟩
        exact sqL (s7 _ _ hli)
      · rintro i z H'' H' hi ⟨cs2, f1, f2, f3, f4⟩ ⟨rfl, ez⟩
        refine ⟨rfl, s_yes ?_⟩
        rw [lk] at hi
        have ezn : z = .str t1.pre[i].key := by
          unfold T.keys at ez
          rw [List.getElem?_map, List.getElem?_map, List.getElem?_eq_getElem hi] at ez
          exact (Option.some.inj ez).symm
        subst ezn
        obtain ⟨an, han⟩ := has_of lo t1.pre[i] (List.getElem_mem hi)
        have getN : DGet H' p3 (.str t1.pre[i].key) (some (.ref an)) := by
          have := DGet.k (k := Sum.inr t1.pre[i].key) (f2 _ _ l7.1)
          rw [rows_at nk6 han] at this
          exact this
        refine ⟨.str t1.pre[i].key, rfl, .ref p3, rfl, .str t1.pre[i].key, rfl, p3, .ref an, rfl, getN, (by show 2 ≤ sizeLine; decide), fun tp ntp => ?_⟩
        have k3 : ∀ b o, H' b = some o → (upd H' tp (.tup [.str t1.pre[i].key, .ref an])) b = some o := fun b o e => by
          rw [upd_ne (ne_of_none e ntp)]
          exact e
        have h3t : (upd H' tp (.tup [.str t1.pre[i].key, .ref an])) tp = some (.tup [.str t1.pre[i].key, .ref an]) := upd_same
        generalize (upd H' tp (.tup [.str t1.pre[i].key, .ref an])) = H8 at k3 h3t ⊢
        have tpD : tp ≠ D2 := fun z => by
          rw [z, f3] at ntp
          cases ntp
        have lcs : cs2.length = i := by
          have := congrArg List.length f1
          rw [List.length_map, List.length_take] at this
          have h2 : t1.desc.length = t1.pre.length := List.length_map ..
          omega
        have ed : t1.desc[i]? = some (rowOf (t1.pre[i].key, an, t1.pre[i].kids.map T.key)) := by
          unfold T.desc
          rw [List.getElem?_map, List.getElem?_eq_getElem hi]
          rfl
        refine ⟨_, k3 _ _ f3, ?_, cs2 ++ [(tp, t1.pre[i].key, an, t1.pre[i].kids.map T.key)], ?_, ?_, ?_, ?_⟩
        · rw [List.length_map, lcs]
          have := T.pre_len t1
          exact Nat.lt_of_le_of_lt (by omega : i ≤ 19) (by decide)
        · rw [List.map_append, f1, List.take_succ, ed]
          rfl
        · intro b o e
          have := f2 b o e
          rw [upd_ne (ne_of_none e nD2)]
          exact k3 _ _ this
        · rw [upd_same, List.map_append]
          rfl
        · intro e he
          rcases List.mem_append.mp he with he | he
          · obtain ⟨d1, d2, d3⟩ := f4 e he
            refine ⟨?_, d2, d3⟩
            rw [upd_ne d3]
            exact k3 _ _ d1
          · have : e = (tp, t1.pre[i].key, an, t1.pre[i].kids.map T.key) := by simpa using he
            subst this
            refine ⟨?_, han, tpD⟩
            show (upd H8 D2 _) tp = _
            rw [upd_ne tpD]
            exact h3t
      rintro H8 ⟨cs2, f1, f2, f3, f4⟩
      rw [lk, List.take_of_length_le (by
        have : t1.desc.length = t1.pre.length := List.length_map ..
        omega)] at f1
      refine ⟨D2, cs2.map (·.1), rowsD (cs2.map (·.2)), rfl, ?_, paired_rows cs2 fun e he => (f4 e he).1, fun p4 np4 => ?_⟩
      · rw [List.map_map]
        exact sqL f3
      have r4 : (cs2.map (·.2)).map rowOf = t1.desc := by
        rw [List.map_map]
        exact f1
      have lt4 : LT (cs2.map (·.2)) t1 := by
        show ((cs2.map (·.2)).map rowOf).Perm _
        rw [r4]
      have m4 : ∀ e ∈ cs2.map (·.2), H8 e.2.1 = some (.lst (e.2.2.map V.str)) := fun e he => by
        obtain ⟨e1, h1, rfl⟩ := List.mem_map.mp he
        exact f2 _ _ (l7.2 _ (f4 e1 h1).2.1)
      have nk4 : ((cs2.map (·.2)).map (·.1)).Nodup := lt4.keys.nodup_iff.mpr nd1
      have fr4 : ∀ e ∈ cs2.map (·.2), H e.2.1 = none := fun e he => by
        obtain ⟨e1, h1, rfl⟩ := List.mem_map.mp he
        exact fr6 _ (f4 e1 h1).2.1
      generalize (cs2.map (·.2)) = rs4 at r4 lt4 m4 nk4 fr4 ⊢
      rw [mergeK_new (rowsD rs4) [] (rowsD_nodup nk4), List.nil_append]
      refine q _ p4 rs4 ((same7.trans f2).trans (Same.new np4)) ((same7.trans f2).free np4) fr4 ⟨upd_same, fun e he => ?_⟩ lt4
      rw [upd_ne (ne_of_none (m4 e he) np4)]
      exact m4 e he
end
end K5
namespace K5
open PySem PySem.Spec PyProof.Rows L2 Kg
section
variable {P : Program} {w : World} {K : PySem.W.Frag} {mg : Str → Option Value} {base : Heap}
/-! ### _law_deed -/
abbrev s__law_deed : Stmt := topS 38
abbrev N__law_deed : List Str := ["_law_hand_here", "_law_lists", "_law_root", "_law_fresh", "_law_names", "_law_way", "_law_home", "_law_name", "_law_inside_here", "_law_one", "_law_child"]
theorem sc__law_deed : FnScope ["_law_hand_here", "_law_lists", "_law_root", "_law_fresh", "_law_names", "_law_way", "_law_home", "_law_name", "_law_inside_here", "_law_one", "_law_child"] ["_law_hand_here", "_law_lists", "_law_root", "_law_fresh"] (defScope s__law_deed) := fscope (by decide +kernel)
/-- what a deed does to the keys that are left -/
def Spends (o : Op) (fs fs' : List Str) : Prop := match o with
  | .create k _ _ => fs = fs' ++ [k]
  | _ => fs = fs'
def sp__law_deed (K : PySem.W.Frag) : Sp := fun vs H Q _ => ∃ (h p fr : Addr) (rs : List Kg.Row) (t : T) (fs : List Str) (b : Nat) (G : Hp), vs = [.ref h, .ref p, .str t.key, .ref fr] ∧ Same G H ∧ G h = none ∧ G fr = none ∧ h ≠ fr ∧
  Hd H h (b + 5) ∧ H fr = some (.lst (fs.map V.str)) ∧ Lists G p rs ∧ LT rs t ∧ t.keys.Nodup ∧ t.size ≤ 19 ∧ fs.length ≤ 19 ∧ (∀ k ∈ t.keys, isKeyS k = true) ∧ (∀ k ∈ fs, isKeyS k = true ∧ k ∉ t.keys) ∧
  (∀ H' G' v, Grow [h, fr] G H G' H' → G' h = none → G' fr = none → Hd H' h b → H' fr = some (.lst (fs.map V.str)) → Dp K G' v (.tuple []) → Q v H') ∧
  ∀ H' G' v o fs', Grow [h, fr] G H G' H' → G' h = none → G' fr = none → Hd H' h b → H' fr = some (.lst (fs'.map V.str)) → Dp K G' v o.d → o.ok = true → t.poss o = true → Spends o fs fs' → Q v H'
set_option maxHeartbeats 1000000 in
theorem ok__law_deed {f : Addr} {fd : FuncData} {k : Nat} (F : Fun K "_law_deed" "_law_deed" s__law_deed f fd)
    (c__law_take : Cal P w K mg base CX0 1 "_law_take" ["_law_hand_here", "_law_many"] sp__law_take)
    (c__law_of : Cal P w K mg base CX0 2 "_law_of" ["_law_hand_here", "_law_items"] (sp__law_of K))
    (c__law_parents : Cal P w K mg base CX0 1 "_law_parents" ["_law_lists"] sp__law_parents) (c__law_inside : Cal P w K mg base CX0 21 "_law_inside" ["_law_lists", "_law_name"] (sp__law_inside K 20))
    (z_list : mg "list" = none) :
    FnOk P w K mg base CX0 (k + 22) f fd ["_law_hand_here", "_law_lists", "_law_root", "_law_fresh"] (sp__law_deed K) := by
  refine F.ok sc__law_deed (fun vs H Q E h => ?_) (fun cdv A outer s H vs Q E hr h => ?_)
  · obtain ⟨h, p, fr, rs, t, fs, b, G, rfl, _⟩ := h
    rfl
  · obtain ⟨h, p, fr, rs, t, fs, b, G, rfl, gi, gh, gf, hfr, hd, hfs, hl, lt, nd, few, fewF, kt, kf, q0, q1⟩ := h
    have hu := hu_of hr
    have hu64 := show (A.deeper (envOfC "_law_deed" (defScope s__law_deed) s.heap.objs.size f cdv)).units + 64 < cLine by
      have := hr.un
      omega
    refine ⟨_, (pss_cons (ps_lock (ps_setLc (i := 4) (own := [("_law_name", 7)]) (g := gName 7) (tt := tTest (tOp rNe (tVar 7) (tVar 2))) (te := tVar 7) rfl sc__law_deed.nd rfl rfl (sw_true rfl rfl rfl (by decide +kernel)) (pi_keys (pv 1)) (blkOk_by (own := [("_law_name", 7)]) (N := N__law_deed) (sc := defScope s__law_deed) (by decide +kernel)) (fun _ _ _ _ _ => (pg_name (i := 7) sc__law_deed.nd rfl (Or.inl rfl))) (fun _ _ _ _ _ => (pts_one (pt_cmpR op_ne (pv 7) (pv 2) (nomark _)))) (fun _ _ _ _ _ => (pv 7))))
      (pss_cons (ps_set (i := 5) sc__law_deed.nd rfl (Or.inl rfl) (c__law_take.pe hr (by omega) (by rfl) (pa_cons (pv 0) (pa_cons pe_int pa_nil))))
      (pss_cons (ps_if (PW.pt (pw_or (pt_cmpR (op_eqD hu64) (pv 4) (pe_lst pa_nil) (nomark _)) (pw_or1 (PW.pt (pw_and (pt_cmpR (op_neD hu64) (pv 3) (pe_lst pa_nil) (nomark _)) (pw_and1 (pt_cmpR op_lt (pv 5) pe_int (nomark _)))))))) (pss_cons (ps_set (i := 6) sc__law_deed.nd rfl (Or.inl rfl) (c__law_of.pe hr (by omega) (by rfl) (pa_cons (pv 0) (pa_cons (pe_callTy (call_listD rfl) (by rfl) z_list (by decide +kernel) (pa_cons (pv 1) pa_nil)) pa_nil))))
        (pss_one (ps_ret (pe_ifExp (pt_cmpR (op_neD hu64) (pv 3) (pe_lst pa_nil) (nomark _)) (pe_tup (pa_cons pe_str (pa_cons (pe_bm0 PySem.F.plainAttrs_list PySem.F.slot_list_pop PySem.F.type_list_pop mt_pop (pv 3)) (pa_cons (pv 6) (pa_cons (c__law_of.pe hr (by omega) (by rfl) (pa_cons (pv 0) (pa_cons (pe_op op_cat (pe_lst (pa_cons pe_non pa_nil)) (pe_dget hu (pv 1) (pv 6) (fun _ _ => rfl))) pa_nil))) pa_nil))))) (pe_tup pa_nil))))) pss_nil)
      (pss_cons (ps_set (i := 7) sc__law_deed.nd rfl (Or.inr rfl) (c__law_of.pe hr (by omega) (by rfl) (pa_cons (pv 0) (pa_cons (pv 4) pa_nil))))
      (pss_cons (ps_if (pt_cmpR op_eq (pv 5) pe_int (nomark _)) (pss_one (ps_ret (pe_tup (pa_cons pe_str (pa_cons (pv 7) pa_nil))))) pss_nil)
      (pss_cons (ps_set (i := 8) sc__law_deed.nd rfl (Or.inr rfl) (c__law_inside.pe hr (by omega) (by rfl) (pa_cons (pv 1) (pa_cons (pv 7) pa_nil))))
      (pss_cons (ps_set (i := 6) sc__law_deed.nd rfl (Or.inl rfl) (c__law_of.pe hr (by omega) (by rfl) (pa_cons (pv 0) (pa_cons (pe_lst (pa_cons (pe_dget hu (c__law_parents.pe hr (by omega) (by rfl) (pa_cons (pv 1) pa_nil)) (pv 7) (fun _ _ => rfl)) (pa_cons (c__law_of.pe hr (by omega) (by rfl) (pa_cons (pv 0) (pa_cons (pe_lock (pe_lc (own := [("_law_one", 9)]) (g := gName 9) (tt := tTest (tOp (rIn K true) (tVar 9) (tVar 8))) (te := tVar 9) rfl sc__law_deed.nd (pi_keys (pv 1)) (blkOk_by (own := [("_law_one", 9)]) (N := N__law_deed) (sc := defScope s__law_deed) (by decide +kernel)) (fun _ _ _ _ _ => (pg_name (i := 9) sc__law_deed.nd rfl (Or.inl rfl))) (fun _ _ _ _ _ => (pts_one (pt_cmpR op_notIn_seq (pv 9) (pv 8) (by rfl)))) (fun _ _ _ _ _ => (pv 9)))) pa_nil))) pa_nil))) pa_nil))))
      (pss_one (ps_ret (pe_tup (pa_cons pe_str (pa_cons (pv 7) (pa_cons (pv 6) (pa_cons (c__law_of.pe hr (by omega) (by rfl) (pa_cons (pv 0) (pa_cons (pe_op op_cat (pe_lst (pa_cons pe_non pa_nil)) (pe_lc (own := [("_law_child", 10)]) (g := gName 10) (tt := tTest (tOp rNe (tVar 10) (tVar 7))) (te := tVar 10) rfl sc__law_deed.nd (pi_list (pe_dget hu (pv 1) (pv 6) (fun _ _ => rfl))) (blkOk_by (own := [("_law_child", 10)]) (N := N__law_deed) (sc := defScope s__law_deed) (by decide +kernel)) (fun _ _ _ _ _ => (pg_name (i := 10) sc__law_deed.nd rfl (Or.inl rfl))) (fun _ _ _ _ _ => (pts_one (pt_cmpR op_ne (pv 10) (pv 7) (nomark _)))) (fun _ _ _ _ _ => (pv 10)))) pa_nil))) pa_nil)))))))))))))), ?_⟩
    have hp : H p = some (.dK (rowsD rs)) := gi _ _ hl.1
    have ndr : (rs.map (·.1)).Nodup := lt.keys.nodup_iff.mpr nd
    have lrs : rs.length ≤ 19 := by
      have := lt.keys.length_eq
      rw [List.length_map, T.keys_len] at this
      omega
    have hph : p ≠ h := fun z => by
      have := hl.1
      rw [z, gh] at this
      cases this
    have hpf : p ≠ fr := fun z => by
      have := hl.1
      rw [z, gf] at this
      cases this
    obtain ⟨hx0, eh0⟩ := hd.at_
    have kY : ∀ (od : Obj) (i : Nat) (H0 : Hp) (x : V) (H' : Hp), H0 p = some (.frz od (.dK (rowsD rs))) → (H' = H0 ∧ ∃ kk vv, (rowsD rs)[i]? = some (kk, vv) ∧ x = kV kk) → H' = H0 ∧ ∃ kk, (rs.map (·.1))[i]? = some kk ∧ x = .str kk := by
      rintro od i H0 x H' _ ⟨rfl, kk, vv, e1, rfl⟩
      refine ⟨rfl, ?_⟩
      unfold rowsD at e1
      rw [List.getElem?_map] at e1
      rw [List.getElem?_map]
      cases hz : rs[i]? with
      | none =>
        rw [hz] at e1
        cases e1
      | some r =>
        rw [hz] at e1
        cases e1
        exact ⟨r.1, rfl, rfl⟩
    -- names
    refine ⟨p, _, hp, trivial, fun od => ?_⟩
    refine ⟨.ref p, rfl, p, od, rfl, .inl ⟨rowsD rs, upd_same, fun D nD => ?_⟩⟩
    have Dp' : D ≠ p := fun z => by
      rw [z, upd_same] at nD
      cases nD
    have nDH : H D = none := by
      rw [upd_ne Dp'] at nD
      exact nD
    refine lc_filt walk_keys (ks := rs.map (·.1)) (by unfold rowsD; rw [List.length_map, List.length_map]) (fun i H0 x H' hg y => kY od i H0 x H' hg y) (fun kk => !decide (kk = t.key)) (by rw [List.length_map]; omega) (fun _ => rfl) (fun _ => rfl) (fun ys => ?_) (fun kk ys Q' hk hq => ?_) ?_
    · rw [upd_ne Dp'.symm, upd_same]
    · refine ⟨.str kk, rfl, .str t.key, rfl, rfl, _, rfl, ?_⟩
      have : decide (V.str kk = V.str t.key) = decide (kk = t.key) := by
        by_cases z : kk = t.key
        · rw [decide_eq_true z, decide_eq_true (by rw [z])]
        · rw [decide_eq_false z, decide_eq_false (fun w => z (by injection w))]
      rw [this]
      exact hq
    refine ⟨by rw [upd_ne Dp'.symm, upd_same], ?_⟩
    have eH : upd (upd (upd H p (.frz od (.dK (rowsD rs)))) D (.lst (((rs.map (·.1)).filter fun kk => !decide (kk = t.key)).map V.str))) p (.dK (rowsD rs)) = upd H D (.lst (((rs.map (·.1)).filter fun kk => !decide (kk = t.key)).map V.str)) := by
      funext c
      by_cases z : c = p
      · rw [z, upd_same, upd_ne Dp'.symm, hp]
      · rw [upd_ne z]
        by_cases z2 : c = D
        · rw [z2, upd_same, upd_same]
        · rw [upd_ne z2, upd_ne z, upd_ne z2]
    rw [eH]
    have nmem : ∀ kk ∈ (rs.map (·.1)).filter (fun kk => !decide (kk = t.key)), kk ∈ t.keys ∧ kk ≠ t.key := fun kk hk => by
      obtain ⟨h1, h2⟩ := List.mem_filter.mp hk
      refine ⟨lt.keys.mem_iff.mp h1, fun z => ?_⟩
      rw [decide_eq_true z] at h2
      cases h2
    have lnm : ((rs.map (·.1)).filter (fun kk => !decide (kk = t.key))).length ≤ 19 := by
      have := List.length_filter_le (fun kk => !decide (kk = t.key)) (rs.map (·.1))
      rw [List.length_map] at this
      omega
    generalize (rs.map (·.1)).filter (fun kk => !decide (kk = t.key)) = names at nmem lnm ⊢
    have g1 : Grow [h, fr] G H G (upd H D (.lst (names.map V.str))) := (Grow.refl gi).put nDH
    have Dh : h ≠ D := ne_of_none eh0 nDH
    have Df : fr ≠ D := ne_of_none hfs nDH
    have hd1 : Hd (upd H D (.lst (names.map V.str))) h (b + 5) := hd.same (by rw [upd_ne Dh])
    have hf1 : (upd H D (.lst (names.map V.str))) fr = some (.lst (fs.map V.str)) := by
      rw [upd_ne Df]
      exact hfs
    have hD1 : (upd H D (.lst (names.map V.str))) D = some (.lst (names.map V.str)) := upd_same
    generalize (upd H D (.lst (names.map V.str))) = H1 at g1 hd1 hf1 hD1 ⊢
    clear eH
    refine ⟨.ref h, rfl, h, 6, b + 4, rfl, by decide, by decide, hd1, fun way H2 hway B2 hd2 => ?_⟩
    have g2 := g1.buts (by simp) gh B2
    have hf2 := B2 _ _ hfr.symm hf1
    have hD2 := B2 _ _ Dh.symm hD1
    clear g1 hd1 hf1 hD1 B2
    have hmem : ∀ {Hz : Hp} {bb : Nat} {xs : List V}, Hd Hz h bb → Hz fr = some (.lst xs) → ∀ c ∈ [h, fr], Hz c ≠ none := fun {Hz bb xs} a1 a2 c hc => by
      have : c = h ∨ c = fr := by simpa using hc
      rcases this with z | z
      · obtain ⟨_, e⟩ := a1.at_
        rw [z, e]
        exact Option.some_ne_none _
      · rw [z, a2]
        exact Option.some_ne_none _
    have layN : SeqAt.shaped (.list (names.map .str)) = true := shaped_strs fun kk hk => key_lay (kt kk (nmem kk hk).1)
    have layF : SeqAt.shaped (.list (fs.map .str)) = true := shaped_strs fun kk hk => key_lay (kf kk hk).1
    have lay0 : SeqAt.shaped (.list []) = true := by decide
    dsimp only [gName]
    refine s_seq (if_via (fun c H4 => Grow [h, fr] G H G H4 ∧ Hd H4 h (b + 4) ∧ H4 fr = some (.lst (fs.map V.str)) ∧ H4 D = some (.lst (names.map V.str)) ∧ (c = false → names ≠ [])) (fun Kt hK => ?_) (fun c H4 F4 => ?_))
    · refine ⟨.ref D, rfl, (by show 0 ≤ sizeLine; decide), fun l1 nl1 => ?_⟩
      have g3 := g2.put (o := .lst []) nl1
      have k3 : ∀ cc oo, H2 cc = some oo → (upd H2 l1 (.lst [])) cc = some oo := fun cc oo e => by
        rw [upd_ne (ne_of_none e nl1)]
        exact e
      obtain ⟨_, eh2⟩ := hd2.at_
      have hd3 : Hd (upd H2 l1 (.lst [])) h (b + 4) := hd2.same (by rw [upd_ne (ne_of_none eh2 nl1)])
      have hf3 := k3 _ _ hf2
      have hD3 := k3 _ _ hD2
      have hl3 : (upd H2 l1 (.lst [])) l1 = some (.lst []) := upd_same
      generalize (upd H2 l1 (.lst [])) = H3 at g3 k3 hd3 hf3 hD3 hl3 ⊢
      refine ⟨.list (names.map .str), .list [], dp_strs hD3, .lst (sqL hl3) .nil, layN, lay0, _, rfl, ?_⟩
      cases hnm : names with
      | nil =>
        rw [eqv_nil]
        refine iteT (hK true H3 ⟨g3, hd3, hf3, hD3, fun z => by cases z⟩)
      | cons n0 nr =>
        rw [eqv_cons]
        refine iteF ?_
        have nn : names ≠ [] := by rw [hnm]; exact List.cons_ne_nil _ _
        refine ⟨.ref fr, rfl, (by show 0 ≤ sizeLine; decide), fun l2 nl2 => ?_⟩
        have g4 := g3.put (o := .lst []) nl2
        have k4 : ∀ cc oo, H3 cc = some oo → (upd H3 l2 (.lst [])) cc = some oo := fun cc oo e => by
          rw [upd_ne (ne_of_none e nl2)]
          exact e
        obtain ⟨_, eh3⟩ := hd3.at_
        have hd4 : Hd (upd H3 l2 (.lst [])) h (b + 4) := hd3.same (by rw [upd_ne (ne_of_none eh3 nl2)])
        have hf4 := k4 _ _ hf3
        have hD4 := k4 _ _ hD3
        have hl4 : (upd H3 l2 (.lst [])) l2 = some (.lst []) := upd_same
        generalize (upd H3 l2 (.lst [])) = H4 at g4 k4 hd4 hf4 hD4 hl4 ⊢
        refine ⟨.list (fs.map .str), .list [], dp_strs hf4, .lst (sqL hl4) .nil, layF, lay0, _, rfl, ?_⟩
        refine ite2 (fun _ => ?_) (fun _ => hK false H4 ⟨g4, hd4, hf4, hD4, fun _ => nn⟩)
        exact ⟨.int (way : Int), rfl, (way : Int), 2, rfl, rfl, _, rfl, hK _ H4 ⟨g4, hd4, hf4, hD4, fun _ => nn⟩⟩
    clear g2 hd2 hf2 hD2
    obtain ⟨g4, hd4, hf4, hD4, nn⟩ := F4
    obtain ⟨_, eh4⟩ := hd4.at_
    have l4 : Lists H4 p rs := hl.same g4.into
    have F4 : Fx G H h fr D names fs (b + 4) H4 := ⟨g4, hd4, hf4, hD4⟩
    clear g4 hd4 hf4 hD4
    cases c with
    | true =>
      refine iteT ?_
      refine ⟨.ref h, rfl, .ref p, rfl, p, rowsD rs, rfl, .inl l4.1, fun l5 nl5 => ?_⟩
      have eK : (rowsD rs).map (fun kv => kV kv.1) = (rs.map (·.1)).map V.str := by
        unfold rowsD
        rw [List.map_map, List.map_map]
        rfl
      rw [eK]
      have F5 := F4.put (o := .lst ((rs.map (·.1)).map V.str)) nl5
      have hl5 : (upd H4 l5 (.lst ((rs.map (·.1)).map V.str))) l5 = some (.lst ((rs.map (·.1)).map V.str)) := upd_same
      have l5h := F4.ne nl5
      generalize (upd H4 l5 (.lst ((rs.map (·.1)).map V.str))) = H5 at F5 hl5 ⊢
      have rpos : 0 < rs.length := by
        have := lt.keys.length_eq
        rw [List.length_map, T.keys_len] at this
        have := T.size_pos t
        omega
      refine ⟨h, b + 3, F5.hd, .inl ⟨l5, _, rfl, l5h, sqL hl5, by rw [List.length_map, List.length_map]; exact rpos, by rw [List.length_map, List.length_map]; omega, fun i x H6 ex B6 hd6 => ?_⟩⟩
      have F6 := F5.but gh hfr.symm Dh.symm B6 hd6
      obtain ⟨kk, hkk, rfl⟩ := mem_map_str (List.mem_of_getElem? ex)
      obtain ⟨n, hn, rfl⟩ := key_node (lt.keys.mem_iff.mp hkk)
      obtain ⟨an, han⟩ := lt.row hn
      have nk : n.kids.length ≤ 19 := by
        have := T.pre_kids hn
        omega
      clear hkk ex B6 hd6 hl5 F5 F4 l4 eh4
      refine ⟨.ref fr, rfl, (by show 0 ≤ sizeLine; decide), fun l7 nl7 => ?_⟩
      have F7 := F6.put (o := .lst []) nl7
      have hl7 : (upd H6 l7 (.lst [])) l7 = some (.lst []) := upd_same
      generalize (upd H6 l7 (.lst [])) = H7 at F7 hl7 ⊢
      refine ⟨.list (fs.map .str), .list [], dp_strs F7.hf, .lst (sqL hl7) .nil, layF, lay0, _, rfl, ?_⟩
      rcases List.eq_nil_or_concat fs with hfs0 | ⟨fs', k1, hfs0⟩
      · subst hfs0
        rw [eqv_nil]
        refine iteF ⟨(by show 0 ≤ sizeLine; decide), fun tp ntp => ?_⟩
        have F8 := F7.put (o := .tup []) ntp
        exact q0 _ (upd G tp (.tup [])) _ (F7.g.grows F7.all (.add F7.g.i ntp)) (by rw [upd_ne (F7.ne ntp).symm]; exact gh) (by rw [upd_ne (ne_of_none F7.hf ntp)]; exact gf) (F8.hd.less (by omega)) F8.hf (.tup (sqT upd_same) .nil)
      · rw [List.concat_eq_append] at hfs0
        subst hfs0
        rw [eqv_ne (by simp)]
        refine iteT ?_
        have kk1 := kf k1 (by simp)
        have lastE : (((fs' ++ [k1]).map V.str))[((fs' ++ [k1]).map V.str).length - 1]? = some (.str k1) := by
          rw [List.map_append, List.length_append]
          simp
        refine ⟨.ref fr, rfl, Or.inl ⟨rfl, _, sqL F7.hf⟩, fr, _, .str k1, rfl, rfl, F7.hf, lastE, .str n.key, rfl, .ref h, rfl, (by show 1 ≤ sizeLine; decide), fun l8 nl8 => ?_⟩
        have dl : ((fs' ++ [k1]).map V.str).dropLast = fs'.map V.str := by
          rw [List.map_append]
          simp
        rw [dl] at nl8 ⊢
        have D7 : D ≠ fr := Df.symm
        obtain ⟨_, eh7⟩ := F7.hd.at_
        have F8 : Fx G H h fr D names fs' (b + 3) (upd H7 fr (.lst (fs'.map V.str))) := ⟨F7.g.write (by simp) gf, F7.hd.same (by rw [upd_ne hfr]), upd_same, by rw [upd_ne D7]; exact F7.hD⟩
        generalize (upd H7 fr (.lst (fs'.map V.str))) = H8 at F8 nl8 ⊢
        have F9 := F8.put (o := .lst [.non]) nl8
        have hl9 : (upd H8 l8 (.lst [.non])) l8 = some (.lst [.non]) := upd_same
        generalize (upd H8 l8 (.lst [.non])) = H9 at F9 hl9 ⊢
        have l9 : Lists H9 p rs := hl.same F9.g.into
        have getN : DGet H9 p (.str n.key) (some (.ref an)) := by
          have := DGet.k (k := Sum.inr n.key) l9.1
          rw [rows_at ndr han] at this
          exact this
        refine ⟨.ref p, rfl, .str n.key, rfl, p, .ref an, rfl, getN, l8, an, _, _, rfl, rfl, hl9, l9.2 _ han, ?_, fun l10 nl10 => ?_⟩
        · show 1 + (List.map V.str (n.kids.map T.key)).length ≤ sizeLine
          rw [List.length_map, List.length_map]
          exact Nat.le_trans (by omega : _ ≤ 20) (by decide)
        have F10 := F9.put (o := .lst ([.non] ++ (n.kids.map T.key).map V.str)) nl10
        have hl10 : (upd H9 l10 (.lst ([.non] ++ (n.kids.map T.key).map V.str))) l10 = some (.lst ([.non] ++ (n.kids.map T.key).map V.str)) := upd_same
        have l10h := F9.ne nl10
        generalize (upd H9 l10 (.lst ([.non] ++ (n.kids.map T.key).map V.str))) = H10 at F10 hl10 ⊢
        refine ⟨h, b + 2, F10.hd, .inl ⟨l10, _, rfl, l10h, sqL hl10, by simp, ?_, fun j y H11 ey B11 hd11 => ?_⟩⟩
        · rw [List.length_append, List.length_map, List.length_map]
          show 1 + _ ≤ _
          omega
        have F11 := F10.but gh hfr.symm Dh.symm B11 hd11
        obtain ⟨bb, rfl, hbb⟩ := drawn_b ey
        refine ⟨(by show 4 ≤ sizeLine; decide), fun tp ntp => ?_⟩
        have F12 := F11.put (o := .tup [.str "create", .str k1, .str n.key, bV bb]) ntp
        have nin := T.mem_pre_keys hn
        have eb : ∀ y, bb = some y → (y, n.key) ∈ t.edges := fun y e => kid_edge hn (hbb y e)
        refine q1 _ (upd G tp (.tup [.str "create", .str k1, .str n.key, bV bb])) _ (.create k1 n.key bb) fs' (F11.g.grows F11.all (.add F11.g.i ntp)) (by rw [upd_ne (F11.ne ntp).symm]; exact gh) (by rw [upd_ne (ne_of_none F11.hf ntp)]; exact gf) (F12.hd.less (by omega)) F12.hf
          (.tup (sqT upd_same) (.cons (.str _) (.cons (.str _) (.cons (.str _) (.cons (bV_dp bb) .nil))))) (create_ok kk1.1 (kt _ nin) fun y e => kt y (T.below_key (below_of (eb y e)))) ?_ rfl
        show (!decide (k1 ∈ t.keys) && t.place n.key bb) = true
        rw [decide_eq_false kk1.2]
        cases bb with
        | none => exact place_none nin
        | some y => exact place_some nin (eb y rfl)
    | false =>
      refine iteF ?_
      have npos : 0 < names.length := List.length_pos_iff.mpr (nn rfl)
      refine ⟨.ref h, rfl, .ref D, rfl, h, b + 3, F4.hd, .inl ⟨D, _, rfl, Dh.symm, sqL F4.hD, by rw [List.length_map]; exact npos, by rw [List.length_map]; omega, fun i x H5 ex B5 hd5 => ?_⟩⟩
      have F5 := F4.but gh hfr.symm Dh.symm B5 hd5
      obtain ⟨kk, hkk, rfl⟩ := mem_map_str (List.mem_of_getElem? ex)
      obtain ⟨kin, kne⟩ := nmem kk hkk
      obtain ⟨n, hn, rfl⟩ := key_node kin
      have hup := up_of kin kne
      clear hkk ex B5 hd5 F4 l4 eh4
      refine ⟨.int (way : Int), rfl, rfl, _, rfl, ite2 (fun _ => ?_) (fun _ => ?_)⟩
      · refine ⟨.str n.key, rfl, (by show 2 ≤ sizeLine; decide), fun tp ntp => ?_⟩
        have F6 := F5.put (o := .tup [.str "remove", .str n.key]) ntp
        exact q1 _ (upd G tp (.tup [.str "remove", .str n.key])) _ (.remove n.key) fs (F5.g.grows F5.all (.add F5.g.i ntp)) (by rw [upd_ne (F5.ne ntp).symm]; exact gh) (by rw [upd_ne (ne_of_none F5.hf ntp)]; exact gf) (F6.hd.less (by omega)) F6.hf
          (.tup (sqT upd_same) (.cons (.str _) (.cons (.str _) .nil))) (kt _ kin) hup rfl
      have nh : T.Ht 20 n := (T.Ht.ofSize n).more (by
        have := T.pre_size t n hn
        omega)
      refine ⟨.ref p, rfl, .str n.key, rfl, p, rs, t, n, G, rfl, F5.g.i, hl, ndr, lt.has, nd, by omega, hn, nh, fun H6 G6 li g6 nli gli hli => ?_⟩
      have F6 := F5.grow g6
      have rsP := rowsE_perm lt
      have rsN : ((rowsE rs).map (·.1)).Nodup := ((rsP.map (·.1)).nodup_iff).mpr (List.nodup_cons.mp (T.edges_nodup nd)).2
      obtain ⟨pk, hpk⟩ : ∃ pk, (n.key, pk) ∈ t.edges := by
        have h1 : n.key ∈ t.edges.map (·.1) := of_decide_eq_true hup
        obtain ⟨⟨a1, a2⟩, h2, rfl⟩ := List.mem_map.mp h1
        exact ⟨a2, h2⟩
      have pkin : pk ∈ t.keys := by
        obtain ⟨m, hm, e, _⟩ := T.mem_edges.mp hpk
        rw [← e]
        exact T.mem_pre_keys hm
      have pkout := up_out nd hn hpk
      refine ⟨.ref h, rfl, .ref p, rfl, p, rs, G, rfl, F6.g.i, hl, rsN, ?_, fun H7 ab g7 nab hab => ?_⟩
      · rw [rsP.length_eq]
        have := T.edges_len t
        omega
      have F7 := F6.grow g7
      have hli7 := g7.same _ _ hli
      have getP : DGet H7 ab (.str n.key) (some (.str pk)) := by
        have := DGet.k (k := Sum.inr n.key) hab
        rw [edD_at rsN (rsP.mem_iff.mpr hpk)] at this
        exact this
      have hp7 : H7 p = some (.dK (rowsD rs)) := F7.g.into _ _ hl.1
      refine ⟨.str n.key, rfl, ab, .str pk, rfl, getP, .ref h, rfl, p, _, hp7, trivial, fun od2 => ?_⟩
      refine ⟨.ref p, rfl, p, od2, rfl, .inl ⟨rowsD rs, upd_same, fun D2 nD2 => ?_⟩⟩
      have D2p : D2 ≠ p := fun z => by
        rw [z, upd_same] at nD2
        cases nD2
      have nD2H : H7 D2 = none := by
        rw [upd_ne D2p] at nD2
        exact nD2
      have lip : li ≠ p := fun z => by
        rw [z, hp7] at hli7
        cases hli7
      have liD : li ≠ D2 := ne_of_none hli7 nD2H
      refine lc_filt walk_keys (ks := rs.map (·.1)) (by unfold rowsD; rw [List.length_map, List.length_map]) (fun i H0 x H' hg y => kY od2 i H0 x H' hg y) (fun kk => !decide (kk ∈ n.keys)) (by rw [List.length_map]; omega) (fun _ => rfl) (fun _ => rfl) (fun ys => ?_) (fun kk ys Q' hk hq => ?_) ?_
      · rw [upd_ne D2p.symm, upd_same]
      · refine ⟨.str kk, rfl, .ref li, rfl, li, n.keys.map V.str, rfl, .inl (sqL ?_), rfl, flat_strs _, _, rfl, ?_⟩
        · rw [upd_ne liD, upd_ne lip]
          exact hli7
        · show Q' (if true then !inV (V.str kk) (n.keys.map V.str) else inV (V.str kk) (n.keys.map V.str)) _
          rw [inV_strs]
          exact hq
      refine ⟨by rw [upd_ne D2p.symm, upd_same], ?_⟩
      rw [lock_back hp7 D2p]
      have omem : ∀ kk ∈ (rs.map (·.1)).filter (fun kk => !decide (kk ∈ n.keys)), kk ∈ t.keys ∧ kk ∉ n.keys := fun kk hk => by
        obtain ⟨h1, h2⟩ := List.mem_filter.mp hk
        refine ⟨lt.keys.mem_iff.mp h1, fun z => ?_⟩
        rw [decide_eq_true z] at h2
        cases h2
      have opos : 0 < ((rs.map (·.1)).filter (fun kk => !decide (kk ∈ n.keys))).length := by
        refine List.length_pos_iff.mpr (List.ne_nil_of_mem (a := pk) (List.mem_filter.mpr ⟨lt.keys.mem_iff.mpr pkin, by rw [decide_eq_false pkout]; rfl⟩))
      have olen : ((rs.map (·.1)).filter (fun kk => !decide (kk ∈ n.keys))).length ≤ 19 := by
        have := List.length_filter_le (fun kk => !decide (kk ∈ n.keys)) (rs.map (·.1))
        rw [List.length_map] at this
        omega
      generalize (rs.map (·.1)).filter (fun kk => !decide (kk ∈ n.keys)) = ones at omem opos olen ⊢
      have F8 := F7.put (o := .lst (ones.map V.str)) nD2H
      have hD8 : (upd H7 D2 (.lst (ones.map V.str))) D2 = some (.lst (ones.map V.str)) := upd_same
      have D2h := F7.ne nD2H
      generalize (upd H7 D2 (.lst (ones.map V.str))) = H8 at F8 hD8 ⊢
      refine ⟨h, b + 2, F8.hd, .inl ⟨D2, _, rfl, D2h, sqL hD8, by rw [List.length_map]; exact opos, by rw [List.length_map]; omega, fun i2 x2 H9 ex2 B9 hd9 => ?_⟩⟩
      have F9 := F8.but gh hfr.symm Dh.symm B9 hd9
      obtain ⟨one, hone, rfl⟩ := mem_map_str (List.mem_of_getElem? ex2)
      refine ⟨(by show 2 ≤ sizeLine; decide), fun l10 nl10 => ?_⟩
      have F10 := F9.put (o := .lst [.str pk, .str one]) nl10
      have hl10 : (upd H9 l10 (.lst [.str pk, .str one])) l10 = some (.lst [.str pk, .str one]) := upd_same
      have l10h := F9.ne nl10
      generalize (upd H9 l10 (.lst [.str pk, .str one])) = H10 at F10 hl10 ⊢
      refine ⟨h, b + 1, F10.hd, .inl ⟨l10, _, rfl, l10h, sqL hl10, by show 0 < 2; decide, by show 2 ≤ 1000000; decide, fun i3 x3 H11 ex3 B11 hd11 => ?_⟩⟩
      have F11 := F10.but gh hfr.symm Dh.symm B11 hd11
      obtain ⟨hk, rfl, hkin, hkout⟩ : ∃ hk, x3 = .str hk ∧ hk ∈ t.keys ∧ hk ∉ n.keys := by
        have hi : i3 < 2 := (List.getElem?_eq_some_iff.mp ex3).1
        have : i3 = 0 ∨ i3 = 1 := by omega
        rcases this with rfl | rfl <;> cases ex3
        · exact ⟨pk, rfl, pkin, pkout⟩
        · exact ⟨one, rfl, omem one hone⟩
      obtain ⟨m, hm, rfl⟩ := key_node hkin
      obtain ⟨am, ham⟩ := lt.row hm
      have mk : m.kids.length ≤ 19 := by
        have := T.pre_kids hm
        omega
      clear ex3 B11 hd11 hl10 F10 ex2 hone B9 hd9 hD8 F9 F8 F7 F6 F5
      refine ⟨.str n.key, rfl, .str m.key, rfl, .ref h, rfl, (by show 1 ≤ sizeLine; decide), fun l12 nl12 => ?_⟩
      have F12 := F11.put (o := .lst [.non]) nl12
      have hl12 : (upd H11 l12 (.lst [.non])) l12 = some (.lst [.non]) := upd_same
      generalize (upd H11 l12 (.lst [.non])) = H12 at F12 hl12 ⊢
      have l12' : Lists H12 p rs := hl.same F12.g.into
      have getM : DGet H12 p (.str m.key) (some (.ref am)) := by
        have := DGet.k (k := Sum.inr m.key) l12'.1
        rw [rows_at ndr ham] at this
        exact this
      have row12 := l12'.2 _ ham
      refine ⟨.ref p, rfl, .str m.key, rfl, p, .ref am, rfl, getM, am, rfl, ⟨_, sqL row12⟩, fun D3 nD3 => ?_⟩
      refine lc_filt (walk_list (xs := (m.kids.map T.key).map V.str)) (ks := m.kids.map T.key) (by rw [List.length_map]) (fun i H0 x H' hg y => ?_) (fun kk => !decide (kk = n.key)) (by rw [List.length_map]; omega) (fun _ => rfl) (fun _ => rfl) (fun ys => ?_) (fun kk ys Q' hk hq => ?_) ?_
      · obtain ⟨rfl, e⟩ := y
        refine ⟨rfl, ?_⟩
        rw [List.getElem?_map] at e
        cases hz : (m.kids.map T.key)[i]? with
        | none =>
          rw [hz] at e
          cases e
        | some r =>
          rw [hz] at e
          cases e
          exact ⟨r, rfl, rfl⟩
      · exact sqL (by rw [upd_ne (ne_of_none row12 nD3)]; exact row12)
      · refine ⟨.str kk, rfl, .str n.key, rfl, rfl, _, rfl, ?_⟩
        have : decide (V.str kk = V.str n.key) = decide (kk = n.key) := by
          by_cases z : kk = n.key
          · rw [decide_eq_true z, decide_eq_true (by rw [z])]
          · rw [decide_eq_false z, decide_eq_false (fun w => z (by injection w))]
        rw [this]
        exact hq
      have cmem : ∀ kk ∈ (m.kids.map T.key).filter (fun kk => !decide (kk = n.key)), kk ∈ m.kids.map T.key ∧ kk ≠ n.key := fun kk hk => by
        obtain ⟨h1, h2⟩ := List.mem_filter.mp hk
        refine ⟨h1, fun z => ?_⟩
        rw [decide_eq_true z] at h2
        cases h2
      have clen : ((m.kids.map T.key).filter (fun kk => !decide (kk = n.key))).length ≤ 19 := by
        have := List.length_filter_le (fun kk => !decide (kk = n.key)) (m.kids.map T.key)
        rw [List.length_map] at this
        omega
      generalize (m.kids.map T.key).filter (fun kk => !decide (kk = n.key)) = chs at cmem clen ⊢
      have F13 := F12.put (o := .lst (chs.map V.str)) nD3
      have hD13 : (upd H12 D3 (.lst (chs.map V.str))) D3 = some (.lst (chs.map V.str)) := upd_same
      have hl13 : (upd H12 D3 (.lst (chs.map V.str))) l12 = some (.lst [.non]) := by
        rw [upd_ne (ne_of_none hl12 nD3)]
        exact hl12
      generalize (upd H12 D3 (.lst (chs.map V.str))) = H13 at F13 hD13 hl13 ⊢
      refine ⟨l12, D3, _, _, rfl, rfl, hl13, hD13, ?_, fun l14 nl14 => ?_⟩
      · show 1 + (chs.map V.str).length ≤ sizeLine
        rw [List.length_map]
        exact Nat.le_trans (by omega : _ ≤ 20) (by decide)
      have F14 := F13.put (o := .lst ([.non] ++ chs.map V.str)) nl14
      have hl14 : (upd H13 l14 (.lst ([.non] ++ chs.map V.str))) l14 = some (.lst ([.non] ++ chs.map V.str)) := upd_same
      have l14h := F13.ne nl14
      generalize (upd H13 l14 (.lst ([.non] ++ chs.map V.str))) = H14 at F14 hl14 ⊢
      refine ⟨h, b, F14.hd, .inl ⟨l14, _, rfl, l14h, sqL hl14, by simp, ?_, fun j y H15 ey B15 hd15 => ?_⟩⟩
      · rw [List.length_append, List.length_map]
        show 1 + _ ≤ _
        omega
      have F15 := F14.but gh hfr.symm Dh.symm B15 hd15
      obtain ⟨bb, rfl, hbb⟩ := drawn_b ey
      refine ⟨(by show 4 ≤ sizeLine; decide), fun tp ntp => ?_⟩
      have F16 := F15.put (o := .tup [.str "move", .str n.key, .str m.key, bV bb]) ntp
      have eb : ∀ y, bb = some y → (y, m.key) ∈ t.edges ∧ y ≠ n.key := fun y e => ⟨kid_edge hm (cmem y (hbb y e)).1, (cmem y (hbb y e)).2⟩
      refine q1 _ (upd G tp (.tup [.str "move", .str n.key, .str m.key, bV bb])) _ (.move n.key m.key bb) fs (F15.g.grows F15.all (.add F15.g.i ntp)) (by rw [upd_ne (F15.ne ntp).symm]; exact gh) (by rw [upd_ne (ne_of_none F15.hf ntp)]; exact gf) F16.hd F16.hf
        (.tup (sqT upd_same) (.cons (.str _) (.cons (.str _) (.cons (.str _) (.cons (bV_dp bb) .nil))))) (move_ok (kt _ kin) (kt _ hkin) fun y e => kt y (T.below_key (below_of (eb y e).1))) ?_ rfl
      show (t.hasUp n.key && t.place m.key bb && (!decide (bb = some n.key) && !t.under n.key m.key)) = true
      have pl : t.place m.key bb = true := by
        cases bb with
        | none => exact place_none hkin
        | some y => exact place_some hkin (eb y rfl).1
      have nb : decide (bb = some n.key) = false := decide_eq_false fun z => (eb _ z).2 rfl
      have un : t.under n.key m.key = false := by
        refine List.any_eq_false.mpr fun q hq z => ?_
        rw [Bool.and_eq_true, decide_eq_true_eq, decide_eq_true_eq] at z
        have : q = n := T.pre_inj nd hq hn z.1
        subst this
        exact hkout z.2
      rw [hup, pl, nb, un]
      rfl
end
end K5
namespace K5
open PySem PySem.Spec PyProof.Rows L2 Kg
section
variable {P : Program} {w : World} {K : PySem.W.Frag} {mg : Str → Option Value} {base : Heap}
/-! ### _law_right -/
abbrev s__law_right : Stmt := topS 39
theorem sc__law_right : FnScope ["_law_hand_here", "_law_every", "_law_names", "_law_fresh", "_law_lists", "_law_deeds", "_law_trees", "_law_turn", "_law_deed_here", "_law_kept_so", "_law_told", "_law_again"] ["_law_hand_here"] (defScope s__law_right) := fscope (by decide +kernel)
def sp__law_right : Sp := fun vs H Q _ => ∃ (h : Addr), vs = [.ref h] ∧ Hd H h 1000 ∧ ∀ H', But h H H' → Q (.bl true) H'
/-- between two turns -/
structure Tn (K : PySem.W.Frag) (H : Hp) (h l2 l3 ld ltr p : Addr) (names : List Str) (t0 : T) (b : Nat) (H' G' : Hp) (rs : List Kg.Row) (t : T) (fs : List Str) (os : List Op) (ts : List T) : Prop where
  bt : But h H H'
  i : Same G' H'
  gh : G' h = none
  g3 : G' l3 = none
  gd : G' ld = none
  gt : G' ltr = none
  n2 : G' l2 = some (.lst (names.map V.str))
  ls : Lists G' p rs
  lt : LT rs t
  hd : Hd H' h b
  h3 : H' l3 = some (.lst (fs.map V.str))
  dd : ∃ dv, H' ld = some (.lst dv) ∧ DpAll K G' dv (os.map Op.d)
  dt : ∃ tv, H' ltr = some (.lst tv) ∧ DpAll K G' tv (ts.map T.d)
  st : Steps t0 os ts
  la : ts[os.length]? = some t
  ok : ∀ o ∈ os, o.ok = true
  sk : Stock t fs
  rt : t.key = t0.key
  kd : ∀ a ∈ ts, (∀ k ∈ a.keys, isKeyS k = true) ∧ a.size ≤ 19
theorem Tn.but {K : PySem.W.Frag} {H : Hp} {h l2 l3 ld ltr p : Addr} {names : List Str} {t0 : T} {b b' : Nat} {H' H'' G' : Hp} {rs : List Kg.Row} {t : T} {fs : List Str} {os : List Op} {ts : List T}
    (tn : Tn K H h l2 l3 ld ltr p names t0 b H' G' rs t fs os ts) (n3 : l3 ≠ h) (nd : ld ≠ h) (nt : ltr ≠ h) (B : But h H' H'') (hd : Hd H'' h b') : Tn K H h l2 l3 ld ltr p names t0 b' H'' G' rs t fs os ts := by
  obtain ⟨dv, e1, d1⟩ := tn.dd
  obtain ⟨tv, e2, d2⟩ := tn.dt
  exact { tn with bt := tn.bt.trans B, i := fun c o e => B c o (fun z => by rw [z, tn.gh] at e; cases e) (tn.i c o e), hd := hd, h3 := B _ _ n3 tn.h3, dd := ⟨dv, B _ _ nd e1, d1⟩, dt := ⟨tv, B _ _ nt e2, d2⟩ }
theorem Tn.grow2 {K : PySem.W.Frag} {H : Hp} {h l2 l3 ld ltr p : Addr} {names : List Str} {t0 : T} {b b' : Nat} {H' H'' G' G'' : Hp} {rs : List Kg.Row} {t : T} {fs fs' : List Str} {os : List Op} {ts : List T}
    (tn : Tn K H h l2 l3 ld ltr p names t0 b H' G' rs t fs os ts) (n3 : H l3 = none) (ndh : ld ≠ h) (nth : ltr ≠ h) (nd3 : ld ≠ l3) (nt3 : ltr ≠ l3) (g : Grow [h, l3] G' H' G'' H'') (gh : G'' h = none) (g3 : G'' l3 = none) (hd : Hd H'' h b') (h3 : H'' l3 = some (.lst (fs'.map V.str))) (sk : Stock t fs') :
    Tn K H h l2 l3 ld ltr p names t0 b' H'' G'' rs t fs' os ts := by
  obtain ⟨dv, e1, d1⟩ := tn.dd
  obtain ⟨tv, e2, d2⟩ := tn.dt
  have e1' := g.h ld _ (by simp [ndh, nd3]) e1
  have e2' := g.h ltr _ (by simp [nth, nt3]) e2
  exact { bt := fun c o nc e => g.h c o (by
            have : c ≠ l3 := fun z => by rw [z, n3] at e; cases e
            simp [nc, this]) (tn.bt c o nc e)
          i := g.i, gh := gh, g3 := g3, gd := g.off tn.gd e1, gt := g.off tn.gt e2, n2 := g.g _ _ tn.n2, ls := tn.ls.same g.g, lt := tn.lt, hd := hd, h3 := h3,
          dd := ⟨dv, e1', DpAll.same g.g _ _ d1⟩, dt := ⟨tv, e2', DpAll.same g.g _ _ d2⟩, st := tn.st, la := tn.la, ok := tn.ok, sk := sk, rt := tn.rt, kd := tn.kd }
theorem shaped_op {o : Op} (h : o.ok = true) : SeqAt.shaped o.d = true := by
  have hb : ∀ b : Option Str, (∀ y, b = some y → isKeyS y = true) → (bD b).canLay0 = true := fun b hb => by
    cases b with
    | none => rfl
    | some y => exact key_lay (hb y rfl)
  have four : ∀ (w k p : Str) (b : Option Str), (PyData.str w).canLay0 = true → isKeyS k = true → isKeyS p = true → (∀ y, b = some y → isKeyS y = true) → SeqAt.shaped (.tuple [.str w, .str k, .str p, bD b]) = true := fun w k p b h1 h2 h3 h4 => by
    unfold SeqAt.shaped
    have hd : (PyData.tuple [.str w, .str k, .str p, bD b]).depth ≤ 64 := by
      cases b <;> (show 1 ≤ 64; decide)
    rw [decide_eq_true hd, PyData.canLay0, PyData.canLayAll0, PyData.canLayAll0, PyData.canLayAll0, PyData.canLayAll0, h1, key_lay h2, key_lay h3, hb b h4]
    rfl
  cases o with
  | create k p b =>
    have kk := h
    unfold Op.ok at kk
    cases b with
    | none =>
      have kk : (isKeyS k && isKeyS p && true) = true := kk
      rw [Bool.and_eq_true, Bool.and_eq_true] at kk
      exact four "create" k p none (by decide +kernel) kk.1.1 kk.1.2 (fun y z => nomatch z)
    | some x =>
      have kk : (isKeyS k && isKeyS p && isKeyS x) = true := kk
      rw [Bool.and_eq_true, Bool.and_eq_true] at kk
      exact four "create" k p (some x) (by decide +kernel) kk.1.1 kk.1.2 (fun y z => by injection z with z; rw [← z]; exact kk.2)
  | move k p b =>
    have kk := h
    unfold Op.ok at kk
    cases b with
    | none =>
      have kk : (isKeyS k && isKeyS p && true) = true := kk
      rw [Bool.and_eq_true, Bool.and_eq_true] at kk
      exact four "move" k p none (by decide +kernel) kk.1.1 kk.1.2 (fun y z => nomatch z)
    | some x =>
      have kk : (isKeyS k && isKeyS p && isKeyS x) = true := kk
      rw [Bool.and_eq_true, Bool.and_eq_true] at kk
      exact four "move" k p (some x) (by decide +kernel) kk.1.1 kk.1.2 (fun y z => by injection z with z; rw [← z]; exact kk.2)
  | remove k =>
    have kk : isKeyS k = true := h
    unfold SeqAt.shaped
    show ((PyData.tuple [.str "remove", .str k]).canLay0 && _) = true
    have hw : (PyData.str "remove").canLay0 = true := by decide +kernel
    rw [PyData.canLay0, PyData.canLayAll0, PyData.canLayAll0, key_lay kk, hw]
    rfl
theorem Stock.less {t : T} {fs fs' : List Str} (s : Stock t fs) (h : fs'.Sublist fs) : Stock t fs' := ⟨s.nd, s.kt, fun k hk => s.kf k (h.subset hk), h.nodup s.nf, by
  have := h.length_le
  have := s.few
  omega⟩
theorem Spends.sub {o : Op} {fs fs' : List Str} (h : Spends o fs fs') : fs'.Sublist fs := by
  cases o with
  | create k p b =>
    have h : fs = fs' ++ [k] := h
    rw [h]
    exact List.sublist_append_left _ _
  | move k p b =>
    have h : fs = fs' := h
    rw [h]
    exact List.Sublist.refl _
  | remove k =>
    have h : fs = fs' := h
    rw [h]
    exact List.Sublist.refl _
theorem Tn.grow {K : PySem.W.Frag} {H : Hp} {h l2 l3 ld ltr p : Addr} {names : List Str} {t0 : T} {b : Nat} {H' H'' G' G'' : Hp} {rs : List Kg.Row} {t : T} {fs : List Str} {os : List Op} {ts : List T}
    (tn : Tn K H h l2 l3 ld ltr p names t0 b H' G' rs t fs os ts) (g : Grow [] G' H' G'' H'') : Tn K H h l2 l3 ld ltr p names t0 b H'' G'' rs t fs os ts := by
  obtain ⟨dv, e1, d1⟩ := tn.dd
  obtain ⟨tv, e2, d2⟩ := tn.dt
  obtain ⟨_, eh⟩ := tn.hd.at_
  exact { bt := tn.bt.trans g.toBut, i := g.i, gh := g.off tn.gh eh, g3 := g.off tn.g3 tn.h3, gd := g.off tn.gd e1, gt := g.off tn.gt e2, n2 := g.g _ _ tn.n2, ls := tn.ls.same g.g, lt := tn.lt, hd := g.hand tn.hd, h3 := g.same _ _ tn.h3,
          dd := ⟨dv, g.same _ _ e1, DpAll.same g.g _ _ d1⟩, dt := ⟨tv, g.same _ _ e2, DpAll.same g.g _ _ d2⟩, st := tn.st, la := tn.la, ok := tn.ok, sk := tn.sk, rt := tn.rt, kd := tn.kd }
theorem eqv_op {o : Op} : PyData.eqv o.d (.tuple []) = false := by
  cases o <;> rfl
theorem But.mut {h c : Addr} {H H' : Hp} {o : HO} (B : But h H H') (n : H c = none) : But h H (L2.upd H' c o) := fun b x m e => by
  rw [upd_ne (ne_of_none e n)]
  exact B b x m e
theorem But.none {h c : Addr} {H H' : Hp} (B : But h H H') (nc : c ≠ h) (n : H' c = none) : H c = none := by
  cases hz : H c with
  | none => rfl
  | some o =>
    have := B c o nc hz
    rw [n] at this
    cases this
theorem grow_rows {G H H' : Hp} {p : Addr} {rs : List Kg.Row} (i : Same G H) (s : Same H H') (np : H p = none) (fr : ∀ e ∈ rs, H e.2.1 = none) (ls : Lists H' p rs) : ∃ G', Grow [] G H G' H' ∧ Lists G' p rs := by
  have off : ∀ b o, H b = some o → ¬ (b = p ∨ b ∈ rs.map (·.2.1)) := fun b o e z => by
    rcases z with z | z
    · rw [z, np] at e
      cases e
    · obtain ⟨r, hr, e1⟩ := List.mem_map.mp z
      rw [← e1, fr r hr] at e
      cases e
  refine ⟨fun a => if a = p ∨ a ∈ rs.map (·.2.1) then H' a else G a, ⟨i, fun b o _ e => s b o e, fun b o e => ?_, fun b o e => ?_, fun b e n => ?_⟩, ?_, fun e he => ?_⟩
  · show (if _ then _ else _) = _
    rw [if_neg (off b o (i b o e))]
    exact e
  · by_cases z : b = p ∨ b ∈ rs.map (·.2.1)
    · have e : (if b = p ∨ b ∈ rs.map (·.2.1) then H' b else G b) = some o := e
      rw [if_pos z] at e
      exact e
    · have e : (if b = p ∨ b ∈ rs.map (·.2.1) then H' b else G b) = some o := e
      rw [if_neg z] at e
      exact s b o (i b o e)
  · obtain ⟨o, ho⟩ := Option.ne_none_iff_exists'.mp n
    show (if _ then _ else _) = _
    rw [if_neg (off b o ho)]
    exact e
  · show (if _ then _ else _) = _
    rw [if_pos (.inl rfl)]
    exact ls.1
  · show (if _ then _ else _) = _
    rw [if_pos (.inr (List.mem_map.mpr ⟨e, he, rfl⟩))]
    exact ls.2 e he
set_option maxHeartbeats 1000000 in
theorem ok__law_right {f : Addr} {fd : FuncData} {k : Nat} (F : Fun K "_law_right" "_law_right" s__law_right f fd)
    (c__law_take : Cal P w K mg base CX0 1 "_law_take" ["_law_hand_here", "_law_many"] sp__law_take)
    (c__law_keys : Cal P w K mg base CX0 3 "_law_keys" ["_law_hand_here", "_law_many"] sp__law_keys)
    (c__law_grown : Cal P w K mg base CX0 3 "_law_grown" ["_law_hand_here", "_law_names", "_law_deep"] (sp__law_grown K))
    (c__law_nested : Cal P w K mg base CX0 21 "_law_nested" ["_law_lists", "_law_label"] (sp__law_nested K 20))
    (c__law_deed : Cal P w K mg base CX0 22 "_law_deed" ["_law_hand_here", "_law_lists", "_law_root", "_law_fresh"] (sp__law_deed K))
    (c__law_step : Cal P w K mg base CX0 22 "_law_step" ["_law_lists", "_law_root", "_law_deed_here"] (sp__law_step K))
    (c_run : Cal P w K mg base CX0 8 "run" ["tree", "operations"] (sp_run K)) (k_run : CalK P w K mg base CX0 8 "run" ["tree", "operations"] ["operations", "tree"] gSwap (sp_run K))
    (c_moments : Cal P w K mg base CX0 7 "moments" ["tree", "operations"] (sp_moments K)) (k_moments : CalK P w K mg base CX0 7 "moments" ["tree", "operations"] ["operations", "tree"] gSwap (sp_moments K))
    (z_repr : mg "repr" = none) (z_tuple : mg "tuple" = none) (z_range : mg "range" = none) :
    Fg P w K mg base (k + 23) f fd ["_law_hand_here"] sp__law_right := by
  refine fg_ok F sc__law_right (fun vs H Q E h => ?_) (fun cdv A outer s H vs Q E hr hq h => ?_)
  · obtain ⟨h, rfl, _⟩ := h
    rfl
  · obtain ⟨h, rfl, hd, q⟩ := h
    have hu64 := show (A.deeper (envOfC "_law_right" (defScope s__law_right) s.heap.objs.size f cdv)).units + 64 < cLine by
      have := hr.un
      omega
    have hu150 := show (A.deeper (envOfC "_law_right" (defScope s__law_right) s.heap.objs.size f cdv)).units + 150 < cLine by
      have := hr.un
      omega
    refine ⟨_, (pss_cons (ps_set (i := 1) sc__law_right.nd rfl (Or.inl rfl) (c__law_keys.pe hr (by omega) (by rfl) (pa_cons (pv 0) (pa_cons pe_int pa_nil))))
      (pss_cons (ps_par (by rfl) sc__law_right.nd (i := 2) (j := 3) rfl rfl (by decide) rfl rfl (pa_cons (pe_slice sl_list (pv 1) po_none (po_some (pe_op op_add pe_int (c__law_take.pe hr (by omega) (by rfl) (pa_cons (pv 0) (pa_cons pe_int pa_nil)))))) (pa_cons (pe_slice sl_list (pv 1) (po_some pe_int) po_none) pa_nil)) (by rfl))
      (pss_cons (ps_par (by rfl) sc__law_right.nd (i := 4) (j := 5) rfl rfl (by decide) rfl rfl (pa_cons (c__law_grown.pe hr (by omega) (by rfl) (pa_cons (pv 0) (pa_cons (pv 2) (pa_cons pe_int pa_nil)))) (pa_cons (pe_lst pa_nil) pa_nil)) (by rfl))
      (pss_cons (ps_set (i := 6) sc__law_right.nd rfl (Or.inl rfl) (pe_lst (pa_cons (c__law_nested.pe hr (by omega) (by rfl) (pa_cons (pv 4) (pa_cons (pe_ix ix_list (pv 2) pe_int (fun _ _ => rfl)) pa_nil))) pa_nil)))
      (pss_cons (ps_for PassesOwn.never rfl (pi_range1 (by rfl) z_range (pa_cons (c__law_take.pe hr (by omega) (by rfl) (pa_cons (pv 0) (pa_cons pe_int pa_nil))) pa_nil)) (pg_name (i := 7) sc__law_right.nd rfl (Or.inl rfl)) (pss_cons (ps_set (i := 8) sc__law_right.nd rfl (Or.inl rfl) (c__law_deed.pe hr (by omega) (by rfl) (pa_cons (pv 0) (pa_cons (pv 4) (pa_cons (pe_ix ix_list (pv 2) pe_int (fun _ _ => rfl)) (pa_cons (pv 3) pa_nil))))))
        (pss_one (ps_if (pt_cmpR (op_neD hu64) (pv 8) (pe_tup pa_nil) (nomark _)) (pss_cons (ps_set (i := 4) sc__law_right.nd rfl (Or.inl rfl) (c__law_step.pe hr (by omega) (by rfl) (pa_cons (pv 4) (pa_cons (pe_ix ix_list (pv 2) pe_int (fun _ _ => rfl)) (pa_cons (pv 8) pa_nil)))))
          (pss_cons (ps_expr (pe_bm PySem.F.plainAttrs_list PySem.F.slot_list_append PySem.F.type_list_append mt_append (pv 5) (pa_cons (pv 8) pa_nil)))
          (pss_one (ps_expr (pe_bm PySem.F.plainAttrs_list PySem.F.slot_list_append PySem.F.type_list_append mt_append (pv 6) (pa_cons (c__law_nested.pe hr (by omega) (by rfl) (pa_cons (pv 4) (pa_cons (pe_ix ix_list (pv 2) pe_int (fun _ _ => rfl)) pa_nil))) pa_nil)))))) pss_nil))))
      (pss_cons (ps_set (i := 9) sc__law_right.nd rfl (Or.inl rfl) (pe_callB (call_reprD hq hu150) (by rfl) z_repr (by decide +kernel) (pa_cons (pe_tup (pa_cons (pe_ix ix_list (pv 6) pe_int (fun _ _ => rfl)) (pa_cons (pe_callTy call_tuple_of (by rfl) z_tuple (by decide +kernel) (pa_cons (pv 5) pa_nil)) pa_nil))) pa_nil)))
      (pss_cons (ps_set (i := 10) sc__law_right.nd rfl (Or.inl rfl) (pe_lst (pa_cons (c_run.pe hr (by omega) (by rfl) (pa_cons (pe_ix ix_list (pv 6) pe_int (fun _ _ => rfl)) (pa_cons (pe_callTy call_tuple_of (by rfl) z_tuple (by decide +kernel) (pa_cons (pv 5) pa_nil)) pa_nil))) (pa_cons (k_run.kw hr (by omega) (by rfl) (pk_cons (pe_callTy call_tuple_of (by rfl) z_tuple (by decide +kernel) (pa_cons (pv 5) pa_nil)) (pk_cons (pe_ix ix_list (pv 6) pe_int (fun _ _ => rfl)) pk_nil))) pa_nil))))
      (pss_cons (ps_if (PW.pt (pw_or (pt_cmpR op_ne (pe_callB (call_reprD hq hu150) (by rfl) z_repr (by decide +kernel) (pa_cons (pv 10) pa_nil)) (pe_callB (call_reprD hq hu150) (by rfl) z_repr (by decide +kernel) (pa_cons (pe_op op_rep (pe_lst (pa_cons (pe_ix ix_list (pv 6) (pe_un un_neg pe_int) (fun _ _ => rfl)) pa_nil)) pe_int) pa_nil)) (nomark _)) (pw_or1 (pt_cmpR op_ne (pe_callB (call_reprD hq hu150) (by rfl) z_repr (by decide +kernel) (pa_cons (c_moments.pe hr (by omega) (by rfl) (pa_cons (pe_ix ix_list (pv 6) pe_int (fun _ _ => rfl)) (pa_cons (pe_callTy call_tuple_of (by rfl) z_tuple (by decide +kernel) (pa_cons (pv 5) pa_nil)) pa_nil))) pa_nil)) (pe_callB (call_reprD hq hu150) (by rfl) z_repr (by decide +kernel) (pa_cons (pe_callTy call_tuple_of (by rfl) z_tuple (by decide +kernel) (pa_cons (pv 6) pa_nil)) pa_nil)) (nomark _))))) (pss_one (ps_ret pe_bl)) pss_nil)
      (pss_cons (ps_set (i := 11) sc__law_right.nd rfl (Or.inl rfl) (k_moments.kw hr (by omega) (by rfl) (pk_cons (pe_callTy call_tuple_of (by rfl) z_tuple (by decide +kernel) (pa_cons (pv 5) pa_nil)) (pk_cons (pe_ix ix_list (pv 6) pe_int (fun _ _ => rfl)) pk_nil))))
      (pss_one (ps_ret (pe_and (pe_cmpR op_eq (pe_callB (call_reprD hq hu150) (by rfl) z_repr (by decide +kernel) (pa_cons (pv 11) pa_nil)) (pe_callB (call_reprD hq hu150) (by rfl) z_repr (by decide +kernel) (pa_cons (pe_callTy call_tuple_of (by rfl) z_tuple (by decide +kernel) (pa_cons (pv 6) pa_nil)) pa_nil)) (nomark _)) (pe_one (pe_cmpR op_eq (pe_callB (call_reprD hq hu150) (by rfl) z_repr (by decide +kernel) (pa_cons (pe_tup (pa_cons (pe_ix ix_list (pv 6) pe_int (fun _ _ => rfl)) (pa_cons (pe_callTy call_tuple_of (by rfl) z_tuple (by decide +kernel) (pa_cons (pv 5) pa_nil)) pa_nil))) pa_nil)) (pv 9) (nomark _))))))))))))))), ?_⟩
    -- every
    refine ⟨.ref h, rfl, h, 16, 990, rfl, by decide, hd.less (by decide), fun H1 l ks B1 nl lh hl nm hd1 => ?_⟩
    obtain ⟨ksn, ksl, kso⟩ := Names.ok nm (by decide)
    have ksk := Names.isKey nm (by decide)
    -- names, fresh
    refine ⟨.ref l, rfl, .ref h, rfl, h, 10, 989, rfl, by decide, by decide, hd1, fun r H2 hr2 B2 hd2 => ⟨1, (r : Int), rfl, rfl, _, rfl, l, _, rfl, sqL (B2 _ _ lh hl), fun l2 nl2 => ?_⟩⟩
    have hl2 : H2 l = some (.lst (ks.map V.str)) := B2 _ _ lh hl
    have e1 : (1 : Int) + (r : Int) = ((r + 1 : Nat) : Int) := by omega
    have e2 : cutV (ks.map V.str) none (some ((1 : Int) + (r : Int))) = (ks.take (r + 1)).map V.str := by rw [e1, cut_to, List.map_take]
    rw [e2]
    obtain ⟨hx2, eh2⟩ := hd2.at_
    have l2h : l2 ≠ h := fun z => by rw [z, eh2] at nl2; cases nl2
    have l2l : l ≠ l2 := ne_of_none hl2 nl2
    have B12 : But h H (upd H2 l2 (.lst ((ks.take (r + 1)).map V.str))) := (B1.trans B2).new nl2
    have hd3 : Hd (upd H2 l2 (.lst ((ks.take (r + 1)).map V.str))) h 989 := hd2.same (by rw [upd_ne l2h.symm])
    have hl3 : (upd H2 l2 (.lst ((ks.take (r + 1)).map V.str))) l = some (.lst (ks.map V.str)) := by rw [upd_ne l2l]; exact hl2
    have hn3 : (upd H2 l2 (.lst ((ks.take (r + 1)).map V.str))) l2 = some (.lst ((ks.take (r + 1)).map V.str)) := upd_same
    generalize (upd H2 l2 (.lst ((ks.take (r + 1)).map V.str))) = H3 at B12 hd3 hl3 hn3 ⊢
    refine ⟨.ref l, rfl, 10, rfl, l, _, rfl, sqL hl3, fun l3 nl3 => ⟨_, _, rfl, ?_⟩⟩
    have e3 : cutV (ks.map V.str) (some 10) none = (ks.drop 10).map V.str := by rw [show (10 : Int) = ((10 : Nat) : Int) by rfl, cut_from, List.map_drop]
    rw [e3]
    obtain ⟨hx3, eh3⟩ := hd3.at_
    have l3h : l3 ≠ h := fun z => by rw [z, eh3] at nl3; cases nl3
    have l32 : l2 ≠ l3 := ne_of_none hn3 nl3
    have B4 : But h H (upd H3 l3 (.lst ((ks.drop 10).map V.str))) := B12.new nl3
    have hd4 : Hd (upd H3 l3 (.lst ((ks.drop 10).map V.str))) h 989 := hd3.same (by rw [upd_ne l3h.symm])
    have hn4 : (upd H3 l3 (.lst ((ks.drop 10).map V.str))) l2 = some (.lst ((ks.take (r + 1)).map V.str)) := by rw [upd_ne l32]; exact hn3
    have hf4 : (upd H3 l3 (.lst ((ks.drop 10).map V.str))) l3 = some (.lst ((ks.drop 10).map V.str)) := upd_same
    generalize (upd H3 l3 (.lst ((ks.drop 10).map V.str))) = H4 at B4 hd4 hn4 hf4 ⊢
    -- lists, deeds
    have nml : (ks.take (r + 1)).length = r + 1 := by rw [List.length_take, ksl]; omega
    have nmn : (ks.take (r + 1)).Nodup := (List.take_sublist _ _).nodup ksn
    refine ⟨.ref h, rfl, .ref l2, rfl, h, l2, ks.take (r + 1), 10, 900, rfl, l2h, sqL hn4, nmn, by omega, by omega, by decide, by decide, hd4.less (by omega), fun H5 p rs t gr hd5 => ?_⟩
    refine ⟨(by show 0 ≤ sizeLine; decide), fun ld nld => ⟨_, _, rfl, ?_⟩⟩
    obtain ⟨hx4, eh4⟩ := hd4.at_
    obtain ⟨hx5, eh5⟩ := hd5.at_
    have hn5 : H5 l2 = some (.lst ((ks.take (r + 1)).map V.str)) := gr.bt _ _ l2h hn4
    have hf5 : H5 l3 = some (.lst ((ks.drop 10).map V.str)) := gr.bt _ _ l3h hf4
    have ldh : h ≠ ld := ne_of_none eh5 nld
    have B6 : But h H (upd H5 ld (.lst [])) := (B4.trans gr.bt).new nld
    have hd6 : Hd (upd H5 ld (.lst [])) h 900 := hd5.same (by rw [upd_ne ldh])
    have hn6 : (upd H5 ld (.lst [])) l2 = some (.lst ((ks.take (r + 1)).map V.str)) := by rw [upd_ne (ne_of_none hn5 nld)]; exact hn5
    have hf6 : (upd H5 ld (.lst [])) l3 = some (.lst ((ks.drop 10).map V.str)) := by rw [upd_ne (ne_of_none hf5 nld)]; exact hf5
    have hl6 : (upd H5 ld (.lst [])) ld = some (.lst []) := upd_same
    have ls6 : Lists (upd H5 ld (.lst [])) p rs := gr.ls.same (Same.new nld)
    have ldp : ld ≠ p := fun z => by rw [z, gr.ls.1] at nld; cases nld
    have ldr : ∀ e ∈ rs, ld ≠ e.2.1 := fun e he z => by rw [z, gr.ls.2 e he] at nld; cases nld
    have ld2 : ld ≠ l2 := fun z => by rw [z, hn5] at nld; cases nld
    have ld3 : ld ≠ l3 := fun z => by rw [z, hf5] at nld; cases nld
    generalize (upd H5 ld (.lst [])) = H6 at B6 hd6 hn6 hf6 hl6 ls6 ⊢
    have ph : p ≠ h := fun z => by have := gr.np; rw [z, eh4] at this; cases this
    have p3 : p ≠ l3 := fun z => by have := gr.np; rw [z, hf4] at this; cases this
    have rh : ∀ e ∈ rs, e.2.1 ≠ h := fun e he z => by have := gr.fr e he; rw [z, eh4] at this; cases this
    have r3 : ∀ e ∈ rs, e.2.1 ≠ l3 := fun e he z => by have := gr.fr e he; rw [z, hf4] at this; cases this
    have i6 : Same (plot l2 p rs H6) H6 := plot_in l2 p rs H6
    have g6h : plot l2 p rs H6 h = none := plot_off (fun z => by
      rcases z with z | z | z
      · exact l2h z.symm
      · exact ph z.symm
      · obtain ⟨e, he, e1⟩ := List.mem_map.mp z
        exact rh e he e1)
    have g63 : plot l2 p rs H6 l3 = none := plot_off (fun z => by
      rcases z with z | z | z
      · exact l32 z.symm
      · exact p3 z.symm
      · obtain ⟨e, he, e1⟩ := List.mem_map.mp z
        exact r3 e he e1)
    have g6d : plot l2 p rs H6 ld = none := plot_off (fun z => by
      rcases z with z | z | z
      · exact ld2 z
      · exact ldp z
      · obtain ⟨e, he, e1⟩ := List.mem_map.mp z
        exact ldr e he e1.symm)
    have lsG : Lists (plot l2 p rs H6) p rs := ⟨by rw [plot_at (.inr (.inl rfl))]; exact ls6.1, fun e he => by
      rw [plot_at (.inr (.inr (List.mem_map.mpr ⟨e, he, rfl⟩)))]
      exact ls6.2 e he⟩
    have g62 : plot l2 p rs H6 l2 = some (.lst ((ks.take (r + 1)).map V.str)) := by rw [plot_at (.inl rfl)]; exact hn6
    generalize (plot l2 p rs H6) = G6 at i6 g6h g63 g6d lsG g62
    have tperm : t.keys.Perm (ks.take (r + 1)) := by
      have := gr.lt.keys
      rw [gr.rk] at this
      exact this.symm
    have tsz : t.size = r + 1 := by rw [← T.keys_len, tperm.length_eq, nml]
    have tht : T.Ht 20 t := gr.ht.more (by decide)
    have at0 : atI ((ks.take (r + 1)).map V.str) 0 = some (.str t.key) := by
      rw [gr.rt]
      cases hks : ks.take (r + 1) with
      | nil =>
        rw [hks] at nml
        cases nml
      | cons a b => exact atI_nat (j := 0) rfl
    have stk : Stock t (ks.drop 10) := by
      have nd0 := ksn
      rw [← List.take_append_drop 10 ks, List.nodup_append] at nd0
      refine ⟨gr.nd, fun k hk => ksk k (List.mem_of_mem_take (tperm.mem_iff.mp hk)), fun k hk => ⟨ksk k (List.mem_of_mem_drop hk), fun z => ?_⟩, nd0.2.1, ?_⟩
      · have h1 : k ∈ ks.take 10 := by
          have h2 := tperm.mem_iff.mp z
          have h3 : ks.take (r + 1) = (ks.take 10).take (r + 1) := by rw [List.take_take, Nat.min_eq_left (by omega)]
          rw [h3] at h2
          exact List.mem_of_mem_take h2
        exact nd0.2.2 k h1 k hk rfl
      · rw [List.length_drop, ksl]
        omega
    -- trees
    refine ⟨.ref p, rfl, .ref l2, rfl, l2, _, 0, .str t.key, rfl, rfl, sqL hn6, at0, p, rs, t, t, G6, rfl, i6, lsG, gr.lt, gr.nd, by omega, T.self_pre t, tht, fun H7 G7 v g7 dv => ⟨(by show 1 ≤ sizeLine; decide), fun ltr nltr => ?_⟩⟩
    obtain ⟨hx6, eh6⟩ := hd6.at_
    have tn : Tn K H h l2 l3 ld ltr p (ks.take (r + 1)) t 900 (upd H7 ltr (.lst [v])) G7 rs t (ks.drop 10) [] [t] := {
      bt := (B6.trans g7.toBut).new nltr
      i := (Grow.beside (m := []) g7.i nltr).i
      gh := g7.off g6h eh6
      g3 := g7.off g63 hf6
      gd := g7.off g6d hl6
      gt := g7.i.free nltr
      n2 := g7.g _ _ g62
      ls := lsG.same g7.g
      lt := gr.lt
      hd := (g7.hand hd6).same (by rw [upd_ne (ne_of_none (g7.same _ _ eh6) nltr)])
      h3 := by rw [upd_ne (ne_of_none (g7.same _ _ hf6) nltr)]; exact g7.same _ _ hf6
      dd := ⟨[], by rw [upd_ne (ne_of_none (g7.same _ _ hl6) nltr)]; exact g7.same _ _ hl6, .nil⟩
      dt := ⟨[v], upd_same, .one dv⟩
      st := .one (by omega) gr.nd
      la := rfl
      ok := fun o ho => by simp at ho
      sk := stk
      rt := rfl
      kd := fun a ha => by
        have : a = t := by simpa using ha
        rw [this]
        exact ⟨stk.kt, by omega⟩ }
    have lth : ltr ≠ h := fun z => by rw [z, g7.same _ _ eh6] at nltr; cases nltr
    have ltd : ltr ≠ ld := fun z => by rw [z, g7.same _ _ hl6] at nltr; cases nltr
    have lt3 : ltr ≠ l3 := fun z => by rw [z, g7.same _ _ hf6] at nltr; cases nltr
    have nltrH : H ltr = none := But.none (B6.trans g7.toBut) lth nltr
    have nldH : H ld = none := But.none (B4.trans gr.bt) ldh.symm nld
    generalize (upd H7 ltr (.lst [v])) = H8 at tn ⊢
    clear g7 dv nltr stk i6 g6h g63 g6d lsG g62 ls6 hl6 hf6 hn6 hd6 B6
    have nl3H : H l3 = none := by
      cases hz : H l3 with
      | none => rfl
      | some o =>
        have := B12 l3 o l3h hz
        rw [nl3] at this
        cases this
    -- the turns
    refine ⟨.ref h, rfl, h, 15, 899, rfl, by decide, by decide, tn.hd, fun m H9 hm B9 hd9 => ?_⟩
    have tn9 := tn.but l3h ldh.symm lth B9 hd9
    refine ⟨_, rfl, by omega, by omega, ?_⟩
    refine for_range (lo := 0) (n := (m : Int).toNat) (fun i σ' H' => ∃ (p' : Addr) (rs' : List Kg.Row) (t' : T) (fs' : List Str) (os : List Op) (ts : List T) (G' : Hp) (y7 y8 : Option V),
      σ' = [some (.ref h), some (.ref l), some (.ref l2), some (.ref l3), some (.ref p'), some (.ref ld), some (.ref ltr), y7, y8, none, none, none] ∧ os.length ≤ i ∧
      Tn K H h l2 l3 ld ltr p' (ks.take (r + 1)) t (899 - 5 * i) H' G' rs' t' fs' os ts) ?_ ?_ ?_
    · exact ⟨p, rs, t, ks.drop 10, [], [t], G7, none, none, rfl, Nat.zero_le _, tn9⟩
    · rintro i σ' H' hi ⟨p', rs', t', fs', os, ts, G', y7, y8, rfl, lo, tn⟩
      have hi' : i < 15 := by omega
      have hn' : H' l2 = some (.lst ((ks.take (r + 1)).map V.str)) := tn.i _ _ tn.n2
      have sk := tn.sk
      have skf := sk.few
      refine ⟨.ref h, rfl, .ref p', rfl, .ref l2, rfl, l2, _, 0, .str t.key, rfl, rfl, sqL hn', at0, .ref l3, rfl, h, p', l3, rs', t', fs', 899 - 5 * (i + 1), G', by rw [tn.rt]; rfl, tn.i, tn.gh, tn.g3, l3h.symm, tn.hd.less (by omega), tn.h3, tn.ls, tn.lt, sk.nd, by omega, by omega, sk.kt, sk.kf, ?_, ?_⟩
      · intro H10 G10 v0 g10 gh10 gf10 hd10 hf10 dv0
        have tn10 := tn.grow2 nl3H ldh.symm lth ld3 lt3 g10 gh10 gf10 hd10 hf10 sk
        refine ⟨v0, rfl, (by show 0 ≤ sizeLine; decide), fun tp ntp => ?_⟩
        have g11 : Grow [] G10 H10 G10 (upd H10 tp (.tup [])) := .beside tn10.i ntp
        refine ⟨.tuple [], .tuple [], Dp.same g11.into _ _ dv0, .tup (sqT upd_same) .nil, by decide, by decide, _, rfl, iteF ?_⟩
        exact ⟨p', rs', t', fs', os, ts, G10, _, _, rfl, by omega, tn10.grow g11⟩
      · intro H10 G10 v1 o fs2 g10 gh10 gf10 hd10 hf10 dv1 ook opo osp
        have tn10 := tn.grow2 nl3H ldh.symm lth ld3 lt3 g10 gh10 gf10 hd10 hf10 (Stock.less sk (Spends.sub osp))
        refine ⟨v1, rfl, (by show 0 ≤ sizeLine; decide), fun tp ntp => ?_⟩
        have g11 : Grow [] G10 H10 G10 (upd H10 tp (.tup [])) := .beside tn10.i ntp
        refine ⟨o.d, .tuple [], Dp.same g11.into _ _ dv1, .tup (sqT upd_same) .nil, shaped_op ook, by decide, _, rfl, ?_⟩
        rw [eqv_op]
        refine iteT ?_
        have tn11 := tn10.grow g11
        have dv11 := dv1
        generalize (upd H10 tp (.tup [])) = H11 at tn11 ⊢
        obtain ⟨t2, haf⟩ := poss_after sk.nd opo
        have hn11 : H11 l2 = some (.lst ((ks.take (r + 1)).map V.str)) := tn11.i _ _ tn11.n2
        refine ⟨.ref p', rfl, .ref l2, rfl, l2, _, 0, .str t.key, rfl, rfl, sqL hn11, at0, v1, rfl, p', v1, rs', t', t2, o, G10, by rw [tn.rt]; rfl, tn11.i, tn11.ls.same tn11.i, tn11.lt, sk.nd, by omega, dv11, opo, haf, fun H12 p2 rs2 s12 np2 fr2 ls2 lt2 => ?_⟩
        obtain ⟨G12, g12, lsG⟩ := grow_rows tn11.i s12 np2 fr2 ls2
        have tn12 := tn11.grow g12
        obtain ⟨dv, e1, d1⟩ := tn12.dd
        obtain ⟨tv, e2, d2⟩ := tn12.dt
        obtain ⟨rt2, nd2, _⟩ := after_keys sk.nd opo haf
        have sk2 : Stock t2 fs2 := sk.step opo haf (by cases o <;> exact osp)
        have sk2f := sk2.few
        have dvl := d1.length
        rw [List.length_map] at dvl
        have tvl := d2.length
        rw [List.length_map, tn.st.len] at tvl
        have dv12 : Dp K G12 v1 o.d := Dp.same g12.g _ _ dv1
        refine ⟨.ref ld, rfl, Or.inl ⟨rfl, _, sqL e1⟩, v1, rfl, ld, dv, v1, rfl, rfl, e1, Nat.lt_of_le_of_lt (by omega : dv.length ≤ 15) (by decide), ?_⟩
        have i13 : Same G12 (upd H12 ld (.lst (dv ++ [v1]))) := fun c oo e => by
          rw [upd_ne (fun z => by rw [z, tn12.gd] at e; cases e)]
          exact tn12.i c oo e
        have B13 := But.mut (o := .lst (dv ++ [v1])) tn12.bt nldH
        have hd13 : Hd (upd H12 ld (.lst (dv ++ [v1]))) h (899 - 5 * (i + 1)) := tn12.hd.same (by rw [upd_ne ldh])
        have h313 : (upd H12 ld (.lst (dv ++ [v1]))) l3 = some (.lst (fs2.map V.str)) := by
          rw [upd_ne ld3.symm]
          exact tn12.h3
        have e13 : (upd H12 ld (.lst (dv ++ [v1]))) ltr = some (.lst tv) := by
          rw [upd_ne ltd]
          exact e2
        have d13 : (upd H12 ld (.lst (dv ++ [v1]))) ld = some (.lst (dv ++ [v1])) := upd_same
        generalize (upd H12 ld (.lst (dv ++ [v1]))) = H13 at i13 B13 hd13 h313 e13 d13 ⊢
        have hn13 : H13 l2 = some (.lst ((ks.take (r + 1)).map V.str)) := i13 _ _ tn12.n2
        have t2h : T.Ht 20 t2 := (T.Ht.ofSize t2).more (by omega)
        refine ⟨.ref ltr, rfl, Or.inl ⟨rfl, _, sqL e13⟩, .ref p2, rfl, .ref l2, rfl, l2, _, 0, .str t.key, rfl, rfl, sqL hn13, at0, p2, rs2, t2, t2, G12, by rw [rt2, tn.rt]; rfl, i13, lsG, lt2, nd2, by omega, T.self_pre t2, t2h, fun H14 G14 v2 g14 dv2 => ?_⟩
        have e14 := g14.same _ _ e13
        have gt14 : G14 ltr = none := g14.off tn12.gt e13
        obtain ⟨_, eh13⟩ := hd13.at_
        refine ⟨ltr, tv, v2, rfl, rfl, e14, Nat.lt_of_le_of_lt (by omega : tv.length ≤ 16) (by decide), ?_⟩
        refine ⟨p2, rs2, t2, fs2, os ++ [o], ts ++ [t2], G14, _, _, rfl, by rw [List.length_append]; show os.length + 1 ≤ i + 1; omega, ?_⟩
        exact {
          bt := But.mut (B13.trans g14.toBut) nltrH
          i := fun c oo e => by
            rw [upd_ne (fun z => by rw [z, gt14] at e; cases e)]
            exact g14.i c oo e
          gh := g14.off tn12.gh eh13
          g3 := g14.off tn12.g3 h313
          gd := g14.off tn12.gd d13
          gt := gt14
          n2 := g14.g _ _ tn12.n2
          ls := lsG.same g14.g
          lt := lt2
          hd := (g14.hand hd13).same (by rw [upd_ne lth.symm])
          h3 := by rw [upd_ne lt3.symm]; exact g14.same _ _ h313
          dd := ⟨dv ++ [v1], by rw [upd_ne ltd.symm]; exact g14.same _ _ d13, by
            rw [List.map_append]
            exact (DpAll.same g14.g _ _ d1).append (.one (Dp.same g14.g _ _ dv12))⟩
          dt := ⟨tv ++ [v2], upd_same, by
            rw [List.map_append]
            exact (DpAll.same g14.g _ _ d2).append (.one dv2)⟩
          st := tn.st.snoc tn.la opo haf (by omega) nd2
          la := by
            rw [List.length_append, List.getElem?_append_right (by rw [tn.st.len]; exact Nat.le_refl _), tn.st.len]
            show [t2][os.length + 1 - (os.length + 1)]? = _
            rw [Nat.sub_self]
            rfl
          ok := fun o' ho' => by
            rcases List.mem_append.mp ho' with z | z
            · exact tn.ok o' z
            · have : o' = o := by simpa using z
              rw [this]
              exact ook
          sk := sk2
          rt := rt2.trans tn.rt
          kd := fun a ha => by
            rcases List.mem_append.mp ha with z | z
            · exact tn.kd a z
            · have : a = t2 := by simpa using z
              rw [this]
              exact ⟨sk2.kt, by omega⟩ }
    · rintro σ' H' ⟨p', rs', t', fs', os, ts, G', y7, y8, rfl, lo, tn⟩
      obtain ⟨dv, e1, d1⟩ := tn.dd
      obtain ⟨tv, e2, d2⟩ := tn.dt
      have olen : os.length ≤ 15 := by omega
      have i15 : Same (upd (upd G' ld (.lst dv)) ltr (.lst tv)) H' := fun c oo e => by
        by_cases z : c = ltr
        · subst z
          rw [upd_same] at e
          cases e
          exact e2
        · rw [upd_ne z] at e
          by_cases z2 : c = ld
          · subst z2
            rw [upd_same] at e
            cases e
            exact e1
          · rw [upd_ne z2] at e
            exact tn.i c oo e
      have s15 : Same G' (upd (upd G' ld (.lst dv)) ltr (.lst tv)) := (Same.new tn.gd).trans (Same.new (by rw [upd_ne ltd]; exact tn.gt))
      have dL : Dp K (upd (upd G' ld (.lst dv)) ltr (.lst tv)) (.ref ld) (.list (os.map Op.d)) := .lst (sqL (by rw [upd_ne ltd.symm, upd_same])) (DpAll.same s15 _ _ d1)
      have dT : Dp K (upd (upd G' ld (.lst dv)) ltr (.lst tv)) (.ref ltr) (.list (ts.map T.d)) := .lst (sqL upd_same) (DpAll.same s15 _ _ d2)
      generalize (upd (upd G' ld (.lst dv)) ltr (.lst tv)) = G15 at i15 dL dT
      have B15 := tn.bt
      have st := tn.st
      have first : atI (ts.map T.d) 0 = some t.d := atI_nat (j := 0) (by rw [List.getElem?_map, st.first]; rfl)
      have txo := (Txs.ops os tn.ok).tup
      have okP : showOk (.tuple [t.d, .tuple (os.map Op.d)]) := by
        have h1 := (tn.kd t (List.mem_of_getElem? st.first))
        have hh : T.Ht 20 t := (T.Ht.ofSize t).more (by omega)
        have tx := Tx.tree 20 t (fun k hk => isKey_ok (h1.1 k hk)) hh
        refine (tx.cons ((txo.more (Nat.le_refl _) (by decide : 2 ≤ 40)).cons (Txs.nil.more (Nat.le_refl _) (Nat.zero_le _)))).tup.show ?_ (by decide)
        have := T.size_pos t
        omega
      have evP : ∀ (x9 x10 : Option V) (G1 H1 : Hp), Grow [] G15 H' G1 H1 → EvM K (tTup (tCons (tOp (rIxL K) (tVar 6) (tC (.int 0))) (tCons (tCB (fun xs H Q => ∃ p ys, xs = [.ref p] ∧ ((SqL K H p ys ∧ ∀ l, H l = none → Q (.ref l) (upd H l (.tup ys))) ∨ (SqT K H p ys ∧ Q (.ref p) H))) (tCons (tVar 5) tNil)) tNil))) [some (.ref h), some (.ref l), some (.ref l2), some (.ref l3), some (.ref p'), some (.ref ld), some (.ref ltr), y7, y8, x9, x10, none] G1 H1 (.tuple [t.d, .tuple (os.map Op.d)]) := fun x9 x10 G1 H1 g1 =>
        em_tup (ea_cons (em_ixL (em_var rfl (Dp.same g1.g _ _ dT)) em_int first) (ea_cons (em_tuple (em_var rfl (Dp.same g1.g _ _ dL))) ea_nil)) (by show 2 ≤ 100000; decide)
      show tSeq (tAsg (tCB _ (tCons (tTup (tCons (tOp (rIxL K) (tVar 6) (tC (.int 0))) (tCons (tCB _ (tCons (tVar 5) tNil)) tNil))) tNil)) (gName 9)) _ _ _ _
      refine s_seq (s_set (s_cb ?_))
      refine (evP none none G15 H' (.refl i15)).now i15 fun H16 G16 u16 g16 d16 => ⟨u16, _, rfl, Dp.same g16.i _ _ d16, rfl, okP, ?_⟩
      have ev0 : ∀ (x9 x10 : Option V) (G1 H1 : Hp), Grow [] G15 H' G1 H1 → EvM K (tOp (rIxL K) (tVar 6) (tC (.int 0))) [some (.ref h), some (.ref l), some (.ref l2), some (.ref l3), some (.ref p'), some (.ref ld), some (.ref ltr), y7, y8, x9, x10, none] G1 H1 t.d := fun x9 x10 G1 H1 g1 =>
        em_ixL (em_var rfl (Dp.same g1.g _ _ dT)) em_int first
      have evD : ∀ (x9 x10 : Option V) (G1 H1 : Hp), Grow [] G15 H' G1 H1 → EvM K (tCB (fun xs H Q => ∃ p ys, xs = [.ref p] ∧ ((SqL K H p ys ∧ ∀ l, H l = none → Q (.ref l) (upd H l (.tup ys))) ∨ (SqT K H p ys ∧ Q (.ref p) H))) (tCons (tVar 5) tNil)) [some (.ref h), some (.ref l), some (.ref l2), some (.ref l3), some (.ref p'), some (.ref ld), some (.ref ltr), y7, y8, x9, x10, none] G1 H1 (.tuple (os.map Op.d)) := fun x9 x10 G1 H1 g1 =>
        em_tuple (em_var rfl (Dp.same g1.g _ _ dL))
      have o400 : os.length ≤ 400 := by omega
      have evR : EvM K (tLst (tCons (tCall (sp_run K) [] E0 (tCons (tOp (rIxL K) (tVar 6) (tC (.int 0))) (tCons (tCB (fun xs H Q => ∃ p ys, xs = [.ref p] ∧ ((SqL K H p ys ∧ ∀ l, H l = none → Q (.ref l) (upd H l (.tup ys))) ∨ (SqT K H p ys ∧ Q (.ref p) H))) (tCons (tVar 5) tNil)) tNil))) (tCons (tCallK (sp_run K) gSwap E0 tNil (tCons (tCB (fun xs H Q => ∃ p ys, xs = [.ref p] ∧ ((SqL K H p ys ∧ ∀ l, H l = none → Q (.ref l) (upd H l (.tup ys))) ∨ (SqT K H p ys ∧ Q (.ref p) H))) (tCons (tVar 5) tNil)) (tCons (tOp (rIxL K) (tVar 6) (tC (.int 0))) tNil))) tNil)))
          [some (.ref h), some (.ref l), some (.ref l2), some (.ref l3), some (.ref p'), some (.ref ld), some (.ref ltr), y7, y8, some (.str (PyData.tuple [t.d, .tuple (os.map Op.d)]).shown), none, none] G16 H16 (.list [t'.d, t'.d]) :=
        em_lst (ea_cons (em_call (ea_cons (ev0 _ _ _ _ g16) (ea_cons (evD _ _ _ _ g16) ea_nil)) (spM_run o400 tn.ok st tn.la)) (ea_cons (em_kw2 (ea_cons (evD _ _ _ _ g16) (ea_cons (ev0 _ _ _ _ g16) ea_nil)) (spM_run o400 tn.ok st tn.la)) ea_nil)) (by show 2 ≤ 100000; decide)
      show tSeq (tAsg (tLst (tCons (tCall (sp_run K) [] E0 (tCons (tOp (rIxL K) (tVar 6) (tC (.int 0))) (tCons (tCB (fun xs H Q => ∃ p ys, xs = [.ref p] ∧ ((SqL K H p ys ∧ ∀ l, H l = none → Q (.ref l) (upd H l (.tup ys))) ∨ (SqT K H p ys ∧ Q (.ref p) H))) (tCons (tVar 5) tNil)) tNil))) (tCons (tCallK (sp_run K) gSwap E0 tNil (tCons (tCB (fun xs H Q => ∃ p ys, xs = [.ref p] ∧ ((SqL K H p ys ∧ ∀ l, H l = none → Q (.ref l) (upd H l (.tup ys))) ∨ (SqT K H p ys ∧ Q (.ref p) H))) (tCons (tVar 5) tNil)) (tCons (tOp (rIxL K) (tVar 6) (tC (.int 0))) tNil))) tNil))) (gName 10)) _ _ _ _
      refine s_seq (s_set ?_)
      refine evR.now g16.i fun H17 G17 u17 g17 d17 => ?_
      have g17' := g16.tr g17
      have okR : showOk (.list [t'.d, t'.d]) := by
        have h1 := (tn.kd t' (List.mem_of_getElem? tn.la))
        have hh : T.Ht 20 t' := (T.Ht.ofSize t').more (by omega)
        have tx := Tx.tree 20 t' (fun k hk => isKey_ok (h1.1 k hk)) hh
        refine (tx.cons (tx.cons (Txs.nil.more (Nat.le_refl _) (Nat.zero_le _)))).lst.show ?_ (by decide)
        have := T.size_pos t'
        omega
      have okM : showOk (.tuple (ts.map T.d)) := by
        refine (Txs.trees ts tn.kd).tup.show ?_ (by decide)
        rw [st.len]
        omega
      obtain ⟨la, xs, ela, hla, hxs⟩ := (Dp.same g17'.g _ _ dT).lst_at
      cases ela
      obtain ⟨z, ez, dz⟩ := hxs.get (i := os.length) (d := t'.d) (by rw [List.getElem?_map, tn.la]; rfl)
      have eat : atI xs (-1) = some z := last_at ez (by rw [hxs.length, List.length_map, st.len])
      dsimp only [gName]
      refine s_seq (s_if ?_)
      refine ⟨u17, rfl, u17, _, rfl, Dp.same g17.i _ _ d17, rfl, okR, .ref ltr, rfl, 1, rfl, ltr, xs, -1, z, rfl, rfl, g17.i.seq hla, eat, (by show 1 ≤ sizeLine; decide), fun lq nlq => ?_⟩
      refine ⟨lq, 2, [z], rfl, rfl, upd_same, by decide, by decide, (by show 2 ≤ sizeLine; decide), fun lr nlr => ?_⟩
      have g18 : Grow [] G17 H17 G17 (upd (upd H17 lq (.lst [z])) lr (.lst (List.replicate (2 : Int).toNat [z]).flatten)) := by
        have a : Grow [] G17 H17 G17 (upd H17 lq (.lst [z])) := .beside g17.i nlq
        exact a.tr (.beside a.i nlr)
      have dlr : Dp K (upd (upd H17 lq (.lst [z])) lr (.lst (List.replicate (2 : Int).toNat [z]).flatten)) (.ref lr) (.list [t'.d, t'.d]) :=
        .lst (sqL upd_same) (.cons (Dp.same g18.into _ _ dz) (.cons (Dp.same g18.into _ _ dz) .nil))
      refine ⟨.ref lr, _, rfl, dlr, rfl, okR, rfl, _, rfl, ?_⟩
      rw [decide_eq_true rfl]
      refine iteF ?_
      generalize (upd (upd H17 lq (.lst [z])) lr (.lst (List.replicate (2 : Int).toNat [z]).flatten)) = H18 at g18 ⊢
      have g18' := g17'.tr g18
      have evT : ∀ (x9 x10 x11 : Option V) (G1 H1 : Hp), Grow [] G15 H' G1 H1 → EvM K (tCB (fun xs H Q => ∃ p ys, xs = [.ref p] ∧ ((SqL K H p ys ∧ ∀ l, H l = none → Q (.ref l) (upd H l (.tup ys))) ∨ (SqT K H p ys ∧ Q (.ref p) H))) (tCons (tVar 6) tNil)) [some (.ref h), some (.ref l), some (.ref l2), some (.ref l3), some (.ref p'), some (.ref ld), some (.ref ltr), y7, y8, x9, x10, x11] G1 H1 (.tuple (ts.map T.d)) := fun x9 x10 x11 G1 H1 g1 => em_tuple (em_var rfl (Dp.same g1.g _ _ dT))
      have evM : EvM K (tCall (sp_moments K) [] E0 (tCons (tOp (rIxL K) (tVar 6) (tC (.int 0))) (tCons (tCB (fun xs H Q => ∃ p ys, xs = [.ref p] ∧ ((SqL K H p ys ∧ ∀ l, H l = none → Q (.ref l) (upd H l (.tup ys))) ∨ (SqT K H p ys ∧ Q (.ref p) H))) (tCons (tVar 5) tNil)) tNil))) [some (.ref h), some (.ref l), some (.ref l2), some (.ref l3), some (.ref p'), some (.ref ld), some (.ref ltr), y7, y8, some (.str (PyData.tuple [t.d, .tuple (os.map Op.d)]).shown), some u17, none] G17 H18 (.tuple (ts.map T.d)) :=
        em_call (ea_cons (ev0 _ _ _ _ g18') (ea_cons (evD _ _ _ _ g18') ea_nil)) (spM_moments o400 tn.ok st)
      refine s_test (s_op (s_cb ?_))
      refine evM.now g18.i fun H19 G19 u19 g19 d19 => ⟨u19, _, rfl, Dp.same g19.i _ _ d19, rfl, okM, ?_⟩
      have g19' := g18'.tr g19
      refine s_cb ?_
      refine (evT _ _ _ _ _ g19').now g19.i fun H20 G20 u20 g20 d20 => ⟨u20, _, rfl, Dp.same g20.i _ _ d20, rfl, okM, rfl, _, rfl, ?_⟩
      rw [decide_eq_true rfl]
      refine iteF (s_next ?_)
      have g20' := g19'.tr g20
      have evA : EvM K (tCallK (sp_moments K) gSwap E0 tNil (tCons (tCB (fun xs H Q => ∃ p ys, xs = [.ref p] ∧ ((SqL K H p ys ∧ ∀ l, H l = none → Q (.ref l) (upd H l (.tup ys))) ∨ (SqT K H p ys ∧ Q (.ref p) H))) (tCons (tVar 5) tNil)) (tCons (tOp (rIxL K) (tVar 6) (tC (.int 0))) tNil))) [some (.ref h), some (.ref l), some (.ref l2), some (.ref l3), some (.ref p'), some (.ref ld), some (.ref ltr), y7, y8, some (.str (PyData.tuple [t.d, .tuple (os.map Op.d)]).shown), some u17, none] G20 H20 (.tuple (ts.map T.d)) :=
        em_kw2 (ea_cons (evD _ _ _ _ g20') (ea_cons (ev0 _ _ _ _ g20') ea_nil)) (spM_moments o400 tn.ok st)
      try dsimp only
      refine s_seq (s_set ?_)
      refine evA.now g20.i fun H21 G21 u21 g21 d21 => ?_
      have g21' := g20'.tr g21
      refine ⟨u21, rfl, u21, _, rfl, Dp.same g21.i _ _ d21, rfl, okM, ?_⟩
      refine s_cb ?_
      refine (evT _ _ _ _ _ g21').now g21.i fun H22 G22 u22 g22 d22 => ⟨u22, _, rfl, Dp.same g22.i _ _ d22, rfl, okM, rfl, _, rfl, ?_⟩
      rw [decide_eq_true rfl]
      refine iteT ?_
      have g22' := g21'.tr g22
      have evQ : EvM K (tTup (tCons (tOp (rIxL K) (tVar 6) (tC (.int 0))) (tCons (tCB (fun xs H Q => ∃ p ys, xs = [.ref p] ∧ ((SqL K H p ys ∧ ∀ l, H l = none → Q (.ref l) (upd H l (.tup ys))) ∨ (SqT K H p ys ∧ Q (.ref p) H))) (tCons (tVar 5) tNil)) tNil))) [some (.ref h), some (.ref l), some (.ref l2), some (.ref l3), some (.ref p'), some (.ref ld), some (.ref ltr), y7, y8, some (.str (PyData.tuple [t.d, .tuple (os.map Op.d)]).shown), some u17, some u21] G22 H22 (.tuple [t.d, .tuple (os.map Op.d)]) :=
        em_tup (ea_cons (em_ixL (em_var rfl (Dp.same g22'.g _ _ dT)) em_int first) (ea_cons (em_tuple (em_var rfl (Dp.same g22'.g _ _ dL))) ea_nil)) (by show 2 ≤ 100000; decide)
      refine s_op (s_cb ?_)
      refine evQ.now g22.i fun H23 G23 u23 g23 d23 => ⟨u23, _, rfl, Dp.same g23.i _ _ d23, rfl, okP, _, rfl, rfl, ?_⟩
      rw [decide_eq_true rfl]
      exact q H23 (B15.trans (g22'.tr g23).toBut)
end
end K5
namespace K5
open PySem PySem.Spec PyProof.Rows L2 Kg
section
variable {P : Program} {w : World} {K : PySem.W.Frag} {mg : Str → Option Value} {base : Heap}
/-! ### law -/
abbrev s_law : Stmt := topS 40
theorem sc_law : FnScope ["_law_script", "_law_k"] ["_law_script"] (defScope s_law) := fscope (by decide +kernel)
def sp_law (K : PySem.W.Frag) : Sp := fun vs H Q _ => ∃ (a : Addr) (ns : List Int), vs = [.ref a] ∧ SqL K H a (ns.map V.int) ∧ ns.length ≤ 63 ∧ ∀ H', Q (.bl true) H'
theorem ok_law {f : Addr} {fd : FuncData} (F : Fun K "law" "law" s_law f fd) (c__law_hand : Cal P w K mg base CX0 1 "_law_hand" ["_law_script", "_law_k"] (sp__law_hand K))
    (c__law_right : CalG P w K mg base 23 "_law_right" ["_law_hand_here"] sp__law_right) (z_all : mg "all" = none) (z_range : mg "range" = none) (z_max : mg "max" = none) (z_min : mg "min" = none) (z_len : mg "len" = none) :
    Fg P w K mg base 24 f fd ["_law_script"] (sp_law K) := by
  refine fg_ok (k := 23) F sc_law (fun vs H Q E h => ?_) (fun cdv A outer s H vs Q E hr hq h => ?_)
  · obtain ⟨a, ns, rfl, _⟩ := h
    rfl
  · obtain ⟨a, ns, rfl, hs, few, q⟩ := h
    refine ⟨_, (pss_one (ps_ret (pe_callB (cr_all rfl) (by rfl) z_all (by decide +kernel) (pa_cons (pe_lc (own := [("_law_k", 1)]) (g := gName 1) (tt := tYes) (te := tCall sp__law_right [] E0 (tCons (tCall (sp__law_hand K) [] E0 (tCons (tVar 0) (tCons (tVar 1) tNil))) tNil)) rfl sc_law.nd (pi_range1 (by rfl) z_range (pa_cons (pe_callB (call_max2 rfl) (by rfl) z_max (by decide +kernel) (pa_cons pe_int (pa_cons (pe_callB (call_min2 rfl) (by rfl) z_min (by decide +kernel) (pa_cons pe_int (pa_cons (pe_callB call_len_seq (by rfl) z_len (by decide +kernel) (pa_cons (pv 0) pa_nil)) pa_nil))) pa_nil))) pa_nil)) (blkOk_by (own := [("_law_k", 1)]) (N := ["_law_script", "_law_k"]) (sc := defScope s_law) (by decide +kernel)) (fun _ _ _ _ _ => (pg_name (i := 1) sc_law.nd rfl (Or.inl rfl))) (fun _ _ _ _ _ => pts_nil) (fun _ _ _ _ _ => (c__law_right.pe hr hq (by omega) (by rfl) (pa_cons (c__law_hand.pe hr (by omega) (by rfl) (pa_cons (pv 0) (pa_cons (pv 1) pa_nil))) pa_nil)))) pa_nil)))), ?_⟩
    have line := sizeLine_eq
    refine ⟨.ref a, rfl, a, _, rfl, .inl hs, 3, _, rfl, 1, _, rfl, ?_⟩
    obtain ⟨m, em, m3⟩ : ∃ m : Nat, (if (if (((ns.map V.int).length : Nat) : Int) < 3 then (((ns.map V.int).length : Nat) : Int) else 3) > 1 then (if (((ns.map V.int).length : Nat) : Int) < 3 then (((ns.map V.int).length : Nat) : Int) else 3) else 1) = (m : Int) ∧ m ≤ 3 := by
      rw [List.length_map]
      by_cases h1 : (ns.length : Int) < 3
      · rw [if_pos h1]
        by_cases h2 : (ns.length : Int) > 1
        · rw [if_pos h2]
          exact ⟨ns.length, rfl, by omega⟩
        · rw [if_neg h2]
          exact ⟨1, rfl, by decide⟩
      · rw [if_neg h1]
        exact ⟨3, rfl, by decide⟩
    refine ⟨(m : Int), by rw [em], by omega, by omega, fun D nD => ?_⟩
    refine lc_range (lo := 0) (n := (m : Int).toNat) (vs := [1]) (g := gName 1) (tt := tYes) (te := tCall sp__law_right [] E0 (tCons (tCall (sp__law_hand K) [] E0 (tCons (tVar 0) (tCons (tVar 1) tNil))) tNil)) (σ := [some (.ref a), none])
      (fun i H' => Same H H' ∧ H' D = some (.lst ((List.replicate i true).map V.bl))) ⟨Same.new nD, upd_same⟩ ?_ ?_
    · rintro i H' hi ⟨h1, h2⟩
      refine ⟨rfl, s_yes ?_⟩
      refine ⟨.ref a, rfl, .int ((0 : Int) + (i : Int)), rfl, a, ns, 0 + i, rfl, h1.seq hs, by omega, fun p o np hdp => ?_⟩
      have Dp' : D ≠ p := ne_of_none h2 np
      refine ⟨p, rfl, hdp.less (by decide), fun H3 b3 => ?_⟩
      have hD3 : H3 D = some (.lst ((List.replicate i true).map V.bl)) := b3 _ _ Dp' (by rw [upd_ne Dp']; exact h2)
      refine ⟨_, hD3, ?_, fun b' o' e => ?_, ?_⟩
      · rw [List.length_map, List.length_replicate]
        omega
      · rw [upd_ne (ne_of_none e nD)]
        have ne := ne_of_none (h1 _ _ e) np
        exact b3 _ _ ne (by rw [upd_ne ne]; exact h1 _ _ e)
      · rw [upd_same, List.replicate_succ', List.map_append]
        rfl
    · rintro H' ⟨_, h2⟩
      refine ⟨D, List.replicate (m : Int).toNat true, rfl, sqL h2, ?_⟩
      have : (List.replicate (m : Int).toNat true).all id = true := by
        rw [List.all_eq_true]
        intro x hx
        rw [(List.mem_replicate.mp hx).2]
        rfl
      rw [this]
      exact q H'
end
end K5
namespace K5
open PySem PySem.Spec PyProof.Rows L2 Kg
/-! ### what the top has left -/
theorem all_mk {P : Program} {w : World} {K : PySem.W.Frag} {h : Heap} {mg : Str → Option Value} {fa : Addr}
    (X : K.In h) (G : h.Ns mainGlobals mg) (hfa : mg "law" = some (.ref fa))
    {f_is_key : Addr} {od_is_key an_is_key : Option Addr} {sl_is_key : Array (Option Value)} {oc_is_key kV_is_key dc_is_key pm_is_key cd_is_key ct_is_key : Value}
    (a_is_key : PySem.W.nsIn K mainGlobals "is_key" = some (some (.ref f_is_key)))
    (l_is_key : K.lookup f_is_key = some ⟨oc_is_key, od_is_key, .func (PySem.W.fnOf "is_key" "is_key" (defArgs s_is_key) (defBody s_is_key)
      (defScope s_is_key) .none kV_is_key dc_is_key pm_is_key an_is_key cd_is_key ct_is_key), sl_is_key⟩)
    (c_is_key : PySem.W.codeIn K cd_is_key "is_key" = true) (k_is_key : PySem.W.keepIn K (.ref f_is_key) = true)
    {f_subtree : Addr} {od_subtree an_subtree : Option Addr} {sl_subtree : Array (Option Value)} {oc_subtree kV_subtree dc_subtree pm_subtree cd_subtree ct_subtree : Value}
    (a_subtree : PySem.W.nsIn K mainGlobals "subtree" = some (some (.ref f_subtree)))
    (l_subtree : K.lookup f_subtree = some ⟨oc_subtree, od_subtree, .func (PySem.W.fnOf "subtree" "subtree" (defArgs s_subtree) (defBody s_subtree)
      (defScope s_subtree) .none kV_subtree dc_subtree pm_subtree an_subtree cd_subtree ct_subtree), sl_subtree⟩)
    (c_subtree : PySem.W.codeIn K cd_subtree "subtree" = true) (k_subtree : PySem.W.keepIn K (.ref f_subtree) = true)
    {f_path_of : Addr} {od_path_of an_path_of : Option Addr} {sl_path_of : Array (Option Value)} {oc_path_of kV_path_of dc_path_of pm_path_of cd_path_of ct_path_of : Value}
    (a_path_of : PySem.W.nsIn K mainGlobals "path_of" = some (some (.ref f_path_of)))
    (l_path_of : K.lookup f_path_of = some ⟨oc_path_of, od_path_of, .func (PySem.W.fnOf "path_of" "path_of" (defArgs s_path_of) (defBody s_path_of)
      (defScope s_path_of) .none kV_path_of dc_path_of pm_path_of an_path_of cd_path_of ct_path_of), sl_path_of⟩)
    (c_path_of : PySem.W.codeIn K cd_path_of "path_of" = true) (k_path_of : PySem.W.keepIn K (.ref f_path_of) = true)
    {f_walk : Addr} {od_walk an_walk : Option Addr} {sl_walk : Array (Option Value)} {oc_walk kV_walk dc_walk pm_walk cd_walk ct_walk : Value}
    (a_walk : PySem.W.nsIn K mainGlobals "walk" = some (some (.ref f_walk)))
    (l_walk : K.lookup f_walk = some ⟨oc_walk, od_walk, .func (PySem.W.fnOf "walk" "walk" (defArgs s_walk) (defBody s_walk)
      (defScope s_walk) .none kV_walk dc_walk pm_walk an_walk cd_walk ct_walk), sl_walk⟩)
    (c_walk : PySem.W.codeIn K cd_walk "walk" = true) (k_walk : PySem.W.keepIn K (.ref f_walk) = true)
    {f_parents_of : Addr} {od_parents_of an_parents_of : Option Addr} {sl_parents_of : Array (Option Value)} {oc_parents_of kV_parents_of dc_parents_of pm_parents_of cd_parents_of ct_parents_of : Value}
    (a_parents_of : PySem.W.nsIn K mainGlobals "parents_of" = some (some (.ref f_parents_of)))
    (l_parents_of : K.lookup f_parents_of = some ⟨oc_parents_of, od_parents_of, .func (PySem.W.fnOf "parents_of" "parents_of" (defArgs s_parents_of) (defBody s_parents_of)
      (defScope s_parents_of) .none kV_parents_of dc_parents_of pm_parents_of an_parents_of cd_parents_of ct_parents_of), sl_parents_of⟩)
    (c_parents_of : PySem.W.codeIn K cd_parents_of "parents_of" = true) (k_parents_of : PySem.W.keepIn K (.ref f_parents_of) = true)
    {f_are_operations : Addr} {od_are_operations an_are_operations : Option Addr} {sl_are_operations : Array (Option Value)} {oc_are_operations kV_are_operations dc_are_operations pm_are_operations cd_are_operations ct_are_operations : Value}
    (a_are_operations : PySem.W.nsIn K mainGlobals "are_operations" = some (some (.ref f_are_operations)))
    (l_are_operations : K.lookup f_are_operations = some ⟨oc_are_operations, od_are_operations, .func (PySem.W.fnOf "are_operations" "are_operations" (defArgs s_are_operations) (defBody s_are_operations)
      (defScope s_are_operations) .none kV_are_operations dc_are_operations pm_are_operations an_are_operations cd_are_operations ct_are_operations), sl_are_operations⟩)
    (c_are_operations : PySem.W.codeIn K cd_are_operations "are_operations" = true) (k_are_operations : PySem.W.keepIn K (.ref f_are_operations) = true)
    {f_is_operation : Addr} {od_is_operation an_is_operation : Option Addr} {sl_is_operation : Array (Option Value)} {oc_is_operation kV_is_operation dc_is_operation pm_is_operation cd_is_operation ct_is_operation : Value}
    (a_is_operation : PySem.W.nsIn K mainGlobals "is_operation" = some (some (.ref f_is_operation)))
    (l_is_operation : K.lookup f_is_operation = some ⟨oc_is_operation, od_is_operation, .func (PySem.W.fnOf "is_operation" "is_operation" (defArgs s_is_operation) (defBody s_is_operation)
      (defScope s_is_operation) .none kV_is_operation dc_is_operation pm_is_operation an_is_operation cd_is_operation ct_is_operation), sl_is_operation⟩)
    (c_is_operation : PySem.W.codeIn K cd_is_operation "is_operation" = true) (k_is_operation : PySem.W.keepIn K (.ref f_is_operation) = true)
    {f_run : Addr} {od_run an_run : Option Addr} {sl_run : Array (Option Value)} {oc_run kV_run dc_run pm_run cd_run ct_run : Value}
    (a_run : PySem.W.nsIn K mainGlobals "run" = some (some (.ref f_run)))
    (l_run : K.lookup f_run = some ⟨oc_run, od_run, .func (PySem.W.fnOf "run" "run" (defArgs s_run) (defBody s_run)
      (defScope s_run) .none kV_run dc_run pm_run an_run cd_run ct_run), sl_run⟩)
    (c_run : PySem.W.codeIn K cd_run "run" = true) (k_run : PySem.W.keepIn K (.ref f_run) = true)
    {f_moments : Addr} {od_moments an_moments : Option Addr} {sl_moments : Array (Option Value)} {oc_moments kV_moments dc_moments pm_moments cd_moments ct_moments : Value}
    (a_moments : PySem.W.nsIn K mainGlobals "moments" = some (some (.ref f_moments)))
    (l_moments : K.lookup f_moments = some ⟨oc_moments, od_moments, .func (PySem.W.fnOf "moments" "moments" (defArgs s_moments) (defBody s_moments)
      (defScope s_moments) .none kV_moments dc_moments pm_moments an_moments cd_moments ct_moments), sl_moments⟩)
    (c_moments : PySem.W.codeIn K cd_moments "moments" = true) (k_moments : PySem.W.keepIn K (.ref f_moments) = true)
    {f_is_possible : Addr} {od_is_possible an_is_possible : Option Addr} {sl_is_possible : Array (Option Value)} {oc_is_possible kV_is_possible dc_is_possible pm_is_possible cd_is_possible ct_is_possible : Value}
    (a_is_possible : PySem.W.nsIn K mainGlobals "is_possible" = some (some (.ref f_is_possible)))
    (l_is_possible : K.lookup f_is_possible = some ⟨oc_is_possible, od_is_possible, .func (PySem.W.fnOf "is_possible" "is_possible" (defArgs s_is_possible) (defBody s_is_possible)
      (defScope s_is_possible) .none kV_is_possible dc_is_possible pm_is_possible an_is_possible cd_is_possible ct_is_possible), sl_is_possible⟩)
    (c_is_possible : PySem.W.codeIn K cd_is_possible "is_possible" = true) (k_is_possible : PySem.W.keepIn K (.ref f_is_possible) = true)
    {f_can_create : Addr} {od_can_create an_can_create : Option Addr} {sl_can_create : Array (Option Value)} {oc_can_create kV_can_create dc_can_create pm_can_create cd_can_create ct_can_create : Value}
    (a_can_create : PySem.W.nsIn K mainGlobals "can_create" = some (some (.ref f_can_create)))
    (l_can_create : K.lookup f_can_create = some ⟨oc_can_create, od_can_create, .func (PySem.W.fnOf "can_create" "can_create" (defArgs s_can_create) (defBody s_can_create)
      (defScope s_can_create) .none kV_can_create dc_can_create pm_can_create an_can_create cd_can_create ct_can_create), sl_can_create⟩)
    (c_can_create : PySem.W.codeIn K cd_can_create "can_create" = true) (k_can_create : PySem.W.keepIn K (.ref f_can_create) = true)
    {f_can_move : Addr} {od_can_move an_can_move : Option Addr} {sl_can_move : Array (Option Value)} {oc_can_move kV_can_move dc_can_move pm_can_move cd_can_move ct_can_move : Value}
    (a_can_move : PySem.W.nsIn K mainGlobals "can_move" = some (some (.ref f_can_move)))
    (l_can_move : K.lookup f_can_move = some ⟨oc_can_move, od_can_move, .func (PySem.W.fnOf "can_move" "can_move" (defArgs s_can_move) (defBody s_can_move)
      (defScope s_can_move) .none kV_can_move dc_can_move pm_can_move an_can_move cd_can_move ct_can_move), sl_can_move⟩)
    (c_can_move : PySem.W.codeIn K cd_can_move "can_move" = true) (k_can_move : PySem.W.keepIn K (.ref f_can_move) = true)
    {f_is_below_root : Addr} {od_is_below_root an_is_below_root : Option Addr} {sl_is_below_root : Array (Option Value)} {oc_is_below_root kV_is_below_root dc_is_below_root pm_is_below_root cd_is_below_root ct_is_below_root : Value}
    (a_is_below_root : PySem.W.nsIn K mainGlobals "is_below_root" = some (some (.ref f_is_below_root)))
    (l_is_below_root : K.lookup f_is_below_root = some ⟨oc_is_below_root, od_is_below_root, .func (PySem.W.fnOf "is_below_root" "is_below_root" (defArgs s_is_below_root) (defBody s_is_below_root)
      (defScope s_is_below_root) .none kV_is_below_root dc_is_below_root pm_is_below_root an_is_below_root cd_is_below_root ct_is_below_root), sl_is_below_root⟩)
    (c_is_below_root : PySem.W.codeIn K cd_is_below_root "is_below_root" = true) (k_is_below_root : PySem.W.keepIn K (.ref f_is_below_root) = true)
    {f_is_place : Addr} {od_is_place an_is_place : Option Addr} {sl_is_place : Array (Option Value)} {oc_is_place kV_is_place dc_is_place pm_is_place cd_is_place ct_is_place : Value}
    (a_is_place : PySem.W.nsIn K mainGlobals "is_place" = some (some (.ref f_is_place)))
    (l_is_place : K.lookup f_is_place = some ⟨oc_is_place, od_is_place, .func (PySem.W.fnOf "is_place" "is_place" (defArgs s_is_place) (defBody s_is_place)
      (defScope s_is_place) .none kV_is_place dc_is_place pm_is_place an_is_place cd_is_place ct_is_place), sl_is_place⟩)
    (c_is_place : PySem.W.codeIn K cd_is_place "is_place" = true) (k_is_place : PySem.W.keepIn K (.ref f_is_place) = true)
    {f_after : Addr} {od_after an_after : Option Addr} {sl_after : Array (Option Value)} {oc_after kV_after dc_after pm_after cd_after ct_after : Value}
    (a_after : PySem.W.nsIn K mainGlobals "after" = some (some (.ref f_after)))
    (l_after : K.lookup f_after = some ⟨oc_after, od_after, .func (PySem.W.fnOf "after" "after" (defArgs s_after) (defBody s_after)
      (defScope s_after) .none kV_after dc_after pm_after an_after cd_after ct_after), sl_after⟩)
    (c_after : PySem.W.codeIn K cd_after "after" = true) (k_after : PySem.W.keepIn K (.ref f_after) = true)
    {f_put_in : Addr} {od_put_in an_put_in : Option Addr} {sl_put_in : Array (Option Value)} {oc_put_in kV_put_in dc_put_in pm_put_in cd_put_in ct_put_in : Value}
    (a_put_in : PySem.W.nsIn K mainGlobals "put_in" = some (some (.ref f_put_in)))
    (l_put_in : K.lookup f_put_in = some ⟨oc_put_in, od_put_in, .func (PySem.W.fnOf "put_in" "put_in" (defArgs s_put_in) (defBody s_put_in)
      (defScope s_put_in) .none kV_put_in dc_put_in pm_put_in an_put_in cd_put_in ct_put_in), sl_put_in⟩)
    (c_put_in : PySem.W.codeIn K cd_put_in "put_in" = true) (k_put_in : PySem.W.keepIn K (.ref f_put_in) = true)
    {f_take_out : Addr} {od_take_out an_take_out : Option Addr} {sl_take_out : Array (Option Value)} {oc_take_out kV_take_out dc_take_out pm_take_out cd_take_out ct_take_out : Value}
    (a_take_out : PySem.W.nsIn K mainGlobals "take_out" = some (some (.ref f_take_out)))
    (l_take_out : K.lookup f_take_out = some ⟨oc_take_out, od_take_out, .func (PySem.W.fnOf "take_out" "take_out" (defArgs s_take_out) (defBody s_take_out)
      (defScope s_take_out) .none kV_take_out dc_take_out pm_take_out an_take_out cd_take_out ct_take_out), sl_take_out⟩)
    (c_take_out : PySem.W.codeIn K cd_take_out "take_out" = true) (k_take_out : PySem.W.keepIn K (.ref f_take_out) = true)
    {f_with_children : Addr} {od_with_children an_with_children : Option Addr} {sl_with_children : Array (Option Value)} {oc_with_children kV_with_children dc_with_children pm_with_children cd_with_children ct_with_children : Value}
    (a_with_children : PySem.W.nsIn K mainGlobals "with_children" = some (some (.ref f_with_children)))
    (l_with_children : K.lookup f_with_children = some ⟨oc_with_children, od_with_children, .func (PySem.W.fnOf "with_children" "with_children" (defArgs s_with_children) (defBody s_with_children)
      (defScope s_with_children) .none kV_with_children dc_with_children pm_with_children an_with_children cd_with_children ct_with_children), sl_with_children⟩)
    (c_with_children : PySem.W.codeIn K cd_with_children "with_children" = true) (k_with_children : PySem.W.keepIn K (.ref f_with_children) = true)
    {f__law_hand : Addr} {od__law_hand an__law_hand : Option Addr} {sl__law_hand : Array (Option Value)} {oc__law_hand kV__law_hand dc__law_hand pm__law_hand cd__law_hand ct__law_hand : Value}
    (a__law_hand : PySem.W.nsIn K mainGlobals "_law_hand" = some (some (.ref f__law_hand)))
    (l__law_hand : K.lookup f__law_hand = some ⟨oc__law_hand, od__law_hand, .func (PySem.W.fnOf "_law_hand" "_law_hand" (defArgs s__law_hand) (defBody s__law_hand)
      (defScope s__law_hand) .none kV__law_hand dc__law_hand pm__law_hand an__law_hand cd__law_hand ct__law_hand), sl__law_hand⟩)
    (c__law_hand : PySem.W.codeIn K cd__law_hand "_law_hand" = true) (k__law_hand : PySem.W.keepIn K (.ref f__law_hand) = true)
    {f__law_take : Addr} {od__law_take an__law_take : Option Addr} {sl__law_take : Array (Option Value)} {oc__law_take kV__law_take dc__law_take pm__law_take cd__law_take ct__law_take : Value}
    (a__law_take : PySem.W.nsIn K mainGlobals "_law_take" = some (some (.ref f__law_take)))
    (l__law_take : K.lookup f__law_take = some ⟨oc__law_take, od__law_take, .func (PySem.W.fnOf "_law_take" "_law_take" (defArgs s__law_take) (defBody s__law_take)
      (defScope s__law_take) .none kV__law_take dc__law_take pm__law_take an__law_take cd__law_take ct__law_take), sl__law_take⟩)
    (c__law_take : PySem.W.codeIn K cd__law_take "_law_take" = true) (k__law_take : PySem.W.keepIn K (.ref f__law_take) = true)
    {f__law_of : Addr} {od__law_of an__law_of : Option Addr} {sl__law_of : Array (Option Value)} {oc__law_of kV__law_of dc__law_of pm__law_of cd__law_of ct__law_of : Value}
    (a__law_of : PySem.W.nsIn K mainGlobals "_law_of" = some (some (.ref f__law_of)))
    (l__law_of : K.lookup f__law_of = some ⟨oc__law_of, od__law_of, .func (PySem.W.fnOf "_law_of" "_law_of" (defArgs s__law_of) (defBody s__law_of)
      (defScope s__law_of) .none kV__law_of dc__law_of pm__law_of an__law_of cd__law_of ct__law_of), sl__law_of⟩)
    (c__law_of : PySem.W.codeIn K cd__law_of "_law_of" = true) (k__law_of : PySem.W.keepIn K (.ref f__law_of) = true)
    {f__law_keys : Addr} {od__law_keys an__law_keys : Option Addr} {sl__law_keys : Array (Option Value)} {oc__law_keys kV__law_keys dc__law_keys pm__law_keys cd__law_keys ct__law_keys : Value}
    (a__law_keys : PySem.W.nsIn K mainGlobals "_law_keys" = some (some (.ref f__law_keys)))
    (l__law_keys : K.lookup f__law_keys = some ⟨oc__law_keys, od__law_keys, .func (PySem.W.fnOf "_law_keys" "_law_keys" (defArgs s__law_keys) (defBody s__law_keys)
      (defScope s__law_keys) .none kV__law_keys dc__law_keys pm__law_keys an__law_keys cd__law_keys ct__law_keys), sl__law_keys⟩)
    (c__law_keys : PySem.W.codeIn K cd__law_keys "_law_keys" = true) (k__law_keys : PySem.W.keepIn K (.ref f__law_keys) = true)
    {f__law_nested : Addr} {od__law_nested an__law_nested : Option Addr} {sl__law_nested : Array (Option Value)} {oc__law_nested kV__law_nested dc__law_nested pm__law_nested cd__law_nested ct__law_nested : Value}
    (a__law_nested : PySem.W.nsIn K mainGlobals "_law_nested" = some (some (.ref f__law_nested)))
    (l__law_nested : K.lookup f__law_nested = some ⟨oc__law_nested, od__law_nested, .func (PySem.W.fnOf "_law_nested" "_law_nested" (defArgs s__law_nested) (defBody s__law_nested)
      (defScope s__law_nested) .none kV__law_nested dc__law_nested pm__law_nested an__law_nested cd__law_nested ct__law_nested), sl__law_nested⟩)
    (c__law_nested : PySem.W.codeIn K cd__law_nested "_law_nested" = true) (k__law_nested : PySem.W.keepIn K (.ref f__law_nested) = true)
    {f__law_parents : Addr} {od__law_parents an__law_parents : Option Addr} {sl__law_parents : Array (Option Value)} {oc__law_parents kV__law_parents dc__law_parents pm__law_parents cd__law_parents ct__law_parents : Value}
    (a__law_parents : PySem.W.nsIn K mainGlobals "_law_parents" = some (some (.ref f__law_parents)))
    (l__law_parents : K.lookup f__law_parents = some ⟨oc__law_parents, od__law_parents, .func (PySem.W.fnOf "_law_parents" "_law_parents" (defArgs s__law_parents) (defBody s__law_parents)
      (defScope s__law_parents) .none kV__law_parents dc__law_parents pm__law_parents an__law_parents cd__law_parents ct__law_parents), sl__law_parents⟩)
    (c__law_parents : PySem.W.codeIn K cd__law_parents "_law_parents" = true) (k__law_parents : PySem.W.keepIn K (.ref f__law_parents) = true)
    {f__law_grown : Addr} {od__law_grown an__law_grown : Option Addr} {sl__law_grown : Array (Option Value)} {oc__law_grown kV__law_grown dc__law_grown pm__law_grown cd__law_grown ct__law_grown : Value}
    (a__law_grown : PySem.W.nsIn K mainGlobals "_law_grown" = some (some (.ref f__law_grown)))
    (l__law_grown : K.lookup f__law_grown = some ⟨oc__law_grown, od__law_grown, .func (PySem.W.fnOf "_law_grown" "_law_grown" (defArgs s__law_grown) (defBody s__law_grown)
      (defScope s__law_grown) .none kV__law_grown dc__law_grown pm__law_grown an__law_grown cd__law_grown ct__law_grown), sl__law_grown⟩)
    (c__law_grown : PySem.W.codeIn K cd__law_grown "_law_grown" = true) (k__law_grown : PySem.W.keepIn K (.ref f__law_grown) = true)
    {f__law_inside : Addr} {od__law_inside an__law_inside : Option Addr} {sl__law_inside : Array (Option Value)} {oc__law_inside kV__law_inside dc__law_inside pm__law_inside cd__law_inside ct__law_inside : Value}
    (a__law_inside : PySem.W.nsIn K mainGlobals "_law_inside" = some (some (.ref f__law_inside)))
    (l__law_inside : K.lookup f__law_inside = some ⟨oc__law_inside, od__law_inside, .func (PySem.W.fnOf "_law_inside" "_law_inside" (defArgs s__law_inside) (defBody s__law_inside)
      (defScope s__law_inside) .none kV__law_inside dc__law_inside pm__law_inside an__law_inside cd__law_inside ct__law_inside), sl__law_inside⟩)
    (c__law_inside : PySem.W.codeIn K cd__law_inside "_law_inside" = true) (k__law_inside : PySem.W.keepIn K (.ref f__law_inside) = true)
    {f__law_step : Addr} {od__law_step an__law_step : Option Addr} {sl__law_step : Array (Option Value)} {oc__law_step kV__law_step dc__law_step pm__law_step cd__law_step ct__law_step : Value}
    (a__law_step : PySem.W.nsIn K mainGlobals "_law_step" = some (some (.ref f__law_step)))
    (l__law_step : K.lookup f__law_step = some ⟨oc__law_step, od__law_step, .func (PySem.W.fnOf "_law_step" "_law_step" (defArgs s__law_step) (defBody s__law_step)
      (defScope s__law_step) .none kV__law_step dc__law_step pm__law_step an__law_step cd__law_step ct__law_step), sl__law_step⟩)
    (c__law_step : PySem.W.codeIn K cd__law_step "_law_step" = true) (k__law_step : PySem.W.keepIn K (.ref f__law_step) = true)
    {f__law_deed : Addr} {od__law_deed an__law_deed : Option Addr} {sl__law_deed : Array (Option Value)} {oc__law_deed kV__law_deed dc__law_deed pm__law_deed cd__law_deed ct__law_deed : Value}
    (a__law_deed : PySem.W.nsIn K mainGlobals "_law_deed" = some (some (.ref f__law_deed)))
    (l__law_deed : K.lookup f__law_deed = some ⟨oc__law_deed, od__law_deed, .func (PySem.W.fnOf "_law_deed" "_law_deed" (defArgs s__law_deed) (defBody s__law_deed)
      (defScope s__law_deed) .none kV__law_deed dc__law_deed pm__law_deed an__law_deed cd__law_deed ct__law_deed), sl__law_deed⟩)
    (c__law_deed : PySem.W.codeIn K cd__law_deed "_law_deed" = true) (k__law_deed : PySem.W.keepIn K (.ref f__law_deed) = true)
    {f__law_right : Addr} {od__law_right an__law_right : Option Addr} {sl__law_right : Array (Option Value)} {oc__law_right kV__law_right dc__law_right pm__law_right cd__law_right ct__law_right : Value}
    (a__law_right : PySem.W.nsIn K mainGlobals "_law_right" = some (some (.ref f__law_right)))
    (l__law_right : K.lookup f__law_right = some ⟨oc__law_right, od__law_right, .func (PySem.W.fnOf "_law_right" "_law_right" (defArgs s__law_right) (defBody s__law_right)
      (defScope s__law_right) .none kV__law_right dc__law_right pm__law_right an__law_right cd__law_right ct__law_right), sl__law_right⟩)
    (c__law_right : PySem.W.codeIn K cd__law_right "_law_right" = true) (k__law_right : PySem.W.keepIn K (.ref f__law_right) = true)
    {f_law : Addr} {od_law an_law : Option Addr} {sl_law : Array (Option Value)} {oc_law kV_law dc_law pm_law cd_law ct_law : Value}
    (a_law : PySem.W.nsIn K mainGlobals "law" = some (some (.ref f_law)))
    (l_law : K.lookup f_law = some ⟨oc_law, od_law, .func (PySem.W.fnOf "law" "law" (defArgs s_law) (defBody s_law)
      (defScope s_law) .none kV_law dc_law pm_law an_law cd_law ct_law), sl_law⟩)
    (c_law : PySem.W.codeIn K cd_law "law" = true) (k_law : PySem.W.keepIn K (.ref f_law) = true)
    (z_len : PySem.W.nsIn K mainGlobals "len" = some none)
    (z_abs : PySem.W.nsIn K mainGlobals "abs" = some none)
    (z_int : PySem.W.nsIn K mainGlobals "int" = some none)
    (z_range : PySem.W.nsIn K mainGlobals "range" = some none)
    (z_enumerate : PySem.W.nsIn K mainGlobals "enumerate" = some none)
    (z_tuple : PySem.W.nsIn K mainGlobals "tuple" = some none)
    (z_str : PySem.W.nsIn K mainGlobals "str" = some none)
    (z_isinstance : PySem.W.nsIn K mainGlobals "isinstance" = some none)
    (z_repr : PySem.W.nsIn K mainGlobals "repr" = some none)
    (z_all : PySem.W.nsIn K mainGlobals "all" = some none)
    (z_min : PySem.W.nsIn K mainGlobals "min" = some none)
    (z_max : PySem.W.nsIn K mainGlobals "max" = some none)
    (z_dict : PySem.W.nsIn K mainGlobals "dict" = some none)
    (z_list : PySem.W.nsIn K mainGlobals "list" = some none)
    (z_reversed : PySem.W.nsIn K mainGlobals "reversed" = some none)
    {t_LETTERS : Tok} (v_LETTERS : PySem.W.nsIn K mainGlobals "LETTERS" = some (some (.str abc t_LETTERS)))
    {t_MOST_LETTERS : Tok} (v_MOST_LETTERS : PySem.W.nsIn K mainGlobals "MOST_LETTERS" = some (some (.int 8 t_MOST_LETTERS)))
    {t_MOST_OPERATIONS : Tok} (v_MOST_OPERATIONS : PySem.W.nsIn K mainGlobals "MOST_OPERATIONS" = some (some (.int 400 t_MOST_OPERATIONS)))
    : ∃ fd : FuncData, (∀ (s : Shared) (v : Value), BindsTo s fd ⟨[v], []⟩ [("_law_script", v)]) ∧
      ∀ base : Heap, K.In base → base.Ns mainGlobals mg → Fg P w K mg base 24 fa fd ["_law_script"] (sp_law K) := by
  have e := hfa.symm.trans (PySem.W.mg_of X G a_law)
  cases e
  have F_is_key := fun_mk (st := s_is_key) l_is_key c_is_key k_is_key
  have g_is_key := PySem.W.mg_of X G a_is_key
  have b_is_key := F_is_key.binds (ps := ["value"]) fun _ _ _ _ _ _ us hl => match us, hl with | [_], _ => rfl
  have F_subtree := fun_mk (st := s_subtree) l_subtree c_subtree k_subtree
  have g_subtree := PySem.W.mg_of X G a_subtree
  have b_subtree := F_subtree.binds (ps := ["tree", "key"]) fun _ _ _ _ _ _ us hl => match us, hl with | [_, _], _ => rfl
  have F_path_of := fun_mk (st := s_path_of) l_path_of c_path_of k_path_of
  have g_path_of := PySem.W.mg_of X G a_path_of
  have b_path_of := F_path_of.binds (ps := ["tree", "key"]) fun _ _ _ _ _ _ us hl => match us, hl with | [_, _], _ => rfl
  have F_walk := fun_mk (st := s_walk) l_walk c_walk k_walk
  have g_walk := PySem.W.mg_of X G a_walk
  have b_walk := F_walk.binds (ps := ["tree"]) fun _ _ _ _ _ _ us hl => match us, hl with | [_], _ => rfl
  have F_parents_of := fun_mk (st := s_parents_of) l_parents_of c_parents_of k_parents_of
  have g_parents_of := PySem.W.mg_of X G a_parents_of
  have b_parents_of := F_parents_of.binds (ps := ["tree"]) fun _ _ _ _ _ _ us hl => match us, hl with | [_], _ => rfl
  have F_are_operations := fun_mk (st := s_are_operations) l_are_operations c_are_operations k_are_operations
  have g_are_operations := PySem.W.mg_of X G a_are_operations
  have b_are_operations := F_are_operations.binds (ps := ["value"]) fun _ _ _ _ _ _ us hl => match us, hl with | [_], _ => rfl
  have F_is_operation := fun_mk (st := s_is_operation) l_is_operation c_is_operation k_is_operation
  have g_is_operation := PySem.W.mg_of X G a_is_operation
  have b_is_operation := F_is_operation.binds (ps := ["value"]) fun _ _ _ _ _ _ us hl => match us, hl with | [_], _ => rfl
  have F_run := fun_mk (st := s_run) l_run c_run k_run
  have g_run := PySem.W.mg_of X G a_run
  have b_run := F_run.binds (ps := ["tree", "operations"]) fun _ _ _ _ _ _ us hl => match us, hl with | [_, _], _ => rfl
  have F_moments := fun_mk (st := s_moments) l_moments c_moments k_moments
  have g_moments := PySem.W.mg_of X G a_moments
  have b_moments := F_moments.binds (ps := ["tree", "operations"]) fun _ _ _ _ _ _ us hl => match us, hl with | [_, _], _ => rfl
  have F_is_possible := fun_mk (st := s_is_possible) l_is_possible c_is_possible k_is_possible
  have g_is_possible := PySem.W.mg_of X G a_is_possible
  have b_is_possible := F_is_possible.binds (ps := ["tree", "operation"]) fun _ _ _ _ _ _ us hl => match us, hl with | [_, _], _ => rfl
  have F_can_create := fun_mk (st := s_can_create) l_can_create c_can_create k_can_create
  have g_can_create := PySem.W.mg_of X G a_can_create
  have b_can_create := F_can_create.binds (ps := ["tree", "operation"]) fun _ _ _ _ _ _ us hl => match us, hl with | [_, _], _ => rfl
  have F_can_move := fun_mk (st := s_can_move) l_can_move c_can_move k_can_move
  have g_can_move := PySem.W.mg_of X G a_can_move
  have b_can_move := F_can_move.binds (ps := ["tree", "operation"]) fun _ _ _ _ _ _ us hl => match us, hl with | [_, _], _ => rfl
  have F_is_below_root := fun_mk (st := s_is_below_root) l_is_below_root c_is_below_root k_is_below_root
  have g_is_below_root := PySem.W.mg_of X G a_is_below_root
  have b_is_below_root := F_is_below_root.binds (ps := ["parents", "key"]) fun _ _ _ _ _ _ us hl => match us, hl with | [_, _], _ => rfl
  have F_is_place := fun_mk (st := s_is_place) l_is_place c_is_place k_is_place
  have g_is_place := PySem.W.mg_of X G a_is_place
  have b_is_place := F_is_place.binds (ps := ["parents", "parent", "before"]) fun _ _ _ _ _ _ us hl => match us, hl with | [_, _, _], _ => rfl
  have F_after := fun_mk (st := s_after) l_after c_after k_after
  have g_after := PySem.W.mg_of X G a_after
  have b_after := F_after.binds (ps := ["tree", "operation"]) fun _ _ _ _ _ _ us hl => match us, hl with | [_, _], _ => rfl
  have F_put_in := fun_mk (st := s_put_in) l_put_in c_put_in k_put_in
  have g_put_in := PySem.W.mg_of X G a_put_in
  have b_put_in := F_put_in.binds (ps := ["tree", "item", "parent", "before"]) fun _ _ _ _ _ _ us hl => match us, hl with | [_, _, _, _], _ => rfl
  have F_take_out := fun_mk (st := s_take_out) l_take_out c_take_out k_take_out
  have g_take_out := PySem.W.mg_of X G a_take_out
  have b_take_out := F_take_out.binds (ps := ["tree", "key"]) fun _ _ _ _ _ _ us hl => match us, hl with | [_, _], _ => rfl
  have F_with_children := fun_mk (st := s_with_children) l_with_children c_with_children k_with_children
  have g_with_children := PySem.W.mg_of X G a_with_children
  have b_with_children := F_with_children.binds (ps := ["tree", "key", "children"]) fun _ _ _ _ _ _ us hl => match us, hl with | [_, _, _], _ => rfl
  have F__law_hand := fun_mk (st := s__law_hand) l__law_hand c__law_hand k__law_hand
  have g__law_hand := PySem.W.mg_of X G a__law_hand
  have b__law_hand := F__law_hand.binds (ps := ["_law_script", "_law_k"]) fun _ _ _ _ _ _ us hl => match us, hl with | [_, _], _ => rfl
  have F__law_take := fun_mk (st := s__law_take) l__law_take c__law_take k__law_take
  have g__law_take := PySem.W.mg_of X G a__law_take
  have b__law_take := F__law_take.binds (ps := ["_law_hand_here", "_law_many"]) fun _ _ _ _ _ _ us hl => match us, hl with | [_, _], _ => rfl
  have F__law_of := fun_mk (st := s__law_of) l__law_of c__law_of k__law_of
  have g__law_of := PySem.W.mg_of X G a__law_of
  have b__law_of := F__law_of.binds (ps := ["_law_hand_here", "_law_items"]) fun _ _ _ _ _ _ us hl => match us, hl with | [_, _], _ => rfl
  have F__law_keys := fun_mk (st := s__law_keys) l__law_keys c__law_keys k__law_keys
  have g__law_keys := PySem.W.mg_of X G a__law_keys
  have b__law_keys := F__law_keys.binds (ps := ["_law_hand_here", "_law_many"]) fun _ _ _ _ _ _ us hl => match us, hl with | [_, _], _ => rfl
  have F__law_nested := fun_mk (st := s__law_nested) l__law_nested c__law_nested k__law_nested
  have g__law_nested := PySem.W.mg_of X G a__law_nested
  have b__law_nested := F__law_nested.binds (ps := ["_law_lists", "_law_label"]) fun _ _ _ _ _ _ us hl => match us, hl with | [_, _], _ => rfl
  have F__law_parents := fun_mk (st := s__law_parents) l__law_parents c__law_parents k__law_parents
  have g__law_parents := PySem.W.mg_of X G a__law_parents
  have b__law_parents := F__law_parents.binds (ps := ["_law_lists"]) fun _ _ _ _ _ _ us hl => match us, hl with | [_], _ => rfl
  have F__law_grown := fun_mk (st := s__law_grown) l__law_grown c__law_grown k__law_grown
  have g__law_grown := PySem.W.mg_of X G a__law_grown
  have b__law_grown := F__law_grown.binds (ps := ["_law_hand_here", "_law_names", "_law_deep"]) fun _ _ _ _ _ _ us hl => match us, hl with | [_, _, _], _ => rfl
  have F__law_inside := fun_mk (st := s__law_inside) l__law_inside c__law_inside k__law_inside
  have g__law_inside := PySem.W.mg_of X G a__law_inside
  have b__law_inside := F__law_inside.binds (ps := ["_law_lists", "_law_name"]) fun _ _ _ _ _ _ us hl => match us, hl with | [_, _], _ => rfl
  have F__law_step := fun_mk (st := s__law_step) l__law_step c__law_step k__law_step
  have g__law_step := PySem.W.mg_of X G a__law_step
  have b__law_step := F__law_step.binds (ps := ["_law_lists", "_law_root", "_law_deed_here"]) fun _ _ _ _ _ _ us hl => match us, hl with | [_, _, _], _ => rfl
  have F__law_deed := fun_mk (st := s__law_deed) l__law_deed c__law_deed k__law_deed
  have g__law_deed := PySem.W.mg_of X G a__law_deed
  have b__law_deed := F__law_deed.binds (ps := ["_law_hand_here", "_law_lists", "_law_root", "_law_fresh"]) fun _ _ _ _ _ _ us hl => match us, hl with | [_, _, _, _], _ => rfl
  have F__law_right := fun_mk (st := s__law_right) l__law_right c__law_right k__law_right
  have g__law_right := PySem.W.mg_of X G a__law_right
  have b__law_right := F__law_right.binds (ps := ["_law_hand_here"]) fun _ _ _ _ _ _ us hl => match us, hl with | [_], _ => rfl
  have F_law := fun_mk (st := s_law) l_law c_law k_law
  have g_law := PySem.W.mg_of X G a_law
  have z_len' := PySem.W.mg_none_of X G z_len
  have z_abs' := PySem.W.mg_none_of X G z_abs
  have z_int' := PySem.W.mg_none_of X G z_int
  have z_range' := PySem.W.mg_none_of X G z_range
  have z_enumerate' := PySem.W.mg_none_of X G z_enumerate
  have z_tuple' := PySem.W.mg_none_of X G z_tuple
  have z_str' := PySem.W.mg_none_of X G z_str
  have z_isinstance' := PySem.W.mg_none_of X G z_isinstance
  have z_repr' := PySem.W.mg_none_of X G z_repr
  have z_all' := PySem.W.mg_none_of X G z_all
  have z_min' := PySem.W.mg_none_of X G z_min
  have z_max' := PySem.W.mg_none_of X G z_max
  have z_dict' := PySem.W.mg_none_of X G z_dict
  have z_list' := PySem.W.mg_none_of X G z_list
  have z_reversed' := PySem.W.mg_none_of X G z_reversed
  have g_LETTERS := PySem.W.mg_of X G v_LETTERS
  have g_MOST_LETTERS := PySem.W.mg_of X G v_MOST_LETTERS
  have g_MOST_OPERATIONS := PySem.W.mg_of X G v_MOST_OPERATIONS
  refine ⟨PySem.W.fnOf "law" "law" (defArgs s_law) (defBody s_law) (defScope s_law) .none kV_law dc_law pm_law an_law cd_law ct_law,
    fun s v => .of_eq rfl, fun base _ _ => ?_⟩
  have O_walk := ok_walk (P := P) (w := w) (mg := mg) (base := base) (k := 0) F_walk 
  have C_walk : Cal P w K mg base CX0 1 "walk" ["tree"] (sp_walk K) := ⟨_, _, O_walk, g_walk, k_walk, b_walk⟩
  have O_subtree := ok_subtree (P := P) (w := w) (mg := mg) (base := base) (k := 0) F_subtree C_walk
  have C_subtree : Cal P w K mg base CX0 2 "subtree" ["tree", "key"] (sp_subtree K) := ⟨_, _, O_subtree, g_subtree, k_subtree, b_subtree⟩
  have O_parents_of := ok_parents_of (P := P) (w := w) (mg := mg) (base := base) (k := 0) F_parents_of C_walk
  have C_parents_of : Cal P w K mg base CX0 2 "parents_of" ["tree"] (sp_parents_of K) := ⟨_, _, O_parents_of, g_parents_of, k_parents_of, b_parents_of⟩
  have O_path_of := ok_path_of (P := P) (w := w) (mg := mg) (base := base) (k := 0) F_path_of C_parents_of z_tuple' z_str' z_isinstance'
  have C_path_of : Cal P w K mg base CX0 3 "path_of" ["tree", "key"] (sp_path_of K) := ⟨_, _, O_path_of, g_path_of, k_path_of, b_path_of⟩
  have O_is_below_root := ok_is_below_root (P := P) (w := w) (mg := mg) (base := base) (k := 0) F_is_below_root 
  have C_is_below_root : Cal P w K mg base CX0 1 "is_below_root" ["parents", "key"] sp_is_below_root := ⟨_, _, O_is_below_root, g_is_below_root, k_is_below_root, b_is_below_root⟩
  have O_is_place := ok_is_place (P := P) (w := w) (mg := mg) (base := base) (k := 0) F_is_place 
  have C_is_place : Cal P w K mg base CX0 1 "is_place" ["parents", "parent", "before"] sp_is_place := ⟨_, _, O_is_place, g_is_place, k_is_place, b_is_place⟩
  have O_can_create := ok_can_create (P := P) (w := w) (mg := mg) (base := base) (k := 0) F_can_create C_parents_of C_is_place
  have C_can_create : Cal P w K mg base CX0 3 "can_create" ["tree", "operation"] (sp_can_create K) := ⟨_, _, O_can_create, g_can_create, k_can_create, b_can_create⟩
  have O_can_move := ok_can_move (P := P) (w := w) (mg := mg) (base := base) (k := 0) F_can_move C_parents_of C_is_place C_is_below_root C_path_of
  have C_can_move : Cal P w K mg base CX0 4 "can_move" ["tree", "operation"] (sp_can_move K) := ⟨_, _, O_can_move, g_can_move, k_can_move, b_can_move⟩
  have O_is_possible := ok_is_possible (P := P) (w := w) (mg := mg) (base := base) (k := 0) F_is_possible C_parents_of C_can_create C_can_move C_is_below_root
  have C_is_possible : Cal P w K mg base CX0 5 "is_possible" ["tree", "operation"] (sp_is_possible K) := ⟨_, _, O_is_possible, g_is_possible, k_is_possible, b_is_possible⟩
  have O_with_children := ok_with_children (P := P) (w := w) (mg := mg) (base := base) (k := 0) F_with_children C_walk C_path_of z_reversed' z_tuple'
  have C_with_children : Cal P w K mg base CX0 4 "with_children" ["tree", "key", "children"] (sp_with_children K) := ⟨_, _, O_with_children, g_with_children, k_with_children, b_with_children⟩
  have O_put_in := ok_put_in (P := P) (w := w) (mg := mg) (base := base) (k := 0) F_put_in C_subtree C_with_children z_len'
  have C_put_in : Cal P w K mg base CX0 5 "put_in" ["tree", "item", "parent", "before"] (sp_put_in K) := ⟨_, _, O_put_in, g_put_in, k_put_in, b_put_in⟩
  have O_take_out := ok_take_out (P := P) (w := w) (mg := mg) (base := base) (k := 0) F_take_out C_subtree C_parents_of C_with_children z_tuple'
  have C_take_out : Cal P w K mg base CX0 5 "take_out" ["tree", "key"] (sp_take_out K) := ⟨_, _, O_take_out, g_take_out, k_take_out, b_take_out⟩
  have O_after := ok_after (P := P) (w := w) (mg := mg) (base := base) (k := 0) F_after C_subtree C_put_in C_take_out
  have C_after : Cal P w K mg base CX0 6 "after" ["tree", "operation"] (sp_after K) := ⟨_, _, O_after, g_after, k_after, b_after⟩
  have O_is_key := ok_is_key (P := P) (w := w) (mg := mg) (base := base) (k := 0) F_is_key z_isinstance' z_str' z_len' z_all' g_LETTERS g_MOST_LETTERS
  have C_is_key : Cal P w K mg base CX0 1 "is_key" ["value"] (sp_is_key K) := ⟨_, _, O_is_key, g_is_key, k_is_key, b_is_key⟩
  have O_is_operation := ok_is_operation (P := P) (w := w) (mg := mg) (base := base) (k := 0) F_is_operation C_is_key z_isinstance' z_tuple' z_len'
  have C_is_operation : Cal P w K mg base CX0 2 "is_operation" ["value"] (sp_is_operation K) := ⟨_, _, O_is_operation, g_is_operation, k_is_operation, b_is_operation⟩
  have O_are_operations := ok_are_operations (P := P) (w := w) (mg := mg) (base := base) (k := 0) F_are_operations C_is_operation z_isinstance' z_tuple' z_len' z_all' g_MOST_OPERATIONS
  have C_are_operations : Cal P w K mg base CX0 3 "are_operations" ["value"] (sp_are_operations K) := ⟨_, _, O_are_operations, g_are_operations, k_are_operations, b_are_operations⟩
  have O_moments := ok_moments (P := P) (w := w) (mg := mg) (base := base) (k := 0) F_moments C_are_operations C_is_possible C_after z_enumerate' z_tuple'
  have C_moments : Cal P w K mg base CX0 7 "moments" ["tree", "operations"] (sp_moments K) := ⟨_, _, O_moments, g_moments, k_moments, b_moments⟩
  have O_run := ok_run (P := P) (w := w) (mg := mg) (base := base) (k := 0) F_run C_moments
  have C_run : Cal P w K mg base CX0 8 "run" ["tree", "operations"] (sp_run K) := ⟨_, _, O_run, g_run, k_run, b_run⟩
  have D_moments : CalK P w K mg base CX0 7 "moments" ["tree", "operations"] ["operations", "tree"] gSwap (sp_moments K) := ⟨_, _, _, O_moments, g_moments, k_moments, kb2 F_moments fun _ _ _ _ _ _ _ _ => rfl⟩
  have D_run : CalK P w K mg base CX0 8 "run" ["tree", "operations"] ["operations", "tree"] gSwap (sp_run K) := ⟨_, _, _, O_run, g_run, k_run, kb2 F_run fun _ _ _ _ _ _ _ _ => rfl⟩
  have O__law_hand := ok__law_hand (P := P) (w := w) (mg := mg) (base := base) (k := 0) F__law_hand z_len' z_abs' z_int'
  have C__law_hand : Cal P w K mg base CX0 1 "_law_hand" ["_law_script", "_law_k"] (sp__law_hand K) := ⟨_, _, O__law_hand, g__law_hand, k__law_hand, b__law_hand⟩
  have O__law_take := ok__law_take (P := P) (w := w) (mg := mg) (base := base) (k := 0) F__law_take 
  have C__law_take : Cal P w K mg base CX0 1 "_law_take" ["_law_hand_here", "_law_many"] sp__law_take := ⟨_, _, O__law_take, g__law_take, k__law_take, b__law_take⟩
  have O__law_of := ok__law_of (P := P) (w := w) (mg := mg) (base := base) (k := 0) F__law_of C__law_take z_len'
  have C__law_of : Cal P w K mg base CX0 2 "_law_of" ["_law_hand_here", "_law_items"] (sp__law_of K) := ⟨_, _, O__law_of, g__law_of, k__law_of, b__law_of⟩
  have O__law_keys := ok__law_keys (P := P) (w := w) (mg := mg) (base := base) (k := 0) F__law_keys C__law_take C__law_of z_range'
  have C__law_keys : Cal P w K mg base CX0 3 "_law_keys" ["_law_hand_here", "_law_many"] sp__law_keys := ⟨_, _, O__law_keys, g__law_keys, k__law_keys, b__law_keys⟩
  have O__law_nested := ok__law_nested (P := P) (w := w) (mg := mg) (base := base) F__law_nested g__law_nested k__law_nested b__law_nested z_tuple' 20
  have C__law_nested : Cal P w K mg base CX0 21 "_law_nested" ["_law_lists", "_law_label"] (sp__law_nested K 20) := ⟨_, _, O__law_nested, g__law_nested, k__law_nested, b__law_nested⟩
  have O__law_parents := ok__law_parents (P := P) (w := w) (mg := mg) (base := base) (k := 0) F__law_parents 
  have C__law_parents : Cal P w K mg base CX0 1 "_law_parents" ["_law_lists"] sp__law_parents := ⟨_, _, O__law_parents, g__law_parents, k__law_parents, b__law_parents⟩
  have O__law_grown := ok__law_grown (P := P) (w := w) (mg := mg) (base := base) (k := 0) F__law_grown C__law_take C__law_of z_len' z_enumerate'
  have C__law_grown : Cal P w K mg base CX0 3 "_law_grown" ["_law_hand_here", "_law_names", "_law_deep"] (sp__law_grown K) := ⟨_, _, O__law_grown, g__law_grown, k__law_grown, b__law_grown⟩
  have O__law_inside := ok__law_inside (P := P) (w := w) (mg := mg) (base := base) F__law_inside g__law_inside k__law_inside b__law_inside 20
  have C__law_inside : Cal P w K mg base CX0 21 "_law_inside" ["_law_lists", "_law_name"] (sp__law_inside K 20) := ⟨_, _, O__law_inside, g__law_inside, k__law_inside, b__law_inside⟩
  have O__law_step := ok__law_step (P := P) (w := w) (mg := mg) (base := base) (k := 0) F__law_step C__law_parents C__law_inside z_dict' z_list' z_len'
  have C__law_step : Cal P w K mg base CX0 22 "_law_step" ["_law_lists", "_law_root", "_law_deed_here"] (sp__law_step K) := ⟨_, _, O__law_step, g__law_step, k__law_step, b__law_step⟩
  have O__law_deed := ok__law_deed (P := P) (w := w) (mg := mg) (base := base) (k := 0) F__law_deed C__law_take C__law_of C__law_parents C__law_inside z_list'
  have C__law_deed : Cal P w K mg base CX0 22 "_law_deed" ["_law_hand_here", "_law_lists", "_law_root", "_law_fresh"] (sp__law_deed K) := ⟨_, _, O__law_deed, g__law_deed, k__law_deed, b__law_deed⟩
  have O__law_right := ok__law_right (P := P) (w := w) (mg := mg) (base := base) (k := 0) F__law_right C__law_take C__law_keys C__law_grown C__law_nested C__law_deed C__law_step C_run D_run C_moments D_moments z_repr' z_tuple' z_range'
  have C__law_right : CalG P w K mg base 23 "_law_right" ["_law_hand_here"] sp__law_right := ⟨_, _, O__law_right, g__law_right, k__law_right, b__law_right⟩
  exact ok_law F_law C__law_hand C__law_right z_all' z_range' z_max' z_min' z_len'
end K5
open PySem PySem.W PyProof.Rows
set_option maxHeartbeats 0 in
theorem PySem.Challenge.cw_keyedmoves_k05_runs_beside_own_lists_holds : PySem.Challenge.rw_keyedmoves_k05_runs_beside_own_lists.Holds := by
  w_on; o_law; k_head; (case hw => w_witness2)
  k_fill
  refine Kg.walk_g (l := PySem.Challenge.rw_keyedmoves_k05_runs_beside_own_lists) (n := 63) (k := 24) (x := "_law_script") (sp := K5.sp_law) rfl (by decide) rfl
    ⟨rfl, by decide, by decide⟩ (fun w h Y => PySem.W.kIn_of Y) ?F (fun _ _ a ns hl _ hS => ⟨a, ns, rfl, hS, hl, fun _ => rfl⟩)
  case F =>
    intro w mg fa h KX G hmg
    refine' K5.all_mk KX G hmg ?a_is_key ?l_is_key ?c_is_key ?k_is_key ?a_subtree ?l_subtree ?c_subtree ?k_subtree ?a_path_of ?l_path_of ?c_path_of ?k_path_of ?a_walk ?l_walk ?c_walk ?k_walk ?a_parents_of ?l_parents_of ?c_parents_of ?k_parents_of ?a_are_operations ?l_are_operations ?c_are_operations ?k_are_operations ?a_is_operation ?l_is_operation ?c_is_operation ?k_is_operation ?a_run ?l_run ?c_run ?k_run ?a_moments ?l_moments ?c_moments ?k_moments ?a_is_possible ?l_is_possible ?c_is_possible ?k_is_possible ?a_can_create ?l_can_create ?c_can_create ?k_can_create ?a_can_move ?l_can_move ?c_can_move ?k_can_move ?a_is_below_root ?l_is_below_root ?c_is_below_root ?k_is_below_root ?a_is_place ?l_is_place ?c_is_place ?k_is_place ?a_after ?l_after ?c_after ?k_after ?a_put_in ?l_put_in ?c_put_in ?k_put_in ?a_take_out ?l_take_out ?c_take_out ?k_take_out ?a_with_children ?l_with_children ?c_with_children ?k_with_children ?a__law_hand ?l__law_hand ?c__law_hand ?k__law_hand ?a__law_take ?l__law_take ?c__law_take ?k__law_take ?a__law_of ?l__law_of ?c__law_of ?k__law_of ?a__law_keys ?l__law_keys ?c__law_keys ?k__law_keys ?a__law_nested ?l__law_nested ?c__law_nested ?k__law_nested ?a__law_parents ?l__law_parents ?c__law_parents ?k__law_parents ?a__law_grown ?l__law_grown ?c__law_grown ?k__law_grown ?a__law_inside ?l__law_inside ?c__law_inside ?k__law_inside ?a__law_step ?l__law_step ?c__law_step ?k__law_step ?a__law_deed ?l__law_deed ?c__law_deed ?k__law_deed ?a__law_right ?l__law_right ?c__law_right ?k__law_right ?a_law ?l_law ?c_law ?k_law ?z_len ?z_abs ?z_int ?z_range ?z_enumerate ?z_tuple ?z_str ?z_isinstance ?z_repr ?z_all ?z_min ?z_max ?z_dict ?z_list ?z_reversed ?v_LETTERS ?v_MOST_LETTERS ?v_MOST_OPERATIONS
    (case a_is_key => k_is); (case l_is_key => k_is); (case c_is_key => k_is); (case k_is_key => k_is)
    (case a_subtree => k_is); (case l_subtree => k_is); (case c_subtree => k_is); (case k_subtree => k_is)
    (case a_path_of => k_is); (case l_path_of => k_is); (case c_path_of => k_is); (case k_path_of => k_is)
    (case a_walk => k_is); (case l_walk => k_is); (case c_walk => k_is); (case k_walk => k_is)
    (case a_parents_of => k_is); (case l_parents_of => k_is); (case c_parents_of => k_is); (case k_parents_of => k_is)
    (case a_are_operations => k_is); (case l_are_operations => k_is); (case c_are_operations => k_is); (case k_are_operations => k_is)
    (case a_is_operation => k_is); (case l_is_operation => k_is); (case c_is_operation => k_is); (case k_is_operation => k_is)
    (case a_run => k_is); (case l_run => k_is); (case c_run => k_is); (case k_run => k_is)
    (case a_moments => k_is); (case l_moments => k_is); (case c_moments => k_is); (case k_moments => k_is)
    (case a_is_possible => k_is); (case l_is_possible => k_is); (case c_is_possible => k_is); (case k_is_possible => k_is)
    (case a_can_create => k_is); (case l_can_create => k_is); (case c_can_create => k_is); (case k_can_create => k_is)
    (case a_can_move => k_is); (case l_can_move => k_is); (case c_can_move => k_is); (case k_can_move => k_is)
    (case a_is_below_root => k_is); (case l_is_below_root => k_is); (case c_is_below_root => k_is); (case k_is_below_root => k_is)
    (case a_is_place => k_is); (case l_is_place => k_is); (case c_is_place => k_is); (case k_is_place => k_is)
    (case a_after => k_is); (case l_after => k_is); (case c_after => k_is); (case k_after => k_is)
    (case a_put_in => k_is); (case l_put_in => k_is); (case c_put_in => k_is); (case k_put_in => k_is)
    (case a_take_out => k_is); (case l_take_out => k_is); (case c_take_out => k_is); (case k_take_out => k_is)
    (case a_with_children => k_is); (case l_with_children => k_is); (case c_with_children => k_is); (case k_with_children => k_is)
    (case a__law_hand => k_is); (case l__law_hand => k_is); (case c__law_hand => k_is); (case k__law_hand => k_is)
    (case a__law_take => k_is); (case l__law_take => k_is); (case c__law_take => k_is); (case k__law_take => k_is)
    (case a__law_of => k_is); (case l__law_of => k_is); (case c__law_of => k_is); (case k__law_of => k_is)
    (case a__law_keys => k_is); (case l__law_keys => k_is); (case c__law_keys => k_is); (case k__law_keys => k_is)
    (case a__law_nested => k_is); (case l__law_nested => k_is); (case c__law_nested => k_is); (case k__law_nested => k_is)
    (case a__law_parents => k_is); (case l__law_parents => k_is); (case c__law_parents => k_is); (case k__law_parents => k_is)
    (case a__law_grown => k_is); (case l__law_grown => k_is); (case c__law_grown => k_is); (case k__law_grown => k_is)
    (case a__law_inside => k_is); (case l__law_inside => k_is); (case c__law_inside => k_is); (case k__law_inside => k_is)
    (case a__law_step => k_is); (case l__law_step => k_is); (case c__law_step => k_is); (case k__law_step => k_is)
    (case a__law_deed => k_is); (case l__law_deed => k_is); (case c__law_deed => k_is); (case k__law_deed => k_is)
    (case a__law_right => k_is); (case l__law_right => k_is); (case c__law_right => k_is); (case k__law_right => k_is)
    (case a_law => k_is); (case l_law => k_is); (case c_law => k_is); (case k_law => k_is)
    (case z_len => k_is); (case z_abs => k_is); (case z_int => k_is); (case z_range => k_is)
    (case z_enumerate => k_is); (case z_tuple => k_is); (case z_str => k_is); (case z_isinstance => k_is)
    (case z_repr => k_is); (case z_all => k_is); (case z_min => k_is); (case z_max => k_is)
    (case z_dict => k_is); (case z_list => k_is); (case z_reversed => k_is); (case v_LETTERS => k_is)
    (case v_MOST_LETTERS => k_is); (case v_MOST_OPERATIONS => k_is)
