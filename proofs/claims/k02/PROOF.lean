import PyProof.Rows.All
import Wide.All
import OpenK.AllK
import Wide.FinOn
import HandS.ForMost
import HandS.ForExc
import PyProof.ReprRoads
import HandS.Style
import HandS.TupAny
import HandS.Wide
import HandS.More
import HandS.Conv
import HandS.IsInst
import HandS.Evl
import HandS.Walk
import PySem.Challenge.RW_keyedmoves_k02_places_of_elements
set_option Elab.async false
set_option linter.all false
set_option maxRecDepth 100000
/-! GA: defs that are walked where no repr is under way (Fg), their calls, the law's end. -/
namespace Kg
open PySem PySem.Spec PyProof.Rows L2

/-- nothing is being shown around here -/
abbrev Quiet (A : Around) : Prop := A.guards = some []

/-- as FnOk, but only from callers around which nothing is being shown; nothing is raised -/
structure Fg (P : Program) (w : World) (K : PySem.W.Frag) (mg : Str → Option Value) (base : Heap)
    (k : Nat) (f : Addr) (fd : FuncData) (ps : List Str) (sp : Sp) : Prop where
  arity : ∀ vs H Q E, sp vs H Q E → vs.length = ps.length
  goes : ∀ (A : Around) (out : List Env) (s : Shared) (H : Hp) (args : Args) (us : List Value)
    (vs : List V) (Q : VK) (E : XK), Room k A → Quiet A → Env0 P w K mg base A out s H →
    BindsTo s fd args (ps.zip us) → Vals vs us → sp vs H Q E →
    codeAny (model P w) A (.call (.ref f) args) (CR CX0 out P w H s Q E) s

theorem Fg.of {P : Program} {w : World} {K : PySem.W.Frag} {mg : Str → Option Value} {base : Heap}
    {k : Nat} {f : Addr} {fd : FuncData} {ps : List Str} {sp : Sp}
    (F : FnOk P w K mg base CX0 k f fd ps sp) : Fg P w K mg base k f fd ps sp :=
  ⟨F.len, fun A out s H args us vs Q E hr _ e0 hb hv hs => F.run A out s H args us vs Q E hr e0 hb hv hs⟩

theorem Fg.mono {P : Program} {w : World} {K : PySem.W.Frag} {mg : Str → Option Value} {base : Heap}
    {j k : Nat} {f : Addr} {fd : FuncData} {ps : List Str} {sp : Sp}
    (F : Fg P w K mg base j f fd ps sp) (h : j ≤ k) : Fg P w K mg base k f fd ps sp :=
  ⟨F.arity, fun A out s H args us vs Q E hr hg => F.goes A out s H args us vs Q E (hr.mono h) hg⟩

section
variable {P : Program} {w : World} {K : PySem.W.Frag} {mg : Str → Option Value} {base : Heap}

/-- a def of the text, walked where nothing is being shown -/
theorem fg_ok {x qual : Str} {st : Stmt} {f : Addr} {fd : FuncData} {N ps : List Str} {k : Nat} {sp : Sp}
    (F : Fun K x qual st f fd) (S : FnScope N ps (defScope st))
    (len : ∀ vs H Q E, sp vs H Q E → vs.length = ps.length)
    (body : ∀ (cdv : Value) (A : Around) (out : List Env) (s : Shared) (H : Hp) (vs : List V) (Q : VK) (E : XK),
      Room k (A.deeper (envOfC qual (defScope st) s.heap.objs.size f cdv)) →
      Quiet (A.deeper (envOfC qual (defScope st) s.heap.objs.size f cdv)) → sp vs H Q E →
      ∃ t, PSs (cxOf CX0 P w K mg base N qual (defScope st) f cdv A out s H E).nox (defBody st) t ∧
        t { nx := fun _ H' => Q .non H', rt := Q } (start N vs) H) :
    Fg P w K mg base (k + 1) f fd ps sp := by
  obtain ⟨oc, od, kV, doc, pm, an, cdv, ct, osl, rfl, at_, hcode⟩ := F.ex
  refine ⟨len, ?_⟩
  intro A out s H args us vs Q E room quiet e0 bind rel wish
  have arity := len _ _ _ _ wish
  have inK : K.In s.heap := e0.mod.kin.keeps fun b o z => (e0.bs b o z).1
  have noLim : s.heap.NoLimit := e0.mod.nolimit.keeps fun b o z => (e0.bs b o z).1
  have kinds : ∀ y ∈ ps.zip us, (defScope st).names.lookup y.1 = some .local ∨
      ((defScope st).names.lookup y.1 = some .cell ∧
        ((cellsFrom (s.heap.objs.size + 1) (defScope st).names []).lookup y.1).isSome = true) := by
    rintro ⟨n, v⟩ hy
    rcases S.par n (List.of_mem_zip hy).1 with q | q
    · exact Or.inl q
    · exact Or.inr ⟨q, PySem.W.cellsFrom_some _ _ _ (Or.inl q)⟩
  refine codeAny_call_function room.depth (inK _ _ at_) rfl S.co S.gen rfl
    (PySem.W.codeRec_of inK hcode) (bind _ _ _ _ ?_)
  refine wpAny_newFunctionEnv_cells S.kind kinds ?_
  intro env ee s1 inc
  subst ee
  refine ⟨noLim.keeps inc.toInCall.keep, codeAny_func ?_⟩
  obtain ⟨t, ht, hq⟩ := body cdv A out s H vs Q E (room.deeper _) quiet wish
  have I : Inv (cxOf CX0 P w K mg base N qual (defScope st) f cdv A out s H E) [] (start N vs) H s1 :=
    inv_start S room.hd e0 arity rel inc
  have done : ∀ {s' : Shared} {σ' : L2.St} {H' : Hp} {v : V} {u : Value},
      Inv (cxOf CX0 P w K mg base N qual (defScope st) f cdv A out s H E) [] σ' H' s' →
      RelV v u → Q v H' → CE out P w H s Q u s' :=
    fun {s' σ' H' v u} J rv q => ⟨v, H', J.os, J.bare, J.base, J.hok, rv, q⟩
  refine wpAny_mono (ht.nox.run [] s1 (start N vs) H _ I hq) ?_ (fun e s' z => z)
  intro fl s' z
  cases fl with
  | ret u => obtain ⟨v, σ', H', J, rv, q⟩ := z; exact done J rv q
  | next => obtain ⟨σ', H', J, q⟩ := z; exact done (v := V.non) (u := Value.none) J rfl q
  | brk => obtain ⟨_, _, _, q⟩ := z; exact q.elim
  | cont => obtain ⟨_, _, _, q⟩ := z; exact q.elim
end

section
variable {X : Cx} {k : Nat} {f : Addr} {fd : FuncData} {ps : List Str} {sp : Sp} {dvs : List V} {ds : List Value}
  {x : Str} {p pos : Pos} {e : Expr} {es : List Expr} {t : TA}

theorem fg_run {pins : List (Addr × Obj)} {σ : L2.St} {H : Hp} {s : Shared} {Q : VK} {us : List Value} {vs : List V}
    (F : Fg X.prog X.w X.K X.mg X.base k f fd ps sp) (hr : Room k X.A) (hq : Quiet X.A) (hb : Binds X.K fd ps ds)
    (hd : Vals dvs ds) (I : Inv X pins σ H s) (r : Vals vs us) (h : sp (vs ++ dvs) H Q E0) :
    wpAny (model X.prog X.w) X.A (call (.ref f) us) (EP X pins σ Q) X.xe s := by
  have both : Vals (vs ++ dvs) (us ++ ds) := r.append hd
  have many : (us ++ ds).length = ps.length := by
    rw [← both.length]
    exact F.arity _ _ _ _ h
  refine wpAny_call (codeAny_mono (F.goes X.A X.stack s H ⟨us, []⟩ (us ++ ds) (vs ++ dvs) Q E0 hr hq I.env0
    (hb s us I.kIn many) both h) ?_)
  intro r s' z
  cases r with
  | error e => exact z.elim
  | ok fl =>
    cases fl with
    | ret u => exact I.after z
    | next => exact z.elim
    | brk => exact z.elim
    | cont => exact z.elim

/-- f(e, ..), f such a def -/
theorem pe_callG (F : Fg X.prog X.w X.K X.mg X.base k f fd ps sp) (hr : Room k X.A) (hq : Quiet X.A) (hg : Gl X x)
    (hm : X.mg x = some (.ref f)) (hk : PySem.W.keepIn X.K (.ref f) = true) (hb : Binds X.K fd ps ds)
    (hd : Vals dvs ds) (ha : PA X (e :: es) t) (hdb : (x == ("__debug__" : Str)) = false := by decide)
    (he : starEach (e :: es) X.env = (false, eval e X.env) :: starEach es X.env := by rfl)
    (hpl : (backTo pos (starEach es X.env)).any (·.1) = false := by rfl) :
    PE X (.Call (.Name x p) (e :: es) [] pos) (tCall sp dvs E0 t) := by
  constructor
  intro pins s σ H Q I h
  refine wpAny_Call_Name_kw (ld_glob I hg hm ?_ hdb)
  refine PySem.W.callWith_K (h₀ := X.base) I.ok.mod.kin hk ?_ he hpl
  refine thn (ha.run pos pins s σ H _ I h) ?_
  rintro us s1 ⟨vs, H1, I1, r, q⟩
  exact ⟨I1.kIn, fg_run F hr hq hb hd I1 r q⟩
end

/-! ### repr of data -/
section
variable {X : Cx}
/-- data with empty dicts in it -/
def showOk (d : PyData) : Prop := d.showable = true ∧ d.hasDict = false ∧ d.shown.length ≤ sizeLine ∧ d.depth ≤ 100
def isDisp : PyData → Bool
  | .list _ | .tuple _ => true
  | _ => false
def rRepr (K : PySem.W.Frag) : List V → Hp → VK → Prop := fun vs H Q =>
  ∃ v d, vs = [v] ∧ Dp K H v d ∧ isDisp d = true ∧ showOk d ∧ Q (.str d.shown) H
theorem call_reprD (hq : Quiet X.A) (hu : X.A.units + 150 < cLine) : CallR X (.builtin "repr") (rRepr X.K) := by
  intro pins s σ H xs us Q I r h
  obtain ⟨v, d, rfl, hd, disp, ⟨h1, h2, h3, h4⟩, q⟩ := h
  obtain ⟨u, rfl, ru⟩ := vals1 r
  obtain ⟨as, rd⟩ := Dp.reads I d v u hd ru
  have isref : ∃ a, u = .ref a := by
    cases rd with
    | list _ _ _ _ => exact ⟨_, rfl⟩
    | tuple _ _ _ _ => exact ⟨_, rfl⟩
    | none => cases disp
    | bool _ => cases disp
    | int _ _ => cases disp
    | str _ _ => cases disp
    | dict _ _ _ _ _ => cases disp
  obtain ⟨a, rfl⟩ := isref
  refine repr_of_reads' rd h1 (fun z => by rw [h2] at z; cases z) hq (by omega) (fun _ _ z => z) ?_ h3
  intro h' u tk hk
  refine ⟨.str d.shown, H, ?_, ⟨u, rfl⟩, q⟩
  obtain ⟨hp, g, dr, t, os⟩ := s
  exact I.kept hk
end

/-! ### the law's end -/
section
variable {P : Program} {w : World} {K : PySem.W.Frag} {mg mb : Str → Option Value}
/-- the law's def is called at an abstract heap that tracks the script alone -/
theorem law_at {k : Nat} {fa a : Addr} {fd : FuncData} {x : Str} {sp : Sp} {s₁ : Shared} {vs : List Value} {ns : List Int} {H : Hp}
    (inK : K.In s₁.heap) (gl : s₁.heap.Ns mainGlobals mg) (bl : s₁.heap.Ns builtinsNs mb)
    (bb : ∀ x : Str, x ≠ "__name__" → mb x = bootBuiltins x) (lim : s₁.heap.NoLimit) (gens : s₁.gens = #[])
    (obj : s₁.heap.get? a = some { cls := .type "list", data := .seq vs.toArray }) (room : Room k callerA)
    (F : ∀ base : Heap, K.In base → base.Ns mainGlobals mg → Fg P w K mg base k fa fd [x] sp)
    (bind : ∀ (s : Shared) (u : Value), BindsTo s fd ⟨[u], []⟩ [(x, u)])
    (wish : sp [.ref a] H (fun v _ => v = .bl true) fun _ _ _ => False)
    (only : Only H) (hok : HOk P w H s₁.heap) (one : ∀ b, H b ≠ none → b = a) (free : H a ≠ none → K.lookup a = none) :
    codeAny (model P w) callerA (.call (.ref fa) ⟨[.ref a], []⟩)
      (fun r s' => r = .ok (.ret (.bool true)) ∧ OldK s₁.heap s'.heap ∧ s'.os = s₁.os ∧ AllBare s'.gens) s₁ := by
  have noDict : ∀ {b : Addr} {o : Obj} {es : Array DictEntry} {ep : Nat},
      s₁.heap.get? b = some o → o.data = .dict es ep → H b = none := by
    intro b o es ep e d
    cases q : H b with
    | none => rfl
    | some u =>
      have eb := one b (by rw [q]; exact Option.some_ne_none _)
      subst eb
      rw [obj] at e
      cases e
      cases d
  have names : ∀ {b : Addr} {m : Str → Option Value}, s₁.heap.Ns b m → (hidT s₁.heap H).Ns b m := by
    rintro b m ⟨o, es, ep, e, d, r⟩
    exact ⟨o, es, ep, hidT_get e (noDict e d), d, r⟩
  have inB : K.In (hidT s₁.heap H) := by
    intro b o e
    refine hidT_get (inK b o e) ?_
    cases q : H b with
    | none => rfl
    | some u =>
      have ne : H b ≠ none := by rw [q]; exact Option.some_ne_none _
      have eb := one b ne
      subst eb
      rw [free ne] at e
      cases e
  have mod : Mod K mg (hidT s₁.heap H) := by
    obtain ⟨mc, c1, c2⟩ := lim
    exact ⟨inB, names gl, ⟨mb, names bl, bb⟩, ⟨mc, names c1, c2⟩⟩
  have e0 : Env0 P w K mg (hidT s₁.heap H) callerA [] s₁ H :=
    ⟨rfl, mod, fun b o e => of_hidT e, Nat.le_of_eq (hidT_size _ _), trivial, fun b hb => (List.not_mem_nil hb).elim, hok, .of_eq gens⟩
  refine codeAny_mono ((F _ inB (names gl)).goes callerA [] s₁ H ⟨[.ref a], []⟩ [.ref a] [.ref a] _ _ room rfl e0
    (bind s₁ (.ref a)) (.cons rfl .nil) wish) ?_
  intro r s' z
  cases r with
  | error e => exact z.elim
  | ok fl =>
    cases fl with
    | next => exact z.elim
    | brk => exact z.elim
    | cont => exact z.elim
    | ret u =>
      obtain ⟨v, H', os, bare, un, hok', rv, q⟩ := z
      have qv : v = .bl true := q
      subst qv
      obtain rfl : u = Value.bool true := rv
      refine ⟨rfl, OldK.of_keep ?_, os, bare⟩
      intro b o e
      cases q : H b with
      | none => exact un.keep b o e q (fun y => (List.not_mem_nil y).elim) List.not_mem_nil
      | some u =>
        rcases only b with y | ⟨ob, xs, y⟩
        · rw [q] at y
          cases y
        · obtain ⟨e1, _⟩ := hok b _ y
          obtain ⟨e2, _⟩ := hok' b _ (un.frzs b ob _ y)
          rw [e] at e1
          cases e1
          exact e2

theorem law_g {k : Nat} {fa a : Addr} {fd : FuncData} {x : Str} {sp : Sp} {s₁ : Shared} {vs : List Value} {ns : List Int}
    (inK : K.In s₁.heap) (gl : s₁.heap.Ns mainGlobals mg) (bl : s₁.heap.Ns builtinsNs mb)
    (bb : ∀ x : Str, x ≠ "__name__" → mb x = bootBuiltins x) (lim : s₁.heap.NoLimit) (gens : s₁.gens = #[])
    (obj : s₁.heap.get? a = some { cls := .type "list", data := .seq vs.toArray }) (hints : IntsAre vs ns)
    (few : ns.length ≤ sizeLine) (room : Room k callerA)
    (F : ∀ base : Heap, K.In base → base.Ns mainGlobals mg → Fg P w K mg base k fa fd [x] sp)
    (bind : ∀ (s : Shared) (u : Value), BindsTo s fd ⟨[u], []⟩ [(x, u)])
    (wish : ∀ H : Hp, Only H → SqL K H a (ns.map V.int) → sp [.ref a] H (fun v _ => v = .bl true) fun _ _ _ => False) :
    codeAny (model P w) callerA (.call (.ref fa) ⟨[.ref a], []⟩)
      (fun r s' => r = .ok (.ret (.bool true)) ∧ OldK s₁.heap s'.heap ∧ s'.os = s₁.os ∧ AllBare s'.gens) s₁ := by
  have rv := vals_ints hints
  have many := hints.length
  cases hk : K.lookup a with
  | some o =>
    have e := inK a o hk
    rw [obj] at e
    cases e
    have only : Only (fun _ => none) := fun _ => Or.inl rfl
    refine law_at (ns := ns) (H := fun _ => none) inK gl bl bb lim gens obj room F bind (wish _ only ?_) only
      (fun b u z => nomatch z) (fun b z => absurd rfl z) (fun z => absurd rfl z)
    refine Or.inr ⟨_, vs.toArray, _, hk, rfl, rfl, rfl, ?_, ?_⟩
    · rw [List.size_toArray, many]
      exact few
    · simpa using rv
  | none =>
    let H : Hp := fun b => if b = a then
      some (.frz { cls := .type "list", data := .seq vs.toArray } (.lst (ns.map V.int))) else none
    have at_ : H a = some (.frz { cls := .type "list", data := .seq vs.toArray } (.lst (ns.map V.int))) := if_pos rfl
    have off : ∀ b, b ≠ a → H b = none := fun b n => if_neg n
    have only : Only H := by
      intro b
      by_cases hb : b = a
      · exact Or.inr ⟨_, _, by rw [hb]; exact at_⟩
      · exact Or.inl (off b hb)
    refine law_at (ns := ns) (H := H) inK gl bl bb lim gens obj room F bind (wish H only (Or.inl (Or.inr ⟨_, at_⟩))) only ?_ ?_ (fun _ => hk)
    · intro b u z
      by_cases hb : b = a
      · subst hb
        rw [at_] at z
        cases z
        exact ⟨obj, by rw [List.length_map]; exact few, vs, _, rv, obj⟩
      · rw [off b hb] at z
        cases z
    · intro b z
      by_cases hb : b = a
      · exact hb
      · exact absurd (off b hb) z
end

/-- the goal behind k_head and k_fill, from the law's promise over a written part K -/
theorem walk_g {l : PySem.W.OpenLaw} {n k : Nat} {q : Program} {loose : List Str} {XP : (Str → Option Value) → Heap → Prop}
    {YP : World → Heap → Prop} {d : DefRec} {K : Params → PySem.W.Frag} {sp : PySem.W.Frag → Sp} {x : Str}
    (most : l.most = some n) (few : n ≤ sizeLine) (nodef : d.params.defaults = []) (room : Room k callerA)
    (kin : ∀ (w : World) (h : Heap), YP w h → (K w.params).In h)
    (F : ∀ (w : World) (mg : Str → Option Value) (fa : Addr) (h : Heap), (K w.params).In h → h.Ns mainGlobals mg →
      mg d.name = some (.ref fa) → ∃ fd : FuncData, (∀ (s : Shared) (u : Value), BindsTo s fd ⟨[u], []⟩ [(x, u)]) ∧
        ∀ base : Heap, (K w.params).In base → base.Ns mainGlobals mg →
          Fg l.prog w (K w.params) mg base k fa fd [x] (sp (K w.params)))
    (wish : ∀ (K : PySem.W.Frag) (H : Hp) (a : Addr) (ns : List Int), ns.length ≤ n → Only H →
      SqL K H a (ns.map V.int) → sp K [.ref a] H (fun v _ => v = .bl true) fun _ _ _ => False) :
    PySem.W.WalkO q loose XP YP l.row.toRowW d [] (fun f vs => PySem.call f vs) := by
  refine Att.attach_call most nodef ?_
  intro w s₀ s₁ mg mb fa o pm cd doc a vs ns G Y ho hd hcd hmg hobj hints hlen hg
  obtain ⟨fd, hb, hF⟩ := F w mg fa _ (kin w _ Y) G.T.g hmg
  exact law_g (ns := ns) (kin w _ Y) G.T.g G.T.b G.T.builtins G.T.nolimit hg hobj hints (Nat.le_trans hlen few) room hF hb
    (fun H hO hS => wish _ H a ns hlen hO hS)
end Kg
/-! GB: further rules: t[::-1], xs.extend(t), text * int, a great power, f(a=.., b=..). -/
namespace Kg
open PySem PySem.Spec PyProof.Rows L2

/-! ### t[::-1] of a tuple -/
section
variable {prog : Program} {w : World} {A : Around} {E : Value → Shared → Prop} {s : Shared}
theorem back_applied {sl : Addr} {vl vu vs : Value} {n : Nat} {Q : Int × Int × Nat → Shared → Prop}
    (hs : s.heap.IsSliceOf sl vl vu vs) (pl : IsPart vl none) (pu : IsPart vu none) (ps : IsPart vs (some (-1)))
    (h : Q ((n : Int) - 1, -1, n) s) :
    wpAny (model prog w) A (Builtin.Slice.sliceApplied (.ref sl) (pure (n : Int))) Q E s := by
  obtain ⟨os, hos, hcs, hds⟩ := id hs
  unfold Builtin.Slice.sliceApplied Builtin.Slice.sliceFields
  refine wpAny_bind (wpAny_bind (wpAny_field hos hds (x := vl) rfl ?_))
  refine wpAny_bind (wpAny_field hos hds (x := vu) rfl ?_)
  refine wpAny_bind (wpAny_field hos hds (x := vs) rfl (wpAny_pure ?_))
  refine wpAny_bind (HT.slicePart_ ps ?_)
  show wpAny _ _ (if ((-1 : Int) == 0) = true then _ else _) _ _ s
  rw [if_neg (by decide)]
  refine wpAny_bind (HT.slicePart_ pl (wpAny_bind (HT.slicePart_ pu (wpAny_bind (wpAny_pure ?_)))))
  have places : Builtin.Slice.slicePlaces ((n : Int) - 1) (-1) (-1) = n := by
    unfold Builtin.Slice.slicePlaces
    rw [if_neg (by decide)]
    by_cases z : (n : Int) - 1 > -1
    · rw [if_pos z, show (- -1 : Int) = 1 by decide, Int.ediv_one]
      omega
    · rw [if_neg z]
      omega
  show wpAny _ _ (pure ((n : Int) - 1, (-1 : Int), Builtin.Slice.slicePlaces ((n : Int) - 1) (-1) (-1))) _ _ s
  rw [places]
  exact wpAny_pure h

theorem pick_back (xs : List Value) :
    (List.range xs.toArray.size).filterMap (fun (k : Nat) => xs.toArray[(((xs.toArray.size : Int) - 1) + (k : Int) * (-1)).toNat]?) = xs.reverse := by
  rw [List.size_toArray]
  have e : (List.range xs.length).filterMap (fun (k : Nat) => xs.toArray[(((xs.length : Int) - 1) + (k : Int) * (-1)).toNat]?)
      = (List.range xs.length).filterMap (fun k => xs.reverse[k]?) := by
    have step : ∀ l : List Nat, (∀ k ∈ l, k < xs.length) →
        l.filterMap (fun (k : Nat) => xs.toArray[(((xs.length : Int) - 1) + (k : Int) * (-1)).toNat]?)
          = l.filterMap (fun k => xs.reverse[k]?) := by
      intro l
      induction l with
      | nil => intro _; rfl
      | cons k l ih =>
        intro hl
        have hk := hl k (List.mem_cons_self ..)
        have en : (((xs.length : Int) - 1) + (k : Int) * (-1)).toNat = xs.length - 1 - k := by omega
        rw [List.filterMap_cons, List.filterMap_cons, en, List.getElem?_toArray, List.getElem?_reverse hk,
          ih fun j hj => hl j (List.mem_cons_of_mem _ hj)]
    exact step _ fun k hk => List.mem_range.mp hk
  rw [e]
  have g : ∀ ys : List Value, (List.range ys.length).filterMap (fun k => ys[k]?) = ys := by
    intro ys
    induction ys with
    | nil => rfl
    | cons y ys ih =>
      rw [List.length_cons, List.range_succ_eq_map, List.filterMap_cons]
      show y :: _ = _
      rw [List.filterMap_map]
      exact congrArg (y :: ·) ih
  have g' := g xs.reverse
  rw [List.length_reverse] at g'
  exact g'

theorem getItem_back {t sl : Addr} {xs : List Value} {vl vu vs : Value} {Q : Value → Shared → Prop}
    (ht : IsTup s.heap t xs.toArray) (hs : s.heap.IsSliceOf sl vl vu vs) (pl : IsPart vl none) (pu : IsPart vu none)
    (ps : IsPart vs (some (-1)))
    (h : Q (.ref s.heap.objs.size) { s with heap := s.heap.push { cls := .type "tuple", data := .seq xs.reverse.toArray } })
    (few : xs.length ≤ sizeLine) : wpAny (model prog w) A (getItem (.ref t) (.ref sl)) Q E s := by
  have fits : sizeOk (.seq xs.reverse.toArray) := by
    show xs.reverse.toArray.size ≤ sizeLine
    rw [List.size_toArray, List.length_reverse]
    exact few
  obtain ⟨os, hos, hcs, hds⟩ := id hs
  have kind : s.TypeIs (.ref sl) "slice" := ⟨os, hos, hcs⟩
  unfold getItem
  try with_reducible refine wpAny_holding ?_
  first | refine wpAny_bind (wpAny_pure ?_) | skip
  refine wpAny_bind (wpAny_sequenceKey ht.typeIs (by decide) ?_)
  refine wpAny_bind (wpAny_callSpecial?_slot (name := Str.ofString "__getitem__") ht.typeIs
    PyProof.Rows.slot_tuple_getitem (wpAny_call_entry PyProof.Rows.slot_tuple_getitem ht.typeIs
      PyProof.Rows.entry_tuple_getitem ?_ (PyProof.Rows.args_tuple_getitem _ _)))
  show wpAny _ _ (Builtin.Tuple.tupleItemsOf (.ref t) >>= _) _ _ s
  refine wpAny_bind (tupleItemsOf_ ht ?_)
  refine wpAny_bind (wpAny_typeOf kind ?_)
  rw [if_pos (by decide)]
  refine wpAny_bind (back_applied hs pl pu ps ?_)
  have no : ¬ (((((xs.toArray.size : Nat) : Int) - 1) == 0 && (-1 : Int) == 1 && xs.toArray.size == xs.toArray.size) = true) := by
    rw [show ((-1 : Int) == 1) = false by decide, Bool.and_false, Bool.false_and]
    exact Bool.false_ne_true
  show wpAny _ _ (if ((((xs.toArray.size : Nat) : Int) - 1) == 0 && (-1 : Int) == 1 && xs.toArray.size == xs.toArray.size) = true then _ else _) _ _ s
  rw [if_neg no, pick_back]
  first
    | exact wpAny_bind (m := Builtin.Tuple.tupleExact _) (wpAny_newObj_type (wpAny_pure ⟨_, rfl, wpAny_pure h⟩) fits)
    | exact wpAny_bind (m := Builtin.Tuple.tupleExact _) (wpAny_newObj_type (wpAny_bind (wpAny_pure (wpAny_pure ⟨_, rfl, wpAny_pure h⟩))) fits)
    | exact wpAny_bind (wpAny_bind (m := Builtin.Tuple.tupleExact _) (wpAny_newObj_type (wpAny_pure (wpAny_pure ⟨_, rfl, wpAny_pure h⟩)) fits))
    | exact wpAny_bind (wpAny_bind (m := Builtin.Tuple.tupleExact _) (wpAny_newObj_type (wpAny_pure ⟨_, rfl, wpAny_pure h⟩) fits))
end
section
variable {X : Cx}
def tRevT (K : PySem.W.Frag) (te : TE) : TE := fun σ H Q => te σ H fun x H1 =>
  ∃ a xs, x = .ref a ∧ SqT K H1 a xs ∧ ∀ p, H1 p = none → Q (.ref p) (upd H1 p (.tup xs.reverse))
theorem pe_revT {e : Expr} {te : TE} {k : Nat} {p1 p2 p3 pos : Pos} (he : PE X e te) :
    PE X (.Subscript e (.Slice none none (some (.UnaryOp .USub (.Constant (.int 1) k p1) p2)) p3) pos) (tRevT X.K te) := by
  constructor
  intro pins s σ H Q I h
  refine Subscript_ (thn (he.run pins s σ H _ I h) ?_)
  rintro v s1 ⟨x, H1, I1, r1, a, xs, rfl, hx, q⟩
  cases r1
  have minus : PO X (some (.UnaryOp .USub (.Constant (.int 1) k p1) p2))
      (tPart (tUn (rU fun i => .int (-i)) (tC (.int 1)))) := po_some (pe_un un_neg pe_int)
  refine wpAny_Slice (thn (po_none.run pins s1 σ H1 (fun o H2 => o = none ∧ H2 = H1) I1 ⟨rfl, rfl⟩) ?_)
  rintro vl s2 ⟨l, H2, I2, pl, rfl, rfl⟩
  refine thn (po_none.run pins s2 σ H2 (fun o H3 => o = none ∧ H3 = H2) I2 ⟨rfl, rfl⟩) ?_
  rintro vu s3 ⟨u, H3, I3, pu, rfl, rfl⟩
  refine thn (minus.run pins s3 σ H3 (fun o H4 => o = some (-1) ∧ H4 = H3) I3 ⟨1, rfl, -1, rfl, rfl, rfl⟩) ?_
  rintro vs s4 ⟨o, H4, I4, ps, rfl, rfl⟩
  have I5 : Inv X pins σ H4 { s4 with heap := s4.heap.push { cls := .type "slice", data := .fields #[vl, vu, vs] } } :=
    I4.kept (t' := s4.toks) fun b ob q => Heap.get?_push_of_some _ q
  obtain ⟨its, r, ht, hz⟩ := I5.tuple hx
  have many := r.length
  show wpAny (model X.prog X.w) X.A (subscriptTail e (.Slice none none (some (.UnaryOp .USub (.Constant (.int 1) k p1) p2)) p3)
    (.ref a) (.ref s4.heap.objs.size)) (EP X pins σ Q) X.xe _
  refine tail_any (ops := [.ref a, .ref s4.heap.objs.size]) ht.typeIs (PyProof.Rows.slot_tuple_getitem.lookup) ?_ (by with_unfolding_all rfl)
  refine getItem_back ht (Heap.IsSliceOf.new _ vl vu vs) pl pu ps ?_ (by omega)
  refine ⟨.ref _, _, I5.laid (t' := s4.toks) (o := .tup xs.reverse) (fun b ob q => Heap.get?_push_of_some _ q) (Nat.le_refl _) ?_, rfl,
    q _ (I5.hok.fresh (Nat.le_refl _))⟩
  exact ⟨by rw [List.length_reverse]; exact hz, _, r.reverse, IsTup.new _ _⟩

/-! ### xs.extend(t), t a tuple -/
theorem meets_extT (l : Addr) (its : Array Value) (n : Nat) (b : Addr) (its2 : Array Value) (n2 : Nat) (dd : Option Addr)
    (sl : Array (Option Value)) (short : ¬(!its.isEmpty && Builtin.List.listTooLong (its.size + its2.size)) = true)
    (few : its.size ≤ sizeLine) (both : its.size + its2.size ≤ sizeLine + 1) :
    Meets (Builtin.«list.extend» ⟨[.ref l, .ref b], []⟩) (fun _ R s =>
      s.heap.get? l = some { cls := .type "list", dict := none, data := .seq its n, slots := #[] } ∧
      s.heap.get? b = some { cls := .type "tuple", dict := dd, data := .seq its2 n2, slots := sl } ∧
      R (.ok (.ret Value.none)) { s with heap := s.heap.update l (Obj.mapSeq fun x => x ++ its2), toks := s.toks }) := by
  refine .of_wp ?_
  intro prog w A R s h
  obtain ⟨hp, g, d, tk, os⟩ := s
  obtain ⟨hl, hb, h⟩ := h
  have f1 := PySem.AutoSeq1.idx_int
  have f2 := PySem.AutoSeq1.sub_tuple_tuple
  have f3 := PySem.AutoSeq1.sub_list_list
  have f4 := PySem.AutoSeq1.sub_tuple_list
  have f5 := PySem.AutoSeq1.sub_list_tuple
  have fits : (its ++ its2).size ≤ sizeLine + 1 := by
    rw [Array.size_append]
    exact both
  wp_walk using (wpAny_updateSeq hl rfl (hz := few) (_hz' := fits)), AutoSeq1.wpAny_loadPart' hl, AutoSeq1.wpAny_loadPart' hb
  exact ⟨_, rfl, h⟩
def rExtT : V → List V → Hp → VK → Prop := fun x vs H Q => ∃ l b xs zs, x = .ref l ∧ vs = [.ref b] ∧
  H l = some (.lst xs) ∧ H b = some (.tup zs) ∧ xs.length + zs.length ≤ sizeLine ∧ Q .non (upd H l (.lst (xs ++ zs)))
theorem mt_extT : MtM X "list.extend" rExtT := by
  intro pins s σ H x vs v us Q I rx rv h
  obtain ⟨l, b, xs, zs, rfl, rfl, hl, hb, hz, q⟩ := h
  cases rx
  obtain ⟨u, rfl, ru⟩ := rv.one
  cases ru
  obtain ⟨z, its, n, r, e1, e⟩ := I.lstM hl
  obtain ⟨its2, r2, ⟨⟨cls, dd, data, sl⟩, ho, hc, n2, hd⟩, _⟩ := I.tuple (xs := zs) (a := b) (Or.inl (Or.inl hb))
  simp only at hc hd
  subst hc hd
  have m2 := r2.length
  have both : its.toArray.size + its2.toArray.size ≤ sizeLine := by
    rw [List.size_toArray, List.size_toArray]
    omega
  have short : ¬(!its.toArray.isEmpty && Builtin.List.listTooLong (its.toArray.size + its2.toArray.size)) = true := by
    rw [notLongL both, Bool.and_false]
    exact Bool.false_ne_true
  refine call_meets F.slot_list_extend ⟨_, e, rfl⟩ F.entry_list_extend (F.args_list_extend_2 _ _)
    (meets_extT l its.toArray n b its2.toArray n2 dd sl short (by rw [List.size_toArray]; omega) (by omega)) ⟨e, ho, ?_⟩
  refine ⟨.non, _, I.lset (its' := its ++ its2) hl e (by simp) (r.append r2) ?_, rfl, q⟩
  rw [List.length_append]
  omega

/-! ### text * int -/
def repS (x : Str) (n : Nat) : Str := ⟨(List.replicate n x.cps.toList).flatten.toArray⟩
theorem rep_len (l : List Nat) : ∀ k, (List.replicate k l).flatten.length = k * l.length
  | 0 => by simp
  | k + 1 => by
    rw [List.replicate_succ, List.flatten_cons, List.length_append, rep_len l k, Nat.succ_mul]
    omega
theorem foldl_cps (c : Array Nat) : ∀ (n : Nat) (a : Array Nat),
    (List.replicate n c).foldl (· ++ ·) a = a ++ (List.replicate n c.toList).flatten.toArray
  | 0, a => by simp
  | n + 1, a => by
    rw [List.replicate_succ, List.foldl_cons, foldl_cps c n (a ++ c), List.replicate_succ, List.flatten_cons]
    apply Array.ext'
    simp
theorem op_repS : OpR X (binaryOp .Mult) (fun x y H Q => ∃ (z : Str) (n : Nat), x = .str z ∧ y = .int (n : Int) ∧
    z.length = 1 ∧ n ≤ 1000 ∧ Q (.str (repS z n)) H) := by
  intro pins s σ H x y v u Q I rx ry h
  obtain ⟨z, n, rfl, rfl, hz, hn, q⟩ := h
  obtain ⟨t, rfl⟩ := rx
  obtain ⟨t', rfl⟩ := ry
  have line := sizeLine_eq
  refine PySem.P.mul_str ?_ ?_ ?_ ?_
  · rw [decide_eq_false (by omega), decide_eq_false (by omega)]
    rfl
  · intro _ _
    have e : ((z.length : Int)) = 1 := by omega
    rw [e]
    have : (1 : Int) ≤ (2 ^ 63 - 1) / (n : Int) := by
      rw [Int.le_ediv_iff_mul_le (by omega)]
      omega
    omega
  · intro _ _
    rw [hz]
    exact decide_eq_false (by omega)
  · have le : ∀ k, k ≤ 1000 → (repS z k).length ≤ sizeLine := by
      intro k hk
      have e : (repS z k).length = k := by
        show (List.replicate k z.cps.toList).flatten.toArray.size = k
        have hz' : z.cps.toList.length = 1 := by rw [Array.length_toList]; exact hz
        rw [List.size_toArray, rep_len, hz']
        omega
      rw [e]
      omega
    by_cases h1 : (n : Int) < 1
    · have e : n = 0 := by omega
      subst e
      rw [if_pos h1]
      exact ⟨by decide, .str (repS z 0), H, I.tok _, ⟨_, rfl⟩, q⟩
    · rw [if_neg h1]
      by_cases h2 : ((n : Int) == 1 || z.length == 0) = true
      · rw [if_pos h2]
        have e : n = 1 := by
          rw [hz] at h2
          have h3 : (n : Int) = 1 := by simpa using h2
          omega
        subst e
        have ez : repS z 1 = z := by
          show Str.mk _ = z
          simp
        rw [ez] at q
        exact ⟨.str z, H, I, ⟨_, rfl⟩, q⟩
      · rw [if_neg h2]
        have e : (⟨(List.replicate (n : Int).toNat z.cps).foldl (· ++ ·) #[]⟩ : Str) = repS z n := by
          rw [Int.toNat_natCast, foldl_cps, Array.empty_append]
          rfl
        rw [e]
        exact ⟨le n hn, .str (repS z n), H, I.tok _, ⟨_, rfl⟩, q⟩

/-! ### (10 ** 60) ** 5 -/
theorem op_powG : OpR X (binaryOp .Pow) (rI (fun i j => i = 10 ^ 60 ∧ j = 5) fun i j => .int (10 ^ 300)) :=
  opI fun i j _ _ _ _ _ hc q => by
    obtain ⟨rfl, rfl⟩ := hc
    refine AutoIntOps.pow_4 (by decide) (by decide) (by decide +kernel) (by decide +kernel) (by decide +kernel) ?_
    have e : (((10 : Int) ^ 60) ^ ((5 : Int).toNat)) = 10 ^ 300 := by decide +kernel
    rw [e]
    exact q

/-! ### f(a=.., b=..) -/
section
variable {CX : CXT} {k : Nat} {f : Addr} {fd : FuncData} {ps ks : List Str} {sp : Sp} {E : XK} {x : Str} {p pos : Pos}
  {kws : List Keyword} {tk : TA} {g : List Value → List Value → List Value} {gV : List V → List V → List V}
theorem pe_kw (F : FnOk X.prog X.w X.K X.mg X.base CX k f fd ps sp) (hr : Room k X.A) (hg : Gl X x) (hm : X.mg x = some (.ref f))
    (hk : PySem.W.keepIn X.K (.ref f) = true) (hb : KBinds X.K fd ps ks g gV) (hx : Passes CX X E) (hkw : PK X kws tk)
    (hall : (backToKw pos (keywordEach kws X.env)).all (·.1.isSome) = true := by rfl)
    (hks : (backToKw pos (keywordEach kws X.env)).filterMap (·.1) = ks := by rfl)
    (hdb : (x == ("__debug__" : Str)) = false := by decide)
    (hpl : ((backTo pos (starEach [] X.env)).any (·.1) || (backToKw pos (keywordEach kws X.env)).any (·.1.isNone)) = false := by rfl) :
    PE X (.Call (.Name x p) [] kws pos) (tCallK sp gV E tNil tk) := by
  constructor
  intro pins s σ H Q I h
  refine wpAny_Call_Name_kw (ld_glob I hg hm ?_ hdb)
  refine PySem.W.callWith_KW0 (h₀ := X.base) I.ok.mod.kin hk hall ?_ hpl
  refine thn (hkw.run pos pins s σ H _ I h) ?_
  rintro ws s2 ⟨zs, H2, I2, rz, q2⟩
  refine ⟨I2.kIn, ?_⟩
  rw [hks]
  exact run_fnk (us := []) (vs := []) F hr hb hx I2 .nil rz q2
end
end
end Kg
/-! GC: defs by name (Cal), data that stays, trees as data. -/
namespace Kg
open PySem PySem.Spec PyProof.Rows L2

theorem fscope {N ps : List Str} {sc : Scope} (h : (decide (sc.kind = .function) && !sc.isCoroutine && !sc.isGenerator &&
    decide N.Nodup && decide (N.take ps.length = ps) &&
    ps.all (fun x => decide (sc.names.lookup x = some .local) || decide (sc.names.lookup x = some .cell)) &&
    sc.names.all (fun y => !decide (y.2 = .free))) = true) : FnScope N ps sc := by
  simp only [Bool.and_eq_true, Bool.not_eq_true', decide_eq_true_eq, List.all_eq_true, Bool.or_eq_true,
    decide_eq_false_iff_not] at h
  obtain ⟨⟨⟨⟨⟨⟨a, b⟩, c⟩, d⟩, e⟩, f⟩, g⟩ := h
  exact ⟨a, b, c, d, e, f, g⟩

/-- a def that is called by its name -/
structure Cal (P : Program) (w : World) (K : PySem.W.Frag) (mg : Str → Option Value) (base : Heap) (CX : CXT) (k : Nat)
    (x : Str) (ps : List Str) (sp : Sp) : Prop where
  ex : ∃ (f : Addr) (fd : FuncData), FnOk P w K mg base CX k f fd ps sp ∧ mg x = some (.ref f) ∧
    PySem.W.keepIn K (.ref f) = true ∧ Binds K fd ps []
/-- .. with all its arguments by keywords, ks -/
structure CalK (P : Program) (w : World) (K : PySem.W.Frag) (mg : Str → Option Value) (base : Heap) (CX : CXT) (k : Nat)
    (x : Str) (ps ks : List Str) (gV : List V → List V → List V) (sp : Sp) : Prop where
  ex : ∃ (f : Addr) (fd : FuncData) (g : List Value → List Value → List Value), FnOk P w K mg base CX k f fd ps sp ∧
    mg x = some (.ref f) ∧ PySem.W.keepIn K (.ref f) = true ∧ KBinds K fd ps ks g gV
structure CalG (P : Program) (w : World) (K : PySem.W.Frag) (mg : Str → Option Value) (base : Heap) (k : Nat)
    (x : Str) (ps : List Str) (sp : Sp) : Prop where
  ex : ∃ (f : Addr) (fd : FuncData), Fg P w K mg base k f fd ps sp ∧ mg x = some (.ref f) ∧
    PySem.W.keepIn K (.ref f) = true ∧ Binds K fd ps []
section
variable {X : Cx} {CX : CXT} {k j : Nat} {x : Str} {ps ks : List Str} {sp : Sp} {p pos : Pos} {e : Expr} {es : List Expr} {t : TA}
  {kws : List Keyword} {tk : TA} {gV : List V → List V → List V} {E : XK}
theorem Cal.pe (c : Cal X.prog X.w X.K X.mg X.base CX0 k x ps sp) (hr : Room j X.A) (hk : k ≤ j) (hg : Gl X x)
    (ha : PA X (e :: es) t) (hdb : (x == ("__debug__" : Str)) = false := by decide)
    (he : starEach (e :: es) X.env = (false, eval e X.env) :: starEach es X.env := by rfl)
    (hpl : (backTo pos (starEach es X.env)).any (·.1) = false := by rfl) :
    PE X (.Call (.Name x p) (e :: es) [] pos) (tCall sp [] E0 t) := by
  obtain ⟨f, fd, F, hm, kp, b⟩ := c.ex
  exact pe_call F (hr.mono hk) hg hm kp b .nil pass0 ha hdb he hpl
theorem CalG.pe (c : CalG X.prog X.w X.K X.mg X.base k x ps sp) (hr : Room j X.A) (hq : Quiet X.A) (hk : k ≤ j) (hg : Gl X x)
    (ha : PA X (e :: es) t) (hdb : (x == ("__debug__" : Str)) = false := by decide)
    (he : starEach (e :: es) X.env = (false, eval e X.env) :: starEach es X.env := by rfl)
    (hpl : (backTo pos (starEach es X.env)).any (·.1) = false := by rfl) :
    PE X (.Call (.Name x p) (e :: es) [] pos) (tCall sp [] E0 t) := by
  obtain ⟨f, fd, F, hm, kp, b⟩ := c.ex
  exact pe_callG F (hr.mono hk) hq hg hm kp b .nil ha hdb he hpl
theorem CalK.kw (c : CalK X.prog X.w X.K X.mg X.base CX0 k x ps ks gV sp) (hr : Room j X.A) (hk : k ≤ j) (hg : Gl X x)
    (hkw : PK X kws tk) (hall : (backToKw pos (keywordEach kws X.env)).all (·.1.isSome) = true := by rfl)
    (hks : (backToKw pos (keywordEach kws X.env)).filterMap (·.1) = ks := by rfl)
    (hdb : (x == ("__debug__" : Str)) = false := by decide)
    (hpl : ((backTo pos (starEach [] X.env)).any (·.1) || (backToKw pos (keywordEach kws X.env)).any (·.1.isNone)) = false := by rfl) :
    PE X (.Call (.Name x p) [] kws pos) (tCallK sp gV E0 tNil tk) := by
  obtain ⟨f, fd, g, F, hm, kp, b⟩ := c.ex
  exact pe_kw F (hr.mono hk) hg hm kp b pass0 hkw hall hks hdb hpl
end

end Kg
namespace L2
open PySem PySem.Spec PyProof.Rows
/-! ### heaps that only grow -/
theorem Same.new {H : Hp} {p : Addr} {o : HO} (h : H p = none) : Same H (upd H p o) := fun b x e => by
  rw [upd_ne (ne_of_none e h)]
  exact e
theorem Same.mut {H H' : Hp} {p : Addr} {o : HO} (s : Same H H') (h : H p = none) : Same H (upd H' p o) := fun b x e => by
  rw [upd_ne (ne_of_none e h)]
  exact s b x e
theorem Same.seqT {K : PySem.W.Frag} {H H' : Hp} {a : Addr} {xs : List V} (e : Same H H') (h : SqT K H a xs) : SqT K H' a xs := by
  rcases h with (h | ⟨o, h⟩) | h
  · exact .inl (.inl (e _ _ h))
  · exact .inl (.inr ⟨o, e _ _ h⟩)
  · exact .inr h
theorem sqL {K : PySem.W.Frag} {H : Hp} {a : Addr} {xs : List V} (h : H a = some (.lst xs)) : SqL K H a xs := .inl (.inl h)
theorem sqT {K : PySem.W.Frag} {H : Hp} {a : Addr} {xs : List V} (h : H a = some (.tup xs)) : SqT K H a xs := .inl (.inl h)
mutual
theorem Dp.same {K : PySem.W.Frag} {H H' : Hp} (e : Same H H') : ∀ (d : PyData) (v : V), Dp K H v d → Dp K H' v d
  | .none, _, h => by cases h; exact .non
  | .bool b, _, h => by cases h; exact .bl b
  | .int i, _, h => by cases h; exact .int i
  | .str x, _, h => by cases h; exact .str x
  | .list ds, _, h => by cases h with | lst hs ha => exact .lst (e.seq hs) (DpAll.same e ds _ ha)
  | .tuple ds, _, h => by cases h with | tup hs ha => exact .tup (Same.seqT e hs) (DpAll.same e ds _ ha)
  | .dict _, _, h => by cases h
theorem DpAll.same {K : PySem.W.Frag} {H H' : Hp} (e : Same H H') : ∀ (ds : List PyData) (vs : List V), DpAll K H vs ds → DpAll K H' vs ds
  | [], _, h => by cases h; exact .nil
  | d :: ds, _, h => by cases h with | cons h1 h2 => exact .cons (Dp.same e d _ h1) (DpAll.same e ds _ h2)
end
section
variable {K : PySem.W.Frag} {H : Hp}
theorem DpAll.length : ∀ {vs : List V} {ds : List PyData}, DpAll K H vs ds → vs.length = ds.length
  | _, _, .nil => rfl
  | _, _, .cons _ h => congrArg (· + 1) (DpAll.length h)
theorem DpAll.append : ∀ {vs ws : List V} {ds es : List PyData}, DpAll K H vs ds → DpAll K H ws es → DpAll K H (vs ++ ws) (ds ++ es)
  | _, _, _, _, .nil, h => h
  | _, _, _, _, .cons a b, h => .cons a (b.append h)
theorem DpAll.one {v : V} {d : PyData} (h : Dp K H v d) : DpAll K H [v] [d] := .cons h .nil
theorem DpAll.rev : ∀ {vs : List V} {ds : List PyData}, DpAll K H vs ds → DpAll K H vs.reverse ds.reverse
  | _, _, .nil => .nil
  | _, _, .cons a b => by
    rw [List.reverse_cons, List.reverse_cons]
    exact b.rev.append (.one a)
theorem DpAll.get : ∀ {vs : List V} {ds : List PyData} {i : Nat} {d : PyData}, DpAll K H vs ds → ds[i]? = some d → ∃ v, vs[i]? = some v ∧ Dp K H v d
  | _, _, _, _, .nil, e => by simp at e
  | _, _, 0, _, .cons a _, e => by simp at e; subst e; exact ⟨_, rfl, a⟩
  | _, _, i + 1, _, .cons _ b, e => by
    obtain ⟨v, h1, h2⟩ := b.get (i := i) (by simpa using e)
    exact ⟨v, by simpa using h1, h2⟩
theorem DpAll.strs : ∀ (ks : List Str), DpAll K H (ks.map V.str) (ks.map PyData.str)
  | [] => .nil
  | k :: ks => .cons (.str k) (DpAll.strs ks)
theorem DpAll.strs_eq : ∀ {vs : List V} (ks : List Str), DpAll K H vs (ks.map PyData.str) → vs = ks.map V.str
  | _, [], h => by cases h; rfl
  | _, k :: ks, h => by
    cases h with
    | cons h1 h2 =>
      cases h1
      exact congrArg _ (DpAll.strs_eq ks h2)
/-- what data of the kind tuple says of the heap -/
theorem Dp.tup_at {v : V} {ds : List PyData} (h : Dp K H v (.tuple ds)) : ∃ a xs, v = .ref a ∧ SqT K H a xs ∧ DpAll K H xs ds := by
  cases h with
  | tup hs ha => exact ⟨_, _, rfl, hs, ha⟩
theorem Dp.lst_at {v : V} {ds : List PyData} (h : Dp K H v (.list ds)) : ∃ a xs, v = .ref a ∧ SqL K H a xs ∧ DpAll K H xs ds := by
  cases h with
  | lst hs ha => exact ⟨_, _, rfl, hs, ha⟩
end
end L2
/-! GT: trees of keyed elements, as data. -/
namespace Kg
open PySem PySem.Spec PyProof.Rows L2

inductive T where
  | node (k : Str) (cs : List T)
namespace T
def key : T → Str
  | node k _ => k
def kids : T → List T
  | node _ cs => cs
mutual
def d : T → PyData
  | node k cs => .tuple [.str k, .tuple (ds cs)]
def ds : List T → List PyData
  | [] => []
  | c :: cs => d c :: ds cs
end
mutual
/-- all elements, each one ahead of those inside it -/
def pre : T → List T
  | node k cs => node k cs :: pres cs
def pres : List T → List T
  | [] => []
  | c :: cs => pre c ++ pres cs
end
mutual
def size : T → Nat
  | node _ cs => sizes cs + 1
def sizes : List T → Nat
  | [] => 0
  | c :: cs => size c + sizes cs
end
theorem ds_map : ∀ cs : List T, ds cs = cs.map d
  | [] => rfl
  | c :: cs => by rw [ds, List.map_cons, ds_map cs]
theorem pres_flat : ∀ cs : List T, pres cs = cs.flatMap pre
  | [] => rfl
  | c :: cs => by rw [pres, List.flatMap_cons, pres_flat cs]
theorem pres_append (a b : List T) : pres (a ++ b) = pres a ++ pres b := by
  rw [pres_flat, pres_flat, pres_flat, List.flatMap_append]
theorem sizes_append : ∀ a b : List T, sizes (a ++ b) = sizes a + sizes b
  | [], b => by rw [List.nil_append, sizes, Nat.zero_add]
  | c :: cs, b => by rw [List.cons_append, sizes, sizes, sizes_append cs b, Nat.add_assoc]
mutual
theorem pre_len : ∀ t : T, (pre t).length = size t
  | node k cs => by rw [pre, List.length_cons, pres_len cs, size]
theorem pres_len : ∀ cs : List T, (pres cs).length = sizes cs
  | [] => rfl
  | c :: cs => by rw [pres, List.length_append, pre_len c, pres_len cs, sizes]
end
theorem size_pos : ∀ t : T, 0 < size t
  | node k cs => by rw [size]; omega
theorem d_eq (t : T) : t.d = .tuple [.str t.key, .tuple (t.kids.map d)] := by
  cases t with
  | node k cs => rw [d, ds_map, key, kids]
theorem pre_eq (t : T) : t.pre = t :: pres t.kids := by
  cases t with
  | node k cs => rw [pre, kids]
theorem size_eq (t : T) : t.size = sizes t.kids + 1 := by
  cases t with
  | node k cs => rw [size, kids]
def keys (t : T) : List Str := t.pre.map key
theorem kids_le (t : T) : t.kids.length ≤ sizes t.kids := by
  have : ∀ cs : List T, cs.length ≤ sizes cs := by
    intro cs
    induction cs with
    | nil => exact Nat.le_refl _
    | cons c cs ih =>
      have := size_pos c
      rw [sizes, List.length_cons]
      omega
  exact this _
end T
/-- what the heap has of a tree -/
theorem T.at_ {K : PySem.W.Frag} {H : Hp} {v : V} {t : T} (h : Dp K H v t.d) : ∃ a c zs, v = .ref a ∧ SqT K H a [.str t.key, .ref c] ∧
    SqT K H c zs ∧ DpAll K H zs (t.kids.map T.d) := by
  rw [T.d_eq] at h
  obtain ⟨a, xs, rfl, h1, h2⟩ := h.tup_at
  cases h2 with
  | cons h2 h3 =>
    cases h2
    cases h3 with
    | cons h3 h4 =>
      cases h4
      obtain ⟨c, zs, rfl, h5, h6⟩ := h3.tup_at
      exact ⟨a, c, zs, rfl, h1, h5, h6⟩
end Kg
/-! GE: a region of data (G) in the heap (H), and what grows. -/
namespace Kg
open PySem PySem.Spec PyProof.Rows L2

/-- from the region G of H to the region G' of H': what was tracked stays, but for the places m; what is new to the region is new to the heap -/
structure Grow (m : List Addr) (G H G' H' : Hp) : Prop where
  i0 : Same G H
  h : ∀ b o, b ∉ m → H b = some o → H' b = some o
  g : Same G G'
  i : Same G' H'
  new : ∀ b, G b = none → H b ≠ none → G' b = none
section
variable {m : List Addr} {G H G' H' G'' H'' : Hp} {p : Addr} {o o' : HO}
theorem Grow.refl (i : Same G H) : Grow m G H G H := ⟨i, fun _ _ _ e => e, fun _ _ e => e, i, fun _ e _ => e⟩
theorem Grow.trans (a : Grow m G H G' H') (hm : ∀ b ∈ m, H b ≠ none → H' b ≠ none) (b : Grow m G' H' G'' H'') : Grow m G H G'' H'' :=
  ⟨a.i0, fun c o n e => b.h c o n (a.h c o n e), a.g.trans b.g, b.i, fun c e n => b.new c (a.new c e n) (by
    by_cases hc : c ∈ m
    · exact hm c hc n
    · obtain ⟨o, e2⟩ := Option.ne_none_iff_exists'.mp n
      rw [a.h c o hc e2]
      exact Option.some_ne_none _)⟩
theorem Grow.tr (a : Grow [] G H G' H') (b : Grow [] G' H' G'' H'') : Grow [] G H G'' H'' := a.trans (fun _ h => nomatch h) b
theorem Grow.same (a : Grow [] G H G' H') : Same H H' := fun b o e => a.h b o (by simp) e
theorem Grow.wide (a : Grow [] G H G' H') : Grow m G H G' H' := ⟨a.i0, fun b o _ e => a.same b o e, a.g, a.i, a.new⟩
theorem Grow.into (a : Grow m G H G' H') : Same G H' := a.g.trans a.i
theorem Grow.off (a : Grow m G H G' H') (e : G p = none) (h : H p = some o) : G' p = none := a.new p e (by rw [h]; exact Option.some_ne_none _)
/-- a new object of the region -/
theorem Grow.add (i : Same G H) (n : H p = none) : Grow m G H (upd G p o) (upd H p o) :=
  ⟨i, fun b x _ e => Same.new n b x e, Same.new (i.free n), fun b x e => by
    by_cases hb : b = p
    · subst hb
      rw [upd_same] at e ⊢
      exact e
    · rw [upd_ne hb] at e ⊢
      exact i b x e, fun b e hn => by
    have hb : b ≠ p := fun z => hn (by rw [z]; exact n)
    rw [upd_ne hb]
    exact e⟩
/-- a new object beside the region -/
theorem Grow.beside (i : Same G H) (n : H p = none) : Grow m G H G (upd H p o) :=
  ⟨i, fun b x _ e => Same.new n b x e, fun _ _ e => e, fun b x e => by
    rw [upd_ne (ne_of_none e (i.free n))]
    exact i b x e, fun b e _ => e⟩
/-- an object that was not there at first is changed, beside the region -/
theorem Grow.mut (a : Grow m G H G' H') (n : H p = none) (g : G' p = none) : Grow m G H G' (upd H' p o) :=
  ⟨a.i0, fun b x hb e => by
    rw [upd_ne (ne_of_none e n)]
    exact a.h b x hb e, a.g, fun b x e => by
    rw [upd_ne (ne_of_none e g)]
    exact a.i b x e, a.new⟩
/-- one of the places m is changed -/
theorem Grow.write (a : Grow m G H G' H') (hp : p ∈ m) (g : G' p = none) : Grow m G H G' (upd H' p o) :=
  ⟨a.i0, fun b x hb e => by
    rw [upd_ne (fun z => hb (by rw [z]; exact hp))]
    exact a.h b x hb e, a.g, fun b x e => by
    rw [upd_ne (ne_of_none e g)]
    exact a.i b x e, a.new⟩
/-- it is taken into the region -/
theorem Grow.take (a : Grow m G H G' H') (n : H p = none) (h : H' p = some o) : Grow m G H (upd G' p o) H' :=
  ⟨a.i0, a.h, fun b x e => by
    rw [upd_ne (ne_of_none e (a.i0.free n))]
    exact a.g b x e, fun b x e => by
    by_cases hb : b = p
    · subst hb
      rw [upd_same] at e
      cases e
      exact h
    · rw [upd_ne hb] at e
      exact a.i b x e, fun b e hn => by
    have hb : b ≠ p := fun z => hn (by rw [z]; exact n)
    rw [upd_ne hb]
    exact a.new b e hn⟩
theorem take_same (e : G p = none) : Same G (upd G p o) := Same.new e
end

/-! ### what is given back -/
def Gives (K : PySem.W.Frag) (G H : Hp) (d : PyData) (Q : VK) : Prop := ∀ H' G' u, Grow [] G H G' H' → Dp K G' u d → Q u H'
/-- an expression evaluates to data, in every grown state -/
def EvM (K : PySem.W.Frag) (te : TE) (σ : L2.St) (G H : Hp) (d : PyData) : Prop := ∀ G1 H1, Grow [] G H G1 H1 → ∀ Q, Gives K G1 H1 d Q → te σ H1 Q
def EvA (K : PySem.W.Frag) (ta : TA) (σ : L2.St) (G H : Hp) (ds : List PyData) : Prop := ∀ G1 H1, Grow [] G H G1 H1 →
  ∀ Q : List V → Hp → Prop, (∀ H' G' us, Grow [] G1 H1 G' H' → DpAll K G' us ds → Q us H') → ta σ H1 Q
section
variable {K : PySem.W.Frag} {σ : L2.St} {G H G1 H1 : Hp} {te tf : TE} {ta : TA} {d e : PyData} {ds : List PyData} {i : Nat} {v : V}
theorem EvM.more (h : EvM K te σ G H d) (g : Grow [] G H G1 H1) : EvM K te σ G1 H1 d := fun G2 H2 g2 => h G2 H2 (g.tr g2)
theorem EvA.more (h : EvA K ta σ G H ds) (g : Grow [] G H G1 H1) : EvA K ta σ G1 H1 ds := fun G2 H2 g2 => h G2 H2 (g.tr g2)
theorem EvM.now (h : EvM K te σ G H d) (i : Same G H) {Q : VK} (q : Gives K G H d Q) : te σ H Q := h G H (.refl i) Q q
theorem em_var (h : σ[i]? = some (some v)) (hd : Dp K G v d) : EvM K (tVar i) σ G H d := fun G1 H1 g Q q =>
  ⟨v, h, q H1 G1 v (.refl g.i) (Dp.same g.g _ _ hd)⟩
theorem em_int {n : Int} : EvM K (tC (.int n)) σ G H (.int n) := fun G1 H1 g Q q => q H1 G1 _ (.refl g.i) (.int n)
theorem em_str {x : Str} : EvM K (tC (.str x)) σ G H (.str x) := fun G1 H1 g Q q => q H1 G1 _ (.refl g.i) (.str x)
theorem em_non : EvM K (tC .non) σ G H .none := fun G1 H1 g Q q => q H1 G1 _ (.refl g.i) .non
theorem em_bl {b : Bool} : EvM K (tC (.bl b)) σ G H (.bool b) := fun G1 H1 g Q q => q H1 G1 _ (.refl g.i) (.bl b)
theorem ea_nil : EvA K tNil σ G H [] := fun G1 H1 g Q q => q H1 G1 [] (.refl g.i) .nil
theorem ea_cons (h : EvM K te σ G H d) (r : EvA K ta σ G H ds) : EvA K (tCons te ta) σ G H (d :: ds) := fun G1 H1 g Q q =>
  h G1 H1 g _ fun H2 G2 u g2 hu => r G2 H2 (g.tr g2) _ fun H3 G3 us g3 hus => q H3 G3 (u :: us) (g2.tr g3) (.cons (Dp.same g3.g _ _ hu) hus)
theorem em_tup (h : EvA K ta σ G H ds) (few : ds.length ≤ 100000) : EvM K (tTup ta) σ G H (.tuple ds) := fun G1 H1 g Q q =>
  h G1 H1 g _ fun H2 G2 us g2 hus => ⟨by
    have := hus.length
    exact Nat.le_trans (by omega) (show 100000 ≤ sizeLine by decide), fun p np =>
    q _ (upd G2 p (.tup us)) (.ref p) (g2.tr (.add g2.i np)) (.tup (sqT upd_same) (DpAll.same (Same.new (g2.i.free np)) _ _ hus))⟩
theorem em_lst (h : EvA K ta σ G H ds) (few : ds.length ≤ 100000) : EvM K (tLst ta) σ G H (.list ds) := fun G1 H1 g Q q =>
  h G1 H1 g _ fun H2 G2 us g2 hus => ⟨by
    have := hus.length
    exact Nat.le_trans (by omega) (show 100000 ≤ sizeLine by decide), fun p np =>
    q _ (upd G2 p (.lst us)) (.ref p) (g2.tr (.add g2.i np)) (.lst (sqL upd_same) (DpAll.same (Same.new (g2.i.free np)) _ _ hus))⟩
theorem dp_atI {vs : List V} {ds : List PyData} {i : Int} {d : PyData} (h : DpAll K G vs ds) (e : atI ds i = some d) : ∃ v, atI vs i = some v ∧ Dp K G v d := by
  unfold atI at e ⊢
  rw [h.length]
  cases hi : ixN ds.length i with
  | none =>
    rw [hi] at e
    cases e
  | some j =>
    rw [hi] at e
    exact h.get e
theorem em_ixT {n : Int} (h : EvM K te σ G H (.tuple ds)) (k : EvM K tf σ G H (.int n)) (e : atI ds n = some d) : EvM K (tOp (rIxT K) te tf) σ G H d := fun G1 H1 g Q q =>
  h G1 H1 g _ fun H2 G2 u g2 hu => k G2 H2 (g.tr g2) _ fun H3 G3 y g3 hy => by
    cases hy
    obtain ⟨a, xs, rfl, ha, hx⟩ := hu.tup_at
    obtain ⟨v, e1, hv⟩ := dp_atI hx e
    exact ⟨a, xs, n, v, rfl, rfl, Same.seqT (g3.into) ha, e1, q H3 G3 v (g2.tr g3) (Dp.same g3.g _ _ hv)⟩
theorem em_ixL {n : Int} (h : EvM K te σ G H (.list ds)) (k : EvM K tf σ G H (.int n)) (e : atI ds n = some d) : EvM K (tOp (rIxL K) te tf) σ G H d := fun G1 H1 g Q q =>
  h G1 H1 g _ fun H2 G2 u g2 hu => k G2 H2 (g.tr g2) _ fun H3 G3 y g3 hy => by
    cases hy
    obtain ⟨a, xs, rfl, ha, hx⟩ := hu.lst_at
    obtain ⟨v, e1, hv⟩ := dp_atI hx e
    exact ⟨a, xs, n, v, rfl, rfl, g3.into.seq ha, e1, q H3 G3 v (g2.tr g3) (Dp.same g3.g _ _ hv)⟩
/-- tuple(xs), xs a list or a tuple -/
theorem em_tuple (h : EvM K te σ G H (.list ds)) : EvM K (tCB (fun xs H Q => ∃ p ys, xs = [.ref p] ∧
    ((SqL K H p ys ∧ ∀ l, H l = none → Q (.ref l) (upd H l (.tup ys))) ∨ (SqT K H p ys ∧ Q (.ref p) H))) (tCons te tNil)) σ G H (.tuple ds) :=
  fun G1 H1 g Q q => h G1 H1 g _ fun H2 G2 u g2 hu => by
    obtain ⟨a, xs, rfl, ha, hx⟩ := hu.lst_at
    refine ⟨a, xs, rfl, .inl ⟨g2.i.seq ha, fun p np => ?_⟩⟩
    exact q _ (upd G2 p (.tup xs)) (.ref p) (g2.tr (.add g2.i np)) (.tup (sqT upd_same) (DpAll.same (Same.new (g2.i.free np)) _ _ hx))
/-- what a promise gives, at every grown state -/
def SpM (K : PySem.W.Frag) (sp : Sp) (G H : Hp) (ds : List PyData) (d : PyData) : Prop := ∀ G1 H1 us, Grow [] G H G1 H1 → DpAll K G1 us ds →
  ∀ Q : VK, Gives K G1 H1 d Q → ∀ E : XK, sp us H1 Q E
theorem em_call {sp : Sp} {E : XK} (h : EvA K ta σ G H ds) (hs : SpM K sp G H ds d) : EvM K (tCall sp [] E ta) σ G H d := fun G1 H1 g Q q =>
  h G1 H1 g _ fun H2 G2 us g2 hus => by
    show sp (us ++ []) H2 Q E
    rw [List.append_nil]
    exact hs G2 H2 us (g.tr g2) hus Q (fun H3 G3 u g3 hu => q H3 G3 u (g2.tr g3) hu) E
/-- a comprehension without a test: over a list, over a tuple -/
theorem lc_turns {gs : List PyData} {xs : List V} {j : Nat} {vs : List Nat} {D : Addr} {Qd : Hp → Prop} (i0 : Same G H)
    (hD : H D = none) (few : xs.length ≤ 100000) (many : gs.length = xs.length) (hw : ∀ x, wipe ((wipe σ vs).set j (some x)) vs = wipe σ vs)
    (he : ∀ (i : Nat) (x : V) (d : PyData) (G1 H1 : Hp), xs[i]? = some x → gs[i]? = some d → Grow [] G H G1 H1 → EvM K te ((wipe σ vs).set j (some x)) G1 H1 d)
    (q : ∀ H' G' ys, Grow [] G H G' H' → H' D = some (.lst ys) → G' D = some (.lst ys) → DpAll K G' ys gs → Qd H') :
    ∃ Pv : Nat → Hp → Prop, Pv 0 (upd H D (.lst [])) ∧ (∀ i H', i ≤ xs.length → Pv i H' → ∃ G', Grow [] G H G' H') ∧
      (∀ i x H', xs[i]? = some x → Pv i H' → wipe ((wipe σ vs).set j (some x)) vs = wipe σ vs ∧ tYes ((wipe σ vs).set j (some x)) H' fun b H3 =>
        if b = true then te ((wipe σ vs).set j (some x)) H3 fun y H4 => ∃ acc, H4 D = some (.lst acc) ∧ acc.length < sizeLine ∧ Pv (i + 1) (upd H4 D (.lst (acc ++ [y]))) else Pv (i + 1) H3) ∧
      ∀ H', Pv xs.length H' → Qd H' := by
  refine ⟨fun i H' => ∃ G' ys, Grow [] G H G' H' ∧ G' D = none ∧ H' D = some (.lst ys) ∧ DpAll K G' ys (gs.take i), ?_, ?_, ?_, ?_⟩
  · exact ⟨G, [], .beside i0 hD, i0.free hD, upd_same, .nil⟩
  · rintro i H' _ ⟨G', ys, g, _⟩
    exact ⟨G', g⟩
  · rintro i x H' hx ⟨G', ys, g, gD, hys, hd⟩
    refine ⟨hw x, ?_⟩
    show te ((wipe σ vs).set j (some x)) H' _
    have hi : i < xs.length := (List.getElem?_eq_some_iff.mp hx).1
    have hg : gs[i]? = some gs[i] := List.getElem?_eq_getElem (by omega)
    refine he i x _ G' H' hx hg g G' H' (.refl g.i) _ fun H4 G4 y g4 hy => ⟨ys, g4.same _ _ hys, ?_, G4, ys ++ [y], ?_, g4.off gD hys, upd_same, ?_⟩
    · have := hd.length
      rw [List.length_take] at this
      exact Nat.lt_of_lt_of_le (by omega) (show 100001 ≤ sizeLine by decide)
    · exact (g.tr g4).mut hD (g4.off gD hys)
    · rw [List.take_succ, hg]
      exact (DpAll.same g4.g _ _ hd).append (.one hy)
  · rintro H' ⟨G', ys, g, gD, hys, hd⟩
    rw [← many, List.take_length] at hd
    exact q H' (upd G' D (.lst ys)) ys (g.take hD hys) hys upd_same (DpAll.same (Same.new gD) _ _ hd)
theorem em_lcL {gs : List PyData} {tl : TE} {j : Nat} {vs : List Nat} (h : EvM K tl σ G H (.list ds)) (few : ds.length ≤ 100000)
    (hw : ∀ x, wipe ((wipe σ vs).set j (some x)) vs = wipe σ vs) (many : gs.length = ds.length)
    (he : ∀ (i : Nat) (x : V) (b d : PyData) (G1 H1 : Hp), ds[i]? = some b → gs[i]? = some d → Grow [] G H G1 H1 → Dp K G1 x b → EvM K te ((wipe σ vs).set j (some x)) G1 H1 d) :
    EvM K (tLc (iList K tl) (gName j) tYes te vs) σ G H (.list gs) := fun G1 H1 g Q q => h G1 H1 g _ fun H2 G2 u g2 hu => by
  obtain ⟨a, xs, rfl, ha, hx⟩ := hu.lst_at
  have hl := hx.length
  refine ⟨a, rfl, ⟨xs, g2.i.seq ha⟩, fun D hD => ?_⟩
  obtain ⟨Pv, p0, pg, ps, pd⟩ := lc_turns (K := K) (G := G2) (H := H2) (gs := gs) (xs := xs) (j := j) (vs := vs) (σ := σ) (te := te)
    (Qd := fun H' => Q (.ref D) H') g2.i hD (by omega) (by omega) hw (fun i x d G3 H3 ex ed g3 => by
      have hi : i < ds.length := by
        have := (List.getElem?_eq_some_iff.mp ex).1
        omega
      obtain ⟨v, ev, hv⟩ := hx.get (List.getElem?_eq_getElem hi)
      rw [ex] at ev
      cases ev
      exact he i x _ d G3 H3 (List.getElem?_eq_getElem hi) ed ((g.tr g2).tr g3) (Dp.same g3.g _ _ hv))
    (fun H' G' ys g' h1 h2 h3 => q H' G' (.ref D) (g2.tr g') (.lst (sqL h2) h3))
  exact lc_list (xs := xs) Pv p0 (fun i H' hi p => by
    obtain ⟨G', g'⟩ := pg i H' hi p
    exact g'.into.seq ha) (fun i x H' hx p => ps i x H' hx p) pd
theorem em_lcT {gs : List PyData} {tl : TE} {j : Nat} {vs : List Nat} (h : EvM K tl σ G H (.tuple ds)) (few : ds.length ≤ 100000)
    (hw : ∀ x, wipe ((wipe σ vs).set j (some x)) vs = wipe σ vs) (many : gs.length = ds.length)
    (he : ∀ (i : Nat) (x : V) (b d : PyData) (G1 H1 : Hp), ds[i]? = some b → gs[i]? = some d → Grow [] G H G1 H1 → Dp K G1 x b → EvM K te ((wipe σ vs).set j (some x)) G1 H1 d) :
    EvM K (tLc (iTup K tl) (gName j) tYes te vs) σ G H (.list gs) := fun G1 H1 g Q q => h G1 H1 g _ fun H2 G2 u g2 hu => by
  obtain ⟨a, xs, rfl, ha, hx⟩ := hu.tup_at
  have hl := hx.length
  refine ⟨a, rfl, ⟨xs, Same.seqT g2.i ha⟩, fun D hD => ?_⟩
  obtain ⟨Pv, p0, pg, ps, pd⟩ := lc_turns (K := K) (G := G2) (H := H2) (gs := gs) (xs := xs) (j := j) (vs := vs) (σ := σ) (te := te)
    (Qd := fun H' => Q (.ref D) H') g2.i hD (by omega) (by omega) hw (fun i x d G3 H3 ex ed g3 => by
      have hi : i < ds.length := by
        have := (List.getElem?_eq_some_iff.mp ex).1
        omega
      obtain ⟨v, ev, hv⟩ := hx.get (List.getElem?_eq_getElem hi)
      rw [ex] at ev
      cases ev
      exact he i x _ d G3 H3 (List.getElem?_eq_getElem hi) ed ((g.tr g2).tr g3) (Dp.same g3.g _ _ hv))
    (fun H' G' ys g' h1 h2 h3 => q H' G' (.ref D) (g2.tr g') (.lst (sqL h2) h3))
  exact lc_tup (xs := xs) Pv p0 (fun i H' hi p => by
    obtain ⟨G', g'⟩ := pg i H' hi p
    exact Same.seqT g'.into ha) (fun i x H' hx p => ps i x H' hx p) pd
end
end Kg
/-! GM: mathematics of trees: keys, edges, ways. -/
namespace Kg
open PySem
namespace T
theorem keys_eq (t : T) : t.keys = t.key :: t.kids.flatMap keys := by
  rw [keys, pre_eq, List.map_cons, pres_flat, List.map_flatMap]
  rfl
/-- (child, parent), for each element ahead of those inside it -/
def edges (t : T) : List (Str × Str) := t.pre.flatMap fun n => n.kids.map fun c => (c.key, n.key)
theorem edges_eq (t : T) : t.edges = (t.kids.map fun c => (c.key, t.key)) ++ t.kids.flatMap edges := by
  rw [edges, pre_eq, List.flatMap_cons, pres_flat, List.flatMap_assoc]
  rfl
theorem indT {p : T → Prop} (h : ∀ t : T, (∀ c ∈ t.kids, p c) → p t) : ∀ t, p t := by
  have : ∀ n, ∀ t : T, t.size ≤ n → p t := by
    intro n
    induction n with
    | zero =>
      intro t ht
      have := size_pos t
      omega
    | succ n ih =>
      intro t ht
      refine h t fun c hc => ih c ?_
      have : ∀ cs : List T, c ∈ cs → c.size ≤ sizes cs := by
        intro cs
        induction cs with
        | nil => intro h; cases h
        | cons d ds ih2 =>
          intro h
          rw [sizes]
          rcases List.mem_cons.mp h with e | e
          · rw [e]
            omega
          · have := ih2 e
            omega
      have h1 := this t.kids hc
      rw [size_eq] at ht
      omega
  exact fun t => this t.size t (Nat.le_refl _)
theorem perm_flat {f g : T → List Str} : ∀ cs : List T, (∀ c ∈ cs, (f c).Perm (g c)) → (cs.flatMap f).Perm (cs.flatMap g)
  | [], _ => .refl _
  | c :: cs, h => by
    rw [List.flatMap_cons, List.flatMap_cons]
    exact (h c (List.mem_cons_self ..)).append (perm_flat cs fun d hd => h d (List.mem_cons_of_mem _ hd))
theorem perm_heads {g : T → List Str} : ∀ cs : List T, (cs.map key ++ cs.flatMap g).Perm (cs.flatMap fun c => c.key :: g c)
  | [] => .refl _
  | c :: cs => by
    rw [List.map_cons, List.flatMap_cons, List.flatMap_cons, List.cons_append, List.cons_append]
    refine .cons _ ?_
    rw [← List.append_assoc]
    refine List.Perm.trans ((List.perm_append_comm).append_right _) ?_
    rw [List.append_assoc]
    exact (perm_heads cs).append_left _
theorem edges_perm : ∀ t : T, (t.key :: t.edges.map (·.1)).Perm t.keys := by
  refine indT fun t ih => ?_
  rw [edges_eq, keys_eq, List.map_append, List.map_map, List.map_flatMap]
  refine .cons _ ?_
  exact (perm_heads t.kids).trans (perm_flat t.kids ih)
theorem edges_nodup {t : T} (h : t.keys.Nodup) : (t.key :: t.edges.map (·.1)).Nodup := (edges_perm t).nodup_iff.mpr h
theorem mem_pre_keys {t u : T} (h : u ∈ t.pre) : u.key ∈ t.keys := List.mem_map_of_mem h
theorem self_pre (t : T) : t ∈ t.pre := by
  rw [pre_eq]
  exact List.mem_cons_self ..
theorem kid_pre {t c u : T} (hc : c ∈ t.kids) (hu : u ∈ c.pre) : u ∈ t.pre := by
  rw [pre_eq, pres_flat]
  exact List.mem_cons_of_mem _ (List.mem_flatMap.mpr ⟨c, hc, hu⟩)
theorem pre_cases {t u : T} (h : u ∈ t.pre) : u = t ∨ ∃ c ∈ t.kids, u ∈ c.pre := by
  rw [pre_eq, pres_flat] at h
  rcases List.mem_cons.mp h with e | e
  · exact Or.inl e
  · exact Or.inr (List.mem_flatMap.mp e)
theorem mem_edges {t : T} {x y : Str} : (x, y) ∈ t.edges ↔ ∃ n ∈ t.pre, n.key = y ∧ ∃ c ∈ n.kids, c.key = x := by
  rw [edges, List.mem_flatMap]
  constructor
  · rintro ⟨n, hn, h⟩
    obtain ⟨c, hc, e⟩ := List.mem_map.mp h
    cases e
    exact ⟨n, hn, rfl, c, hc, rfl⟩
  · rintro ⟨n, hn, rfl, c, hc, rfl⟩
    exact ⟨n, hn, List.mem_map.mpr ⟨c, hc, rfl⟩⟩
/-- from the root down to u, step by step -/
inductive Way : T → T → List Str → Prop
  | here (t : T) : Way t t [t.key]
  | down {t c u : T} {ps : List Str} : c ∈ t.kids → Way c u ps → Way t u (t.key :: ps)
theorem way_of : ∀ (t u : T), u ∈ t.pre → ∃ ps, Way t u ps := by
  refine indT fun t ih u hu => ?_
  rcases pre_cases hu with rfl | ⟨c, hc, h⟩
  · exact ⟨_, .here _⟩
  · obtain ⟨ps, w⟩ := ih c hc u h
    exact ⟨_, .down hc w⟩
theorem Way.head {t u : T} {ps : List Str} (w : Way t u ps) : ∃ r, ps = t.key :: r := by
  cases w with
  | here => exact ⟨[], rfl⟩
  | down _ _ => exact ⟨_, rfl⟩
theorem Way.last {t u : T} {ps : List Str} (w : Way t u ps) : ∃ r, ps = r ++ [u.key] := by
  induction w with
  | here t => exact ⟨[], rfl⟩
  | down hc _ ih =>
    obtain ⟨r, e⟩ := ih
    exact ⟨_ :: r, by rw [e]; rfl⟩
theorem Way.mem {t u : T} {ps : List Str} (w : Way t u ps) : u ∈ t.pre := by
  induction w with
  | here t => exact self_pre t
  | down hc _ ih => exact kid_pre hc ih
theorem edges_kid {t c : T} (hc : c ∈ t.kids) {e : Str × Str} (h : e ∈ c.edges) : e ∈ t.edges := by
  rw [edges_eq]
  exact List.mem_append_right _ (List.mem_flatMap.mpr ⟨c, hc, h⟩)
/-- each step is an edge -/
theorem Way.step {t u : T} {ps : List Str} (w : Way t u ps) : ∀ (i : Nat) (x y : Str), ps[i]? = some x → ps[i + 1]? = some y → (y, x) ∈ t.edges := by
  induction w with
  | here t =>
    intro i x y _ h
    simp at h
  | @down t c u ps hc w ih =>
    intro i x y hx hy
    cases i with
    | zero =>
      obtain ⟨r, e⟩ := w.head
      simp at hx
      rw [e] at hy
      simp at hy
      rw [← hx, ← hy, edges_eq]
      exact List.mem_append_left _ (List.mem_map.mpr ⟨c, hc, rfl⟩)
    | succ i =>
      exact edges_kid hc (ih i x y (by simpa using hx) (by simpa using hy))
theorem edges_fun {t : T} (h : t.keys.Nodup) {x y z : Str} (hy : (x, y) ∈ t.edges) (hz : (x, z) ∈ t.edges) : y = z := by
  have nd := (List.nodup_cons.mp (edges_nodup h)).2
  have : ∀ l : List (Str × Str), (l.map (·.1)).Nodup → (x, y) ∈ l → (x, z) ∈ l → y = z := by
    intro l
    induction l with
    | nil => intro _ h; cases h
    | cons p l ih =>
      intro nd h1 h2
      rw [List.map_cons, List.nodup_cons] at nd
      rcases List.mem_cons.mp h1 with e1 | e1
      · rcases List.mem_cons.mp h2 with e2 | e2
        · rw [← e1] at e2
          cases e2
          rfl
        · exact absurd (List.mem_map.mpr ⟨_, e2, by rw [← e1]⟩) nd.1
      · rcases List.mem_cons.mp h2 with e2 | e2
        · exact absurd (List.mem_map.mpr ⟨_, e1, by rw [← e2]⟩) nd.1
        · exact ih nd.2 e1 e2
  exact this _ nd hy hz
theorem root_no {t : T} (h : t.keys.Nodup) {y : Str} : (t.key, y) ∉ t.edges := fun hy =>
  (List.nodup_cons.mp (edges_nodup h)).1 (List.mem_map.mpr ⟨_, hy, rfl⟩)
/-- two elements of one key are one -/
theorem pre_inj {t : T} (h : t.keys.Nodup) {u v : T} (hu : u ∈ t.pre) (hv : v ∈ t.pre) (e : u.key = v.key) : u = v := by
  have : ∀ l : List T, (l.map key).Nodup → u ∈ l → v ∈ l → u = v := by
    intro l
    induction l with
    | nil => intro _ h; cases h
    | cons p l ih =>
      intro nd h1 h2
      rw [List.map_cons, List.nodup_cons] at nd
      rcases List.mem_cons.mp h1 with e1 | e1
      · rcases List.mem_cons.mp h2 with e2 | e2
        · rw [e1, e2]
        · exact absurd (List.mem_map.mpr ⟨_, e2, by rw [← e, e1]⟩) nd.1
      · rcases List.mem_cons.mp h2 with e2 | e2
        · exact absurd (List.mem_map.mpr ⟨_, e1, by rw [e, e2]⟩) nd.1
        · exact ih nd.2 e1 e2
  exact this _ h hu hv
theorem kid_size {t c : T} (h : c ∈ t.kids) : c.size < t.size := by
  have : ∀ cs : List T, c ∈ cs → c.size ≤ sizes cs := by
    intro cs
    induction cs with
    | nil => intro h; cases h
    | cons d ds ih2 =>
      intro h
      rw [sizes]
      rcases List.mem_cons.mp h with e | e
      · rw [e]
        omega
      · have := ih2 e
        omega
  have h1 := this t.kids h
  rw [size_eq t]
  omega
theorem pre_size : ∀ (t u : T), u ∈ t.pre → u.size ≤ t.size := by
  refine indT fun t ih u hu => ?_
  rcases pre_cases hu with rfl | ⟨c, hc, h⟩
  · exact Nat.le_refl _
  · have h1 := ih c hc u h
    have h2 := kid_size hc
    omega
theorem pre_kids {t u : T} (hu : u ∈ t.pre) : u.kids.length < t.size := by
  have h1 := pre_size t u hu
  have h2 := kids_le u
  rw [size_eq] at h1
  omega
theorem keys_len (t : T) : t.keys.length = t.size := by rw [keys, List.length_map, pre_len]
theorem edges_len (t : T) : t.edges.length + 1 = t.size := by
  have := (edges_perm t).length_eq
  rw [List.length_cons, List.length_map, keys_len] at this
  exact this
theorem Way.len {t u : T} {ps : List Str} (w : Way t u ps) : ps.length ≤ t.size := by
  induction w with
  | here t =>
    have := size_pos t
    simp
    omega
  | down hc _ ih =>
    have := kid_size hc
    rw [List.length_cons]
    omega
theorem way_inj {t : T} (h : t.keys.Nodup) {u : T} {ps qs : List Str} (a : Way t u ps) (b : Way t u qs) : ps = qs := by
  -- read from the end: each parent is the only one
  obtain ⟨r, e⟩ := a.last
  obtain ⟨r', e'⟩ := b.last
  have key : ∀ n (i j : Nat), i < ps.length → j < qs.length → i ≤ n → ps[i]? = qs[j]? → ps.take (i + 1) = qs.take (j + 1) := by
    intro n
    induction n with
    | zero =>
      intro i j hi hj hn he
      have e0 : i = 0 := by omega
      subst e0
      obtain ⟨rp, ep⟩ := a.head
      cases j with
      | zero =>
        obtain ⟨rq, eq⟩ := b.head
        rw [ep, eq]
        rfl
      | succ j =>
        have h1 : qs[j + 1]? = some t.key := by rw [← he, ep]; rfl
        have h2 : qs[j]? = some qs[j] := List.getElem?_eq_getElem (by omega)
        exact absurd (b.step j _ _ h2 h1) (root_no h)
    | succ n ih =>
      intro i j hi hj hn he
      cases i with
      | zero => exact ih 0 j hi hj (by omega) he
      | succ i =>
        have h1 : ps[i + 1]? = some ps[i + 1] := List.getElem?_eq_getElem hi
        have h2 : ps[i]? = some ps[i] := List.getElem?_eq_getElem (by omega)
        have s1 := a.step i _ _ h2 h1
        cases j with
        | zero =>
          obtain ⟨rq, eq⟩ := b.head
          have : ps[i + 1] = t.key := by
            rw [h1, eq] at he
            simpa using he
          rw [this] at s1
          exact absurd s1 (root_no h)
        | succ j =>
          have h3 : qs[j + 1]? = some ps[i + 1] := by rw [← he, h1]
          have h4 : qs[j]? = some qs[j] := List.getElem?_eq_getElem (by omega)
          have s2 := b.step j _ _ h4 h3
          have ee := edges_fun h s1 s2
          have := ih i j (by omega) (by omega) (by omega) (by rw [h2, h4, ee])
          rw [List.take_succ, this, h1, List.take_succ (l := qs) (i := j + 1), h3]
  have hl : ps.length = r.length + 1 := by rw [e]; simp
  have hl' : qs.length = r'.length + 1 := by rw [e']; simp
  have last : ps[r.length]? = qs[r'.length]? := by
    rw [e, e']
    simp
  have := key r.length r.length r'.length (by omega) (by omega) (Nat.le_refl _) last
  rw [List.take_of_length_le (by omega), List.take_of_length_le (by omega)] at this
  exact this
/-- an element lies on the way to another one exactly if that one is inside it, or is it -/
theorem Way.mem_iff {t : T} (h : t.keys.Nodup) {u n : T} {ps : List Str} (w : Way t u ps) (hn : n ∈ t.pre) : n.key ∈ ps ↔ u ∈ n.pre := by
  induction w with
  | here t =>
    constructor
    · intro hk
      have e : n.key = t.key := by simpa using hk
      rw [pre_inj h hn (self_pre t) e]
      exact self_pre t
    · intro hu
      have h1 := pre_size n t hu
      rcases pre_cases hn with rfl | ⟨c, hc, hcn⟩
      · simp
      · have h2 := pre_size c n hcn
        have h3 := kid_size hc
        omega
  | @down t c u ps hc w ih =>
    have hcd : c.keys.Nodup := by
      rw [keys_eq] at h
      have h2 := (List.nodup_cons.mp h).2
      have sub : ∀ cs : List T, c ∈ cs → (cs.flatMap keys).Nodup → c.keys.Nodup := by
        intro cs
        induction cs with
        | nil => intro h; cases h
        | cons d ds ih2 =>
          intro hm hnd
          rw [List.flatMap_cons, List.nodup_append] at hnd
          rcases List.mem_cons.mp hm with e | e
          · rw [e]
            exact hnd.1
          · exact ih2 e hnd.2.1
      exact sub t.kids hc h2
    rcases pre_cases hn with rfl | ⟨c', hc', hcn⟩
    · constructor
      · intro _
        exact kid_pre hc w.mem
      · intro _
        exact List.mem_cons_self ..
    · have nroot : n.key ≠ t.key := fun e => by
        have := pre_inj h hn (self_pre t) e
        have h2 := pre_size c' n hcn
        have h3 := kid_size hc'
        rw [this] at h2
        omega
      by_cases hnc : n ∈ c.pre
      · rw [← ih hcd hnc]
        constructor
        · intro hm
          rcases List.mem_cons.mp hm with e | e
          · exact absurd e nroot
          · exact e
        · intro hm
          exact List.mem_cons_of_mem _ hm
      · constructor
        · intro hm
          rcases List.mem_cons.mp hm with e | e
          · exact absurd e nroot
          · -- a key on the way inside c is an element of c
            have : ∀ {c u : T} {ps : List Str}, Way c u ps → ∀ x ∈ ps, ∃ m ∈ c.pre, m.key = x := by
              intro c u ps w
              induction w with
              | here t =>
                intro x hx
                exact ⟨t, self_pre t, (by simpa using hx : x = t.key).symm⟩
              | down hc _ ih =>
                intro x hx
                rcases List.mem_cons.mp hx with e | e
                · exact ⟨_, self_pre _, e.symm⟩
                · obtain ⟨m, hm, em⟩ := ih x e
                  exact ⟨m, kid_pre hc hm, em⟩
            obtain ⟨m, hm, em⟩ := this w _ e
            exact absurd (pre_inj h (kid_pre hc hm) hn em ▸ hm) hnc
        · intro hu
          -- u is inside n and inside c: n is inside c
          exfalso
          obtain ⟨qs, wq⟩ := way_of n u hu
          have wu := w.mem
          -- ways from t to u by c' and by c
          obtain ⟨p1, w1⟩ := way_of c' n hcn
          have comp : ∀ {a b d : T} {xs ys : List Str}, Way a b xs → Way b d ys → ∃ zs, Way a d (xs.dropLast ++ zs) ∧ zs = ys := by
            intro a b d xs ys wa wb
            induction wa with
            | here t => exact ⟨ys, wb, rfl⟩
            | @down t c u ps hc w ih =>
              obtain ⟨zs, wz, ez⟩ := ih wb
              obtain ⟨r, er⟩ := w.head
              refine ⟨zs, ?_, ez⟩
              have : (t.key :: ps).dropLast = t.key :: ps.dropLast := by rw [er]; rfl
              rw [this]
              exact .down hc wz
          obtain ⟨zs, wz, rfl⟩ := comp w1 wq
          have two := way_inj h (Way.down hc' wz) (Way.down hc w)
          injection two with _ two
          -- n's key stands on the way inside c
          obtain ⟨rq, erq⟩ := wq.head
          have hmem : n.key ∈ ps := by
            rw [← two, erq]
            simp
          have : ∀ {c u : T} {ps : List Str}, Way c u ps → ∀ x ∈ ps, ∃ m ∈ c.pre, m.key = x := by
            intro c u ps w
            induction w with
            | here t =>
              intro x hx
              exact ⟨t, self_pre t, (by simpa using hx : x = t.key).symm⟩
            | down hc _ ih =>
              intro x hx
              rcases List.mem_cons.mp hx with e | e
              · exact ⟨_, self_pre _, e.symm⟩
              · obtain ⟨m, hm, em⟩ := ih x e
                exact ⟨m, kid_pre hc hm, em⟩
          obtain ⟨m, hm, em⟩ := this w _ hmem
          exact hnc (pre_inj h (kid_pre hc hm) hn em ▸ hm)
end T
end Kg
/-! GN: a leaf put into a tree; heights; levels. -/
namespace Kg
open PySem
namespace T
/-- each element's key with the keys of its children -/
def desc (t : T) : List (Str × List Str) := t.pre.map fun n => (n.key, n.kids.map key)
theorem desc_eq (t : T) : t.desc = (t.key, t.kids.map key) :: t.kids.flatMap desc := by
  rw [desc, pre_eq, List.map_cons, pres_flat, List.map_flatMap]
  rfl
theorem desc_keys (t : T) : t.desc.map (·.1) = t.keys := by
  rw [desc, List.map_map]
  rfl
def edgesOf (l : List (Str × List Str)) : List (Str × Str) := l.flatMap fun e => e.2.map fun c => (c, e.1)
theorem edges_desc (t : T) : t.edges = edgesOf t.desc := by
  rw [edges, edgesOf, desc, List.flatMap_map]
  congr 1
  funext n
  rw [List.map_map]
  rfl
mutual
def ins (home : Str) (i : Nat) (x : Str) : T → T
  | node k cs => if k = home then node k (cs.take i ++ [node x []] ++ cs.drop i) else node k (inss home i x cs)
def inss (home : Str) (i : Nat) (x : Str) : List T → List T
  | [] => []
  | c :: cs => ins home i x c :: inss home i x cs
end
theorem inss_map (home : Str) (i : Nat) (x : Str) : ∀ cs : List T, inss home i x cs = cs.map (ins home i x)
  | [] => rfl
  | c :: cs => by rw [inss, List.map_cons, inss_map home i x cs]
theorem ins_eq (home : Str) (i : Nat) (x : Str) (t : T) : t.ins home i x =
    if t.key = home then node t.key (t.kids.take i ++ [node x []] ++ t.kids.drop i) else node t.key (t.kids.map (ins home i x)) := by
  cases t with
  | node k cs => rw [ins, inss_map]; rfl
theorem ins_key (home : Str) (i : Nat) (x : Str) (t : T) : (t.ins home i x).key = t.key := by
  rw [ins_eq]
  split <;> rfl
theorem ins_none (home : Str) (i : Nat) (x : Str) : ∀ t : T, home ∉ t.keys → t.ins home i x = t := by
  refine indT fun t ih h => ?_
  rw [keys_eq] at h
  have h1 : t.key ≠ home := fun z => h (by rw [z]; exact List.mem_cons_self ..)
  rw [ins_eq, if_neg h1]
  have : t.kids.map (ins home i x) = t.kids := by
    have : ∀ cs : List T, (∀ c ∈ cs, ins home i x c = c) → cs.map (ins home i x) = cs := by
      intro cs
      induction cs with
      | nil => intro _; rfl
      | cons c cs ih2 =>
        intro hc
        rw [List.map_cons, hc c (List.mem_cons_self ..), ih2 fun d hd => hc d (List.mem_cons_of_mem _ hd)]
    refine this t.kids fun c hc => ih c hc fun z => h (List.mem_cons_of_mem _ (List.mem_flatMap.mpr ⟨c, hc, z⟩))
  rw [this]
  cases t
  rfl
/-- the row of home with x put in -/
def putRow (home : Str) (i : Nat) (x : Str) (e : Str × List Str) : Str × List Str := if e.1 = home then (e.1, e.2.take i ++ [x] ++ e.2.drop i) else e
theorem putRow_no {home : Str} {i : Nat} {x : Str} : ∀ l : List (Str × List Str), home ∉ l.map (·.1) → l.map (putRow home i x) = l
  | [], _ => rfl
  | e :: l, h => by
    rw [List.map_cons, List.mem_cons, not_or] at h
    rw [List.map_cons, putRow_no l h.2]
    unfold putRow
    rw [if_neg (fun z => h.1 z.symm)]
theorem leaf_desc (x : Str) : desc (node x []) = [(x, [])] := by
  rw [desc_eq]
  rfl
theorem flat_desc_keys (cs : List T) : (cs.flatMap desc).map (·.1) = cs.flatMap keys := by
  rw [List.map_flatMap]
  congr 1
  funext c
  exact desc_keys c
theorem ins_desc (home : Str) (i : Nat) (x : Str) : ∀ t : T, t.keys.Nodup → home ∈ t.keys →
    ((t.ins home i x).desc).Perm (t.desc.map (putRow home i x) ++ [(x, [])]) := by
  refine indT fun t ih nd hm => ?_
  rw [keys_eq] at nd hm
  have nd' := List.nodup_cons.mp nd
  by_cases hk : t.key = home
  · have e : t.ins home i x = node t.key (t.kids.take i ++ [node x []] ++ t.kids.drop i) := by rw [ins_eq, if_pos hk]
    rw [e, desc_eq, desc_eq t, List.map_cons, putRow_no]
    · have e2 : putRow home i x (t.key, t.kids.map key) = (t.key, (t.kids.take i ++ [node x []] ++ t.kids.drop i).map key) := by
        unfold putRow
        rw [if_pos hk, List.map_append, List.map_append, List.map_take, List.map_drop]
        rfl
      rw [e2]
      refine List.Perm.cons _ ?_
      show ((t.kids.take i ++ [node x []] ++ t.kids.drop i).flatMap desc).Perm _
      rw [List.flatMap_append, List.flatMap_append, List.flatMap_cons, leaf_desc, List.flatMap_nil, List.append_nil]
      have e3 : t.kids.flatMap desc = (t.kids.take i).flatMap desc ++ (t.kids.drop i).flatMap desc := by
        rw [← List.flatMap_append, List.take_append_drop]
      rw [e3, List.append_assoc]
      show List.Perm _ (((t.kids.take i).flatMap desc ++ (t.kids.drop i).flatMap desc) ++ [(x, [])])
      rw [List.append_assoc]
      exact List.perm_append_comm.append_left _
    · rw [flat_desc_keys, ← hk]
      exact nd'.1
  · have hm' : home ∈ t.kids.flatMap keys := by
      rcases List.mem_cons.mp hm with z | z
      · exact absurd z.symm hk
      · exact z
    have e : t.ins home i x = node t.key (t.kids.map (ins home i x)) := by rw [ins_eq, if_neg hk]
    have e2 : putRow home i x (t.key, t.kids.map key) = (t.key, (t.kids.map (ins home i x)).map key) := by
      unfold putRow
      rw [if_neg hk, List.map_map]
      congr 1
      apply List.map_congr_left
      intro c _
      exact (ins_key home i x c).symm
    rw [e, desc_eq, desc_eq t, List.map_cons, e2]
    refine List.Perm.cons _ ?_
    show ((t.kids.map (ins home i x)).flatMap desc).Perm _
    have go : ∀ cs : List T, (∀ c ∈ cs, c.keys.Nodup → home ∈ c.keys → ((c.ins home i x).desc).Perm (c.desc.map (putRow home i x) ++ [(x, [])])) →
        (cs.flatMap keys).Nodup → home ∈ cs.flatMap keys → ((cs.map (ins home i x)).flatMap desc).Perm ((cs.flatMap desc).map (putRow home i x) ++ [(x, [])]) := by
      intro cs
      induction cs with
      | nil => intro _ _ h; cases h
      | cons c cs ih2 =>
        intro hc hn hh
        rw [List.flatMap_cons] at hn hh
        obtain ⟨n1, n2, n3⟩ := List.nodup_append.mp hn
        rw [List.map_cons, List.flatMap_cons, List.flatMap_cons, List.map_append]
        by_cases hin : home ∈ c.keys
        · have no : home ∉ cs.flatMap keys := fun z => n3 _ hin _ z rfl
          have same : cs.map (ins home i x) = cs := by
            have : ∀ ds : List T, home ∉ ds.flatMap keys → ds.map (ins home i x) = ds := by
              intro ds
              induction ds with
              | nil => intro _; rfl
              | cons d ds ih3 =>
                intro hz
                rw [List.flatMap_cons, List.mem_append, not_or] at hz
                rw [List.map_cons, ins_none home i x d hz.1, ih3 hz.2]
            exact this cs no
          rw [same, putRow_no (cs.flatMap desc) (by rw [flat_desc_keys]; exact no)]
          refine ((hc c (List.mem_cons_self ..) n1 hin).append_right _).trans ?_
          rw [List.append_assoc, List.append_assoc]
          exact List.perm_append_comm.append_left _
        · have hh' : home ∈ cs.flatMap keys := by
            rcases List.mem_append.mp hh with z | z
            · exact absurd z hin
            · exact z
          rw [ins_none home i x c hin, putRow_no c.desc (by rw [desc_keys]; exact hin), List.append_assoc]
          exact (ih2 (fun d hd => hc d (List.mem_cons_of_mem _ hd)) n2 hh').append_left _
    exact go t.kids (fun c hc => ih c hc) nd'.2 hm'
theorem ins_keys {home : Str} {i : Nat} {x : Str} {t : T} (nd : t.keys.Nodup) (hm : home ∈ t.keys) : (t.ins home i x).keys.Perm (t.keys ++ [x]) := by
  have h := (ins_desc home i x t nd hm).map (·.1)
  rw [desc_keys, List.map_append, List.map_map] at h
  have e : (fun e : Str × List Str => e.1) ∘ putRow home i x = (·.1) := by
    funext e
    show (putRow home i x e).1 = e.1
    unfold putRow
    split <;> rfl
  rw [e, desc_keys] at h
  exact h
/-- at most so many are nested in one another -/
def Ht : Nat → T → Prop
  | 0, _ => False
  | n + 1, t => ∀ c ∈ t.kids, Ht n c
theorem Ht.more : ∀ {n : Nat} {t : T}, Ht n t → ∀ {m : Nat}, n ≤ m → Ht m t
  | 0, _, h, _, _ => h.elim
  | n + 1, t, h, 0, l => by omega
  | n + 1, t, h, m + 1, l => fun c hc => Ht.more (h c hc) (by omega)
theorem Ht.size_pos {n : Nat} {t : T} (h : Ht n t) : 0 < n := by
  cases n with
  | zero => exact h.elim
  | succ n => omega
theorem Ht.sub : ∀ {n : Nat} {t u : T}, Ht n t → u ∈ t.pre → Ht n u := by
  intro n
  induction n with
  | zero => intro t u h _; exact h.elim
  | succ n ih =>
    intro t u h hu
    rcases pre_cases hu with rfl | ⟨c, hc, huc⟩
    · exact h
    · exact (ih (h c hc) huc).more (Nat.le_succ n)
/-- levels that fit the tree -/
def Lv (lv : Str → Nat) (t : T) : Prop := ∀ e ∈ t.desc, ∀ c ∈ e.2, lv c = lv e.1 + 1
theorem Lv.kid {lv : Str → Nat} {t c : T} (h : Lv lv t) (hc : c ∈ t.kids) : Lv lv c ∧ lv c.key = lv t.key + 1 := by
  unfold Lv at h
  rw [desc_eq] at h
  exact ⟨fun e he => h e (List.mem_cons_of_mem _ (List.mem_flatMap.mpr ⟨c, hc, he⟩)), h _ (List.mem_cons_self ..) c.key (List.mem_map.mpr ⟨c, hc, rfl⟩)⟩
theorem Lv.ht {lv : Str → Nat} {deep : Nat} : ∀ (d : Nat) (t : T), Lv lv t → (∀ k ∈ t.keys, lv k ≤ deep) → deep < lv t.key + d → Ht d t := by
  intro d
  induction d with
  | zero =>
    intro t _ hk h
    have := hk t.key (mem_pre_keys (self_pre t))
    omega
  | succ d ih =>
    intro t hl hk h c hc
    obtain ⟨h1, h2⟩ := hl.kid hc
    refine ih c h1 (fun k hk' => hk k ?_) (by omega)
    rw [keys_eq]
    exact List.mem_cons_of_mem _ (List.mem_flatMap.mpr ⟨c, hc, hk'⟩)
theorem perm_flatMap {α β : Type} (f : α → List β) {l l' : List α} (h : l.Perm l') : (l.flatMap f).Perm (l'.flatMap f) := by
  induction h with
  | nil => exact .refl _
  | cons x _ ih =>
    rw [List.flatMap_cons, List.flatMap_cons]
    exact ih.append_left _
  | swap x y l =>
    rw [List.flatMap_cons, List.flatMap_cons, List.flatMap_cons, List.flatMap_cons, ← List.append_assoc, ← List.append_assoc]
    exact (List.perm_append_comm).append_right _
  | trans _ _ a b => exact a.trans b
theorem pre_trans {m : T} : ∀ (t n : T), n ∈ t.pre → m ∈ n.pre → m ∈ t.pre := by
  refine indT fun t ih n hn hm => ?_
  rcases pre_cases hn with rfl | ⟨c, hc, hnc⟩
  · exact hm
  · exact kid_pre hc (ih c hc n hnc hm)
theorem Way.keys {c u : T} {ps : List Str} (w : Way c u ps) : ∀ x ∈ ps, x ∈ c.keys := by
  induction w with
  | here t =>
    intro x hx
    rw [List.mem_singleton.mp hx]
    exact mem_pre_keys (self_pre t)
  | down hc _ ih =>
    intro x hx
    rw [keys_eq]
    rcases List.mem_cons.mp hx with e | e
    · rw [e]
      exact List.mem_cons_self ..
    · exact List.mem_cons_of_mem _ (List.mem_flatMap.mpr ⟨_, hc, ih x e⟩)
theorem kid_nodup {t c : T} (h : t.keys.Nodup) (hc : c ∈ t.kids) : c.keys.Nodup := by
  rw [keys_eq] at h
  have h2 := (List.nodup_cons.mp h).2
  have sub : ∀ cs : List T, c ∈ cs → (cs.flatMap keys).Nodup → c.keys.Nodup := by
    intro cs
    induction cs with
    | nil => intro h; cases h
    | cons d ds ih2 =>
      intro hm hnd
      rw [List.flatMap_cons, List.nodup_append] at hnd
      rcases List.mem_cons.mp hm with e | e
      · rw [e]
        exact hnd.1
      · exact ih2 e hnd.2.1
  exact sub t.kids hc h2
theorem Way.nodup {t u : T} {ps : List Str} (w : Way t u ps) : t.keys.Nodup → ps.Nodup := by
  induction w with
  | here t => intro _; simp
  | @down t c u ps hc w ih =>
    intro h
    refine List.nodup_cons.mpr ⟨fun z => ?_, ih (kid_nodup h hc)⟩
    rw [keys_eq] at h
    exact (List.nodup_cons.mp h).1 (List.mem_flatMap.mpr ⟨c, hc, w.keys _ z⟩)
theorem Way.inside {t u n : T} {ps : List Str} (w : Way t u ps) (h : t.keys.Nodup) (hu : u ∈ t.pre) (hn : n ∈ t.pre) :
    decide (n.key ∈ ps.dropLast) = (!decide (u.key = n.key) && decide (u.key ∈ n.keys)) := by
  obtain ⟨r, e⟩ := w.last
  have nd := w.nodup h
  have m := w.mem_iff h hn
  have k : u ∈ n.pre ↔ u.key ∈ n.keys := by
    constructor
    · exact mem_pre_keys
    · intro z
      obtain ⟨x, hx, ex⟩ := List.mem_map.mp z
      rw [← pre_inj h (pre_trans t n hn hx) hu ex]
      exact hx
  rw [e, List.dropLast_concat]
  rw [e, List.nodup_append] at nd
  rw [e, List.mem_append, List.mem_singleton, k] at m
  by_cases h1 : u.key = n.key
  · have no : ¬ n.key ∈ r := fun z => nd.2.2 _ z _ (List.mem_singleton.mpr rfl) h1.symm
    rw [decide_eq_false no, decide_eq_true h1]
    rfl
  · have h1' : ¬ n.key = u.key := fun z => h1 z.symm
    rw [decide_eq_false h1, Bool.not_false, Bool.true_and]
    apply decide_eq_decide.mpr
    constructor
    · intro z
      exact m.mp (Or.inl z)
    · intro z
      rcases m.mpr z with y | y
      · exact y
      · exact absurd y h1'
end T
end Kg
/-! GW: how long the text of data is at most. -/
namespace Kg
open PySem PySem.Spec PyProof.Rows L2
mutual
def wt : PyData → Nat
  | .list xs => wts xs + 3
  | .tuple xs => wts xs + 3
  | .none => 4
  | .bool _ => 5
  | .int i => (PyData.shown (.int i)).length
  | .str x => (PyData.shown (.str x)).length
  | .dict kvs => (PyData.shown (.dict kvs)).length
def wts : List PyData → Nat
  | [] => 0
  | x :: xs => wt x + 2 + wts xs
end
theorem textFrom_le : ∀ (ts : List Str) (k : Nat) (acc : Str), (textFrom k acc ts).length ≤ acc.length + (ts.map fun t => t.length + 2).sum
  | [], k, acc => by
    show acc.length ≤ acc.length + 0
    omega
  | t :: r, k, acc => by
    have ih := textFrom_le r (k + 1) (acc ++ (if k > 0 then ", " else "" : String) ++ t)
    have e : (acc ++ (if k > 0 then ", " else "" : String) ++ t).length = acc.length + (if k > 0 then 2 else 0) + t.length := by
      rw [strLen_append, strLen_append]
      congr 2
      split <;> rfl
    rw [List.map_cons, List.sum_cons]
    have : (textFrom k acc (t :: r)).length = (textFrom (k + 1) (acc ++ (if k > 0 then ", " else "" : String) ++ t) r).length := rfl
    rw [this]
    rw [e] at ih
    have two : (if k > 0 then 2 else 0 : Nat) ≤ 2 := by
      by_cases hk : k > 0
      · rw [if_pos hk]
        exact Nat.le_refl _
      · rw [if_neg hk]
        exact Nat.zero_le _
    omega
theorem join_le : ∀ ts : List Str, (Str.join ", " ts).length ≤ (ts.map fun t => t.length + 2).sum
  | [] => by decide
  | [x] => by
    show x.length ≤ _
    simp
  | x :: y :: r => by
    have ih := join_le (y :: r)
    have e : (Str.join ", " (x :: y :: r)).length = x.length + 2 + (Str.join ", " (y :: r)).length := by
      show (x ++ ", " ++ Str.join ", " (y :: r)).length = _
      rw [strLen_append, strLen_append]
      rfl
    rw [e, List.map_cons, List.sum_cons]
    omega
mutual
theorem shown_le : ∀ d : PyData, d.shown.length ≤ wt d
  | .list xs => by
    rw [PyData.shown, wt, listText, strLen_append]
    have h1 := textFrom_le (PyData.shownAll xs) 0 "["
    have h2 := shownAll_le xs
    have e1 : ((("[" : String) : Str)).length = 1 := rfl
    have e2 : ((("]" : String) : Str)).length = 1 := rfl
    rw [e1] at h1
    omega
  | .tuple xs => by
    rw [PyData.shown, wt, tupleText, strLen_append, strLen_append]
    have h1 := join_le (PyData.shownAll xs)
    have h2 := shownAll_le xs
    have e1 : ((("(" : String) : Str)).length = 1 := rfl
    have e2 : (((if (PyData.shownAll xs).length == 1 then ",)" else ")" : String) : Str)).length ≤ 2 := by
      split <;> decide
    rw [e1]
    omega
  | .none => by rw [PyData.shown, wt]; decide
  | .bool b => by rw [PyData.shown, wt]; cases b <;> decide
  | .int i => by rw [wt]; exact Nat.le_refl _
  | .str x => by rw [wt]; exact Nat.le_refl _
  | .dict kvs => by rw [wt]; exact Nat.le_refl _
theorem shownAll_le : ∀ xs : List PyData, ((PyData.shownAll xs).map fun t => t.length + 2).sum ≤ wts xs
  | [] => by rw [PyData.shownAll, wts]; exact Nat.le_refl _
  | x :: xs => by
    rw [PyData.shownAll, wts, List.map_cons, List.sum_cons]
    have h1 := shown_le x
    have h2 := shownAll_le xs
    omega
end
/-- data whose text is short -/
structure Tx (w dp : Nat) (d : PyData) : Prop where
  s : d.showable = true
  n : d.hasDict = false
  w : wt d ≤ w
  p : d.depth ≤ dp
structure Txs (w dp : Nat) (ds : List PyData) : Prop where
  s : PyData.showableAll ds = true
  n : PyData.hasDictAll ds = false
  w : wts ds ≤ w
  p : PyData.depthAll ds ≤ dp
theorem Txs.nil : Txs 0 0 [] := ⟨rfl, rfl, Nat.le_refl _, Nat.le_refl _⟩
theorem Tx.cons {w w' dp : Nat} {d : PyData} {ds : List PyData} (a : Tx w dp d) (b : Txs w' dp ds) : Txs (w + 2 + w') dp (d :: ds) := by
  refine ⟨?_, ?_, ?_, ?_⟩
  · rw [PyData.showableAll, a.s, b.s]
    rfl
  · rw [PyData.hasDictAll, a.n, b.n]
    rfl
  · rw [wts]
    have := a.w
    have := b.w
    omega
  · rw [PyData.depthAll]
    have := a.p
    have := b.p
    omega
theorem Tx.more {w w' dp dp' : Nat} {d : PyData} (a : Tx w dp d) (h : w ≤ w') (h' : dp ≤ dp') : Tx w' dp' d := ⟨a.s, a.n, Nat.le_trans a.w h, Nat.le_trans a.p h'⟩
theorem Txs.more {w w' dp dp' : Nat} {d : List PyData} (a : Txs w dp d) (h : w ≤ w') (h' : dp ≤ dp') : Txs w' dp' d := ⟨a.s, a.n, Nat.le_trans a.w h, Nat.le_trans a.p h'⟩
theorem Txs.tup {w dp : Nat} {ds : List PyData} (a : Txs w dp ds) : Tx (w + 3) (dp + 1) (.tuple ds) := ⟨by rw [PyData.showable]; exact a.s, by rw [PyData.hasDict]; exact a.n, by rw [wt]; have := a.w; omega, by rw [PyData.depth]; have := a.p; omega⟩
theorem Txs.lst {w dp : Nat} {ds : List PyData} (a : Txs w dp ds) : Tx (w + 3) (dp + 1) (.list ds) := ⟨by rw [PyData.showable]; exact a.s, by rw [PyData.hasDict]; exact a.n, by rw [wt]; have := a.w; omega, by rw [PyData.depth]; have := a.p; omega⟩
theorem Tx.show {w dp : Nat} {d : PyData} (a : Tx w dp d) (h : w ≤ 16000000) (h' : dp ≤ 100) : showOk d :=
  ⟨a.s, a.n, Nat.le_trans (Nat.le_trans (shown_le d) (Nat.le_trans a.w h)) (by decide), Nat.le_trans a.p h'⟩
theorem Tx.non : Tx 4 0 .none := ⟨rfl, rfl, Nat.le_refl _, Nat.le_refl _⟩
theorem Tx.bl (b : Bool) : Tx 5 0 (.bool b) := ⟨rfl, rfl, Nat.le_refl _, Nat.le_refl _⟩
/-- a key of at most eight signs -/
def KeyOk (k : Str) : Prop := k.length ≤ 8 ∧ ∀ c ∈ k.cps.toList, c < 16 ^ 8
theorem Tx.key {k : Str} (h : KeyOk k) : Tx 82 0 (.str k) := ⟨rfl, rfl, by
  rw [wt, PyData.shown]
  have := PySem.StrLaws.reprText_len k h.2
  have := h.1
  omega, Nat.le_refl _⟩
theorem Txs.keys : ∀ ks : List Str, (∀ k ∈ ks, KeyOk k) → Txs (84 * ks.length) 0 (ks.map .str)
  | [], _ => Txs.nil
  | k :: ks, h => ((Tx.key (h k (List.mem_cons_self ..))).cons (Txs.keys ks fun x hx => h x (List.mem_cons_of_mem _ hx))).more (by rw [List.length_cons]; omega) (Nat.le_refl _)
theorem Tx.tree : ∀ (D : Nat) (t : T), (∀ k ∈ t.keys, KeyOk k) → T.Ht D t → Tx (100 * t.size - 2) (2 * D) t.d := by
  intro D
  induction D with
  | zero => intro t _ h; exact h.elim
  | succ D ih =>
    intro t hk hh
    have kids : ∀ cs : List T, (∀ c ∈ cs, (∀ k ∈ c.keys, KeyOk k) ∧ T.Ht D c) → Txs (100 * T.sizes cs) (2 * D) (cs.map T.d) := by
      intro cs
      induction cs with
      | nil => intro _; exact Txs.nil.more (Nat.zero_le _) (Nat.zero_le _)
      | cons c cs ih2 =>
        intro h
        have h1 := ih c (h c (List.mem_cons_self ..)).1 (h c (List.mem_cons_self ..)).2
        have h2 := ih2 fun d hd => h d (List.mem_cons_of_mem _ hd)
        have h3 := T.size_pos c
        exact (h1.cons h2).more (by rw [T.sizes]; omega) (Nat.le_refl _)
    have hkids := kids t.kids fun c hc => ⟨fun k hk' => hk k (by
      rw [T.keys_eq]
      exact List.mem_cons_of_mem _ (List.mem_flatMap.mpr ⟨c, hc, hk'⟩)), hh c hc⟩
    rw [T.d_eq, T.size_eq]
    have hroot : Tx 82 0 (.str t.key) := Tx.key (hk t.key (by rw [T.keys_eq]; exact List.mem_cons_self ..))
    exact ((hroot.more (Nat.le_refl _) (Nat.zero_le (2 * D + 1))).cons ((hkids.tup.cons (Txs.nil.more (Nat.le_refl _) (Nat.zero_le _))))).tup.more (by omega) (by omega)
end Kg
namespace K2
open PySem PySem.Spec PyProof.Rows L2 Kg
def topS (i : Nat) : Stmt := PySem.Challenge.pw_keyedmoves_k02_places_of_elements.main.body.getD i (.Pass ⟨0, 0, 0, 0⟩)
section
variable {P : Program} {w : World} {K : PySem.W.Frag} {mg : Str → Option Value} {base : Heap}
/-! ### walk -/
abbrev s_walk : Stmt := topS 10
theorem sc_walk : FnScope ["tree", "found", "waiting", "item"] ["tree"] (defScope s_walk) := fscope (by decide +kernel)
def sp_walk (K : PySem.W.Frag) : Sp := fun vs H Q _ => ∃ (v : V) (t : T) (G : Hp), vs = [v] ∧ Same G H ∧ Dp K G v t.d ∧ t.size ≤ 1000 ∧
  Gives K G H (.list (t.pre.map T.d)) Q
def w_walk (K : PySem.W.Frag) (G H : Hp) (v : V) (t : T) (l q : Addr) (m : Nat) (σ : L2.St) (H' : Hp) : Prop :=
  ∃ (dn ws : List T) (xs ys : List V) (y3 : Option V), σ = [some v, some (.ref l), some (.ref q), y3] ∧
    Grow [] G H G H' ∧ H' l = some (.lst xs) ∧ H' q = some (.lst ys.reverse) ∧ DpAll K G xs (dn.map T.d) ∧ DpAll K G ys (ws.map T.d) ∧
    t.pre = dn ++ T.pres ws ∧ m = T.sizes ws
theorem ok_walk {f : Addr} {fd : FuncData} {k : Nat} (F : Fun K "walk" "walk" s_walk f fd) : FnOk P w K mg base CX0 (k + 1) f fd ["tree"] (sp_walk K) := by
  refine F.ok sc_walk (fun vs H Q E h => ?_) (fun cdv A outer s H vs Q E hr h => ?_)
  · obtain ⟨v, t, G, rfl, _⟩ := h
    rfl
  · obtain ⟨v, t, G, rfl, gi, hd, few, q⟩ := h
    refine ⟨_, (pss_cons (ps_set (i := 1) sc_walk.nd rfl (Or.inl rfl) (pe_lst pa_nil))
      (pss_cons (ps_set (i := 2) sc_walk.nd rfl (Or.inl rfl) (pe_lst (pa_cons (pv 0) pa_nil)))
      (pss_cons (ps_while PassesOwn.never (pt_truth (pv 2) (by intro _; rfl)) (pss_cons (ps_set (i := 3) sc_walk.nd rfl (Or.inl rfl) (pe_bm0 PySem.F.plainAttrs_list PySem.F.slot_list_pop PySem.F.type_list_pop mt_pop (pv 2)))
        (pss_cons (ps_expr (pe_bm PySem.F.plainAttrs_list PySem.F.slot_list_append PySem.F.type_list_append mt_append (pv 1) (pa_cons (pv 3) pa_nil)))
        (pss_one (ps_expr (pe_bm PySem.F.plainAttrs_list PySem.F.slot_list_extend PySem.F.type_list_extend mt_extT (pv 2) (pa_cons (pe_revT (pe_ix ix_tup (pv 3) pe_int (fun _ _ => rfl))) pa_nil)))))))
      (pss_one (ps_ret (pv 1)))))), ?_⟩
    refine ⟨Nat.zero_le _, fun l nl => ?_⟩
    refine ⟨v, rfl, by show 1 ≤ sizeLine; decide, fun q2 nq => ?_⟩
    have gl := gi.free nl
    have ne : q2 ≠ l := fun z => by
      rw [z, upd_same] at nq
      cases nq
    have nq' : H q2 = none := by
      rw [upd_ne ne] at nq
      exact nq
    have gq := gi.free nq'
    have s2 : Grow [] G H G (upd (upd H l (.lst [])) q2 (.lst [v])) := (Grow.beside gi nl).mut nq' gq
    refine ⟨w_walk K G H v t l q2, ⟨_, [], [t], [], [v], none, rfl, s2, ?_, ?_, .nil, ?_, ?_, rfl⟩, ?_⟩
    · rw [upd_ne ne.symm, upd_same]
    · rw [upd_same]
      rfl
    · exact .one hd
    · rw [T.pres, T.pres, List.append_nil]
      rfl
    · rintro m σ' H' ⟨dn, ws, xs, ys, y3, rfl, sm, hl, hq, hx, hy, hp, rfl⟩
      have many : dn.length + T.sizes ws = t.size := by
        rw [← T.pre_len, hp, List.length_append, T.pres_len]
      refine ⟨.ref q2, rfl, !ys.reverse.isEmpty, Or.inl ⟨_, sqL hq, rfl⟩, ?_⟩
      cases ws with
      | nil =>
        cases hy
        refine iteF ?_
        rw [T.pres, List.append_nil] at hp
        refine ⟨.ref l, rfl, q H' (upd G l (.lst xs)) (.ref l) (sm.take nl hl) ?_⟩
        rw [hp]
        exact .lst (sqL upd_same) (DpAll.same (Same.new gl) _ _ hx)
      | cons w0 ws =>
        cases hy with
        | @cons y ys _ _ hy0 hy =>
          have e0 : (!(y :: ys).reverse.isEmpty) = true := by simp
          rw [e0]
          refine iteT ?_
          obtain ⟨a, c, zs, rfl, ha, hc, hz⟩ := T.at_ hy0
          have lt1 : T.sizes (w0.kids ++ ws) < T.sizes (w0 :: ws) := by
            rw [T.sizes_append, T.sizes, T.size_eq]
            omega
          have few1 : xs.length < 2000 := by
            have := hx.length
            rw [List.length_map] at this
            omega
          have few2 : ys.length + zs.length < 2000 := by
            have h1 := hy.length
            have h2 := hz.length
            rw [List.length_map] at h1 h2
            have h3 := T.kids_le w0
            have h4 : ws.length ≤ T.sizes ws := T.kids_le (.node w0.key ws)
            rw [T.sizes, T.size_eq] at many
            omega
          refine ⟨fun σ2 H2 => ∃ m', m' < T.sizes (w0 :: ws) ∧ w_walk K G H v t l q2 m' σ2 H2, fun _ _ h => h, ?_⟩
          -- item = waiting.pop()
          refine ⟨.ref q2, rfl, Or.inl ⟨rfl, _, sqL hq⟩, q2, _, .ref a, rfl, rfl, hq, ?_, ?_⟩
          · simp
          have e1 : (V.ref a :: ys).reverse.dropLast = ys.reverse := by simp
          rw [e1]
          have s3 : Grow [] G H G (upd H' q2 (.lst ys.reverse)) := sm.mut nq' gq
          have hl3 : (upd H' q2 (.lst ys.reverse)) l = some (.lst xs) := by
            rw [upd_ne ne.symm]
            exact hl
          -- found.append(item)
          refine ⟨.ref l, rfl, Or.inl ⟨rfl, _, sqL hl3⟩, .ref a, rfl, l, xs, .ref a, rfl, rfl, hl3, Nat.lt_trans few1 (by decide), ?_⟩
          -- waiting.extend(item[1][::-1])
          have s4 : Grow [] G H G (upd (upd H' q2 (.lst ys.reverse)) l (.lst (xs ++ [.ref a]))) := s3.mut nl gl
          have hq4 : (upd (upd H' q2 (.lst ys.reverse)) l (.lst (xs ++ [.ref a]))) q2 = some (.lst ys.reverse) := by
            rw [upd_ne ne, upd_same]
          refine ⟨.ref q2, rfl, Or.inl ⟨rfl, _, sqL hq4⟩, .ref a, rfl, a, _, 1, .ref c, rfl, rfl, Same.seqT s4.i ha, rfl, c, zs, rfl, Same.seqT s4.i hc, ?_⟩
          intro p np
          have nep : q2 ≠ p := ne_of_none hq4 np
          have nlp : l ≠ p := ne_of_none upd_same np
          have np' : H p = none := s4.same.free np
          refine ⟨q2, p, ys.reverse, zs.reverse, rfl, rfl, by rw [upd_ne nep]; exact hq4, upd_same, ?_, ?_⟩
          · rw [List.length_reverse, List.length_reverse]
            exact Nat.le_trans (Nat.le_of_lt few2) (by decide)
          · refine ⟨_, lt1, dn ++ [w0], w0.kids ++ ws, xs ++ [.ref a], zs ++ ys, some (.ref a), rfl, (s4.mut np' (gi.free np')).mut nq' gq, ?_, ?_, ?_, ?_, ?_, rfl⟩
            · rw [upd_ne ne.symm, upd_ne nlp, upd_same]
            · rw [upd_same, List.reverse_append]
            · rw [List.map_append]
              exact hx.append (.one hy0)
            · rw [List.map_append]
              exact hz.append hy
            · rw [hp, T.pres, T.pre_eq, T.pres_append]
              simp
/-! ### keys_of -/
abbrev s_keys_of : Stmt := topS 4
theorem sc_keys_of : FnScope ["tree", "item"] ["tree"] (defScope s_keys_of) := fscope (by decide +kernel)
def sp_keys_of (K : PySem.W.Frag) : Sp := fun vs H Q _ => ∃ (v : V) (t : T) (G : Hp), vs = [v] ∧ Same G H ∧ Dp K G v t.d ∧ t.size ≤ 1000 ∧
  Gives K G H (.tuple (t.keys.map .str)) Q
theorem spM_walk {G H : Hp} {t : T} (few : t.size ≤ 1000) : SpM K (sp_walk K) G H [t.d] (.list (t.pre.map T.d)) := fun G1 H1 us g hu Q q E => by
  cases hu with
  | cons h1 h2 =>
    cases h2
    exact ⟨_, t, G1, rfl, g.i, h1, few, q⟩
theorem ok_keys_of {f : Addr} {fd : FuncData} {k : Nat} (F : Fun K "keys_of" "keys_of" s_keys_of f fd) (c_walk : Cal P w K mg base CX0 1 "walk" ["tree"] (sp_walk K))
    (z_tuple : mg "tuple" = none) : FnOk P w K mg base CX0 (k + 2) f fd ["tree"] (sp_keys_of K) := by
  refine F.ok sc_keys_of (fun vs H Q E h => ?_) (fun cdv A outer s H vs Q E hr h => ?_)
  · obtain ⟨v, t, G, rfl, _⟩ := h
    rfl
  · obtain ⟨v, t, G, rfl, gi, hd, few, q⟩ := h
    refine ⟨_, (pss_one (ps_ret (pe_callTy call_tuple_of (by rfl) z_tuple (by decide +kernel) (pa_cons (pe_lc (own := [("item", 1)]) (g := gName 1) (tt := tYes) (te := tOp (rIxT K) (tVar 1) (tC (.int 0))) rfl sc_keys_of.nd (pi_list (c_walk.pe hr (by omega) (by rfl) (pa_cons (pv 0) pa_nil))) (blkOk_by (own := [("item", 1)]) (N := ["tree", "item"]) (sc := defScope s_keys_of) (by decide +kernel)) (fun _ _ _ _ _ => (pg_name (i := 1) sc_keys_of.nd rfl (Or.inl rfl))) (fun _ _ _ _ _ => pts_nil) (fun _ _ _ _ _ => (pe_ix ix_tup (pv 1) pe_int (fun _ _ => rfl)))) pa_nil)))), ?_⟩
    refine (em_tuple (em_lcL (ds := t.pre.map T.d) (gs := t.keys.map .str) (em_call (ea_cons (em_var rfl hd) ea_nil) (spM_walk few)) ?_ (fun _ => rfl) ?_ ?_)).now gi q
    · rw [List.length_map, T.pre_len]
      omega
    · rw [List.length_map, T.keys, List.length_map, List.length_map]
    · intro i x b d G1 H1 eb ed g hx
      rw [List.getElem?_map] at eb
      rw [T.keys, List.map_map, List.getElem?_map] at ed
      cases ht : t.pre[i]? with
      | none =>
        rw [ht] at eb
        cases eb
      | some u =>
        rw [ht] at eb ed
        cases eb
        cases ed
        exact em_ixT (ds := [.str u.key, .tuple (u.kids.map T.d)]) (em_var rfl (by rw [← T.d_eq]; exact hx)) em_int rfl
end
end K2
namespace K2
open PySem PySem.Spec PyProof.Rows L2 Kg
section
variable {P : Program} {w : World} {K : PySem.W.Frag} {mg : Str → Option Value} {base : Heap}
/-! ### subtree: an element that is there -/
abbrev s_subtree : Stmt := topS 7
theorem sc_subtree : FnScope ["tree", "key", "item"] ["tree", "key"] (defScope s_subtree) := fscope (by decide +kernel)
def sp_subtree (K : PySem.W.Frag) : Sp := fun vs H Q _ => ∃ (v : V) (t u : T) (G : Hp), vs = [v, .str u.key] ∧ Same G H ∧ Dp K G v t.d ∧ t.size ≤ 1000 ∧
  t.keys.Nodup ∧ u ∈ t.pre ∧ Gives K G H u.d Q
theorem ok_subtree {f : Addr} {fd : FuncData} {k : Nat} (F : Fun K "subtree" "subtree" s_subtree f fd) (c_walk : Cal P w K mg base CX0 1 "walk" ["tree"] (sp_walk K)) :
    FnOk P w K mg base CX0 (k + 2) f fd ["tree", "key"] (sp_subtree K) := by
  refine F.ok sc_subtree (fun vs H Q E h => ?_) (fun cdv A outer s H vs Q E hr h => ?_)
  · obtain ⟨v, t, u, G, rfl, _⟩ := h
    rfl
  · obtain ⟨v, t, u, G, rfl, gi, hd, few, nd, hu, q⟩ := h
    refine ⟨_, (pss_cons (ps_for PassesOwn.never rfl (pi_list (c_walk.pe hr (by omega) (by rfl) (pa_cons (pv 0) pa_nil))) (pg_name (i := 2) sc_subtree.nd rfl (Or.inl rfl)) (pss_one (ps_if (pt_cmpR op_eq (pe_ix ix_tup (pv 2) pe_int (fun _ _ => rfl)) (pv 1) (nomark _)) (pss_one (ps_ret (pv 2))) pss_nil)))
      (pss_one ps_never)), ?_⟩
    refine ⟨v, rfl, v, t, G, rfl, gi, hd, few, fun H1 G1 x g hx => ?_⟩
    obtain ⟨a, xs, rfl, ha, hx⟩ := hx.lst_at
    refine ⟨a, rfl, ⟨xs, g.i.seq ha⟩, ?_⟩
    refine for_list (xs := xs) (fun i σ' H' => H' = H1 ∧ (∃ y, σ' = [some v, some (.str u.key), y]) ∧ ∀ (j : Nat) (n : T), j < i → t.pre[j]? = some n → n.key ≠ u.key) ⟨rfl, ⟨none, rfl⟩, fun j n h => by omega⟩ ?_ ?_ ?_
    · rintro i σ' H' _ ⟨rfl, _⟩
      exact g.i.seq ha
    · rintro i x σ' H' ex ⟨rfl, ⟨y, rfl⟩, no⟩
      have hi : i < t.pre.length := by
        have h1 := hx.length
        rw [List.length_map] at h1
        have := (List.getElem?_eq_some_iff.mp ex).1
        omega
      obtain ⟨v', ev, hv⟩ := hx.get (i := i) (d := t.pre[i].d) (by rw [List.getElem?_map, List.getElem?_eq_getElem hi]; rfl)
      rw [ex] at ev
      cases ev
      obtain ⟨b, c, zs, rfl, hb, _⟩ := T.at_ hv
      refine ⟨.ref b, rfl, b, _, 0, .str t.pre[i].key, rfl, rfl, Same.seqT g.i hb, rfl, .str u.key, rfl, rfl, _, rfl, ite2 (fun e => ?_) (fun e => ?_)⟩
      · have e1 : t.pre[i].key = u.key := by
          have := of_decide_eq_true e
          injection this
        have e2 : t.pre[i] = u := T.pre_inj nd (List.getElem_mem hi) hu e1
        rw [e2] at hv
        exact ⟨.ref b, rfl, q H' G1 (.ref b) g hv⟩
      · refine ⟨rfl, ⟨some (.ref b), rfl⟩, fun j n hj hn => ?_⟩
        rcases Nat.lt_succ_iff_lt_or_eq.mp hj with h | rfl
        · exact no j n h hn
        · intro z
          rw [List.getElem?_eq_getElem hi] at hn
          cases hn
          exact e (decide_eq_true (by rw [z]))
    · rintro σ' H' ⟨rfl, _, no⟩
      obtain ⟨j, hj, ej⟩ := List.getElem_of_mem hu
      have h1 := hx.length
      rw [List.length_map] at h1
      exact no j u (by omega) (by rw [List.getElem?_eq_getElem hj, ej]) rfl
/-! ### children_of -/
abbrev s_children_of : Stmt := topS 6
theorem sc_children_of : FnScope ["tree", "key", "child"] ["tree", "key"] (defScope s_children_of) := fscope (by decide +kernel)
def sp_children_of (K : PySem.W.Frag) : Sp := fun vs H Q _ => ∃ (v : V) (t u : T) (G : Hp), vs = [v, .str u.key] ∧ Same G H ∧ Dp K G v t.d ∧ t.size ≤ 1000 ∧
  t.keys.Nodup ∧ u ∈ t.pre ∧ Gives K G H (.tuple ((u.kids.map T.key).map .str)) Q
theorem spM_subtree {G H : Hp} {t u : T} (few : t.size ≤ 1000) (nd : t.keys.Nodup) (hu : u ∈ t.pre) : SpM K (sp_subtree K) G H [t.d, .str u.key] u.d := fun G1 H1 us g h Q q E => by
  cases h with
  | cons h1 h2 =>
    cases h2 with
    | cons h2 h3 =>
      cases h2
      cases h3
      exact ⟨_, t, u, G1, rfl, g.i, h1, few, nd, hu, q⟩
theorem ok_children_of {f : Addr} {fd : FuncData} {k : Nat} (F : Fun K "children_of" "children_of" s_children_of f fd) (c_subtree : Cal P w K mg base CX0 2 "subtree" ["tree", "key"] (sp_subtree K))
    (z_tuple : mg "tuple" = none) : FnOk P w K mg base CX0 (k + 3) f fd ["tree", "key"] (sp_children_of K) := by
  refine F.ok sc_children_of (fun vs H Q E h => ?_) (fun cdv A outer s H vs Q E hr h => ?_)
  · obtain ⟨v, t, u, G, rfl, _⟩ := h
    rfl
  · obtain ⟨v, t, u, G, rfl, gi, hd, few, nd, hu, q⟩ := h
    refine ⟨_, (pss_one (ps_ret (pe_callTy call_tuple_of (by rfl) z_tuple (by decide +kernel) (pa_cons (pe_lc (own := [("child", 2)]) (g := gName 2) (tt := tYes) (te := tOp (rIxT K) (tVar 2) (tC (.int 0))) rfl sc_children_of.nd (pi_tup (pe_ix ix_tup (c_subtree.pe hr (by omega) (by rfl) (pa_cons (pv 0) (pa_cons (pv 1) pa_nil))) pe_int (fun _ _ => rfl))) (blkOk_by (own := [("child", 2)]) (N := ["tree", "key", "child"]) (sc := defScope s_children_of) (by decide +kernel)) (fun _ _ _ _ _ => (pg_name (i := 2) sc_children_of.nd rfl (Or.inl rfl))) (fun _ _ _ _ _ => pts_nil) (fun _ _ _ _ _ => (pe_ix ix_tup (pv 2) pe_int (fun _ _ => rfl)))) pa_nil)))), ?_⟩
    have few2 : u.kids.length ≤ 1000 := by
      have := T.pre_kids hu
      omega
    refine (em_tuple (em_lcT (ds := u.kids.map T.d) (gs := (u.kids.map T.key).map .str) (em_ixT (ds := [.str u.key, .tuple (u.kids.map T.d)]) (d := .tuple (u.kids.map T.d))
      (by rw [← T.d_eq]; exact em_call (ea_cons (em_var rfl hd) (ea_cons (em_var rfl (.str u.key)) ea_nil)) (spM_subtree few nd hu)) em_int rfl) ?_ (fun _ => rfl) ?_ ?_)).now gi q
    · rw [List.length_map]
      omega
    · rw [List.length_map, List.length_map, List.length_map]
    · intro i x b d G1 H1 eb ed g hx
      rw [List.getElem?_map] at eb
      rw [List.map_map, List.getElem?_map] at ed
      cases ht : u.kids[i]? with
      | none =>
        rw [ht] at eb
        cases eb
      | some n =>
        rw [ht] at eb ed
        cases eb
        cases ed
        exact em_ixT (ds := [.str n.key, .tuple (n.kids.map T.d)]) (em_var rfl (by rw [← T.d_eq]; exact hx)) em_int rfl
end
end K2
namespace Kg
open PySem PySem.Spec PyProof.Rows L2
/-- a dict's pairs: the key of each element and its parent's -/
def parD (t : T) (es : List (Str × Str)) : List (L2.Key × V) := (Sum.inr t.key, V.non) :: es.map fun e => (Sum.inr e.1, V.str e.2)
theorem parD_snoc (t : T) (es : List (Str × Str)) (e : Str × Str) : parD t (es ++ [e]) = parD t es ++ [(Sum.inr e.1, V.str e.2)] := by
  unfold parD
  rw [List.map_append]
  rfl
theorem valV_map_str (x : Str) : ∀ es : List (Str × Str), (∀ y, (x, y) ∉ es) → valV (es.map fun e => ((Sum.inr e.1 : L2.Key), V.str e.2)) (Sum.inr x) = none
  | [], _ => rfl
  | (a, b) :: es, h => by
    have ne : ¬ (Sum.inr a : L2.Key) = Sum.inr x := fun z => h b (by
      injection z with z
      rw [← z]
      exact List.mem_cons_self ..)
    rw [List.map_cons, valV_neg ne]
    exact valV_map_str x es fun y hy => h y (List.mem_cons_of_mem _ hy)
theorem valV_map_in (x y : Str) : ∀ es : List (Str × Str), (es.map (·.1)).Nodup → (x, y) ∈ es → valV (es.map fun e => ((Sum.inr e.1 : L2.Key), V.str e.2)) (Sum.inr x) = some (.str y)
  | [], _, h => by cases h
  | (a, b) :: es, nd, h => by
    rw [List.map_cons, List.nodup_cons] at nd
    rw [List.map_cons]
    rcases List.mem_cons.mp h with e | e
    · cases e
      exact valV_pos rfl
    · have ne : ¬ (Sum.inr a : L2.Key) = Sum.inr x := fun z => by
        injection z with z
        exact nd.1 (List.mem_map.mpr ⟨_, e, z.symm⟩)
      rw [valV_neg ne]
      exact valV_map_in x y es nd.2 e
theorem parD_root (t : T) (es : List (Str × Str)) : valV (parD t es) (Sum.inr t.key) = some .non := valV_pos rfl
theorem parD_edge {t : T} (h : t.keys.Nodup) {x y : Str} (e : (x, y) ∈ t.edges) : valV (parD t t.edges) (Sum.inr x) = some (.str y) := by
  have nd := List.nodup_cons.mp (T.edges_nodup h)
  have ne : ¬ (Sum.inr t.key : L2.Key) = Sum.inr x := fun z => by
    injection z with z
    rw [← z] at e
    exact T.root_no h e
  unfold parD
  rw [valV_neg ne]
  exact valV_map_in x y _ nd.2 e
end Kg
namespace K2
open PySem PySem.Spec PyProof.Rows L2 Kg
section
variable {P : Program} {w : World} {K : PySem.W.Frag} {mg : Str → Option Value} {base : Heap}
/-! ### parents_of -/
abbrev s_parents_of : Stmt := topS 11
theorem sc_parents_of : FnScope ["tree", "parents", "item", "child"] ["tree"] (defScope s_parents_of) := fscope (by decide +kernel)
def sp_parents_of (K : PySem.W.Frag) : Sp := fun vs H Q _ => ∃ (v : V) (t : T) (G : Hp), vs = [v] ∧ Same G H ∧ Dp K G v t.d ∧ t.size ≤ 1000 ∧
  t.keys.Nodup ∧ ∀ H' G' p, Grow [] G H G' H' → H p = none → G' p = none → H' p = some (.dK (parD t t.edges)) → Q (.ref p) H'
theorem ok_parents_of {f : Addr} {fd : FuncData} {k : Nat} (F : Fun K "parents_of" "parents_of" s_parents_of f fd) (c_walk : Cal P w K mg base CX0 1 "walk" ["tree"] (sp_walk K)) :
    FnOk P w K mg base CX0 (k + 2) f fd ["tree"] (sp_parents_of K) := by
  refine F.ok sc_parents_of (fun vs H Q E h => ?_) (fun cdv A outer s H vs Q E hr h => ?_)
  · obtain ⟨v, t, G, rfl, _⟩ := h
    rfl
  · obtain ⟨v, t, G, rfl, gi, hd, few, nd, q⟩ := h
    have hu := hu_of hr
    refine ⟨_, (pss_cons (ps_set (i := 1) sc_parents_of.nd rfl (Or.inl rfl) (pe_disp (pps_cons (pe_ix ix_tup (pv 0) pe_int (fun _ _ => rfl)) pe_non pps_nil) (by rfl) (by rfl) (fun z => by cases z) (by decide)))
      (pss_cons (ps_for PassesOwn.never rfl (pi_list (c_walk.pe hr (by omega) (by rfl) (pa_cons (pv 0) pa_nil))) (pg_name (i := 2) sc_parents_of.nd rfl (Or.inl rfl)) (pss_one (ps_for PassesOwn.never rfl (pi_tup (pe_ix ix_tup (pv 2) pe_int (fun _ _ => rfl))) (pg_name (i := 3) sc_parents_of.nd rfl (Or.inl rfl)) (pss_one (ps_dput hu (pv 1) (pe_ix ix_tup (pv 3) pe_int (fun _ _ => rfl)) (pe_ix ix_tup (pv 2) pe_int (fun _ _ => rfl)) rfl)))))
      (pss_one (ps_ret (pv 1))))), ?_⟩
    obtain ⟨a0, c0, zs0, rfl, ha0, _, _⟩ := T.at_ hd
    -- parents = {tree[0]: None}
    intro p np
    have gp := gi.free np
    have g1 : Grow [] G H G (upd H p (.dK [])) := .beside gi np
    refine ⟨.ref a0, rfl, a0, _, 0, .str t.key, rfl, rfl, Same.seqT g1.i ha0, rfl, upd_same, [(Sum.inr t.key, V.non)], rfl, by show 1 ≤ 15; decide, ?_⟩
    rw [upd_upd, show mergeK [] [((Sum.inr t.key : L2.Key), V.non)] = parD t [] from rfl]
    have g2 : Grow [] G H G (upd H p (.dK (parD t []))) := .beside gi np
    -- for item in walk(tree)
    refine ⟨.ref a0, rfl, .ref a0, t, G, rfl, g2.i, hd, few, fun H3 G3 x g3 hx => ?_⟩
    obtain ⟨l, xs, rfl, hl, hx⟩ := hx.lst_at
    have hp3 : H3 p = some (.dK (parD t [])) := g3.same _ _ upd_same
    have gp3 : G3 p = none := g3.off gp upd_same
    have hxl := hx.length
    rw [List.length_map] at hxl
    have root : Grow [] G H G3 H3 := g2.tr g3
    refine ⟨l, rfl, ⟨xs, g3.i.seq hl⟩, ?_⟩
    refine for_list (xs := xs) (fun i σ' H' => (∃ y2 y3, σ' = [some (.ref a0), some (.ref p), y2, y3]) ∧ Grow [] G H G3 H' ∧
      H' p = some (.dK (parD t ((t.pre.take i).flatMap fun n => n.kids.map fun c => (c.key, n.key))))) ⟨⟨none, none, rfl⟩, root, hp3⟩ ?_ ?_ ?_
    · rintro i σ' H' _ ⟨_, g, _⟩
      exact g.i.seq hl
    · rintro i x σ' H' ex ⟨⟨y2, y3, rfl⟩, g, hp⟩
      have hi : i < t.pre.length := by
        have := (List.getElem?_eq_some_iff.mp ex).1
        omega
      obtain ⟨v', ev, hv⟩ := hx.get (i := i) (d := t.pre[i].d) (by rw [List.getElem?_map, List.getElem?_eq_getElem hi]; rfl)
      rw [ex] at ev
      cases ev
      obtain ⟨b, c, zs, rfl, hb, hc, hz⟩ := T.at_ hv
      have hzl := hz.length
      rw [List.length_map] at hzl
      -- for child in item[1]
      refine ⟨.ref b, rfl, b, _, 1, .ref c, rfl, rfl, Same.seqT g.i hb, rfl, c, rfl, ⟨zs, Same.seqT g.i hc⟩, ?_⟩
      refine for_tup (xs := zs) (fun j σ' H' => (∃ y3, σ' = [some (.ref a0), some (.ref p), some (.ref b), y3]) ∧ Grow [] G H G3 H' ∧
        H' p = some (.dK (parD t ((t.pre.take i).flatMap (fun n => n.kids.map fun c => (c.key, n.key)) ++ (t.pre[i].kids.take j).map fun c => (c.key, t.pre[i].key))))) ⟨⟨y3, rfl⟩, g, ?_⟩ ?_ ?_ ?_
      · rw [List.take_zero, List.map_nil, List.append_nil]
        exact hp
      · rintro j σ' H' _ ⟨_, g, _⟩
        exact Same.seqT g.i hc
      · rintro j x σ' H' ex ⟨⟨y3, rfl⟩, g, hp⟩
        have hj : j < t.pre[i].kids.length := by
          have := (List.getElem?_eq_some_iff.mp ex).1
          omega
        obtain ⟨v', ev, hv'⟩ := hz.get (i := j) (d := t.pre[i].kids[j].d) (by rw [List.getElem?_map, List.getElem?_eq_getElem hj]; rfl)
        rw [ex] at ev
        cases ev
        obtain ⟨b', c', zs', rfl, hb', hc', hz'⟩ := T.at_ hv'
        have eq : t.edges = ((t.pre.take i).flatMap (fun n => n.kids.map fun c => (c.key, n.key)) ++ (t.pre[i].kids.take j).map fun c => (c.key, t.pre[i].key)) ++
            ((t.pre[i].kids[j].key, t.pre[i].key) :: ((t.pre[i].kids.drop (j + 1)).map (fun c => (c.key, t.pre[i].key)) ++ (t.pre.drop (i + 1)).flatMap fun n => n.kids.map fun c => (c.key, n.key))) := by
          have e1 : t.pre = t.pre.take i ++ t.pre[i] :: t.pre.drop (i + 1) := by
            rw [← List.drop_eq_getElem_cons hi, List.take_append_drop]
          have e2 : t.pre[i].kids = t.pre[i].kids.take j ++ t.pre[i].kids[j] :: t.pre[i].kids.drop (j + 1) := by
            rw [← List.drop_eq_getElem_cons hj, List.take_append_drop]
          have e3 : t.edges = (t.pre.take i ++ t.pre[i] :: t.pre.drop (i + 1)).flatMap fun n => n.kids.map fun c => (c.key, n.key) := by
            rw [← e1]
            rfl
          rw [e3, List.flatMap_append, List.flatMap_cons]
          have e4 : (t.pre[i].kids.map fun c => (c.key, t.pre[i].key)) = (t.pre[i].kids.take j).map (fun c => (c.key, t.pre[i].key)) ++ (t.pre[i].kids[j].key, t.pre[i].key) :: (t.pre[i].kids.drop (j + 1)).map fun c => (c.key, t.pre[i].key) := by
            rw [← List.map_cons (f := fun c => (T.key c, t.pre[i].key)), ← List.map_append, ← e2]
          rw [e4]
          simp
        have nk : valV (parD t ((t.pre.take i).flatMap (fun n => n.kids.map fun c => (c.key, n.key)) ++ (t.pre[i].kids.take j).map fun c => (c.key, t.pre[i].key))) (Sum.inr t.pre[i].kids[j].key) = none := by
          have nd2 := T.edges_nodup nd
          rw [eq, List.map_append, List.map_cons] at nd2
          have ne : ¬ (Sum.inr t.key : L2.Key) = Sum.inr t.pre[i].kids[j].key := fun z => by
            injection z with z
            exact (List.nodup_cons.mp nd2).1 (by rw [z]; simp)
          unfold parD
          rw [valV_neg ne]
          refine valV_map_str _ _ fun y hy => ?_
          have nd3 := (List.nodup_append.mp (List.nodup_cons.mp nd2).2).2.2
          exact nd3 _ (List.mem_map.mpr ⟨_, hy, rfl⟩) _ (List.mem_cons_self ..) rfl
        have el := T.edges_len t
        have ll : (parD t ((t.pre.take i).flatMap (fun n => n.kids.map fun c => (c.key, n.key)) ++ (t.pre[i].kids.take j).map fun c => (c.key, t.pre[i].key))).length < sizeLine := by
          have : ((t.pre.take i).flatMap (fun n => n.kids.map fun c => (c.key, n.key)) ++ (t.pre[i].kids.take j).map fun c => (c.key, t.pre[i].key)).length ≤ t.edges.length := by
            rw [eq, List.length_append (bs := _ :: _)]
            omega
          unfold parD
          rw [List.length_cons, List.length_map]
          exact Nat.lt_of_le_of_lt (by omega : _ ≤ 2000) (by decide)
        refine ⟨.ref b, rfl, b, _, 0, .str t.pre[i].key, rfl, rfl, Same.seqT g.i hb, rfl, .ref p, rfl, .ref b', rfl, b', _, 0, .str t.pre[i].kids[j].key, rfl, rfl, Same.seqT g.i hb', rfl, p, _, rfl,
          DPut.k (k := Sum.inr t.pre[i].kids[j].key) hp ll, ⟨some (.ref b'), rfl⟩, g.mut np gp3, ?_⟩
        rw [upd_same, putK_new _ nk, List.take_succ, List.getElem?_eq_getElem hj, List.map_append, ← List.append_assoc]
        exact congrArg (fun z => some (HO.dK z)) (parD_snoc t _ (t.pre[i].kids[j].key, t.pre[i].key)).symm
      · rintro σ' H' ⟨⟨y3, rfl⟩, g, hp⟩
        refine ⟨⟨some (.ref b), y3, rfl⟩, g, ?_⟩
        rw [hzl, List.take_length] at hp
        rw [hp, List.take_succ, List.getElem?_eq_getElem hi, List.flatMap_append]
        simp
    · rintro σ' H' ⟨⟨y2, y3, rfl⟩, g, hp⟩
      rw [hxl, List.take_length] at hp
      exact ⟨.ref p, rfl, q H' G3 p g np gp3 hp⟩
end
end K2
namespace Kg
open PySem PySem.Spec PyProof.Rows L2
theorem inV_strs (x : Str) (ks : List Str) : inV (.str x) (ks.map V.str) = decide (x ∈ ks) := by
  unfold inV
  rw [List.any_map]
  by_cases h : x ∈ ks
  · rw [decide_eq_true h, List.any_eq_true]
    exact ⟨x, h, by show (x == x) = true; simp⟩
  · rw [decide_eq_false h, List.any_eq_false]
    intro y hy e
    have : (y == x) = true := e
    rw [beq_iff_eq] at this
    exact h (this ▸ hy)
theorem flat_strs (ks : List Str) : (ks.map V.str).all flatV = true := by
  rw [List.all_map, List.all_eq_true]
  intro _ _
  rfl
theorem cut_last (xs : List V) : cutV xs none (some (-1)) = xs.dropLast := by
  unfold cutV
  rw [HT.sIx_none, List.drop_zero, Nat.sub_zero, List.dropLast_eq_take]
  congr 1
  show (if (-1 : Int) < 0 then ((-1 : Int) + (xs.length : Int)).toNat else min (-1 : Int).toNat xs.length) = _
  rw [if_pos (by decide)]
  omega
theorem sIx_last (n : Nat) : HT.sIx n n (some (-1)) = n - 1 := by
  show (if (-1 : Int) < 0 then ((-1 : Int) + (n : Int)).toNat else min (-1 : Int).toNat n) = _
  rw [if_pos (by decide)]
  omega
/-- the last but one of a way, None for the root -/
def parentD (ps : List Str) : PyData := if ps.length > 1 then .str (ps.getD (ps.length - 2) "") else .none
end Kg
namespace K2
open PySem PySem.Spec PyProof.Rows L2 Kg
section
variable {P : Program} {w : World} {K : PySem.W.Frag} {mg : Str → Option Value} {base : Heap}
/-! ### path_of: of an element that is there -/
abbrev s_path_of : Stmt := topS 8
theorem sc_path_of : FnScope ["tree", "key", "parents", "path"] ["tree", "key"] (defScope s_path_of) := fscope (by decide +kernel)
def sp_path_of (K : PySem.W.Frag) : Sp := fun vs H Q _ => ∃ (v : V) (t u : T) (ps : List Str) (G : Hp), vs = [v, .str u.key] ∧ Same G H ∧ Dp K G v t.d ∧ t.size ≤ 1000 ∧
  t.keys.Nodup ∧ T.Way t u ps ∧ Gives K G H (.tuple (ps.map .str)) Q
theorem ok_path_of {f : Addr} {fd : FuncData} {k : Nat} (F : Fun K "path_of" "path_of" s_path_of f fd) (c_parents_of : Cal P w K mg base CX0 2 "parents_of" ["tree"] (sp_parents_of K))
    (z_tuple : mg "tuple" = none) (z_str : mg "str" = none) (z_isinstance : mg "isinstance" = none) :
    FnOk P w K mg base CX0 (k + 3) f fd ["tree", "key"] (sp_path_of K) := by
  refine F.ok sc_path_of (fun vs H Q E h => ?_) (fun cdv A outer s H vs Q E hr h => ?_)
  · obtain ⟨v, t, u, ps, G, rfl, _⟩ := h
    rfl
  · obtain ⟨v, t, u, ps, G, rfl, gi, hd, few, nd, way, q⟩ := h
    have hu := hu_of hr
    refine ⟨_, (pss_cons (ps_set (i := 2) sc_path_of.nd rfl (Or.inl rfl) (c_parents_of.pe hr (by omega) (by rfl) (pa_cons (pv 0) pa_nil)))
      (pss_cons (ps_if (PW.pt (pw_or (pt_not (pt_val (pe_callB call_isi (by rfl) z_isinstance (by decide +kernel) (pa_cons (pv 1) (pa_cons (pe_bltn (v := .ty "str") (by rfl) z_str (by decide +kernel) rfl) pa_nil))))) (pw_or1 (pt_cmp (pc_dnotin hu (pv 1) (pv 2)))))) (pss_one ps_never) pss_nil)
      (pss_cons (ps_set (i := 3) sc_path_of.nd rfl (Or.inl rfl) (pe_lst (pa_cons (pv 1) pa_nil)))
      (pss_cons (ps_while PassesOwn.never (pt_cmp (pc_notN (pe_dget hu (pv 2) (pe_ix ix_list (pv 3) (pe_un un_neg pe_int) (fun _ _ => rfl)) (fun _ _ => rfl)))) (pss_one (ps_expr (pe_bm PySem.F.plainAttrs_list PySem.F.slot_list_append PySem.F.type_list_append mt_append (pv 3) (pa_cons (pe_dget hu (pv 2) (pe_ix ix_list (pv 3) (pe_un un_neg pe_int) (fun _ _ => rfl)) (fun _ _ => rfl)) pa_nil)))))
      (pss_one (ps_ret (pe_callTy call_tuple_of (by rfl) z_tuple (by decide +kernel) (pa_cons (pe_revL (pv 3)) pa_nil)))))))), ?_⟩
    refine ⟨v, rfl, v, t, G, rfl, gi, hd, few, nd, fun H1 G1 p g np gp hp => ?_⟩
    have there : ∃ z, valV (parD t t.edges) (Sum.inr u.key) = some z := by
      obtain ⟨r, e⟩ := way.last
      cases hl : r with
      | nil =>
        obtain ⟨r', e'⟩ := way.head
        rw [hl] at e
        rw [e] at e'
        injection e' with e1 _
        exact ⟨_, by rw [e1]; exact parD_root t _⟩
      | cons x xs =>
        have h1 : ps[r.length]? = some u.key := by rw [e]; simp
        have h2 : ps[r.length - 1]? = some ps[r.length - 1]! := by
          have hlt : r.length - 1 < ps.length := by rw [e]; simp; omega
          rw [List.getElem?_eq_getElem hlt]
          simp [hlt]
        have e1 : r.length - 1 + 1 = r.length := by rw [hl, List.length_cons]; omega
        exact ⟨_, parD_edge nd (way.step (r.length - 1) _ _ h2 (by rw [e1]; exact h1))⟩
    obtain ⟨z0, ez0⟩ := there
    -- the test
    refine ⟨.str u.key, rfl, .str u.key, .ty "str", .type "str", .type "str", true, rfl, .ty "str", .base (.str u.key), kit_ty (by decide +kernel), true, rfl, iteF ?_⟩
    refine ⟨.str u.key, rfl, .ref p, rfl, p, _, rfl, DGet.k (k := Sum.inr u.key) hp, _, rfl, ?_⟩
    rw [ez0]
    refine iteF ?_
    -- path = [key]
    refine ⟨.str u.key, rfl, by show 1 ≤ sizeLine; decide, fun l nl => ?_⟩
    have nl0 : H l = none := g.same.free nl
    have gl : G1 l = none := g.i.free nl
    have nlp : l ≠ p := fun z => by
      rw [z, hp] at nl
      cases nl
    have hlen := way.len
    obtain ⟨r0, e0⟩ := way.last
    have hpos : 0 < ps.length := by rw [e0]; simp
    have hlast : ps[ps.length - 1]? = some u.key := by rw [e0]; simp
    refine ⟨fun m σ' H' => m < ps.length ∧ σ' = [some v, some (.str u.key), some (.ref p), some (.ref l)] ∧ Grow [] G H G1 H' ∧
      H' p = some (.dK (parD t t.edges)) ∧ H' l = some (.lst ((ps.drop m).reverse.map V.str)), ⟨ps.length - 1, by omega, rfl, g.mut nl0 gl, ?_, ?_⟩, ?_⟩
    · rw [upd_ne nlp.symm]
      exact hp
    · rw [upd_same, List.drop_eq_getElem_cons (by omega), show ps.length - 1 + 1 = ps.length by omega, List.drop_length]
      have : ps[ps.length - 1] = u.key := by
        rw [List.getElem?_eq_getElem (by omega)] at hlast
        exact Option.some.inj hlast
      rw [this]
      rfl
    · rintro m σ' H' ⟨hm, rfl, gg, hp', hl'⟩
      have eat : atI ((ps.drop m).reverse.map V.str) (-1) = some (.str ps[m]) := by
        rw [List.drop_eq_getElem_cons hm, List.reverse_cons, List.map_append]
        exact atI_last _ _
      have get : ∀ {z : V}, valV (parD t t.edges) (Sum.inr ps[m]) = some z → DGet H' p (.str ps[m]) (some z) := fun {z} h => h ▸ DGet.k (k := Sum.inr ps[m]) hp'
      cases m with
      | zero =>
        have er : valV (parD t t.edges) (Sum.inr ps[0]) = some .non := by
          obtain ⟨r', e'⟩ := way.head
          have : ps[0] = t.key := by
            have : ps[0]? = some t.key := by rw [e']; rfl
            rw [List.getElem?_eq_getElem hm] at this
            exact Option.some.inj this
          rw [this]
          exact parD_root t _
        refine ⟨.ref p, rfl, .ref l, rfl, 1, rfl, l, _, -1, _, rfl, rfl, sqL hl', eat, p, .non, rfl, get er, ?_⟩
        refine ⟨_, rfl, iteF ?_⟩
        -- return tuple(path[::-1])
        refine ⟨.ref l, rfl, l, _, rfl, sqL hl', fun l2 nl2 => ?_⟩
        have n2 : H l2 = none := gg.same.free nl2
        refine ⟨l2, _, rfl, .inl ⟨sqL upd_same, fun p3 np3 => ?_⟩⟩
        have g5 : Grow [] G H G1 (upd H' l2 (.lst ((ps.drop 0).reverse.map V.str).reverse)) := gg.mut n2 (gg.i.free nl2)
        have n3 : H p3 = none := g5.same.free np3
        have e5 : ((ps.drop 0).reverse.map V.str).reverse = ps.map V.str := by
          rw [← List.map_reverse, List.reverse_reverse, List.drop_zero]
        refine q _ (upd G1 p3 (.tup (ps.map V.str))) (.ref p3) ?_ (.tup (sqT upd_same) (DpAll.strs ps))
        rw [e5] at g5 np3 ⊢
        exact g5.tr (.add g5.i np3)
      | succ m =>
        have er : valV (parD t t.edges) (Sum.inr ps[m + 1]) = some (.str ps[m]) :=
          parD_edge nd (way.step m _ _ (List.getElem?_eq_getElem (by omega)) (List.getElem?_eq_getElem hm))
        refine ⟨.ref p, rfl, .ref l, rfl, 1, rfl, l, _, -1, _, rfl, rfl, sqL hl', eat, p, _, rfl, get er, ?_⟩
        refine ⟨_, rfl, iteT ?_⟩
        refine ⟨fun σ2 H2 => ∃ m', m' < m + 1 ∧ (m' < ps.length ∧ σ2 = [some v, some (.str u.key), some (.ref p), some (.ref l)] ∧ Grow [] G H G1 H2 ∧
          H2 p = some (.dK (parD t t.edges)) ∧ H2 l = some (.lst ((ps.drop m').reverse.map V.str))), fun _ _ h => h, ?_⟩
        refine ⟨.ref l, rfl, Or.inl ⟨rfl, _, sqL hl'⟩, .ref p, rfl, .ref l, rfl, 1, rfl, l, _, -1, _, rfl, rfl, sqL hl', eat, p, _, rfl, get er, l, _, _, rfl, rfl, hl', ?_, ?_⟩
        · rw [List.length_map, List.length_reverse, List.length_drop]
          exact Nat.lt_of_le_of_lt (by omega : _ ≤ 1000) (by decide)
        · refine ⟨m, by omega, by omega, rfl, gg.mut nl0 gl, ?_, ?_⟩
          · rw [upd_ne nlp.symm]
            exact hp'
          · rw [upd_same, List.drop_eq_getElem_cons (show m < ps.length by omega), List.reverse_cons, List.map_append]
            rfl
/-! ### parent_of -/
abbrev s_parent_of : Stmt := topS 5
theorem sc_parent_of : FnScope ["tree", "key", "path"] ["tree", "key"] (defScope s_parent_of) := fscope (by decide +kernel)
def sp_parent_of (K : PySem.W.Frag) : Sp := fun vs H Q _ => ∃ (v : V) (t u : T) (ps : List Str) (G : Hp), vs = [v, .str u.key] ∧ Same G H ∧ Dp K G v t.d ∧ t.size ≤ 1000 ∧
  t.keys.Nodup ∧ T.Way t u ps ∧ Gives K G H (parentD ps) Q
theorem ok_parent_of {f : Addr} {fd : FuncData} {k : Nat} (F : Fun K "parent_of" "parent_of" s_parent_of f fd) (c_path_of : Cal P w K mg base CX0 3 "path_of" ["tree", "key"] (sp_path_of K))
    (z_len : mg "len" = none) : FnOk P w K mg base CX0 (k + 4) f fd ["tree", "key"] (sp_parent_of K) := by
  refine F.ok sc_parent_of (fun vs H Q E h => ?_) (fun cdv A outer s H vs Q E hr h => ?_)
  · obtain ⟨v, t, u, ps, G, rfl, _⟩ := h
    rfl
  · obtain ⟨v, t, u, ps, G, rfl, gi, hd, few, nd, way, q⟩ := h
    refine ⟨_, (pss_cons (ps_set (i := 2) sc_parent_of.nd rfl (Or.inl rfl) (c_path_of.pe hr (by omega) (by rfl) (pa_cons (pv 0) (pa_cons (pv 1) pa_nil))))
      (pss_one (ps_ret (pe_ifExp (pt_cmpR op_gt (pe_callB call_len_seq (by rfl) z_len (by decide +kernel) (pa_cons (pv 2) pa_nil)) pe_int (nomark _)) (pe_ix ix_tup (pv 2) (pe_un un_neg pe_int) (fun _ _ => rfl)) pe_non)))), ?_⟩
    refine ⟨v, rfl, .str u.key, rfl, v, t, u, ps, G, rfl, gi, hd, few, nd, way, fun H1 G1 x g hx => ?_⟩
    obtain ⟨a, xs, rfl, ha, hx⟩ := hx.tup_at
    have ex := DpAll.strs_eq ps hx
    subst ex
    refine ⟨.ref a, rfl, a, _, rfl, .inr (Same.seqT g.i ha), _, _, rfl, rfl, _, rfl, ?_⟩
    rw [List.length_map]
    by_cases hl : ps.length > 1
    · rw [decide_eq_true (show (ps.length : Int) > 1 by omega)]
      refine iteT ?_
      refine ⟨.ref a, rfl, 2, rfl, a, _, -2, .str (ps.getD (ps.length - 2) ""), rfl, rfl, Same.seqT g.i ha, ?_, ?_⟩
      · unfold atI ixN
        rw [List.length_map, if_neg (by decide), if_pos (by omega)]
        show (ps.map V.str)[(-2 + (ps.length : Int)).toNat]? = _
        rw [show (-2 + (ps.length : Int)).toNat = ps.length - 2 by omega, List.getElem?_map, List.getElem?_eq_getElem (by omega), List.getD_eq_getElem?_getD, List.getElem?_eq_getElem (by omega)]
        rfl
      · refine q H1 G1 _ g ?_
        unfold parentD
        rw [if_pos hl]
        exact .str _
    · rw [decide_eq_false (show ¬ (ps.length : Int) > 1 by omega)]
      refine iteF ?_
      refine q H1 G1 _ g ?_
      unfold parentD
      rw [if_neg hl]
      exact .non
/-! ### is_inside -/
abbrev s_is_inside : Stmt := topS 9
theorem sc_is_inside : FnScope ["tree", "key", "other", "path"] ["tree", "key", "other"] (defScope s_is_inside) := fscope (by decide +kernel)
def sp_is_inside (K : PySem.W.Frag) : Sp := fun vs H Q _ => ∃ (v : V) (t u n : T) (ps : List Str) (G : Hp), vs = [v, .str u.key, .str n.key] ∧ Same G H ∧ Dp K G v t.d ∧ t.size ≤ 1000 ∧
  t.keys.Nodup ∧ T.Way t u ps ∧ n ∈ t.pre ∧ Gives K G H (.bool (decide (n.key ∈ ps.dropLast))) Q
theorem ok_is_inside {f : Addr} {fd : FuncData} {k : Nat} (F : Fun K "is_inside" "is_inside" s_is_inside f fd) (c_path_of : Cal P w K mg base CX0 3 "path_of" ["tree", "key"] (sp_path_of K))
    (c_keys_of : Cal P w K mg base CX0 2 "keys_of" ["tree"] (sp_keys_of K)) : FnOk P w K mg base CX0 (k + 4) f fd ["tree", "key", "other"] (sp_is_inside K) := by
  refine F.ok sc_is_inside (fun vs H Q E h => ?_) (fun cdv A outer s H vs Q E hr h => ?_)
  · obtain ⟨v, t, u, n, ps, G, rfl, _⟩ := h
    rfl
  · obtain ⟨v, t, u, n, ps, G, rfl, gi, hd, few, nd, way, hn, q⟩ := h
    refine ⟨_, (pss_cons (ps_set (i := 3) sc_is_inside.nd rfl (Or.inl rfl) (c_path_of.pe hr (by omega) (by rfl) (pa_cons (pv 0) (pa_cons (pv 1) pa_nil))))
      (pss_cons (ps_if (pt_cmpR op_notIn_seq (pv 2) (c_keys_of.pe hr (by omega) (by rfl) (pa_cons (pv 0) pa_nil)) (by rfl)) (pss_one ps_never) pss_nil)
      (pss_one (ps_ret (pe_cmpR op_in_seq (pv 2) (pe_slice sl_tupA (pv 3) po_none (po_some (pe_un un_neg pe_int))) (by rfl)))))), ?_⟩
    refine ⟨v, rfl, .str u.key, rfl, v, t, u, ps, G, rfl, gi, hd, few, nd, way, fun H1 G1 x g hx => ?_⟩
    obtain ⟨a, xs, rfl, ha, hx⟩ := hx.tup_at
    have ex := DpAll.strs_eq ps hx
    subst ex
    refine ⟨.str n.key, rfl, v, rfl, v, t, G1, rfl, g.i, Dp.same g.g _ _ hd, few, fun H2 G2 y g2 hy => ?_⟩
    obtain ⟨b, ys, rfl, hb, hy⟩ := hy.tup_at
    have ey := DpAll.strs_eq t.keys hy
    subst ey
    refine ⟨b, _, rfl, .inr (Same.seqT g2.i hb), rfl, flat_strs _, _, rfl, ?_⟩
    rw [show (if true then !inV (V.str n.key) (t.keys.map V.str) else inV (V.str n.key) (t.keys.map V.str)) = false by
      rw [inV_strs, decide_eq_true (T.mem_pre_keys hn)]
      rfl]
    refine iteF ?_
    have ha2 : SqT K H2 a (ps.map V.str) := Same.seqT g2.into ha
    obtain ⟨r0, e0⟩ := way.last
    have hpos : 0 < ps.length := by rw [e0]; simp
    refine ⟨.str n.key, rfl, .ref a, rfl, 1, rfl, -1, rfl, a, _, rfl, ha2, fun z => ?_, fun _ p np => ?_⟩
    · have := z.2
      rw [sIx_last, List.length_map] at this
      omega
    · rw [cut_last]
      refine ⟨p, _, rfl, .inr (sqT upd_same), rfl, ?_, ?_⟩
      · rw [← List.map_dropLast]
        exact flat_strs _
      · rw [← List.map_dropLast]
        show Q (.bl (inV (.str n.key) (ps.dropLast.map V.str))) _
        rw [inV_strs]
        exact q _ G2 _ ((g.tr g2).tr (.beside g2.i np)) (.bl _)
end
end K2
namespace Kg
open PySem PySem.Spec PyProof.Rows L2
/-- the hand of draws at h: at least b draws are left -/
def Hd (H : Hp) (h : Addr) (b : Nat) : Prop := ∃ g x t : Int, H h = some (.lst [.int g, .int x, .int t]) ∧ 0 ≤ g ∧ 0 ≤ x ∧ x < 2305843009213693952 ∧ 0 ≤ t ∧ t + b ≤ 1000000
theorem Hd.less {H : Hp} {h : Addr} {b c : Nat} (a : Hd H h b) (l : c ≤ b) : Hd H h c := by
  obtain ⟨g, x, t, e, h1, h2, h3, h4, h5⟩ := a
  exact ⟨g, x, t, e, h1, h2, h3, h4, by omega⟩
theorem Hd.at_ {H : Hp} {h : Addr} {b : Nat} (a : Hd H h b) : ∃ xs, H h = some (.lst xs) := by
  obtain ⟨g, x, t, e, _⟩ := a
  exact ⟨_, e⟩
theorem Hd.same {H H' : Hp} {h : Addr} {b : Nat} (a : Hd H h b) (e : H' h = H h) : Hd H' h b := by
  obtain ⟨g, x, t, e1, r⟩ := a
  exact ⟨g, x, t, by rw [e, e1], r⟩
/-- all but the place h is as it was -/
def But (h : Addr) (H H' : Hp) : Prop := ∀ b o, b ≠ h → H b = some o → H' b = some o
theorem But.refl (h : Addr) (H : Hp) : But h H H := fun _ _ _ e => e
theorem But.trans {h : Addr} {H H1 H2 : Hp} (a : But h H H1) (b : But h H1 H2) : But h H H2 := fun c o n e => b c o n (a c o n e)
theorem But.upd {h : Addr} {H : Hp} (o : HO) : But h H (upd H h o) := fun b x n e => by
  rw [upd_ne n]
  exact e
theorem But.new {h p : Addr} {H H' : Hp} {o : HO} (a : But h H H') (n : H' p = none) : But h H (L2.upd H' p o) := fun b x m e => by
  have := a b x m e
  rw [upd_ne (ne_of_none this n)]
  exact this
theorem But.grow {h : Addr} {G H H' : Hp} (a : But h H H') (i : Same G H) (g : G h = none) : Grow [h] G H G H' :=
  ⟨i, fun b o n e => a b o (by simpa using n) e, fun _ _ e => e, fun b o e => a b o (fun z => by rw [z, g] at e; cases e) (i b o e), fun _ e _ => e⟩
theorem Grow.but {h : Addr} {G H G' H' : Hp} (a : Grow [h] G H G' H') : But h H H' := fun b o n e => a.h b o (by simpa using n) e
theorem But.seq {K : PySem.W.Frag} {h : Addr} {H H' : Hp} {a : Addr} {xs : List V} (e : But h H H') (n : a ≠ h) (s : SqL K H a xs) : SqL K H' a xs := by
  rcases s with (s | ⟨o, s⟩) | s
  · exact .inl (.inl (e _ _ n s))
  · exact .inl (.inr ⟨o, e _ _ n s⟩)
  · exact .inr s
end Kg
namespace K2
open PySem PySem.Spec PyProof.Rows L2 Kg
section
variable {P : Program} {w : World} {K : PySem.W.Frag} {mg : Str → Option Value} {base : Heap}
/-! ### _law_hand -/
abbrev s__law_hand : Stmt := topS 13
theorem sc__law_hand : FnScope ["_law_script", "_law_k", "_law_cell", "_law_great"] ["_law_script", "_law_k"] (defScope s__law_hand) := fscope (by decide +kernel)
def sp__law_hand (K : PySem.W.Frag) : Sp := fun vs H Q _ => ∃ (a : Addr) (ns : List Int) (k : Nat), vs = [.ref a, .int (k : Int)] ∧ SqL K H a (ns.map V.int) ∧ k ≤ 100 ∧
  ∀ p o, H p = none → Hd (upd H p o) p 1000000 → Q (.ref p) (upd H p o)
theorem ok__law_hand {f : Addr} {fd : FuncData} {k : Nat} (F : Fun K "_law_hand" "_law_hand" s__law_hand f fd) (z_len : mg "len" = none) (z_abs : mg "abs" = none) (z_int : mg "int" = none) :
    FnOk P w K mg base CX0 (k + 1) f fd ["_law_script", "_law_k"] (sp__law_hand K) := by
  refine F.ok sc__law_hand (fun vs H Q E h => ?_) (fun cdv A outer s H vs Q E hr h => ?_)
  · obtain ⟨a, ns, k, rfl, _⟩ := h
    rfl
  · obtain ⟨a, ns, k, rfl, hs, hk, q⟩ := h
    refine ⟨_, (Evl.pss_cut (ps_set (i := 2) sc__law_hand.nd rfl (Or.inl rfl) (pe_ifExp (pt_cmpR op_lt (pv 1) (pe_callB call_len_seq (by rfl) z_len (by decide +kernel) (pa_cons (pv 0) pa_nil)) (nomark _)) (pe_ix ix_list (pv 0) (pv 1) (fun _ _ => rfl)) (pe_op op_add (pe_op op_mul pe_int (pv 1)) pe_int)))
      (pss_cons (ps_set (i := 3) sc__law_hand.nd rfl (Or.inl rfl) (pe_op op_mul (pe_op op_mod (pe_callB call_abs (by rfl) z_abs (by decide +kernel) (pa_cons (pv 2) pa_nil)) (pe_op op_powG (pe_op op_pow pe_int pe_int) pe_int)) (pe_callTy call_int1 (by rfl) z_int (by decide +kernel) (pa_cons (pe_cmpR op_ge (pe_callB call_abs (by rfl) z_abs (by decide +kernel) (pa_cons (pv 2) pa_nil)) (pe_op op_pow pe_int pe_int) (nomark _)) pa_nil))))
      (pss_one (ps_ret (pe_lst (pa_cons (pv 3) (pa_cons (pe_op op_mod (pe_op op_mul (pe_op op_add (pe_op op_add (pe_op op_mod (pv 2) pe_int) (pe_op op_mul (pe_op op_mul pe_int (pv 1)) (pv 1))) pe_int) pe_int) pe_int) (pa_cons pe_int pa_nil)))))))), ?_⟩
    refine ⟨fun σ' H' => H' = H ∧ ∃ c : Int, σ' = [some (.ref a), some (.int k), some (.int c), none], ?_, ?_⟩
    · refine ⟨.int k, rfl, .ref a, rfl, a, _, rfl, .inl hs, _, _, rfl, rfl, _, rfl, ite2 (fun e => ?_) (fun e => ?_)⟩
      · have hl : (k : Int) < ((ns.map V.int).length : Int) := of_decide_eq_true e
        rw [List.length_map] at hl
        have hl' : k < ns.length := by omega
        refine ⟨.ref a, rfl, .int k, rfl, a, _, _, .int ns[k], rfl, rfl, hs, atI_nat (by rw [List.getElem?_map, List.getElem?_eq_getElem hl']; rfl), rfl, _, rfl⟩
      · refine ⟨.int k, rfl, _, _, rfl, rfl, .inl ⟨by decide, by decide⟩, _, _, rfl, rfl, rfl, _, rfl⟩
    · rintro σ' H' ⟨rfl, c, rfl⟩
      have habs : (0 : Int) ≤ (if c < 0 then -c else c) := by
        by_cases hc : c < 0
        · rw [if_pos hc]
          omega
        · rw [if_neg hc]
          omega
      generalize hz : (if c < 0 then -c else c) = z at habs
      refine ⟨.int c, rfl, c, rfl, 10, 60, rfl, rfl, ⟨by decide, by decide, by decide⟩, (10 : Int) ^ (60 : Int).toNat, 5, rfl, rfl, ⟨by decide +kernel, rfl⟩, _, 10 ^ 300, rfl, rfl, (by show (0 : Int) < 10 ^ 300; decide +kernel),
        .int c, rfl, c, rfl, 10, 18, rfl, rfl, ⟨by decide, by decide, by decide⟩, _, _, rfl, rfl, .inr ⟨_, rfl, _, _, rfl, rfl, .inr ?_, ?_⟩⟩
      · have two : ∀ b : Bool, (-2 ^ 64 < (if b = true then (1 : Int) else 0)) ∧ (if b = true then (1 : Int) else 0) < 2 ^ 64 := by decide
        exact two _
      rw [hz]
      generalize hb : (decide ((10 : Int) ^ (18 : Int).toNat ≤ z)) = b
      have hg : (0 : Int) ≤ z % 10 ^ 300 * (if b = true then 1 else 0) := by
        have h0 : (0 : Int) ≤ z % 10 ^ 300 := Int.emod_nonneg _ (by decide +kernel)
        cases b with
        | true =>
          show (0 : Int) ≤ z % 10 ^ 300 * 1
          omega
        | false =>
          show (0 : Int) ≤ z % 10 ^ 300 * 0
          omega
      have hc1 : 0 ≤ c % 2305843009213693951 := Int.emod_nonneg _ (by decide)
      have hc2 : c % 2305843009213693951 < 2305843009213693951 := Int.emod_lt_of_pos _ (by decide)
      have hkk : (104729 * (k : Int)) * k ≤ 104729 * 100 * 100 := by
        have h1 : 104729 * (k : Int) ≤ 104729 * 100 := by omega
        have h2 : (104729 * (k : Int)) * k ≤ (104729 * 100) * k := Int.mul_le_mul_of_nonneg_right h1 (by omega)
        omega
      have hk0 : 0 ≤ (104729 * (k : Int)) * k := Int.mul_nonneg (by omega) (by omega)
      refine ⟨.int (z % 10 ^ 300 * (if b = true then (1 : Int) else 0)), rfl, .int c, rfl, _, 2305843009213693951, rfl, rfl, (by show (0 : Int) < 2305843009213693951; decide), .int k, rfl, _, _, rfl, rfl, .inl ⟨by decide, by decide⟩, .int k, rfl, _, _, rfl, rfl, .inr ⟨by omega, by omega⟩,
        _, _, rfl, rfl, _, _, rfl, rfl, _, _, rfl, rfl, .inr ⟨by decide, by decide⟩, _, _, rfl, rfl, (by show (0 : Int) < 2305843009213693921; decide), (by show 3 ≤ sizeLine; decide), fun p np => ?_⟩
      refine q p _ np ⟨_, _, 0, upd_same, hg, Int.emod_nonneg _ (by decide), ?_, by decide, by decide⟩
      exact Int.lt_trans (Int.emod_lt_of_pos _ (by decide)) (by decide)
/-! ### _law_take -/
abbrev s__law_take : Stmt := topS 14
theorem sc__law_take : FnScope ["_law_hand_here", "_law_many", "_law_digit", "_law_turn", "_law_prime", "_law_mixed"] ["_law_hand_here", "_law_many"] (defScope s__law_take) := fscope (by decide +kernel)
def sp__law_take : Sp := fun vs H Q _ => ∃ (h : Addr) (n b : Nat), vs = [.ref h, .int (n : Int)] ∧ 0 < n ∧ n ≤ 1000000 ∧ Hd H h (b + 1) ∧
  ∀ (r : Nat) (H' : Hp), r < n → But h H H' → Hd H' h b → Q (.int (r : Int)) H'
theorem ok__law_take {f : Addr} {fd : FuncData} {k : Nat} (F : Fun K "_law_take" "_law_take" s__law_take f fd) :
    FnOk P w K mg base CX0 (k + 1) f fd ["_law_hand_here", "_law_many"] sp__law_take := by
  refine F.ok sc__law_take (fun vs H Q E h => ?_) (fun cdv A outer s H vs Q E hr h => ?_)
  · obtain ⟨h, n, b, rfl, _⟩ := h
    rfl
  · obtain ⟨h, n, b, rfl, n0, n1, ⟨g, x, t, hh, g0, x0, x1, t0, t1⟩, q⟩ := h
    refine ⟨_, (pss_cons (ps_if (pt_cmpR op_gt (pe_ix ix_list (pv 0) pe_int (fun _ _ => rfl)) pe_int (nomark _)) (pss_cons (ps_set (i := 2) sc__law_take.nd rfl (Or.inl rfl) (pe_op op_mod (pe_ix ix_list (pv 0) pe_int (fun _ _ => rfl)) (pv 1)))
        (pss_cons (ps_asg (pe_op op_fdiv (pe_ix ix_list (pv 0) pe_int (fun _ _ => rfl)) (pv 1)) (pg_sub (pv 0) pe_int set_list))
        (pss_one (ps_ret (pv 2))))) pss_nil)
      (pss_cons (ps_set (i := 3) sc__law_take.nd rfl (Or.inl rfl) (pe_op op_add (pe_ix ix_list (pv 0) pe_int (fun _ _ => rfl)) pe_int))
      (pss_cons (ps_asg (pv 3) (pg_sub (pv 0) pe_int set_list))
      (pss_cons (ps_set (i := 4) sc__law_take.nd rfl (Or.inl rfl) (pe_ix ix_list (pe_lst (pa_cons pe_int (pa_cons pe_int (pa_cons pe_int (pa_cons pe_int (pa_cons pe_int (pa_cons pe_int pa_nil))))))) (pe_op op_mod (pv 3) pe_int) (fun _ _ => rfl)))
      (pss_cons (ps_set (i := 5) sc__law_take.nd rfl (Or.inl rfl) (pe_op op_mod (pe_op op_pow (pe_op op_add (pe_op op_add (pe_ix ix_list (pv 0) pe_int (fun _ _ => rfl)) (pe_op op_mul (pe_op op_mul pe_int (pv 3)) (pv 3))) (pe_op op_mul pe_int (pv 3))) pe_int) (pv 4)))
      (pss_one (ps_ret (pe_op op_mod (pe_op op_fdiv (pe_op op_mod (pe_op op_mul (pv 5) (pe_op op_add (pe_op op_mod (pv 5) pe_int) (pe_op op_mul pe_int (pv 3)))) pe_int) pe_int) (pv 1))))))))), ?_⟩
    have nz : (0 : Int) < (n : Int) := by omega
    have toN : ∀ z : Int, ∃ r : Nat, z % (n : Int) = (r : Int) ∧ r < n := fun z => by
      have h1 := Int.emod_nonneg z (show (n : Int) ≠ 0 by omega)
      have h2 := Int.emod_lt_of_pos z nz
      exact ⟨(z % (n : Int)).toNat, by omega, by omega⟩
    refine ⟨.ref h, rfl, h, _, 0, .int g, rfl, rfl, sqL hh, rfl, g, 0, rfl, rfl, _, rfl, ite2 (fun e => ?_) (fun e => ?_)⟩
    · obtain ⟨r, er, hr'⟩ := toN g
      refine ⟨.ref h, rfl, h, _, 0, .int g, rfl, rfl, sqL hh, rfl, .int n, rfl, g, n, rfl, rfl, nz, ?_⟩
      refine ⟨.ref h, rfl, h, _, 0, .int g, rfl, rfl, sqL hh, rfl, .int n, rfl, g, n, rfl, rfl, ⟨nz, by omega⟩, .ref h, rfl, h, _, 0, 0, rfl, rfl, hh, rfl, ?_⟩
      refine ⟨.int (g % n), rfl, ?_⟩
      show Q (.int (g % n)) _
      rw [er]
      exact q r _ hr' (But.upd _) ⟨g / n, x, t, upd_same, Int.ediv_nonneg g0 (by omega), x0, x1, t0, by omega⟩
    · refine ⟨.ref h, rfl, h, _, 2, .int t, rfl, rfl, sqL hh, rfl, t, 1, rfl, rfl, ?_⟩
      refine ⟨.int (t + 1), rfl, .ref h, rfl, h, _, 2, 2, rfl, rfl, hh, rfl, ?_⟩
      refine ⟨(by show 6 ≤ sizeLine; decide), fun l nl => ?_⟩
      have hne : h ≠ l := ne_of_none upd_same nl
      have hd : Hd (upd H h (.lst [.int g, .int x, .int (t + 1)])) h b := ⟨g, x, t + 1, upd_same, g0, x0, x1, by omega, by omega⟩
      have hh2 : (upd (upd H h (.lst [.int g, .int x, .int (t + 1)])) l (.lst [.int 2147483647, .int 2147483629, .int 2147483587, .int 2147483579, .int 2147483563, .int 2147483549])) h = some (.lst [.int g, .int x, .int (t + 1)]) := by
        rw [upd_ne hne, upd_same]
      have pick : ∃ pr : Int, atI [V.int 2147483647, V.int 2147483629, V.int 2147483587, V.int 2147483579, V.int 2147483563, V.int 2147483549] ((t + 1) % 6) = some (.int pr) ∧ 0 < pr ∧ pr < 2147483648 := by
        have h1 := Int.emod_nonneg (t + 1) (show (6 : Int) ≠ 0 by decide)
        have h2 := Int.emod_lt_of_pos (t + 1) (show (0 : Int) < 6 by decide)
        generalize (t + 1) % 6 = m at h1 h2
        have : m = 0 ∨ m = 1 ∨ m = 2 ∨ m = 3 ∨ m = 4 ∨ m = 5 := by omega
        rcases this with rfl | rfl | rfl | rfl | rfl | rfl <;> exact ⟨_, rfl, by decide, by decide⟩
      obtain ⟨pr, epr, p0, p1⟩ := pick
      refine ⟨.int (t + 1), rfl, t + 1, 6, rfl, rfl, (by show (0 : Int) < 6; decide), l, _, (t + 1) % 6, .int pr, rfl, rfl, sqL upd_same, epr, ?_⟩
      have b1 : 65537 * (t + 1) * (t + 1) ≤ 65537 * 1000000 * 1000000 := by
        have h1 : 65537 * (t + 1) ≤ 65537 * 1000000 := by omega
        have h2 : 65537 * (t + 1) * (t + 1) ≤ (65537 * 1000000) * (t + 1) := Int.mul_le_mul_of_nonneg_right h1 (by omega)
        omega
      have b0 : 0 ≤ 65537 * (t + 1) * (t + 1) := Int.mul_nonneg (by omega) (by omega)
      refine ⟨.ref h, rfl, h, _, 1, .int x, rfl, rfl, sqL hh2, rfl, .int (t + 1), rfl, 65537, t + 1, rfl, rfl, .inl ⟨by decide, by decide⟩, .int (t + 1), rfl, 65537 * (t + 1), t + 1, rfl, rfl, .inr ⟨by omega, by omega⟩,
        x, 65537 * (t + 1) * (t + 1), rfl, rfl, .int (t + 1), rfl, 31, t + 1, rfl, rfl, .inl ⟨by decide, by decide⟩, x + 65537 * (t + 1) * (t + 1), 31 * (t + 1), rfl, rfl,
        x + 65537 * (t + 1) * (t + 1) + 31 * (t + 1), 3, rfl, rfl, ⟨by decide, by decide, by omega⟩, .int pr, rfl, _, pr, rfl, rfl, p0, ?_⟩
      have hm : ∀ y : Int, 0 ≤ y % pr ∧ y % pr < 2147483648 := fun y => ⟨Int.emod_nonneg _ (by omega), Int.lt_trans (Int.emod_lt_of_pos _ p0) p1⟩
      obtain ⟨m0, m1⟩ := hm ((x + 65537 * (t + 1) * (t + 1) + 31 * (t + 1)) ^ (3 : Int).toNat)
      generalize hmix : (x + 65537 * (t + 1) * (t + 1) + 31 * (t + 1)) ^ (3 : Int).toNat % pr = mix at m0 m1
      have hmix' : (fun i j : Int => V.int (i % j)) ((x + 65537 * (t + 1) * (t + 1) + 31 * (t + 1)) ^ (3 : Int).toNat) pr = V.int mix := by rw [← hmix]
      rw [hmix']
      obtain ⟨r, er, hr'⟩ := toN (mix * (mix % 10007 + 13 * (t + 1)) % 2305843009213693907 / 97)
      refine ⟨.int mix, rfl, .int mix, rfl, mix, 10007, rfl, rfl, (by show (0 : Int) < 10007; decide), .int (t + 1), rfl, 13, t + 1, rfl, rfl, .inl ⟨by decide, by decide⟩, mix % 10007, 13 * (t + 1), rfl, rfl,
        mix, mix % 10007 + 13 * (t + 1), rfl, rfl, .inl ⟨by omega, by omega⟩, _, 2305843009213693907, rfl, rfl, (by show (0 : Int) < 2305843009213693907; decide), _, 97, rfl, rfl, ⟨by decide, by decide⟩, .int n, rfl, _, n, rfl, rfl, nz, ?_⟩
      show Q (.int (mix * (mix % 10007 + 13 * (t + 1)) % 2305843009213693907 / 97 % (n : Int))) _
      rw [er]
      exact q r _ hr' ((But.upd _).new nl) (hd.same (by rw [upd_ne hne]; rfl))
/-! ### _law_of -/
abbrev s__law_of : Stmt := topS 15
theorem sc__law_of : FnScope ["_law_hand_here", "_law_items"] ["_law_hand_here", "_law_items"] (defScope s__law_of) := fscope (by decide +kernel)
def sp__law_of (K : PySem.W.Frag) : Sp := fun vs H Q _ => ∃ (h : Addr) (b : Nat), Hd H h (b + 1) ∧
  ((∃ (l : Addr) (xs : List V), vs = [.ref h, .ref l] ∧ l ≠ h ∧ SqL K H l xs ∧ 0 < xs.length ∧ xs.length ≤ 1000000 ∧
    ∀ (i : Nat) (x : V) (H' : Hp), xs[i]? = some x → But h H H' → Hd H' h b → Q x H') ∨
   ∃ (z : Str), vs = [.ref h, .str z] ∧ 0 < z.length ∧ z.length ≤ 1000 ∧
    ∀ (c : Nat) (H' : Hp), c ∈ z.cps.toList → But h H H' → Hd H' h b → Q (.str ⟨#[c]⟩) H')
theorem ok__law_of {f : Addr} {fd : FuncData} {k : Nat} (F : Fun K "_law_of" "_law_of" s__law_of f fd) (c__law_take : Cal P w K mg base CX0 1 "_law_take" ["_law_hand_here", "_law_many"] sp__law_take) (z_len : mg "len" = none) :
    FnOk P w K mg base CX0 (k + 2) f fd ["_law_hand_here", "_law_items"] (sp__law_of K) := by
  refine F.ok sc__law_of (fun vs H Q E h => ?_) (fun cdv A outer s H vs Q E hr h => ?_)
  · obtain ⟨h, b, hd, ⟨l, xs, rfl, _⟩ | ⟨z, rfl, _⟩⟩ := h <;> rfl
  · obtain ⟨h, b, hd, ⟨l, xs, rfl, ne, hl, l0, l1, q⟩ | ⟨z, rfl, l0, l1, q⟩⟩ := h
    · refine ⟨_, (pss_one (ps_ret (pe_ix ix_list (pv 1) (c__law_take.pe hr (by omega) (by rfl) (pa_cons (pv 0) (pa_cons (pe_callB call_len_seq (by rfl) z_len (by decide +kernel) (pa_cons (pv 1) pa_nil)) pa_nil))) (fun _ _ => rfl)))), ?_⟩
      refine ⟨.ref l, rfl, .ref h, rfl, .ref l, rfl, l, xs, rfl, .inl hl, h, xs.length, b, rfl, l0, l1, hd, fun r H' hr' bt hd' => ?_⟩
      exact ⟨l, xs, r, xs[r], rfl, rfl, But.seq bt ne hl, atI_nat (List.getElem?_eq_getElem hr'), q r _ H' (List.getElem?_eq_getElem hr') bt hd'⟩
    · have line := sizeLine_eq
      refine ⟨_, (pss_one (ps_ret (pe_ix ix_str (pv 1) (c__law_take.pe hr (by omega) (by rfl) (pa_cons (pv 0) (pa_cons (pe_callB call_len (by rfl) z_len (by decide +kernel) (pa_cons (pv 1) pa_nil)) pa_nil))) (fun _ _ => rfl)))), ?_⟩
      refine ⟨.str z, rfl, .ref h, rfl, .str z, rfl, .str z, z.length, rfl, ⟨by omega, rfl⟩, h, z.length, b, rfl, l0, by omega, hd, fun r H' hr' bt hd' => ?_⟩
      have hr2 : r < z.cps.toList.length := by rw [Array.length_toList]; exact hr'
      exact ⟨z, r, z.cps.toList[r], rfl, rfl, by omega, atI_nat (List.getElem?_eq_getElem hr2), q _ H' (List.getElem_mem hr2) bt hd'⟩
end
end K2
namespace Kg
open PySem PySem.Spec PyProof.Rows L2
/-! ### drawn keys -/
def tailOf (n : Nat) : List Nat := if 25 < n then [97 + (n / 26 - 1)] else []
def nameL (stem : List Nat) (first leap n : Nat) : List Nat := stem ++ [97 + (first + leap * n) % 26] ++ tailOf n
def nameOf (stem : List Nat) (first leap n : Nat) : Str := ⟨(nameL stem first leap n).toArray⟩
theorem str_inj {a b : List Nat} (h : (⟨a.toArray⟩ : Str) = ⟨b.toArray⟩) : a = b := by
  have : a.toArray = b.toArray := congrArg Str.cps h
  exact congrArg Array.toList this
theorem rep_one (c : Nat) : ∀ m, (List.replicate m [c]).flatten = List.replicate m c
  | 0 => rfl
  | m + 1 => by
    rw [List.replicate_succ, List.flatten_cons, rep_one c m, List.replicate_succ]
    rfl
theorem abc_mem : ∀ c ∈ (Str.ofString "abcdefghijklmnopqrstuvwxyz").cps.toList, 97 ≤ c ∧ c < 123 := by decide +kernel
theorem nameOf_inj {stem : List Nat} {first leap i j : Nat} (hl : leap = 1 ∨ leap = 3 ∨ leap = 5 ∨ leap = 7 ∨ leap = 9 ∨ leap = 11)
    (h : nameOf stem first leap i = nameOf stem first leap j) : i = j := by
  have h1 := str_inj h
  unfold nameL at h1
  rw [List.append_assoc, List.append_assoc] at h1
  have h2 := List.append_cancel_left h1
  simp only [List.cons_append, List.nil_append, List.cons.injEq] at h2
  obtain ⟨h3, h4⟩ := h2
  have h5 : i / 26 = j / 26 := by
    unfold tailOf at h4
    by_cases a : 25 < i
    · by_cases b : 25 < j
      · rw [if_pos a, if_pos b] at h4
        simp only [List.cons.injEq, and_true] at h4
        omega
      · rw [if_pos a, if_neg b] at h4
        cases h4
    · by_cases b : 25 < j
      · rw [if_neg a, if_pos b] at h4
        cases h4
      · omega
  rcases hl with rfl | rfl | rfl | rfl | rfl | rfl <;> omega
theorem names_nodup {stem : List Nat} {first leap : Nat} (hl : leap = 1 ∨ leap = 3 ∨ leap = 5 ∨ leap = 7 ∨ leap = 9 ∨ leap = 11) (n : Nat) :
    ((List.range n).map (nameOf stem first leap)).Nodup := by
  induction n with
  | zero => exact List.nodup_nil
  | succ n ih =>
    rw [List.range_succ, List.map_append, List.nodup_append]
    refine ⟨ih, by simp, ?_⟩
    intro a ha b hb e
    obtain ⟨i, hi, rfl⟩ := List.mem_map.mp ha
    have hb' : b = nameOf stem first leap n := by simpa using hb
    rw [hb'] at e
    have := nameOf_inj hl e
    have := List.mem_range.mp hi
    omega
def abc : Str := Str.ofString "abcdefghijklmnopqrstuvwxyz"
theorem abc_at : ∀ i : Fin 26, abc.cps.toList[i.val]? = some (97 + i.val) := by decide +kernel
theorem abc_atI {i : Nat} (h : i < 26) : atI abc.cps.toList (i : Int) = some (97 + i) := atI_nat (abc_at ⟨i, h⟩)
theorem abc_len : abc.length = 26 := by decide +kernel
theorem str_app (a b : List Nat) : (⟨a.toArray⟩ : Str) ++ (⟨b.toArray⟩ : Str) = ⟨(a ++ b).toArray⟩ := by
  show Str.mk _ = _
  simp
end Kg
namespace K2
open PySem PySem.Spec PyProof.Rows L2 Kg
section
variable {P : Program} {w : World} {K : PySem.W.Frag} {mg : Str → Option Value} {base : Heap}
abbrev s__law_keys : Stmt := topS 16
theorem sc__law_keys : FnScope ["_law_hand_here", "_law_many", "_law_letters", "_law_first", "_law_leap", "_law_stem", "_law_found", "_law_nth", "_law_tail"] ["_law_hand_here", "_law_many"] (defScope s__law_keys) := fscope (by decide +kernel)
/-- a drawn list of keys -/
def Names (ks : List Str) (n : Nat) : Prop := ∃ (stem : List Nat) (first leap : Nat), stem.length ≤ 6 ∧ (∀ c ∈ stem, 97 ≤ c ∧ c < 123) ∧
  (leap = 1 ∨ leap = 3 ∨ leap = 5 ∨ leap = 7 ∨ leap = 9 ∨ leap = 11) ∧ ks = (List.range n).map (nameOf stem first leap)
def sp__law_keys : Sp := fun vs H Q _ => ∃ (h : Addr) (n b : Nat), vs = [.ref h, .int (n : Int)] ∧ n ≤ 700 ∧ Hd H h (b + 4) ∧
  ∀ (H' : Hp) (p : Addr) (ks : List Str), But h H H' → H p = none → p ≠ h → H' p = some (.lst (ks.map V.str)) → Names ks n → Hd H' h b → Q (.ref p) H'
theorem ok__law_keys {f : Addr} {fd : FuncData} {k : Nat} (F : Fun K "_law_keys" "_law_keys" s__law_keys f fd) (c__law_take : Cal P w K mg base CX0 1 "_law_take" ["_law_hand_here", "_law_many"] sp__law_take)
    (c__law_of : Cal P w K mg base CX0 2 "_law_of" ["_law_hand_here", "_law_items"] (sp__law_of K)) (z_range : mg "range" = none) :
    FnOk P w K mg base CX0 (k + 3) f fd ["_law_hand_here", "_law_many"] sp__law_keys := by
  refine F.ok sc__law_keys (fun vs H Q E h => ?_) (fun cdv A outer s H vs Q E hr h => ?_)
  · obtain ⟨h, n, b, rfl, _⟩ := h
    rfl
  · obtain ⟨h, n, b, rfl, n1, hd, q⟩ := h
    refine ⟨_, (pss_cons (ps_set (i := 2) sc__law_keys.nd rfl (Or.inl rfl) pe_str)
      (pss_cons (ps_par (by rfl) sc__law_keys.nd (i := 3) (j := 4) rfl rfl (by decide) rfl rfl (pa_cons (c__law_take.pe hr (by omega) (by rfl) (pa_cons (pv 0) (pa_cons pe_int pa_nil))) (pa_cons (c__law_of.pe hr (by omega) (by rfl) (pa_cons (pv 0) (pa_cons (pe_lst (pa_cons pe_int (pa_cons pe_int (pa_cons pe_int (pa_cons pe_int (pa_cons pe_int (pa_cons pe_int pa_nil))))))) pa_nil))) pa_nil)) (by rfl))
      (pss_cons (ps_set (i := 5) sc__law_keys.nd rfl (Or.inl rfl) (pe_op op_repS (c__law_of.pe hr (by omega) (by rfl) (pa_cons (pv 0) (pa_cons (pv 2) pa_nil))) (c__law_of.pe hr (by omega) (by rfl) (pa_cons (pv 0) (pa_cons (pe_lst (pa_cons pe_int (pa_cons pe_int (pa_cons pe_int (pa_cons pe_int (pa_cons pe_int pa_nil)))))) pa_nil)))))
      (pss_cons (ps_set (i := 6) sc__law_keys.nd rfl (Or.inl rfl) (pe_lst pa_nil))
      (pss_cons (ps_for PassesOwn.never rfl (pi_range1 (by rfl) z_range (pa_cons (pv 1) pa_nil)) (pg_name (i := 7) sc__law_keys.nd rfl (Or.inl rfl)) (Evl.pss_cut (ps_set (i := 8) sc__law_keys.nd rfl (Or.inl rfl) (pe_ifExp (pt_cmpR op_gt (pv 7) pe_int (nomark _)) (pe_ix ix_str (pv 2) (pe_op op_sub (pe_op op_fdiv (pv 7) pe_int) pe_int) (fun _ _ => rfl)) pe_str))
        (pss_one (ps_expr (pe_bm PySem.F.plainAttrs_list PySem.F.slot_list_append PySem.F.type_list_append mt_append (pv 6) (pa_cons (pe_op op_add_str (pe_op op_add_str (pv 5) (pe_ix ix_str (pv 2) (pe_op op_mod (pe_op op_add (pv 3) (pe_op op_mul (pv 4) (pv 7))) pe_int) (fun _ _ => rfl))) (pv 8)) pa_nil))))))
      (pss_one (ps_ret (pv 6)))))))), ?_⟩
    have line := sizeLine_eq
    -- first, leap
    refine ⟨.ref h, rfl, h, 26, b + 3, rfl, by decide, by decide, hd, fun r H1 hr1 b1 hd1 => ?_⟩
    refine ⟨.ref h, rfl, (by show 6 ≤ sizeLine; decide), fun l1 nl1 => ?_⟩
    obtain ⟨_, eh1⟩ := hd1.at_
    have hne1 : l1 ≠ h := fun z => by rw [z, eh1] at nl1; cases nl1
    refine ⟨h, b + 2, hd1.same (by rw [upd_ne hne1.symm]), .inl ⟨l1, _, rfl, hne1, sqL upd_same, by show 0 < 6; decide, by show 6 ≤ 1000000; decide, fun i x H2 ex b2 hd2 => ?_⟩⟩
    have leaps : ∃ leap : Nat, x = .int (leap : Int) ∧ (leap = 1 ∨ leap = 3 ∨ leap = 5 ∨ leap = 7 ∨ leap = 9 ∨ leap = 11) := by
      have hi : i < 6 := (List.getElem?_eq_some_iff.mp ex).1
      have : i = 0 ∨ i = 1 ∨ i = 2 ∨ i = 3 ∨ i = 4 ∨ i = 5 := by omega
      rcases this with rfl | rfl | rfl | rfl | rfl | rfl <;> cases ex
      · exact ⟨1, rfl, by omega⟩
      · exact ⟨3, rfl, by omega⟩
      · exact ⟨5, rfl, by omega⟩
      · exact ⟨7, rfl, by omega⟩
      · exact ⟨9, rfl, by omega⟩
      · exact ⟨11, rfl, by omega⟩
    obtain ⟨leap, rfl, hleap⟩ := leaps
    refine ⟨_, _, rfl, ?_⟩
    -- stem
    refine ⟨.ref h, rfl, .str abc, rfl, h, b + 1, hd2, .inr ⟨abc, rfl, by decide +kernel, by decide +kernel, fun c H3 hc b3 hd3 => ?_⟩⟩
    refine ⟨.ref h, rfl, (by show 5 ≤ sizeLine; decide), fun l2 nl2 => ?_⟩
    obtain ⟨_, eh3⟩ := hd3.at_
    have hne2 : l2 ≠ h := fun z => by rw [z, eh3] at nl2; cases nl2
    refine ⟨h, b, hd3.same (by rw [upd_ne hne2.symm]), .inl ⟨l2, _, rfl, hne2, sqL upd_same, by show 0 < 5; decide, by show 5 ≤ 1000000; decide, fun i x H4 ex b4 hd4 => ?_⟩⟩
    have reps : ∃ m : Nat, x = .int (m : Int) ∧ m ≤ 6 := by
      have hi : i < 5 := (List.getElem?_eq_some_iff.mp ex).1
      have : i = 0 ∨ i = 1 ∨ i = 2 ∨ i = 3 ∨ i = 4 := by omega
      rcases this with rfl | rfl | rfl | rfl | rfl <;> cases ex
      · exact ⟨0, rfl, by omega⟩
      · exact ⟨0, rfl, by omega⟩
      · exact ⟨1, rfl, by omega⟩
      · exact ⟨3, rfl, by omega⟩
      · exact ⟨6, rfl, by omega⟩
    obtain ⟨m, rfl, hm⟩ := reps
    refine ⟨⟨#[c]⟩, m, rfl, rfl, rfl, by omega, ?_⟩
    have estem : repS ⟨#[c]⟩ m = ⟨(List.replicate m c).toArray⟩ := by
      show Str.mk _ = _
      exact congrArg (fun z => Str.mk (List.toArray z)) (rep_one c m)
    rw [estem]
    -- found = []
    refine ⟨Nat.zero_le _, fun l nl => ?_⟩
    obtain ⟨_, eh4⟩ := hd4.at_
    have hne : l ≠ h := fun z => by rw [z, eh4] at nl; cases nl
    have b5 : But h H H4 := b1.trans (((But.refl h H1).new nl1).trans (b2.trans (b3.trans (((But.refl h H3).new nl2).trans b4))))
    have nl0 : H l = none := by
      cases e : H l with
      | none => rfl
      | some o =>
        rw [b5 l o hne e] at nl
        cases nl
    refine ⟨.int n, rfl, n, rfl, by omega, by omega, ?_⟩
    refine for_range (lo := 0) (n := (n : Int).toNat) (fun i σ' H' => (∃ y7 y8, σ' = [some (.ref h), some (.int n), some (.str abc), some (.int r), some (.int leap), some (.str ⟨(List.replicate m c).toArray⟩), some (.ref l), y7, y8]) ∧
      But h H H' ∧ Hd H' h b ∧ H' l = some (.lst (((List.range i).map (nameOf (List.replicate m c) r leap)).map V.str))) ⟨⟨none, none, rfl⟩, b5.new nl, hd4.same (by rw [upd_ne hne.symm]), upd_same⟩ ?_ ?_
    · rintro i σ' H' hi ⟨⟨y7, y8, rfl⟩, bt, hdt, hl⟩
      have hin : i < n := by omega
      refine ⟨fun σ2 H2 => H2 = H' ∧ σ2 = [some (.ref h), some (.int n), some (.str abc), some (.int r), some (.int leap), some (.str ⟨(List.replicate m c).toArray⟩), some (.ref l), some (.int ((0 : Int) + (i : Int))), some (.str ⟨(tailOf i).toArray⟩)], ?_, ?_⟩
      · refine ⟨.int ((0 : Int) + (i : Int)), rfl, _, _, rfl, rfl, _, rfl, ite2 (fun e => ?_) (fun e => ?_)⟩
        · have hb : (25 : Int) < (0 : Int) + (i : Int) := of_decide_eq_true e
          have hlt : i / 26 - 1 < 26 := by omega
          refine ⟨.str abc, rfl, .int ((0 : Int) + (i : Int)), rfl, _, 26, rfl, rfl, ⟨by decide, by decide⟩, _, 1, rfl, rfl, abc, _, 97 + (i / 26 - 1), rfl, rfl, (by rw [abc_len]; omega), ?_, rfl, ?_⟩
          · have ei : ((0 : Int) + (i : Int)) / 26 - 1 = ((i / 26 - 1 : Nat) : Int) := by omega
            rw [ei]
            exact abc_atI hlt
          · unfold tailOf
            rw [if_pos (by omega)]
            rfl
        · have hb : ¬ (25 : Int) < (0 : Int) + (i : Int) := fun z => e (decide_eq_true z)
          refine ⟨rfl, ?_⟩
          unfold tailOf
          rw [if_neg (by omega)]
          rfl
      · rintro σ2 H2 ⟨rfl, rfl⟩
        have hlt : (r + leap * i) % 26 < 26 := Nat.mod_lt _ (by decide)
        have lstem : (⟨(List.replicate m c).toArray⟩ : Str).length = m := by
          show (List.replicate m c).toArray.size = m
          simp
        have ltail : (⟨(tailOf i).toArray⟩ : Str).length ≤ 1 := by
          show (tailOf i).toArray.size ≤ 1
          unfold tailOf
          split <;> simp
        refine ⟨.ref l, rfl, Or.inl ⟨rfl, _, sqL hl⟩, .str ⟨(List.replicate m c).toArray⟩, rfl, .str abc, rfl, .int r, rfl, .int leap, rfl, .int ((0 : Int) + (i : Int)), rfl, leap, (0 : Int) + (i : Int), rfl, rfl, .inl ⟨by omega, by omega⟩,
          r, _, rfl, rfl, _, 26, rfl, rfl, (by show (0 : Int) < 26; decide), abc, _, 97 + (r + leap * i) % 26, rfl, rfl, (by rw [abc_len]; omega), ?_, ⟨(List.replicate m c).toArray⟩, ⟨#[97 + (r + leap * i) % 26]⟩, rfl, rfl, ?_, ?_⟩
        · have e1 : ((r : Int) + (leap : Int) * ((0 : Int) + (i : Int))) % 26 = (((r + leap * i) % 26 : Nat) : Int) := by
            rw [Int.zero_add]
            push_cast
            rfl
          rw [e1]
          exact abc_atI hlt
        · rw [lstem]
          show m + 1 ≤ sizeLine
          omega
        · have e2 : (⟨(List.replicate m c).toArray⟩ : Str) ++ (⟨#[97 + (r + leap * i) % 26]⟩ : Str) = ⟨(List.replicate m c ++ [97 + (r + leap * i) % 26]).toArray⟩ := str_app _ [97 + (r + leap * i) % 26]
          rw [e2]
          have l2 : (⟨(List.replicate m c ++ [97 + (r + leap * i) % 26]).toArray⟩ : Str).length = m + 1 := by
            show (List.replicate m c ++ [97 + (r + leap * i) % 26]).toArray.size = m + 1
            simp
          refine ⟨.str ⟨(tailOf i).toArray⟩, rfl, _, _, rfl, rfl, (by rw [l2]; omega), ?_⟩
          rw [str_app]
          refine ⟨l, _, _, rfl, rfl, hl, ?_, ⟨_, _, rfl⟩, ?_, hdt.same (by rw [upd_ne hne.symm]), ?_⟩
          · rw [List.length_map, List.length_map, List.length_range]
            omega
          · intro b' o hb' e
            rw [upd_ne (fun z => by rw [z, nl0] at e; cases e)]
            exact bt b' o hb' e
          · rw [upd_same, List.range_succ, List.map_append, List.map_append]
            rfl
    · rintro σ' H' ⟨⟨y7, y8, rfl⟩, bt, hdt, hl⟩
      refine ⟨.ref l, rfl, q H' l _ bt nl0 hne hl ⟨List.replicate m c, r, leap, by simp; omega, ?_, hleap, by rw [Int.toNat_natCast]⟩ hdt⟩
      intro c' hc'
      have : c' = c := (List.mem_replicate.mp hc').2
      rw [this]
      exact abc_mem c hc
end
end K2
namespace Kg
open PySem PySem.Spec PyProof.Rows L2
/-! ### a tree as a dict of lists -/
def rowsD (rs : List (Str × Addr × List Str)) : List (L2.Key × V) := rs.map fun e => (Sum.inr e.1, V.ref e.2.1)
def Lists (G : Hp) (p : Addr) (rs : List (Str × Addr × List Str)) : Prop := G p = some (.dK (rowsD rs)) ∧ ∀ e ∈ rs, G e.2.1 = some (.lst (e.2.2.map V.str))
def LT (rs : List (Str × Addr × List Str)) (t : T) : Prop := (rs.map fun e => (e.1, e.2.2)).Perm t.desc
theorem Lists.same {G G' : Hp} {p : Addr} {rs : List (Str × Addr × List Str)} (h : Lists G p rs) (e : Same G G') : Lists G' p rs := ⟨e _ _ h.1, fun r hr => e _ _ (h.2 r hr)⟩
theorem LT.keys {rs : List (Str × Addr × List Str)} {t : T} (h : LT rs t) : (rs.map (·.1)).Perm t.keys := by
  have := h.map (·.1)
  rw [T.desc_keys, List.map_map] at this
  exact this
theorem LT.row {rs : List (Str × Addr × List Str)} {t n : T} (h : LT rs t) (hn : n ∈ t.pre) : ∃ a, (n.key, a, n.kids.map T.key) ∈ rs := by
  have : (n.key, n.kids.map T.key) ∈ t.desc := List.mem_map.mpr ⟨n, hn, rfl⟩
  have := h.mem_iff.mpr this
  obtain ⟨⟨k, a, cs⟩, hr, e⟩ := List.mem_map.mp this
  injection e with e1 e2
  exact ⟨a, by rw [← e1, ← e2]; exact hr⟩
theorem rows_at {k : Str} {a : Addr} {cs : List Str} : ∀ {rs : List (Str × Addr × List Str)}, (rs.map (·.1)).Nodup → (k, a, cs) ∈ rs → valV (rowsD rs) (Sum.inr k) = some (.ref a)
  | [], _, h => by cases h
  | (k', a', cs') :: rs, nd, h => by
    rw [List.map_cons, List.nodup_cons] at nd
    rcases List.mem_cons.mp h with e | e
    · cases e
      exact valV_pos rfl
    · have ne : ¬ (Sum.inr k' : L2.Key) = Sum.inr k := fun z => by
        injection z with z
        exact nd.1 (List.mem_map.mpr ⟨_, e, z.symm⟩)
      show valV (_ :: rowsD rs) _ = _
      rw [valV_neg ne]
      exact rows_at nd.2 e
theorem rows_none {k : Str} : ∀ {rs : List (Str × Addr × List Str)}, k ∉ rs.map (·.1) → valV (rowsD rs) (Sum.inr k) = none
  | [], _ => rfl
  | (k', a', cs') :: rs, h => by
    rw [List.map_cons, List.mem_cons, not_or] at h
    have ne : ¬ (Sum.inr k' : L2.Key) = Sum.inr k := fun z => by
      injection z with z
      exact h.1 z.symm
    show valV (_ :: rowsD rs) _ = _
    rw [valV_neg ne]
    exact rows_none h.2
section
variable {K : PySem.W.Frag} {σ : L2.St} {G H : Hp}
/-- d[k], the row of an element -/
theorem em_row {i j : Nat} {p a : Addr} {k : Str} {rs : List (Str × Addr × List Str)} {cs : List Str} (hl : Lists G p rs) (nd : (rs.map (·.1)).Nodup) (hr : (k, a, cs) ∈ rs)
    (hi : σ[i]? = some (some (.ref p))) (hj : σ[j]? = some (some (.str k))) : EvM K (tDGet (tVar i) (tVar j)) σ G H (.list (cs.map .str)) := fun G1 H1 g Q q => by
  have hp : H1 p = some (.dK (rowsD rs)) := g.into _ _ hl.1
  refine ⟨.ref p, hi, .str k, hj, p, .ref a, rfl, ?_, ?_⟩
  · have := DGet.k (k := Sum.inr k) hp
    rw [rows_at nd hr] at this
    exact this
  · exact q H1 G1 _ (.refl g.i) (.lst (sqL (g.g _ _ (hl.2 _ hr))) (DpAll.strs cs))
end
end Kg
namespace K2
open PySem PySem.Spec PyProof.Rows L2 Kg
section
variable {P : Program} {w : World} {K : PySem.W.Frag} {mg : Str → Option Value} {base : Heap}
/-! ### _law_nested -/
abbrev s__law_nested : Stmt := topS 17
theorem sc__law_nested : FnScope ["_law_lists", "_law_label", "_law_child"] ["_law_lists", "_law_label"] (defScope s__law_nested) := fscope (by decide +kernel)
def sp__law_nested (K : PySem.W.Frag) (D : Nat) : Sp := fun vs H Q _ => ∃ (p : Addr) (rs : List (Str × Addr × List Str)) (t n : T) (G : Hp), vs = [.ref p, .str n.key] ∧ Same G H ∧ Lists G p rs ∧ LT rs t ∧
  t.keys.Nodup ∧ t.size ≤ 1000 ∧ n ∈ t.pre ∧ T.Ht D n ∧ Gives K G H n.d Q
theorem ok__law_nested {f : Addr} {fd : FuncData} (F : Fun K "_law_nested" "_law_nested" s__law_nested f fd) (gf : mg "_law_nested" = some (.ref f)) (kf : PySem.W.keepIn K (.ref f) = true) (bf : Binds K fd ["_law_lists", "_law_label"] [])
    (z_tuple : mg "tuple" = none) : ∀ D : Nat, FnOk P w K mg base CX0 (D + 1) f fd ["_law_lists", "_law_label"] (sp__law_nested K D) := by
  intro D
  induction D with
  | zero =>
    refine F.ok sc__law_nested (fun vs H Q E h => ?_) (fun cdv A outer s H vs Q E hr h => ?_)
    · obtain ⟨p, rs, t, n, G, rfl, _⟩ := h
      rfl
    · obtain ⟨p, rs, t, n, G, _, _, _, _, _, _, _, hh, _⟩ := h
      exact hh.elim
  | succ D ih =>
    have c__law_nested : Cal P w K mg base CX0 (D + 1) "_law_nested" ["_law_lists", "_law_label"] (sp__law_nested K D) := ⟨f, fd, ih, gf, kf, bf⟩
    refine F.ok sc__law_nested (fun vs H Q E h => ?_) (fun cdv A outer s H vs Q E hr h => ?_)
    · obtain ⟨p, rs, t, n, G, rfl, _⟩ := h
      rfl
    · obtain ⟨p, rs, t, n, G, rfl, gi, hl, lt, nd, few, hn, hh, q⟩ := h
      have hu := hu_of hr
      refine ⟨_, (pss_one (ps_ret (pe_tup (pa_cons (pv 1) (pa_cons (pe_callTy call_tuple_of (by rfl) z_tuple (by decide +kernel) (pa_cons (pe_lc (own := [("_law_child", 2)]) (g := gName 2) (tt := tYes) (te := tCall (sp__law_nested K D) [] E0 (tCons (tVar 0) (tCons (tVar 2) tNil))) rfl sc__law_nested.nd (pi_list (pe_dget hu (pv 0) (pv 1) (fun _ _ => rfl))) (blkOk_by (own := [("_law_child", 2)]) (N := ["_law_lists", "_law_label", "_law_child"]) (sc := defScope s__law_nested) (by decide +kernel)) (fun _ _ _ _ _ => (pg_name (i := 2) sc__law_nested.nd rfl (Or.inl rfl))) (fun _ _ _ _ _ => pts_nil) (fun _ _ _ _ _ => (c__law_nested.pe hr (by omega) (by rfl) (pa_cons (pv 0) (pa_cons (pv 2) pa_nil))))) pa_nil)) pa_nil))))), ?_⟩
      obtain ⟨a, hr'⟩ := lt.row hn
      have ndr : (rs.map (·.1)).Nodup := lt.keys.nodup_iff.mpr nd
      have fk := T.pre_kids hn
      have q' : Gives K G H (.tuple [.str n.key, .tuple (n.kids.map T.d)]) Q := by
        rw [← T.d_eq]
        exact q
      refine (em_tup (ea_cons (em_var rfl (.str n.key)) (ea_cons (em_tuple (em_lcL (ds := (n.kids.map T.key).map .str) (gs := n.kids.map T.d)
        (em_row hl ndr hr' rfl rfl) (by rw [List.length_map, List.length_map]; omega) (fun _ => rfl) (by rw [List.length_map, List.length_map, List.length_map]) ?_)) ea_nil)) (by show 2 ≤ 100000; decide)).now gi q'
      · intro i x b d G1 H1 eb ed g hx
        rw [List.map_map, List.getElem?_map] at eb
        rw [List.getElem?_map] at ed
        cases hc : n.kids[i]? with
        | none =>
          rw [hc] at eb
          cases eb
        | some c =>
          rw [hc] at eb ed
          cases eb
          cases ed
          cases hx
          have hcm : c ∈ n.kids := List.mem_of_getElem? hc
          have hcp : c ∈ t.pre := by
            have : ∀ (t n : T), n ∈ t.pre → c ∈ n.kids → c ∈ t.pre := by
              refine T.indT fun t ih n hn hc => ?_
              rcases T.pre_cases hn with rfl | ⟨c', hc', hnc⟩
              · exact T.kid_pre hc (T.self_pre c)
              · exact T.kid_pre hc' (ih c' hc' n hnc hc)
            exact this t n hn hcm
          intro G2 H2 g2 Q2 q2
          exact ⟨.ref p, rfl, .str c.key, rfl, p, rs, t, c, G2, rfl, g2.i, hl.same (g.g.trans g2.g), lt, nd, few, hcp, hh c hcm, q2⟩
end
end K2
namespace Kg
open PySem PySem.Spec PyProof.Rows L2
theorem Lists.ne {G : Hp} {p : Addr} {rs : List (Str × Addr × List Str)} (h : Lists G p rs) {e : Str × Addr × List Str} (he : e ∈ rs) : e.2.1 ≠ p :=
  ne_of (h.2 e he) h.1 (fun z => nomatch z)
def edD (es : List (Str × Str)) : List (L2.Key × V) := es.map fun e => (Sum.inr e.1, V.str e.2)
theorem edD_snoc (es : List (Str × Str)) (e : Str × Str) : edD (es ++ [e]) = edD es ++ [(Sum.inr e.1, V.str e.2)] := by
  unfold edD
  rw [List.map_append]
  rfl
end Kg
namespace K2
open PySem PySem.Spec PyProof.Rows L2 Kg
section
variable {P : Program} {w : World} {K : PySem.W.Frag} {mg : Str → Option Value} {base : Heap}
/-! ### _law_inside -/
abbrev s__law_inside : Stmt := topS 20
theorem sc__law_inside : FnScope ["_law_lists", "_law_name", "_law_found", "_law_child"] ["_law_lists", "_law_name"] (defScope s__law_inside) := fscope (by decide +kernel)
def sp__law_inside (K : PySem.W.Frag) (D : Nat) : Sp := fun vs H Q _ => ∃ (p : Addr) (rs : List (Str × Addr × List Str)) (t n : T) (G : Hp), vs = [.ref p, .str n.key] ∧ Same G H ∧ Lists G p rs ∧ LT rs t ∧
  t.keys.Nodup ∧ t.size ≤ 1000 ∧ n ∈ t.pre ∧ T.Ht D n ∧ ∀ H' G' l, Grow [] G H G' H' → H l = none → G' l = none → H' l = some (.lst (n.keys.map V.str)) → Q (.ref l) H'
theorem T_kid_in {t n c : T} (hn : n ∈ t.pre) (hc : c ∈ n.kids) : c ∈ t.pre := by
  have : ∀ (t n : T), n ∈ t.pre → c ∈ n.kids → c ∈ t.pre := by
    refine T.indT fun t ih n hn hc => ?_
    rcases T.pre_cases hn with rfl | ⟨c', hc', hnc⟩
    · exact T.kid_pre hc (T.self_pre c)
    · exact T.kid_pre hc' (ih c' hc' n hnc hc)
  exact this t n hn hc
theorem ok__law_inside {f : Addr} {fd : FuncData} (F : Fun K "_law_inside" "_law_inside" s__law_inside f fd) (gf : mg "_law_inside" = some (.ref f)) (kf : PySem.W.keepIn K (.ref f) = true) (bf : Binds K fd ["_law_lists", "_law_name"] []) :
    ∀ D : Nat, FnOk P w K mg base CX0 (D + 1) f fd ["_law_lists", "_law_name"] (sp__law_inside K D) := by
  intro D
  induction D with
  | zero =>
    refine F.ok sc__law_inside (fun vs H Q E h => ?_) (fun cdv A outer s H vs Q E hr h => ?_)
    · obtain ⟨p, rs, t, n, G, rfl, _⟩ := h
      rfl
    · obtain ⟨p, rs, t, n, G, _, _, _, _, _, _, _, hh, _⟩ := h
      exact hh.elim
  | succ D ih =>
    have c__law_inside : Cal P w K mg base CX0 (D + 1) "_law_inside" ["_law_lists", "_law_name"] (sp__law_inside K D) := ⟨f, fd, ih, gf, kf, bf⟩
    refine F.ok sc__law_inside (fun vs H Q E h => ?_) (fun cdv A outer s H vs Q E hr h => ?_)
    · obtain ⟨p, rs, t, n, G, rfl, _⟩ := h
      rfl
    · obtain ⟨p, rs, t, n, G, rfl, gi, hl, lt, nd, few, hn, hh, q⟩ := h
      have hu := hu_of hr
      refine ⟨_, (pss_cons (ps_set (i := 2) sc__law_inside.nd rfl (Or.inl rfl) (pe_lst (pa_cons (pv 1) pa_nil)))
        (pss_cons (ps_for PassesOwn.never rfl (pi_list (pe_dget hu (pv 0) (pv 1) (fun _ _ => rfl))) (pg_name (i := 3) sc__law_inside.nd rfl (Or.inl rfl)) (pss_one (ps_expr (pe_bm PySem.F.plainAttrs_list PySem.F.slot_list_extend PySem.F.type_list_extend mt_extend (pv 2) (pa_cons (c__law_inside.pe hr (by omega) (by rfl) (pa_cons (pv 0) (pa_cons (pv 3) pa_nil))) pa_nil)))))
        (pss_one (ps_ret (pv 2))))), ?_⟩
      obtain ⟨a, hr'⟩ := lt.row hn
      have ndr : (rs.map (·.1)).Nodup := lt.keys.nodup_iff.mpr nd
      have fk := T.pre_size t n hn
      refine ⟨.str n.key, rfl, (by show 1 ≤ sizeLine; decide), fun l nl => ?_⟩
      have gl := gi.free nl
      have g1 : Grow [] G H G (upd H l (.lst [.str n.key])) := .beside gi nl
      refine ⟨.ref p, rfl, .str n.key, rfl, p, .ref a, rfl, ?_, a, rfl, ⟨_, g1.i.seq (sqL (hl.2 _ hr'))⟩, ?_⟩
      · have := DGet.k (k := Sum.inr n.key) (g1.i _ _ hl.1)
        rw [rows_at ndr hr'] at this
        exact this
      refine for_list (xs := (n.kids.map T.key).map V.str) (fun i σ' H' => (∃ y, σ' = [some (.ref p), some (.str n.key), some (.ref l), y]) ∧ (∃ G', Grow [] G H G' H' ∧ G' l = none) ∧
        H' l = some (.lst ((n.key :: (n.kids.take i).flatMap T.keys).map V.str))) ⟨⟨none, rfl⟩, ⟨G, g1, gl⟩, upd_same⟩ ?_ ?_ ?_
      · rintro i σ' H' _ ⟨_, ⟨G', g, _⟩, _⟩
        exact g.into.seq (sqL (hl.2 _ hr'))
      · rintro i x σ' H' ex ⟨⟨y, rfl⟩, ⟨G', g, gl'⟩, hl'⟩
        rw [List.map_map, List.getElem?_map] at ex
        cases hc : n.kids[i]? with
        | none =>
          rw [hc] at ex
          cases ex
        | some c =>
          rw [hc] at ex
          cases ex
          have hcm : c ∈ n.kids := List.mem_of_getElem? hc
          refine ⟨.ref l, rfl, Or.inl ⟨rfl, _, sqL hl'⟩, .ref p, rfl, .str c.key, rfl, p, rs, t, c, G', rfl, g.i, hl.same g.g, lt, nd, few, T_kid_in hn hcm, hh c hcm, fun H2 G2 b g2 nb gb hb => ?_⟩
          have hl2 : H2 l = some (.lst ((n.key :: (n.kids.take i).flatMap T.keys).map V.str)) := g2.same _ _ hl'
          have gl2 : G2 l = none := g2.off gl' hl'
          refine ⟨l, b, _, _, rfl, rfl, hl2, hb, ?_, ⟨_, rfl⟩, ⟨G2, (g.tr g2).mut nl gl2, gl2⟩, ?_⟩
          · rw [List.length_map, List.length_map, T.keys_len]
            have h1 : (n.key :: (n.kids.take i).flatMap T.keys).length ≤ n.keys.length := by
              rw [T.keys_eq, List.length_cons, List.length_cons]
              have : n.kids.flatMap T.keys = (n.kids.take i).flatMap T.keys ++ (n.kids.drop i).flatMap T.keys := by
                rw [← List.flatMap_append, List.take_append_drop]
              rw [this, List.length_append]
              omega
            rw [T.keys_len] at h1
            have h2 := T.kid_size hcm
            exact Nat.le_trans (by omega : _ ≤ 3000) (by decide)
          · rw [upd_same, List.take_succ, hc, List.flatMap_append, ← List.map_append]
            simp
      · rintro σ' H' ⟨⟨y, rfl⟩, ⟨G', g, gl'⟩, hl'⟩
        rw [List.length_map, List.length_map, List.take_length, ← T.keys_eq] at hl'
        exact ⟨.ref l, rfl, q H' G' l g nl gl' hl'⟩
end
end K2
namespace K2
open PySem PySem.Spec PyProof.Rows L2 Kg
section
variable {P : Program} {w : World} {K : PySem.W.Frag} {mg : Str → Option Value} {base : Heap}
/-! ### _law_parents -/
abbrev s__law_parents : Stmt := topS 18
theorem sc__law_parents : FnScope ["_law_lists", "_law_found", "_law_name", "_law_some", "_law_child"] ["_law_lists"] (defScope s__law_parents) := fscope (by decide +kernel)
def rowsE (rs : List (Str × Addr × List Str)) : List (Str × Str) := rs.flatMap fun e => e.2.2.map fun c => (c, e.1)
def sp__law_parents : Sp := fun vs H Q _ => ∃ (p : Addr) (rs : List (Str × Addr × List Str)) (G : Hp), vs = [.ref p] ∧ Same G H ∧ Lists G p rs ∧
  ((rowsE rs).map (·.1)).Nodup ∧ (rowsE rs).length ≤ 1000 ∧ ∀ H' q, Grow [] G H G H' → H q = none → H' q = some (.dK (edD (rowsE rs))) → Q (.ref q) H'
theorem ok__law_parents {f : Addr} {fd : FuncData} {k : Nat} (F : Fun K "_law_parents" "_law_parents" s__law_parents f fd) :
    FnOk P w K mg base CX0 (k + 1) f fd ["_law_lists"] sp__law_parents := by
  refine F.ok sc__law_parents (fun vs H Q E h => ?_) (fun cdv A outer s H vs Q E hr h => ?_)
  · obtain ⟨p, rs, G, rfl, _⟩ := h
    rfl
  · obtain ⟨p, rs, G, rfl, gi, hl, nd, few, q⟩ := h
    have hu := hu_of hr
    refine ⟨_, (pss_cons (ps_set (i := 1) sc__law_parents.nd rfl (Or.inl rfl) pe_dnewK)
      (pss_cons (ps_lock (ps_for PassesOwn.never rfl (pi_items (pv 0)) (pg_tup rfl (pgs_cons (pg_name (i := 2) sc__law_parents.nd rfl (Or.inl rfl)) (pgs_cons (pg_name (i := 3) sc__law_parents.nd rfl (Or.inl rfl)) pgs_nil))) (pss_one (ps_for PassesOwn.never rfl (pi_list (pv 3)) (pg_name (i := 4) sc__law_parents.nd rfl (Or.inl rfl)) (pss_one (ps_dput hu (pv 1) (pv 4) (pv 2) rfl))))))
      (pss_one (ps_ret (pv 1))))), ?_⟩
    intro d nd0
    have hp : H p = some (.dK (rowsD rs)) := gi _ _ hl.1
    have ndp : d ≠ p := fun z => by
      rw [z, hp] at nd0
      cases nd0
    have hp1 : (upd H d (.dK [])) p = some (.dK (rowsD rs)) := by
      rw [upd_ne ndp.symm]
      exact hp
    refine ⟨p, _, hp1, trivial, fun od => ?_⟩
    refine ⟨.ref p, rfl, p, od, rowsD rs, rfl, upd_same, ?_⟩
    have lenR : (rowsD rs).length = rs.length := by
      unfold rowsD
      rw [List.length_map]
    refine for_it walk_items (fun i σ' H' => (∃ y2 y3 y4, σ' = [some (.ref p), some (.ref d), y2, y3, y4]) ∧ H' p = some (.frz od (.dK (rowsD rs))) ∧
      (∀ b o, b ≠ p → H b = some o → H' b = some o) ∧ H' d = some (.dK (edD (rowsE (rs.take i))))) ⟨⟨none, none, none, rfl⟩, upd_same, ?_, ?_⟩ ?_ ?_ ?_
    · intro b o hb e
      rw [upd_ne hb, upd_ne (ne_of_none e nd0)]
      exact e
    · rw [upd_ne ndp, upd_same]
      rfl
    · rintro i σ' H' _ ⟨_, h1, _⟩
      exact h1
    · rintro i x σ' H' H2 hi ⟨⟨y2, y3, y4, rfl⟩, h1, h2, h3⟩ ⟨T, x1, x2, rfl, nT, rfl, e1, e2⟩
      rw [lenR] at hi
      have er : (rowsD rs)[i]? = some (Sum.inr rs[i].1, V.ref rs[i].2.1) := by
        unfold rowsD
        rw [List.getElem?_map, List.getElem?_eq_getElem hi]
        rfl
      dsimp only at e1 e2
      rw [er] at e1 e2
      cases e1
      cases e2
      have hmem : rs[i] ∈ rs := List.getElem_mem hi
      have nTp : p ≠ T := ne_of_none h1 nT
      have nTd : d ≠ T := ne_of_none h3 nT
      have hT0 : H T = none := by
        cases e : H T with
        | none => rfl
        | some o =>
          rw [h2 T o nTp.symm e] at nT
          cases nT
      refine ⟨T, _, rfl, sqT upd_same, rfl, _, _, rfl, _, _, rfl, rfl, ?_⟩
      have hla : ∀ H3 : Hp, (∀ b o, b ≠ p → H b = some o → H3 b = some o) → SqL K H3 rs[i].2.1 (rs[i].2.2.map V.str) := fun H3 hh =>
        sqL (hh _ _ (hl.ne hmem) (gi _ _ (hl.2 _ hmem)))
      have h2' : ∀ b o, b ≠ p → H b = some o → (upd H' T (.tup [.str rs[i].1, .ref rs[i].2.1])) b = some o := fun b o hb e => by
        rw [upd_ne (ne_of_none e hT0)]
        exact h2 b o hb e
      refine ⟨.ref rs[i].2.1, rfl, rs[i].2.1, rfl, ⟨_, hla _ h2'⟩, ?_⟩
      refine for_list (xs := rs[i].2.2.map V.str) (fun j σ' H' => (∃ y4, σ' = [some (.ref p), some (.ref d), some (.str rs[i].1), some (.ref rs[i].2.1), y4]) ∧ H' p = some (.frz od (.dK (rowsD rs))) ∧
        (∀ b o, b ≠ p → H b = some o → H' b = some o) ∧ H' d = some (.dK (edD (rowsE (rs.take i) ++ (rs[i].2.2.take j).map fun c => (c, rs[i].1))))) ⟨⟨y4, rfl⟩, ?_, h2', ?_⟩ ?_ ?_ ?_
      · rw [upd_ne nTp]
        exact h1
      · rw [upd_ne nTd, h3, List.take_zero, List.map_nil, List.append_nil]
      · rintro j σ' H' _ ⟨_, _, hh, _⟩
        exact hla _ hh
      · rintro j x σ' H' ex ⟨⟨y4, rfl⟩, g1, g2, g3⟩
        rw [List.getElem?_map] at ex
        cases hc : rs[i].2.2[j]? with
        | none =>
          rw [hc] at ex
          cases ex
        | some c =>
          rw [hc] at ex
          cases ex
          have hj : j < rs[i].2.2.length := (List.getElem?_eq_some_iff.mp hc).1
          have ec : rs[i].2.2[j] = c := by
            rw [List.getElem?_eq_getElem hj] at hc
            exact Option.some.inj hc
          have eq : rowsE rs = (rowsE (rs.take i) ++ (rs[i].2.2.take j).map fun c => (c, rs[i].1)) ++ ((c, rs[i].1) :: ((rs[i].2.2.drop (j + 1)).map (fun c => (c, rs[i].1)) ++ rowsE (rs.drop (i + 1)))) := by
            have e1 : rs = rs.take i ++ rs[i] :: rs.drop (i + 1) := by
              rw [← List.drop_eq_getElem_cons hi, List.take_append_drop]
            have e2 : rs[i].2.2 = rs[i].2.2.take j ++ c :: rs[i].2.2.drop (j + 1) := by
              rw [← ec, ← List.drop_eq_getElem_cons hj, List.take_append_drop]
            have e3 : rowsE rs = rowsE (rs.take i ++ rs[i] :: rs.drop (i + 1)) := by rw [← e1]
            have e4 : (rs[i].2.2.map fun c => (c, rs[i].1)) = (rs[i].2.2.take j).map (fun c => (c, rs[i].1)) ++ (c, rs[i].1) :: (rs[i].2.2.drop (j + 1)).map fun c => (c, rs[i].1) := by
              rw [← List.map_cons (f := fun c => (c, rs[i].1)), ← List.map_append, ← e2]
            rw [e3]
            unfold rowsE
            rw [List.flatMap_append, List.flatMap_cons, e4]
            simp
          have nk : valV (edD (rowsE (rs.take i) ++ (rs[i].2.2.take j).map fun c => (c, rs[i].1))) (Sum.inr c) = none := by
            refine valV_map_str _ _ fun y hy => ?_
            rw [eq, List.map_append, List.map_cons] at nd
            exact (List.nodup_append.mp nd).2.2 _ (List.mem_map.mpr ⟨_, hy, rfl⟩) _ (List.mem_cons_self ..) rfl
          have ll : (edD (rowsE (rs.take i) ++ (rs[i].2.2.take j).map fun c => (c, rs[i].1))).length < sizeLine := by
            have : (rowsE (rs.take i) ++ (rs[i].2.2.take j).map fun c => (c, rs[i].1)).length ≤ (rowsE rs).length := by
              rw [eq, List.length_append (bs := _ :: _)]
              omega
            unfold edD
            rw [List.length_map]
            exact Nat.lt_of_le_of_lt (by omega : _ ≤ 2000) (by decide)
          refine ⟨.str rs[i].1, rfl, .ref d, rfl, .str c, rfl, d, _, rfl, DPut.k (k := Sum.inr c) g3 ll, ⟨_, rfl⟩, ?_, fun b o hb e => ?_, ?_⟩
          · rw [upd_ne ndp.symm]
            exact g1
          · rw [upd_ne (ne_of_none e nd0)]
            exact g2 b o hb e
          · rw [upd_same, putK_new _ nk, List.take_succ, hc, List.map_append, ← List.append_assoc]
            exact congrArg (fun z => some (HO.dK z)) (edD_snoc _ (c, rs[i].1)).symm
      · rintro σ' H' ⟨⟨y4, rfl⟩, g1, g2, g3⟩
        refine ⟨⟨_, _, y4, rfl⟩, g1, g2, ?_⟩
        rw [List.length_map, List.take_length] at g3
        have e3 : rowsE (rs.take (i + 1)) = rowsE (rs.take i) ++ rs[i].2.2.map fun c => (c, rs[i].1) := by
          rw [List.take_succ, List.getElem?_eq_getElem hi]
          unfold rowsE
          rw [List.flatMap_append]
          simp
        rw [g3, e3]
    · rintro σ' H' ⟨⟨y2, y3, y4, rfl⟩, h1, h2, h3⟩
      refine ⟨h1, .ref d, rfl, q _ d ?_ nd0 ?_⟩
      · refine ⟨gi, fun b o _ e => ?_, fun _ _ e => e, fun b o e => ?_, fun _ e _ => e⟩
        · by_cases hb : b = p
          · rw [hb, upd_same]
            rw [hb, hp] at e
            exact e
          · rw [upd_ne hb]
            exact h2 b o hb e
        · have e' := gi b o e
          by_cases hb : b = p
          · rw [hb, upd_same]
            rw [hb, hp] at e'
            exact e'
          · rw [upd_ne hb]
            exact h2 b o hb e'
      · rw [upd_ne ndp, h3, lenR, List.take_length]
end
end K2
namespace Kg
open PySem PySem.Spec PyProof.Rows L2
def lvD (lv : Str → Nat) (ks : List Str) : List (L2.Key × V) := ks.map fun k => (Sum.inr k, V.int (lv k : Int))
theorem lvD_at {lv : Str → Nat} {k : Str} : ∀ {ks : List Str}, k ∈ ks → valV (lvD lv ks) (Sum.inr k) = some (.int (lv k : Int))
  | [], h => by cases h
  | x :: ks, h => by
    by_cases e : x = k
    · subst e
      exact valV_pos rfl
    · have ne : ¬ (Sum.inr x : L2.Key) = Sum.inr k := fun z => e (by injection z)
      show valV (_ :: lvD lv ks) _ = _
      rw [valV_neg ne]
      rcases List.mem_cons.mp h with z | z
      · exact absurd z.symm e
      · exact lvD_at z
theorem lvD_none {lv : Str → Nat} {k : Str} : ∀ {ks : List Str}, k ∉ ks → valV (lvD lv ks) (Sum.inr k) = none
  | [], _ => rfl
  | x :: ks, h => by
    rw [List.mem_cons, not_or] at h
    have ne : ¬ (Sum.inr x : L2.Key) = Sum.inr k := fun z => h.1 (by injection z with z; exact z.symm)
    show valV (_ :: lvD lv ks) _ = _
    rw [valV_neg ne]
    exact lvD_none h.2
theorem lvD_congr {lv lv' : Str → Nat} : ∀ {ks : List Str}, (∀ k ∈ ks, lv k = lv' k) → lvD lv ks = lvD lv' ks
  | [], _ => rfl
  | x :: ks, h => by
    show ((Sum.inr x : L2.Key), V.int (lv x : Int)) :: lvD lv ks = (Sum.inr x, V.int (lv' x : Int)) :: lvD lv' ks
    rw [h x (List.mem_cons_self ..), lvD_congr fun k hk => h k (List.mem_cons_of_mem _ hk)]
theorem lvD_put (lv : Str → Nat) (x : Str) (m : Nat) (ks : List Str) (h : x ∉ ks) : lvD (fun k => if k = x then m else lv k) (ks ++ [x]) = lvD lv ks ++ [(Sum.inr x, V.int (m : Int))] := by
  have e : lvD (fun k => if k = x then m else lv k) (ks ++ [x]) = lvD (fun k => if k = x then m else lv k) ks ++ [(Sum.inr x, V.int (((if x = x then m else lv x : Nat) : Nat) : Int))] := by
    unfold lvD
    rw [List.map_append]
    rfl
  rw [e, if_pos rfl, lvD_congr (lv := lv) (lv' := fun k => if k = x then m else lv k) fun k hk => by
    have hz : ¬ k = x := fun z => by
      rw [z] at hk
      exact h hk
    show lv k = if k = x then m else lv k
    rw [if_neg hz]]
/-- a row with a key put in -/
def putR (home : Str) (r : Nat) (x : Str) (e : Str × Addr × List Str) : Str × Addr × List Str := if e.1 = home then (e.1, e.2.1, e.2.2.take r ++ [x] ++ e.2.2.drop r) else e
theorem putR_1 (home : Str) (r : Nat) (x : Str) (e : Str × Addr × List Str) : (putR home r x e).1 = e.1 := by
  unfold putR
  split <;> rfl
theorem putR_2 (home : Str) (r : Nat) (x : Str) (e : Str × Addr × List Str) : (putR home r x e).2.1 = e.2.1 := by
  unfold putR
  split <;> rfl
theorem putR_row (home : Str) (r : Nat) (x : Str) (e : Str × Addr × List Str) : ((putR home r x e).1, (putR home r x e).2.2) = T.putRow home r x (e.1, e.2.2) := by
  unfold putR T.putRow
  by_cases h : e.1 = home
  · rw [if_pos h, if_pos h]
  · rw [if_neg h, if_neg h]
theorem rowsD_putR (home : Str) (r : Nat) (x : Str) (rs : List (Str × Addr × List Str)) : rowsD (rs.map (putR home r x)) = rowsD rs := by
  unfold rowsD
  rw [List.map_map]
  apply List.map_congr_left
  intro e _
  show (Sum.inr (putR home r x e).1, V.ref (putR home r x e).2.1) = _
  rw [putR_1, putR_2]
theorem LT.ins {rs : List (Str × Addr × List Str)} {t : T} (lt : LT rs t) (nd : t.keys.Nodup) {home x : Str} {r : Nat} (hm : home ∈ t.keys) (a : Addr) :
    LT (rs.map (putR home r x) ++ [(x, a, [])]) (t.ins home r x) := by
  unfold LT
  rw [List.map_append, List.map_map]
  have e : (fun e : Str × Addr × List Str => (e.1, e.2.2)) ∘ putR home r x = T.putRow home r x ∘ fun e => (e.1, e.2.2) := by
    funext e
    exact putR_row home r x e
  rw [e, ← List.map_map]
  exact ((lt.map _).append_right _).trans (T.ins_desc home r x t nd hm).symm
theorem cut_from (xs : List V) (j : Nat) : cutV xs (some (j : Int)) none = xs.drop j := by
  unfold cutV
  rw [HT.sIx_nat, HT.sIx_none]
  by_cases h : j ≤ xs.length
  · rw [Nat.min_eq_left h, List.take_of_length_le (by rw [List.length_drop]; omega)]
  · rw [Nat.min_eq_right (by omega), List.drop_length, List.drop_eq_nil_of_le (by omega), List.take_nil]
theorem cut_to (xs : List V) (j : Nat) : cutV xs none (some (j : Int)) = xs.take j := by
  unfold cutV
  rw [HT.sIx_nat, HT.sIx_none, List.drop_zero, Nat.sub_zero]
  by_cases h : j ≤ xs.length
  · rw [Nat.min_eq_left h]
  · rw [Nat.min_eq_right (by omega), List.take_length, List.take_of_length_le (by omega)]
theorem cut_back (xs : List V) (j : Nat) (hj : 0 < j) : cutV xs (some (-(j : Int))) none = xs.drop (xs.length - j) := by
  unfold cutV
  rw [HT.sIx_none]
  have e : HT.sIx xs.length 0 (some (-(j : Int))) = xs.length - j := by
    show (if (-(j : Int)) < 0 then ((-(j : Int)) + (xs.length : Int)).toNat else min (-(j : Int)).toNat xs.length) = _
    rw [if_pos (by omega)]
    omega
  rw [e, List.take_of_length_le (by rw [List.length_drop]; omega)]
theorem mem_map_str {x : V} {hs : List Str} (h : x ∈ hs.map V.str) : ∃ s ∈ hs, x = .str s := by
  obtain ⟨s, hs, e⟩ := List.mem_map.mp h
  exact ⟨s, hs, e.symm⟩
/-- what stands between two turns of the growing -/
structure Gw (K : PySem.W.Frag) (H : Hp) (h c p q : Addr) (ks : List Str) (deep i b : Nat) (H' : Hp) (rs : List (Str × Addr × List Str)) (t : T) (lv : Str → Nat) : Prop where
  bt : But h H H'
  hd : Hd H' h b
  ls : Lists H' p rs
  lt : LT rs t
  rk : rs.map (·.1) = ks.take (i + 1)
  fr : ∀ e ∈ rs, H e.2.1 = none ∧ e.2.1 ≠ c
  an : (rs.map (·.2.1)).Nodup
  lq : H' q = some (.dK (lvD lv (ks.take (i + 1))))
  lvt : T.Lv lv t
  rt : t.key = ks.headD ""
  l1 : lv t.key = 1
  ld : ∀ k ∈ t.keys, lv k ≤ deep
  hc : H' c = some (.lst ((ks.drop 1).map V.str))
end Kg
namespace K2
open PySem PySem.Spec PyProof.Rows L2 Kg
section
variable {P : Program} {w : World} {K : PySem.W.Frag} {mg : Str → Option Value} {base : Heap}
/-! ### _law_grown -/
abbrev s__law_grown : Stmt := topS 19
theorem sc__law_grown : FnScope ["_law_hand_here", "_law_names", "_law_deep", "_law_lists", "_law_levels", "_law_way", "_law_at", "_law_name", "_law_homes", "_law_home", "_law_one"] ["_law_hand_here", "_law_names", "_law_deep"] (defScope s__law_grown) := fscope (by decide +kernel)
/-- a tree, laid out anew as a dict of lists -/
structure Grown (H : Hp) (h p : Addr) (ks : List Str) (deep : Nat) (H' : Hp) (rs : List (Str × Addr × List Str)) (t : T) : Prop where
  bt : But h H H'
  np : H p = none
  ls : Lists H' p rs
  lt : LT rs t
  rk : rs.map (·.1) = ks
  fr : ∀ e ∈ rs, H e.2.1 = none
  rt : t.key = ks.headD ""
  nd : t.keys.Nodup
  ht : T.Ht deep t
def sp__law_grown (K : PySem.W.Frag) : Sp := fun vs H Q _ => ∃ (h l : Addr) (ks : List Str) (deep b : Nat), vs = [.ref h, .ref l, .int (deep : Int)] ∧ l ≠ h ∧ SqL K H l (ks.map V.str) ∧ ks.Nodup ∧ 0 < ks.length ∧ ks.length ≤ 700 ∧
  1 < deep ∧ deep ≤ 1000 ∧ Hd H h (b + 1 + 4 * ks.length) ∧ ∀ H' p rs t, Grown H h p ks deep H' rs t → Hd H' h b → Q (.ref p) H'
theorem ok__law_grown {f : Addr} {fd : FuncData} {k : Nat} (F : Fun K "_law_grown" "_law_grown" s__law_grown f fd) (c__law_take : Cal P w K mg base CX0 1 "_law_take" ["_law_hand_here", "_law_many"] sp__law_take)
    (c__law_of : Cal P w K mg base CX0 2 "_law_of" ["_law_hand_here", "_law_items"] (sp__law_of K)) (z_len : mg "len" = none) (z_enumerate : mg "enumerate" = none) :
    FnOk P w K mg base CX0 (k + 3) f fd ["_law_hand_here", "_law_names", "_law_deep"] (sp__law_grown K) := by
  refine F.ok sc__law_grown (fun vs H Q E h => ?_) (fun cdv A outer s H vs Q E hr h => ?_)
  · obtain ⟨h, l, ks, deep, b, rfl, _⟩ := h
    rfl
  · obtain ⟨h, l, ks, deep, b, rfl, nlh, hl, nd, k0, k1, d0, d1, hd, q⟩ := h
    have hu := hu_of hr
    refine ⟨_, (pss_cons (ps_asg (pe_tup (pa_cons (pe_disp (pps_cons (pe_ix ix_list (pv 1) pe_int (fun _ _ => rfl)) (pe_lst pa_nil) pps_nil) (by rfl) (by rfl) (fun z => by cases z) (by decide)) (pa_cons (pe_disp (pps_cons (pe_ix ix_list (pv 1) pe_int (fun _ _ => rfl)) pe_int pps_nil) (by rfl) (by rfl) (fun z => by cases z) (by decide)) (pa_cons (c__law_take.pe hr (by omega) (by rfl) (pa_cons (pv 0) (pa_cons pe_int pa_nil))) pa_nil)))) (pg_tup rfl (pgs_cons (pg_name (i := 3) sc__law_grown.nd rfl (Or.inl rfl)) (pgs_cons (pg_name (i := 4) sc__law_grown.nd rfl (Or.inr rfl)) (pgs_cons (pg_name (i := 5) sc__law_grown.nd rfl (Or.inl rfl)) pgs_nil)))))
      (pss_cons (ps_for PassesOwn.never rfl (pi_enum (by rfl) z_enumerate (pa_cons (pe_slice sl_list (pv 1) (po_some pe_int) po_none) pa_nil)) (pg_tup rfl (pgs_cons (pg_name (i := 6) sc__law_grown.nd rfl (Or.inl rfl)) (pgs_cons (pg_name (i := 7) sc__law_grown.nd rfl (Or.inl rfl)) pgs_nil))) (pss_cons (ps_setLc (i := 8) (own := [("_law_one", 10)]) (g := gName 10) (tt := fun σ H Q => tDGet (tVar 4) (tVar 10) σ H fun x H1 => tVar 2 σ H1 fun y H2 => ∃ i j, x = .int i ∧ y = .int j ∧ ∃ k, V.bl (decide (i < j)) = .bl k ∧ Q k H2) (te := tVar 10) rfl sc__law_grown.nd rfl rfl (sw_true rfl rfl rfl (by decide +kernel)) (pi_list (pe_slice sl_list (pv 1) po_none (po_some (pe_op op_add (pv 6) pe_int)))) (blkOk_by (own := [("_law_one", 10)]) (N := ["_law_hand_here", "_law_names", "_law_deep", "_law_lists", "_law_levels", "_law_way", "_law_at", "_law_name", "_law_homes", "_law_home", "_law_one"]) (sc := defScope s__law_grown) (by decide +kernel)) (fun _ _ _ _ _ => (pg_name (i := 10) sc__law_grown.nd rfl (Or.inl rfl))) (fun _ _ _ _ _ => (pts_one (pt_cmpR op_lt (pe_dget hu (pv 4) (pv 10) (fun _ _ => rfl)) (pv 2) (nomark _)))) (fun _ _ _ _ _ => (pv 10)))
        (pss_cons (ps_set (i := 9) sc__law_grown.nd rfl (Or.inl rfl) (c__law_of.pe hr (by omega) (by rfl) (pa_cons (pv 0) (pa_cons (pe_op op_cat (pe_slice sl_list (pe_lst (pa_cons (pe_ix ix_list (pv 8) (pe_un un_neg pe_int) (fun _ _ => rfl)) (pa_cons (pe_ix ix_list (pv 8) pe_int (fun _ _ => rfl)) (pa_cons (c__law_of.pe hr (by omega) (by rfl) (pa_cons (pv 0) (pa_cons (pv 8) pa_nil))) (pa_cons (c__law_of.pe hr (by omega) (by rfl) (pa_cons (pv 0) (pa_cons (pe_slice sl_list (pv 8) (po_some (pe_un un_neg pe_int)) po_none) pa_nil))) pa_nil))))) (po_some (pv 5)) po_none) (pe_lst (pa_cons (pe_ix ix_list (pv 8) (pe_un un_neg pe_int) (fun _ _ => rfl)) pa_nil))) pa_nil))))
        (pss_cons (ps_expr (pe_bm PySem.F.plainAttrs_list PySem.F.slot_list_insert PySem.F.type_list_insert mt_insert (pe_dget hu (pv 3) (pv 9) (fun _ _ => rfl)) (pa_cons (c__law_take.pe hr (by omega) (by rfl) (pa_cons (pv 0) (pa_cons (pe_op op_add (pe_callB call_len_seq (by rfl) z_len (by decide +kernel) (pa_cons (pe_dget hu (pv 3) (pv 9) (fun _ _ => rfl)) pa_nil)) pe_int) pa_nil))) (pa_cons (pv 7) pa_nil))))
        (pss_cons (ps_dput hu (pv 3) (pv 7) (pe_lst pa_nil) rfl)
        (pss_one (ps_dput hu (pv 4) (pv 7) (pe_op op_add (pe_dget hu (pv 4) (pv 9) (fun _ _ => rfl)) pe_int) rfl)))))))
      (pss_one (ps_ret (pv 3))))), ?_⟩
    obtain ⟨hx, ehx⟩ := hd.at_
    obtain ⟨r0, kr, ek⟩ : ∃ r0 kr, ks = r0 :: kr := by
      cases ks with
      | nil => exact absurd k0 (by simp)
      | cons a b => exact ⟨a, b, rfl⟩
    have at0 : atI (ks.map V.str) 0 = some (.str r0) := by
      rw [ek]
      exact atI_nat (j := 0) rfl
    -- {names[0]: []}
    intro p np
    have hph : p ≠ h := fun z => by rw [z, ehx] at np; cases np
    have B1 : But h H (upd H p (.dK [])) := (But.refl h H).new np
    refine ⟨.ref l, rfl, l, _, 0, .str r0, rfl, rfl, But.seq B1 nlh hl, at0, Nat.zero_le _, fun a0 na0 => ?_⟩
    have na0p : a0 ≠ p := fun z => by rw [z, upd_same] at na0; cases na0
    have na0' : H a0 = none := by rw [upd_ne na0p] at na0; exact na0
    have ha0h : a0 ≠ h := fun z => by rw [z, ehx] at na0'; cases na0'
    refine ⟨by rw [upd_ne na0p.symm, upd_same], [(Sum.inr r0, V.ref a0)], rfl, (by show 1 ≤ 15; decide), ?_⟩
    have B2 : But h H (upd (upd (upd H p (.dK [])) a0 (.lst [])) p (.dK (mergeK [] [(Sum.inr r0, V.ref a0)]))) := fun b' o hb e => by
      rw [upd_ne (ne_of_none e np), upd_ne (ne_of_none e na0'), upd_ne (ne_of_none e np)]
      exact e
    -- {names[0]: 1}
    intro q2 nq
    have nqp : q2 ≠ p := fun z => by rw [z, upd_same] at nq; cases nq
    have nqa : q2 ≠ a0 := fun z => by rw [z, upd_ne na0p, upd_same] at nq; cases nq
    have nq' : H q2 = none := by
      rw [upd_ne nqp, upd_ne nqa, upd_ne nqp] at nq
      exact nq
    have hqh : q2 ≠ h := fun z => by rw [z, ehx] at nq'; cases nq'
    refine ⟨.ref l, rfl, l, _, 0, .str r0, rfl, rfl, But.seq (B2.new nq) nlh hl, at0, upd_same, [(Sum.inr r0, V.int 1)], rfl, (by show 1 ≤ 15; decide), ?_⟩
    rw [upd_upd]
    have B3 : But h H (upd (upd (upd (upd H p (.dK [])) a0 (.lst [])) p (.dK (mergeK [] [(Sum.inr r0, V.ref a0)]))) q2 (.dK (mergeK [] [(Sum.inr r0, V.int 1)]))) := B2.new nq
    have hd3 : Hd (upd (upd (upd (upd H p (.dK [])) a0 (.lst [])) p (.dK (mergeK [] [(Sum.inr r0, V.ref a0)]))) q2 (.dK (mergeK [] [(Sum.inr r0, V.int 1)]))) h (b + 1 + 4 * ks.length) := hd.same (by
      rw [upd_ne hqh.symm, upd_ne hph.symm, upd_ne ha0h.symm, upd_ne hph.symm])
    have fp3 : (upd (upd (upd (upd H p (.dK [])) a0 (.lst [])) p (.dK (mergeK [] [(Sum.inr r0, V.ref a0)]))) q2 (.dK (mergeK [] [(Sum.inr r0, V.int 1)]))) p = some (.dK [(Sum.inr r0, V.ref a0)]) := by
      rw [upd_ne nqp.symm, upd_same]
      rfl
    have fa3 : (upd (upd (upd (upd H p (.dK [])) a0 (.lst [])) p (.dK (mergeK [] [(Sum.inr r0, V.ref a0)]))) q2 (.dK (mergeK [] [(Sum.inr r0, V.int 1)]))) a0 = some (.lst []) := by
      rw [upd_ne nqa.symm, upd_ne na0p, upd_same]
    have fq3 : (upd (upd (upd (upd H p (.dK [])) a0 (.lst [])) p (.dK (mergeK [] [(Sum.inr r0, V.ref a0)]))) q2 (.dK (mergeK [] [(Sum.inr r0, V.int 1)]))) q2 = some (.dK [(Sum.inr r0, V.int 1)]) := upd_same
    generalize (upd (upd (upd (upd H p (.dK [])) a0 (.lst [])) p (.dK (mergeK [] [(Sum.inr r0, V.ref a0)]))) q2 (.dK (mergeK [] [(Sum.inr r0, V.int 1)]))) = H3 at B3 hd3 fp3 fa3 fq3 ⊢
    -- take(hand, 4)
    refine ⟨.ref h, rfl, h, 4, b + 4 * ks.length, rfl, by decide, by decide, hd3.less (by omega), fun way H4 hway B4 hd4 => ?_⟩
    refine ⟨(by show 3 ≤ sizeLine; decide), fun tp ntp => ?_⟩
    refine ⟨tp, _, rfl, sqT upd_same, rfl, _, _, rfl, _, _, rfl, _, _, rfl, rfl, ?_⟩
    have B5 : But h H3 (upd H4 tp (.tup [.ref p, .ref q2, .int (way : Int)])) := B4.new ntp
    obtain ⟨_, eh4⟩ := hd4.at_
    have tph : tp ≠ h := fun z => by rw [z, eh4] at ntp; cases ntp
    have hd5 : Hd (upd H4 tp (.tup [.ref p, .ref q2, .int (way : Int)])) h (b + 4 * ks.length) := hd4.same (by rw [upd_ne tph.symm])
    generalize (upd H4 tp (.tup [.ref p, .ref q2, .int (way : Int)])) = H5 at B5 hd5 ⊢
    -- enumerate(names[1:])
    refine ⟨.ref l, rfl, 1, rfl, l, _, rfl, But.seq (B3.trans B5) nlh hl, fun c nc => ?_⟩
    rw [show cutV (ks.map V.str) (some 1) none = (ks.drop 1).map V.str by
      rw [List.map_drop]
      exact cut_from _ 1]
    obtain ⟨_, eh5⟩ := hd5.at_
    have hch : c ≠ h := fun z => by rw [z, eh5] at nc; cases nc
    have ncf : ∀ {x : Addr} {o : HO}, x ≠ h → H3 x = some o → x ≠ c := fun {x o} hxh e => ne_of_none (B5 x o hxh e) nc
    have nc' : H c = none := by
      cases e : H c with
      | none => rfl
      | some o =>
        rw [B5 c o hch (B3 c o hch e)] at nc
        cases nc
    refine ⟨c, _, rfl, sqL upd_same, ?_⟩
    refine for_it (walk_enum (xs := (ks.drop 1).map V.str)) (fun i σ' H' => (∃ y6 y7 y8 y9 y10, σ' = [some (.ref h), some (.ref l), some (.int (deep : Int)), some (.ref p), some (.ref q2), some (.int (way : Int)), y6, y7, y8, y9, y10]) ∧
      ∃ rs t lv, Gw K H h c p q2 ks deep i (b + 4 * (ks.length - 1 - i)) H' rs t lv) ⟨⟨none, none, none, none, none, rfl⟩, [(r0, a0, [])], .node r0 [], fun _ => 1, ?_⟩ ?_ ?_ ?_
    · have B6 : But h H (upd H5 c (.lst ((ks.drop 1).map V.str))) := (B3.trans B5).new nc
      have up : ∀ {x : Addr} {o : HO}, x ≠ h → H3 x = some o → (upd H5 c (.lst ((ks.drop 1).map V.str))) x = some o := fun {x o} hxh e => by
        rw [upd_ne (ncf hxh e)]
        exact B5 x o hxh e
      exact {
        bt := B6
        hd := (hd5.same (by rw [upd_ne hch.symm])).less (by omega)
        ls := ⟨up hph fp3, fun e he => by
          rw [List.mem_singleton.mp he]
          exact up ha0h fa3⟩
        lt := by
          unfold Kg.LT
          rw [T.leaf_desc]
          exact List.Perm.refl _
        rk := by rw [ek]; rfl
        fr := fun e he => by
          rw [List.mem_singleton.mp he]
          exact ⟨na0', ncf ha0h fa3⟩
        an := by simp
        lq := by
          rw [show ks.take (0 + 1) = [r0] by rw [ek]; rfl]
          exact up hqh fq3
        lvt := fun e he c hc => by
          rw [T.leaf_desc] at he
          rw [List.mem_singleton.mp he] at hc
          cases hc
        rt := by rw [ek]; rfl
        l1 := rfl
        ld := fun _ _ => by show 1 ≤ deep; omega
        hc := upd_same }
    · rintro i σ' H' _ ⟨_, rs, t, lv, g⟩
      exact sqL g.hc
    · rintro i x σ' H' H2 hi ⟨⟨y6, y7, y8, y9, y10, rfl⟩, rs, t, lv, g⟩ ⟨T0, x1, x2, rfl, nT, rfl, e1, e2⟩
      rw [List.length_map, List.length_drop] at hi
      have hik : i + 1 < ks.length := by omega
      have e1' : x1 = .int (i : Int) := (Option.some.inj e1).symm
      have e2' : x2 = .str ks[i + 1] := by
        have : ((ks.drop 1).map V.str)[i]? = some x2 := e2
        rw [List.getElem?_map, List.getElem?_drop, Nat.add_comm 1 i, List.getElem?_eq_getElem hik] at this
        exact (Option.some.inj this).symm
      subst e1' e2'
      refine ⟨T0, _, rfl, sqT upd_same, rfl, _, _, rfl, _, _, rfl, rfl, ?_⟩
      obtain ⟨_, ehp⟩ := g.hd.at_
      have nTh : T0 ≠ h := fun z => by rw [z, ehp] at nT; cases nT
      have C0 : But h H' (upd H' T0 (.tup [.int (i : Int), .str ks[i + 1]])) := (But.refl h H').new nT
      have hdT : Hd (upd H' T0 (.tup [.int (i : Int), .str ks[i + 1]])) h (b + 4 * (ks.length - 1 - i)) := g.hd.same (by rw [upd_ne nTh.symm])
      generalize (upd H' T0 (.tup [.int (i : Int), .str ks[i + 1]])) = J0 at C0 hdT ⊢
      have ndr : (rs.map (·.1)).Nodup := by
        rw [g.rk]
        exact nd.sublist (List.take_sublist _ _)
      have nd' : t.keys.Nodup := g.lt.keys.nodup_iff.mp ndr
      have memk : ∀ k, k ∈ t.keys ↔ k ∈ ks.take (i + 1) := fun k => by rw [← g.rk]; exact g.lt.keys.mem_iff.symm
      -- names[:at + 1]
      refine ⟨.ref l, rfl, .int (i : Int), rfl, (i : Int), 1, rfl, rfl, _, rfl, l, _, rfl, But.seq (g.bt.trans C0) nlh hl, fun c2 nc2 => ?_⟩
      rw [show cutV (ks.map V.str) none (some ((i : Int) + 1)) = (ks.take (i + 1)).map V.str by
        rw [List.map_take]
        exact cut_to _ (i + 1)]
      obtain ⟨_, eh0⟩ := hdT.at_
      have c2h : c2 ≠ h := fun z => by rw [z, eh0] at nc2; cases nc2
      have C1 : But h H' (upd J0 c2 (.lst ((ks.take (i + 1)).map V.str))) := C0.new nc2
      have hd1 : Hd (upd J0 c2 (.lst ((ks.take (i + 1)).map V.str))) h (b + 4 * (ks.length - 1 - i)) := hdT.same (by rw [upd_ne c2h.symm])
      have fc2 : (upd J0 c2 (.lst ((ks.take (i + 1)).map V.str))) c2 = some (.lst ((ks.take (i + 1)).map V.str)) := upd_same
      generalize (upd J0 c2 (.lst ((ks.take (i + 1)).map V.str))) = J1 at C1 hd1 fc2 ⊢
      have lq1 : J1 q2 = some (.dK (lvD lv (ks.take (i + 1)))) := C1 _ _ hqh g.lq
      refine ⟨c2, rfl, ⟨_, sqL fc2⟩, fun D nD => ?_⟩
      obtain ⟨_, eh1⟩ := hd1.at_
      have Dh : D ≠ h := fun z => by rw [z, eh1] at nD; cases nD
      have Dq : q2 ≠ D := ne_of_none lq1 nD
      have Dc2 : c2 ≠ D := ne_of_none fc2 nD
      refine lc_list (K := K) (a := c2) (vs := [10]) (g := gName 10) (te := tVar 10) (σ := [some (.ref h), some (.ref l), some (.int (deep : Int)), some (.ref p), some (.ref q2), some (.int (way : Int)), some (.int (i : Int)), some (.str ks[i + 1]), y8, y9, y10])
        (tt := fun σ H Q => tDGet (tVar 4) (tVar 10) σ H fun x H1 => tVar 2 σ H1 fun y H2 => ∃ i j, x = .int i ∧ y = .int j ∧ ∃ k, V.bl (decide (i < j)) = .bl k ∧ Q k H2) (xs := (ks.take (i + 1)).map V.str) (fun j J => J = upd J1 D (.lst ((((ks.take (i + 1)).take j).filter fun k => decide (lv k < deep)).map V.str))) rfl ?_ ?_ ?_
      · rintro j J _ rfl
        exact sqL (by rw [upd_ne Dc2]; exact fc2)
      · rintro j x J ex rfl
        rw [List.getElem?_map] at ex
        cases hx0 : (ks.take (i + 1))[j]? with
        | none =>
          rw [hx0] at ex
          cases ex
        | some k =>
          rw [hx0] at ex
          cases ex
          have hk : k ∈ ks.take (i + 1) := List.mem_of_getElem? hx0
          have gq : DGet (upd J1 D (.lst ((((ks.take (i + 1)).take j).filter fun k => decide (lv k < deep)).map V.str))) q2 (.str k) (some (.int (lv k : Int))) := by
            have := DGet.k (k := Sum.inr k) (H := upd J1 D (.lst ((((ks.take (i + 1)).take j).filter fun k => decide (lv k < deep)).map V.str))) (by rw [upd_ne Dq]; exact lq1)
            rw [lvD_at hk] at this
            exact this
          have next : (((ks.take (i + 1)).take (j + 1)).filter fun k => decide (lv k < deep)) = (((ks.take (i + 1)).take j).filter fun k => decide (lv k < deep)) ++ (if lv k < deep then [k] else []) := by
            rw [List.take_succ, hx0, List.filter_append]
            congr 1
            by_cases hlt : lv k < deep
            · simp [hlt]
            · simp [hlt]
          refine ⟨rfl, .ref q2, rfl, .str k, rfl, q2, _, rfl, gq, .int (deep : Int), rfl, _, _, rfl, rfl, _, rfl, ite2 (fun e => ?_) (fun e => ?_)⟩
          · have hlt : lv k < deep := by
              have : (lv k : Int) < (deep : Int) := of_decide_eq_true e
              omega
            refine ⟨.str k, rfl, _, upd_same, ?_, ?_⟩
            · rw [List.length_map]
              have h1 := List.length_filter_le (fun k => decide (lv k < deep)) ((ks.take (i + 1)).take j)
              have h2 : ((ks.take (i + 1)).take j).length ≤ ks.length := by
                rw [List.length_take, List.length_take]
                omega
              exact Nat.lt_of_le_of_lt (by omega : _ ≤ 700) (by decide)
            · rw [upd_upd, next, if_pos hlt, List.map_append]
              rfl
          · have hlt : ¬ lv k < deep := fun z => e (decide_eq_true (by omega))
            rw [next, if_neg hlt, List.append_nil]
      · rintro J rfl
        rw [List.length_map, List.take_length]
        obtain ⟨hs, ehs⟩ : ∃ hs, hs = (ks.take (i + 1)).filter fun k => decide (lv k < deep) := ⟨_, rfl⟩
        have hsin : ∀ k ∈ hs, k ∈ ks.take (i + 1) ∧ lv k < deep := fun k hk => by
          rw [ehs, List.mem_filter] at hk
          exact ⟨hk.1, of_decide_eq_true hk.2⟩
        have rin : r0 ∈ hs := by
          rw [ehs, List.mem_filter]
          have hr0 : t.key = r0 := by rw [g.rt, ek]; rfl
          refine ⟨?_, decide_eq_true ?_⟩
          · rw [← memk, ← hr0]
            exact T.mem_pre_keys (T.self_pre t)
          · rw [← hr0, g.l1]
            exact d0
        have hslen : hs.length ≤ 700 := by
          rw [ehs]
          have h1 := List.length_filter_le (fun k => decide (lv k < deep)) (ks.take (i + 1))
          rw [List.length_take] at h1
          omega
        have hspos : 0 < hs.length := List.length_pos_of_mem rin
        rw [← ehs]
        have C2 : But h H' (upd J1 D (.lst (hs.map V.str))) := C1.new nD
        have hd2 : Hd (upd J1 D (.lst (hs.map V.str))) h (b + 4 * (ks.length - 1 - (i + 1)) + 4) := (hd1.same (by rw [upd_ne Dh.symm])).less (by omega)
        have fD : (upd J1 D (.lst (hs.map V.str))) D = some (.lst (hs.map V.str)) := upd_same
        generalize (upd J1 D (.lst (hs.map V.str))) = J2 at C2 hd2 fD ⊢
        generalize b + 4 * (ks.length - 1 - (i + 1)) = B at hd2 ⊢
        obtain ⟨lst, elst, hlst⟩ : ∃ lst, atI (hs.map V.str) (-1) = some (.str lst) ∧ lst ∈ hs := by
          have hne : hs ≠ [] := fun z => by rw [z] at hspos; exact absurd hspos (by decide)
          refine ⟨hs.getLast hne, ?_, List.getLast_mem hne⟩
          have : hs.map V.str = hs.dropLast.map V.str ++ [V.str (hs.getLast hne)] := by
            rw [← List.map_singleton, ← List.map_append, List.dropLast_concat_getLast]
          rw [this]
          exact atI_last _ _
        have efst : atI (hs.map V.str) 0 = some (.str hs[0]) := atI_nat (j := 0) (by rw [List.getElem?_map, List.getElem?_eq_getElem hspos]; rfl)
        have lenm : (hs.map V.str).length = hs.length := List.length_map ..
        -- home
        refine ⟨.ref h, rfl, .ref D, rfl, 1, rfl, D, _, -1, .str lst, rfl, rfl, sqL fD, elst, .ref D, rfl, D, _, 0, .str hs[0], rfl, rfl, sqL fD, efst,
          .ref h, rfl, .ref D, rfl, h, B + 3, hd2, .inl ⟨D, _, rfl, Dh, sqL fD, (by rw [lenm]; exact hspos), (by rw [lenm]; omega), fun i1 x1 J3 ex1 B3' hd3' => ?_⟩⟩
        have fD3 : J3 D = some (.lst (hs.map V.str)) := B3' _ _ Dh fD
        refine ⟨.ref h, rfl, .ref D, rfl, 3, rfl, -3, rfl, D, _, rfl, sqL fD3, fun c3 nc3 => ?_⟩
        rw [show cutV (hs.map V.str) (some (-3)) none = (hs.map V.str).drop ((hs.map V.str).length - 3) from cut_back _ 3 (by decide)]
        obtain ⟨_, eh3⟩ := hd3'.at_
        have c3h : c3 ≠ h := fun z => by rw [z, eh3] at nc3; cases nc3
        refine ⟨h, B + 2, hd3'.same (by rw [upd_ne c3h.symm]), .inl ⟨c3, _, rfl, c3h, sqL upd_same, (by rw [List.length_drop, lenm]; omega), (by rw [List.length_drop, lenm]; omega), fun i2 x2 J5 ex2 B5' hd5' => ?_⟩⟩
        have D3 : But h J2 J5 := B3'.trans (((But.refl h J3).new nc3).trans B5')
        have fD5 : J5 D = some (.lst (hs.map V.str)) := D3 _ _ Dh fD
        have hx1 : x1 ∈ hs.map V.str := List.mem_of_getElem? ex1
        have hx2 : x2 ∈ hs.map V.str := List.mem_of_mem_drop (List.mem_of_getElem? ex2)
        refine ⟨(by show 4 ≤ sizeLine; decide), fun c4 nc4 => ?_⟩
        refine ⟨.int (way : Int), rfl, (way : Int), rfl, c4, _, rfl, sqL upd_same, fun c5 nc5 => ?_⟩
        obtain ⟨hx5, eh5'⟩ := hd5'.at_
        have c4h : c4 ≠ h := fun z => by rw [z, eh5'] at nc4; cases nc4
        have c4D : D ≠ c4 := ne_of_none fD5 nc4
        have fD6 : (upd J5 c4 (.lst [.str lst, .str hs[0], x1, x2])) D = some (.lst (hs.map V.str)) := by rw [upd_ne c4D]; exact fD5
        have fh6 : (upd J5 c4 (.lst [.str lst, .str hs[0], x1, x2])) h = some (.lst hx5) := by rw [upd_ne c4h.symm]; exact eh5'
        have c5h : c5 ≠ h := fun z => by rw [z, fh6] at nc5; cases nc5
        have c5D : D ≠ c5 := ne_of_none fD6 nc5
        have fD7 : (upd (upd J5 c4 (.lst [.str lst, .str hs[0], x1, x2])) c5 (.lst (cutV [.str lst, .str hs[0], x1, x2] (some (way : Int)) none))) D = some (.lst (hs.map V.str)) := by rw [upd_ne c5D]; exact fD6
        refine ⟨.ref D, rfl, 1, rfl, D, _, -1, .str lst, rfl, rfl, sqL fD7, elst, (by show 1 ≤ sizeLine; decide), fun c6 nc6 => ?_⟩
        have c56 : c5 ≠ c6 := ne_of_none upd_same nc6
        refine ⟨c5, c6, _, _, rfl, rfl, (by rw [upd_ne c56, upd_same]), upd_same, ?_, fun c7 nc7 => ?_⟩
        · have := cutV_length [.str lst, .str hs[0], x1, x2] (some (way : Int)) none
          exact Nat.le_trans (show _ ≤ 5 by simp only [List.length_cons, List.length_nil] at this ⊢; omega) (by decide)
        have D7 : But h J2 (upd (upd (upd (upd J5 c4 (.lst [.str lst, .str hs[0], x1, x2])) c5 (.lst (cutV [.str lst, .str hs[0], x1, x2] (some (way : Int)) none))) c6 (.lst [.str lst])) c7
            (.lst (cutV [.str lst, .str hs[0], x1, x2] (some (way : Int)) none ++ [.str lst]))) := (((D3.new nc4).new nc5).new nc6).new nc7
        have c6h : c6 ≠ h := fun z => by
          rw [z, upd_ne c5h.symm, fh6] at nc6
          cases nc6
        have c7h : c7 ≠ h := fun z => by
          rw [z, upd_ne c6h.symm, upd_ne c5h.symm, fh6] at nc7
          cases nc7
        refine ⟨h, B + 1, hd5'.same (by rw [upd_ne c7h.symm, upd_ne c6h.symm, upd_ne c5h.symm, upd_ne c4h.symm]), .inl ⟨c7, _, rfl, c7h, sqL upd_same, (by rw [List.length_append]; simp), ?_, fun i3 x3 J10 ex3 B10 hd10 => ?_⟩⟩
        · have := cutV_length [.str lst, .str hs[0], x1, x2] (some (way : Int)) none
          rw [List.length_append]
          simp only [List.length_cons, List.length_nil] at this ⊢
          omega
        have D10 : But h J2 J10 := D7.trans B10
        obtain ⟨home, hhome, rfl⟩ : ∃ home ∈ hs, x3 = .str home := by
          have hm := List.mem_of_getElem? ex3
          rw [cut_from] at hm
          rcases List.mem_append.mp hm with z | z
          · have z := List.mem_of_mem_drop z
            simp only [List.mem_cons, List.not_mem_nil, or_false] at z
            rcases z with rfl | rfl | rfl | rfl
            · exact ⟨_, hlst, rfl⟩
            · exact ⟨_, List.getElem_mem hspos, rfl⟩
            · exact mem_map_str hx1
            · exact mem_map_str hx2
          · rw [List.mem_singleton.mp z]
            exact ⟨_, hlst, rfl⟩
        obtain ⟨hm1, hm2⟩ := hsin home hhome
        have htk : home ∈ t.keys := (memk home).mpr hm1
        obtain ⟨n, hn, en⟩ := List.mem_map.mp htk
        obtain ⟨a, hra⟩ := g.lt.row hn
        rw [en] at hra
        have E10 : But h H' J10 := C2.trans D10
        have rowne : ∀ e ∈ rs, e.2.1 ≠ h := fun e he z => by
          have := (g.fr e he).1
          rw [z, ehx] at this
          cases this
        have fp10 : J10 p = some (.dK (rowsD rs)) := E10 _ _ hph g.ls.1
        have fr10 : ∀ e ∈ rs, J10 e.2.1 = some (.lst (e.2.2.map V.str)) := fun e he => E10 _ _ (rowne e he) (g.ls.2 e he)
        have dg10 : ∀ {J : Hp}, J p = some (.dK (rowsD rs)) → DGet J p (.str home) (some (.ref a)) := fun {J} e => by
          have := DGet.k (k := Sum.inr home) e
          rw [rows_at ndr hra] at this
          exact this
        have cslen : (n.kids.map T.key).length ≤ 700 := by
          have h1 := T.pre_kids hn
          have h2 := g.lt.keys.length_eq
          rw [g.rk, List.length_take, T.keys_len] at h2
          rw [List.length_map]
          omega
        -- lists[home].insert(take(hand, len(lists[home]) + 1), name)
        refine ⟨.ref p, rfl, .str home, rfl, p, .ref a, rfl, dg10 fp10, Or.inl ⟨rfl, _, sqL (fr10 _ hra)⟩, .ref h, rfl, .ref p, rfl, .str home, rfl, p, .ref a, rfl, dg10 fp10, a, _, rfl, .inl (sqL (fr10 _ hra)), _, 1, rfl, rfl,
          h, (n.kids.map T.key).length + 1, B, (by simp), (by omega), (by omega), hd10, fun r J11 hr11 B11 hd11 => ?_⟩
        have E11 : But h H' J11 := E10.trans B11
        have fp11 : J11 p = some (.dK (rowsD rs)) := E11 _ _ hph g.ls.1
        have fq11 : J11 q2 = some (.dK (lvD lv (ks.take (i + 1)))) := E11 _ _ hqh g.lq
        have fc11 : J11 c = some (.lst ((ks.drop 1).map V.str)) := E11 _ _ hch g.hc
        have fr11 : ∀ e ∈ rs, J11 e.2.1 = some (.lst (e.2.2.map V.str)) := fun e he => E11 _ _ (rowne e he) (g.ls.2 e he)
        have ha11 : J11 a = some (.lst ((n.kids.map T.key).map V.str)) := fr11 _ hra
        have aH : H a = none := (g.fr _ hra).1
        have ac : a ≠ c := (g.fr _ hra).2
        have ap : a ≠ p := ne_of ha11 fp11 (fun z => nomatch z)
        have aq : a ≠ q2 := ne_of ha11 fq11 (fun z => nomatch z)
        have ah : a ≠ h := rowne _ hra
        obtain ⟨hx11, eh11⟩ := hd11.at_
        refine ⟨.str ks[i + 1], rfl, a, _, (r : Int), .str ks[i + 1], rfl, rfl, ha11, ?_, by omega, by omega, ?_⟩
        · rw [List.length_map]
          exact Nat.lt_of_le_of_lt cslen (by decide)
        rw [Int.toNat_natCast]
        have ein : ((n.kids.map T.key).map V.str).take r ++ [V.str ks[i + 1]] ++ ((n.kids.map T.key).map V.str).drop r = ((n.kids.map T.key).take r ++ [ks[i + 1]] ++ (n.kids.map T.key).drop r).map V.str := by
          rw [List.map_append, List.map_append, List.map_take, List.map_drop]
          rfl
        rw [ein]
        -- lists[name] = []
        refine ⟨Nat.zero_le _, fun a2 na2 => ?_⟩
        have fp12 : (upd J11 a (.lst (((n.kids.map T.key).take r ++ [ks[i + 1]] ++ (n.kids.map T.key).drop r).map V.str))) p = some (.dK (rowsD rs)) := by rw [upd_ne ap.symm]; exact fp11
        have a2a : a2 ≠ a := fun z => by rw [z, upd_same] at na2; cases na2
        have na2' : J11 a2 = none := by rw [upd_ne a2a] at na2; exact na2
        have a2p : p ≠ a2 := ne_of_none fp11 na2'
        have a2q : q2 ≠ a2 := ne_of_none fq11 na2'
        have a2c : c ≠ a2 := ne_of_none fc11 na2'
        have a2h : h ≠ a2 := ne_of_none eh11 na2'
        have a2H : H a2 = none := by
          cases e : H a2 with
          | none => rfl
          | some o =>
            rw [E11 a2 o a2h.symm (g.bt a2 o a2h.symm e)] at na2'
            cases na2'
        have nname : ks[i + 1] ∉ ks.take (i + 1) := fun z => by
          have e3 : ks = ks.take (i + 1) ++ ks[i + 1] :: ks.drop (i + 1 + 1) := by
            rw [← List.drop_eq_getElem_cons hik, List.take_append_drop]
          rw [e3] at nd
          exact (List.nodup_append.mp nd).2.2 _ z _ (List.mem_cons_self ..) rfl
        have tk1 : ks.take (i + 1 + 1) = ks.take (i + 1) ++ [ks[i + 1]] := by
          rw [List.take_succ, List.getElem?_eq_getElem hik]
          rfl
        have rsl : rs.length = i + 1 := by
          have := congrArg List.length g.rk
          rw [List.length_map, List.length_take] at this
          omega
        refine ⟨.ref p, rfl, .str ks[i + 1], rfl, p, _, rfl, DPut.k (k := Sum.inr ks[i + 1]) (by rw [upd_ne a2p]; exact fp12) ?_, ?_⟩
        · unfold rowsD
          rw [List.length_map]
          exact Nat.lt_of_le_of_lt (by omega : _ ≤ 700) (by decide)
        have pq : p ≠ q2 := nqp.symm
        have fq13 : (upd (upd (upd J11 a (.lst (((n.kids.map T.key).take r ++ [ks[i + 1]] ++ (n.kids.map T.key).drop r).map V.str))) a2 (.lst [])) p (.dK (putK (rowsD rs) (Sum.inr ks[i + 1]) (.ref a2)))) q2 = some (.dK (lvD lv (ks.take (i + 1)))) := by
          rw [upd_ne pq.symm, upd_ne a2q, upd_ne aq.symm]
          exact fq11
        have dgq : DGet (upd (upd (upd J11 a (.lst (((n.kids.map T.key).take r ++ [ks[i + 1]] ++ (n.kids.map T.key).drop r).map V.str))) a2 (.lst [])) p (.dK (putK (rowsD rs) (Sum.inr ks[i + 1]) (.ref a2)))) q2 (.str home) (some (.int (lv home : Int))) := by
          have := DGet.k (k := Sum.inr home) fq13
          rw [lvD_at hm1] at this
          exact this
        -- levels[name] = levels[home] + 1
        refine ⟨.ref q2, rfl, .str home, rfl, q2, _, rfl, dgq, (lv home : Int), 1, rfl, rfl, .ref q2, rfl, .str ks[i + 1], rfl, q2, _, rfl, DPut.k (k := Sum.inr ks[i + 1]) fq13 ?_, ?_⟩
        · unfold lvD
          rw [List.length_map, List.length_take]
          exact Nat.lt_of_le_of_lt (by omega : _ ≤ 700) (by decide)
        have ep : putK (rowsD rs) (Sum.inr ks[i + 1]) (.ref a2) = rowsD (rs.map (putR home r ks[i + 1]) ++ [(ks[i + 1], a2, [])]) := by
          rw [putK_new _ (rows_none (by rw [g.rk]; exact nname))]
          have : rowsD (rs.map (putR home r ks[i + 1]) ++ [(ks[i + 1], a2, [])]) = rowsD (rs.map (putR home r ks[i + 1])) ++ [(Sum.inr ks[i + 1], V.ref a2)] := by
            unfold rowsD
            rw [List.map_append]
            rfl
          rw [this, rowsD_putR]
        have eq' : putK (lvD lv (ks.take (i + 1))) (Sum.inr ks[i + 1]) (.int ((lv home : Int) + 1)) = lvD (fun k => if k = ks[i + 1] then lv home + 1 else lv k) (ks.take (i + 1 + 1)) := by
          rw [putK_new _ (lvD_none nname), tk1, lvD_put lv _ _ _ nname]
          rfl
        rw [ep, eq']
        have rsN : ∀ e ∈ rs, e.1 = home → e = (home, a, n.kids.map T.key) := fun e he e1 => by
          have h1 := rows_at ndr (show (e.1, e.2.1, e.2.2) ∈ rs from he)
          rw [e1, rows_at ndr hra] at h1
          have h2 : e.2.1 = a := by
            have := Option.some.inj h1
            injection this with this
            exact this.symm
          have inj : ∀ l : List (Str × Addr × List Str), (l.map (·.1)).Nodup → e ∈ l → (home, a, n.kids.map T.key) ∈ l → e = (home, a, n.kids.map T.key) := by
            intro l
            induction l with
            | nil => intro _ h; cases h
            | cons x l ih =>
              intro nd h1 h2
              rw [List.map_cons, List.nodup_cons] at nd
              rcases List.mem_cons.mp h1 with z1 | z1
              · rcases List.mem_cons.mp h2 with z2 | z2
                · rw [z1, z2]
                · exact absurd (List.mem_map.mpr ⟨_, z2, by rw [← z1, e1]⟩) nd.1
              · rcases List.mem_cons.mp h2 with z2 | z2
                · exact absurd (List.mem_map.mpr ⟨_, z1, by rw [← z2, e1]⟩) nd.1
                · exact ih nd.2 z1 z2
          exact inj rs ndr he hra
        have rsA : ∀ e ∈ rs, e.1 ≠ home → e.2.1 ≠ a := fun e he e1 z => by
          have inj : ∀ l : List (Str × Addr × List Str), (l.map (·.2.1)).Nodup → e ∈ l → (home, a, n.kids.map T.key) ∈ l → e = (home, a, n.kids.map T.key) := by
            intro l
            induction l with
            | nil => intro _ h; cases h
            | cons x l ih =>
              intro nd h1 h2
              rw [List.map_cons, List.nodup_cons] at nd
              rcases List.mem_cons.mp h1 with z1 | z1
              · rcases List.mem_cons.mp h2 with z2 | z2
                · rw [z1, z2]
                · exact absurd (List.mem_map.mpr ⟨_, z2, by rw [← z1, z]⟩) nd.1
              · rcases List.mem_cons.mp h2 with z2 | z2
                · exact absurd (List.mem_map.mpr ⟨_, z1, by rw [← z2, z]⟩) nd.1
                · exact ih nd.2 z1 z2
          exact e1 (congrArg (·.1) (inj rs g.an he hra))
        have keysP := T.ins_keys (home := home) (i := r) (x := ks[i + 1]) nd' htk
        have nint : ks[i + 1] ∉ t.keys := fun z => nname ((memk _).mp z)
        refine ⟨⟨_, _, _, _, _, rfl⟩, rs.map (putR home r ks[i + 1]) ++ [(ks[i + 1], a2, [])], t.ins home r ks[i + 1], fun k => if k = ks[i + 1] then lv home + 1 else lv k, ?_⟩
        exact {
          bt := fun b' o hb e => by
            rw [upd_ne (ne_of_none e nq'), upd_ne (ne_of_none e np), upd_ne (ne_of_none e a2H), upd_ne (ne_of_none e aH)]
            exact E11 b' o hb (g.bt b' o hb e)
          hd := hd11.same (by rw [upd_ne hqh.symm, upd_ne hph.symm, upd_ne a2h, upd_ne ah.symm])
          ls := ⟨by rw [upd_ne pq, upd_same], fun e he => by
            rcases List.mem_append.mp he with z | z
            · obtain ⟨e0, he0, rfl⟩ := List.mem_map.mp z
              rw [putR_2]
              have f0 := fr11 e0 he0
              have ne1 : e0.2.1 ≠ q2 := ne_of f0 fq11 (fun z => nomatch z)
              have ne2 : e0.2.1 ≠ p := ne_of f0 fp11 (fun z => nomatch z)
              have ne3 : e0.2.1 ≠ a2 := ne_of_none f0 na2'
              rw [upd_ne ne1, upd_ne ne2, upd_ne ne3]
              by_cases e1 : e0.1 = home
              · have e2 := rsN e0 he0 e1
                unfold putR
                rw [if_pos e1, e2, upd_same]
              · unfold putR
                rw [if_neg e1, upd_ne (rsA e0 he0 e1)]
                exact f0
            · rw [List.mem_singleton.mp z]
              show (upd _ _ _) a2 = _
              rw [upd_ne a2q.symm, upd_ne a2p.symm, upd_same]
              rfl⟩
          lt := g.lt.ins nd' htk a2
          rk := by
            rw [List.map_append, List.map_map, tk1, ← g.rk]
            congr 1
            apply List.map_congr_left
            intro e _
            exact putR_1 home r ks[i + 1] e
          fr := fun e he => by
            rcases List.mem_append.mp he with z | z
            · obtain ⟨e0, he0, rfl⟩ := List.mem_map.mp z
              rw [putR_2]
              exact g.fr e0 he0
            · rw [List.mem_singleton.mp z]
              exact ⟨a2H, a2c.symm⟩
          an := by
            rw [List.map_append, List.map_map]
            have e3 : (rs.map ((fun x : Str × Addr × List Str => x.2.1) ∘ putR home r ks[i + 1])) = rs.map (·.2.1) := by
              apply List.map_congr_left
              intro e _
              exact putR_2 home r ks[i + 1] e
            rw [e3]
            refine nd_snoc g.an fun z => ?_
            obtain ⟨e0, he0, e1⟩ := List.mem_map.mp z
            have := fr11 e0 he0
            rw [e1, na2'] at this
            cases this
          lq := upd_same
          lvt := fun e he c' hc' => by
            have he2 := (T.ins_desc home r ks[i + 1] t nd' htk).mem_iff.mp he
            rcases List.mem_append.mp he2 with z | z
            · obtain ⟨e0, he0, rfl⟩ := List.mem_map.mp z
              have k0 : e0.1 ∈ t.keys := by
                rw [← T.desc_keys]
                exact List.mem_map.mpr ⟨e0, he0, rfl⟩
              have n0 : e0.1 ≠ ks[i + 1] := fun z => nint (z ▸ k0)
              have kid : ∀ c' ∈ e0.2, c' ≠ ks[i + 1] ∧ lv c' = lv e0.1 + 1 := fun c' hc' => by
                refine ⟨fun z => nint ?_, g.lvt e0 he0 c' hc'⟩
                rw [← z, ← (T.edges_perm t).mem_iff]
                refine List.mem_cons_of_mem _ (List.mem_map.mpr ⟨(c', e0.1), ?_, rfl⟩)
                rw [T.edges_desc]
                exact List.mem_flatMap.mpr ⟨e0, he0, List.mem_map.mpr ⟨c', hc', rfl⟩⟩
              unfold T.putRow at hc' ⊢
              by_cases e1 : e0.1 = home
              · rw [if_pos e1] at hc' ⊢
                show (if c' = ks[i + 1] then lv home + 1 else lv c') = (if e0.1 = ks[i + 1] then lv home + 1 else lv e0.1) + 1
                rw [if_neg n0]
                have hc2 : c' ∈ e0.2.take r ++ [ks[i + 1]] ++ e0.2.drop r := hc'
                by_cases e2 : c' = ks[i + 1]
                · rw [if_pos e2, e1]
                · rw [if_neg e2]
                  have : c' ∈ e0.2 := by
                    rcases List.mem_append.mp hc2 with z1 | z1
                    · rcases List.mem_append.mp z1 with z2 | z2
                      · exact List.mem_of_mem_take z2
                      · exact absurd (List.mem_singleton.mp z2) e2
                    · exact List.mem_of_mem_drop z1
                  exact (kid c' this).2
              · rw [if_neg e1] at hc' ⊢
                show (if c' = ks[i + 1] then lv home + 1 else lv c') = (if e0.1 = ks[i + 1] then lv home + 1 else lv e0.1) + 1
                rw [if_neg n0, if_neg (kid c' hc').1]
                exact (kid c' hc').2
            · rw [List.mem_singleton.mp z] at hc'
              cases hc'
          rt := by rw [T.ins_key]; exact g.rt
          l1 := by
            rw [T.ins_key]
            show (if t.key = ks[i + 1] then lv home + 1 else lv t.key) = 1
            have hz : ¬ t.key = ks[i + 1] := fun z => by
              have h9 := T.mem_pre_keys (T.self_pre t)
              rw [z] at h9
              exact nint h9
            rw [if_neg hz]
            exact g.l1
          ld := fun k hk => by
            show (if k = ks[i + 1] then lv home + 1 else lv k) ≤ deep
            by_cases e2 : k = ks[i + 1]
            · rw [if_pos e2]
              omega
            · rw [if_neg e2]
              rcases List.mem_append.mp (keysP.mem_iff.mp hk) with z | z
              · exact g.ld k z
              · exact absurd (List.mem_singleton.mp z) e2
          hc := by
            have cq : c ≠ q2 := ne_of fc11 fq11 (fun z => nomatch z)
            have cp : c ≠ p := ne_of fc11 fp11 (fun z => nomatch z)
            rw [upd_ne cq, upd_ne cp, upd_ne a2c, upd_ne ac.symm]
            exact fc11 }
    · rintro σ' H' ⟨⟨y6, y7, y8, y9, y10, rfl⟩, rs, t, lv, g⟩
      have e1 : ((ks.drop 1).map V.str).length + 1 = ks.length := by
        rw [List.length_map, List.length_drop]
        omega
      have nd' : t.keys.Nodup := by
        rw [← g.lt.keys.nodup_iff, g.rk, e1, List.take_length]
        exact nd
      refine ⟨.ref p, rfl, q H' p rs t ⟨g.bt, np, g.ls, g.lt, ?_, fun e he => (g.fr e he).1, g.rt, nd', ?_⟩ (g.hd.less (by omega))⟩
      · rw [g.rk, e1, List.take_length]
      · exact g.lvt.ht deep t g.ld (by rw [g.l1]; omega)
end
end K2
namespace Kg
open PySem PySem.Spec PyProof.Rows L2
/-- two arguments by keywords, the second parameter first -/
def gSwap : List V → List V → List V
  | [], [a, b] => [b, a]
  | _, _ => []
def gSwapU : List Value → List Value → List Value
  | [], [a, b] => [b, a]
  | _, _ => []
section
variable {K : PySem.W.Frag} {σ : L2.St} {G H : Hp}
theorem em_kw2 {sp : Sp} {E : XK} {ta : TA} {a b d : PyData} (h : EvA K ta σ G H [a, b]) (hs : SpM K sp G H [b, a] d) : EvM K (tCallK sp gSwap E tNil ta) σ G H d := fun G1 H1 g Q q => by
  refine h G1 H1 g _ fun H2 G2 us g2 hus => ?_
  cases hus with
  | cons h1 h2 =>
    cases h2 with
    | cons h2 h3 =>
      cases h3
      exact hs G2 H2 _ (g.tr g2) (.cons h2 (.cons h1 .nil)) Q (fun H3 G3 u g3 hu => q H3 G3 u (g2.tr g3) hu) E
/-- d.get(k, None), d a dict of parents -/
theorem em_get {i j : Nat} {p : Addr} {k : Str} {kvs : List (L2.Key × V)} {d : PyData} (hp : G p = some (.dK kvs)) (hd : Dp K G ((valV kvs (Sum.inr k)).getD .non) d)
    (hi : σ[i]? = some (some (.ref p))) (hj : σ[j]? = some (some (.str k))) : EvM K (tDGet2 (tVar i) (tVar j) (tC .non)) σ G H d := fun G1 H1 g Q q =>
  ⟨.ref p, hi, p, rfl, .inl ⟨kvs, .inl (g.into _ _ hp)⟩, .str k, hj, _, DGet.k (k := Sum.inr k) (g.into _ _ hp), q H1 G1 _ (.refl g.i) (Dp.same g.g _ _ hd)⟩
end
theorem s_seq {t u : TS} {D : Ends} {σ : L2.St} {H : Hp} (h : t { D with nx := u D } σ H) : tSeq t u D σ H := h
theorem s_set {te : TE} {i : Nat} {D : Ends} {σ : L2.St} {H : Hp} (h : te σ H fun v H1 => D.nx (σ.set i (some v)) H1) : tAsg te (gName i) D σ H := h
theorem Dp.str_at {K : PySem.W.Frag} {G : Hp} {v : V} {x : Str} (h : Dp K G v (.str x)) : v = .str x := by
  cases h
  rfl
end Kg
namespace K2
open PySem PySem.Spec PyProof.Rows L2 Kg
section
variable {P : Program} {w : World} {K : PySem.W.Frag} {mg : Str → Option Value} {base : Heap}
theorem spM_path_of {G H : Hp} {t u : T} {ps : List Str} (few : t.size ≤ 1000) (nd : t.keys.Nodup) (way : T.Way t u ps) : SpM K (sp_path_of K) G H [t.d, .str u.key] (.tuple (ps.map .str)) := fun G1 H1 us g h Q q E => by
  cases h with
  | cons h1 h2 =>
    cases h2 with
    | cons h2 h3 =>
      cases h2
      cases h3
      exact ⟨_, t, u, ps, G1, rfl, g.i, h1, few, nd, way, q⟩
theorem spM_parent_of {G H : Hp} {t u : T} {ps : List Str} (few : t.size ≤ 1000) (nd : t.keys.Nodup) (way : T.Way t u ps) : SpM K (sp_parent_of K) G H [t.d, .str u.key] (parentD ps) := fun G1 H1 us g h Q q E => by
  cases h with
  | cons h1 h2 =>
    cases h2 with
    | cons h2 h3 =>
      cases h2
      cases h3
      exact ⟨_, t, u, ps, G1, rfl, g.i, h1, few, nd, way, q⟩
theorem spM_children_of {G H : Hp} {t u : T} (few : t.size ≤ 1000) (nd : t.keys.Nodup) (hu : u ∈ t.pre) : SpM K (sp_children_of K) G H [t.d, .str u.key] (.tuple ((u.kids.map T.key).map .str)) := fun G1 H1 us g h Q q E => by
  cases h with
  | cons h1 h2 =>
    cases h2 with
    | cons h2 h3 =>
      cases h2
      cases h3
      exact ⟨_, t, u, G1, rfl, g.i, h1, few, nd, hu, q⟩
/-! ### _law_element_right -/
abbrev s__law_element_right : Stmt := topS 21
theorem sc__law_element_right : FnScope ["_law_plant", "_law_lists", "_law_above", "_law_name", "_law_way", "_law_told", "_law_due", "_law_named"] ["_law_plant", "_law_lists", "_law_above", "_law_name"] (defScope s__law_element_right) := fscope (by decide +kernel)
/-- what the law keeps of a drawn tree -/
structure Plant (K : PySem.W.Frag) (G : Hp) (v : V) (p ab : Addr) (rs : List (Str × Addr × List Str)) (t : T) (es : List (Str × Str)) : Prop where
  dv : Dp K G v t.d
  ls : Lists G p rs
  lt : LT rs t
  ab : G ab = some (.dK (edD es))
  en : (es.map (·.1)).Nodup
  em : ∀ e, e ∈ es ↔ e ∈ t.edges
  nd : t.keys.Nodup
  few : t.size ≤ 1000
  ko : ∀ k ∈ t.keys, KeyOk k
  ht : T.Ht 20 t
theorem Plant.same {G G' : Hp} {v : V} {p ab : Addr} {rs : List (Str × Addr × List Str)} {t : T} {es : List (Str × Str)} (h : Plant K G v p ab rs t es) (e : Same G G') : Plant K G' v p ab rs t es :=
  ⟨Dp.same e _ _ h.dv, h.ls.same e, h.lt, e _ _ h.ab, h.en, h.em, h.nd, h.few, h.ko, h.ht⟩
def sp__law_element_right (K : PySem.W.Frag) : Sp := fun vs H Q _ => ∃ (v : V) (p ab : Addr) (rs : List (Str × Addr × List Str)) (t n : T) (es : List (Str × Str)) (G : Hp), vs = [v, .ref p, .ref ab, .str n.key] ∧ Same G H ∧
  Plant K G v p ab rs t es ∧ n ∈ t.pre ∧ Gives K G H (.bool true) Q
set_option maxHeartbeats 1000000 in
theorem ok__law_element_right {f : Addr} {fd : FuncData} {k : Nat} (F : Fun K "_law_element_right" "_law_element_right" s__law_element_right f fd)
    (c_parent_of : Cal P w K mg base CX0 4 "parent_of" ["tree", "key"] (sp_parent_of K)) (k_parent_of : CalK P w K mg base CX0 4 "parent_of" ["tree", "key"] ["key", "tree"] gSwap (sp_parent_of K))
    (c_children_of : Cal P w K mg base CX0 3 "children_of" ["tree", "key"] (sp_children_of K)) (k_children_of : CalK P w K mg base CX0 3 "children_of" ["tree", "key"] ["key", "tree"] gSwap (sp_children_of K))
    (c_subtree : Cal P w K mg base CX0 2 "subtree" ["tree", "key"] (sp_subtree K)) (k_subtree : CalK P w K mg base CX0 2 "subtree" ["tree", "key"] ["key", "tree"] gSwap (sp_subtree K))
    (c_path_of : Cal P w K mg base CX0 3 "path_of" ["tree", "key"] (sp_path_of K)) (k_path_of : CalK P w K mg base CX0 3 "path_of" ["tree", "key"] ["key", "tree"] gSwap (sp_path_of K))
    (c__law_nested : Cal P w K mg base CX0 21 "_law_nested" ["_law_lists", "_law_label"] (sp__law_nested K 20)) (z_tuple : mg "tuple" = none) (z_repr : mg "repr" = none) :
    Fg P w K mg base (k + 22) f fd ["_law_plant", "_law_lists", "_law_above", "_law_name"] (sp__law_element_right K) := by
  refine fg_ok F sc__law_element_right (fun vs H Q E h => ?_) (fun cdv A outer s H vs Q E hr hq h => ?_)
  · obtain ⟨v, p, ab, rs, t, n, es, G, rfl, _⟩ := h
    rfl
  · obtain ⟨v, p, ab, rs, t, n, es, G, rfl, gi, pl, hn, q⟩ := h
    have hu := hu_of hr
    have hu150 := show (A.deeper (envOfC "_law_element_right" (defScope s__law_element_right) s.heap.objs.size f cdv)).units + 150 < cLine by
      have := hr.un
      omega
    refine ⟨_, (pss_cons (ps_set (i := 4) sc__law_element_right.nd rfl (Or.inl rfl) (pe_lst (pa_cons (pv 3) pa_nil)))
      (pss_cons (ps_while PassesOwn.never (pt_cmp (pc_din hu (pe_ix ix_list (pv 4) pe_int (fun _ _ => rfl)) (pv 2))) (pss_one (ps_set (i := 4) sc__law_element_right.nd rfl (Or.inl rfl) (pe_op op_cat (pe_lst (pa_cons (pe_dget hu (pv 2) (pe_ix ix_list (pv 4) pe_int (fun _ _ => rfl)) (fun _ _ => rfl)) pa_nil)) (pv 4)))))
      (pss_cons (ps_set (i := 5) sc__law_element_right.nd rfl (Or.inl rfl) (pe_lst (pa_cons (c_parent_of.pe hr (by omega) (by rfl) (pa_cons (pv 0) (pa_cons (pv 3) pa_nil))) (pa_cons (c_children_of.pe hr (by omega) (by rfl) (pa_cons (pv 0) (pa_cons (pv 3) pa_nil))) (pa_cons (c_subtree.pe hr (by omega) (by rfl) (pa_cons (pv 0) (pa_cons (pv 3) pa_nil))) (pa_cons (c_path_of.pe hr (by omega) (by rfl) (pa_cons (pv 0) (pa_cons (pv 3) pa_nil))) pa_nil))))))
      (pss_cons (ps_set (i := 6) sc__law_element_right.nd rfl (Or.inl rfl) (pe_lst (pa_cons (pe_dget2 hu (pv 2) (pv 3) pe_non ⟨rfl, rfl, rfl, rfl⟩) (pa_cons (pe_callTy call_tuple_of (by rfl) z_tuple (by decide +kernel) (pa_cons (pe_dget hu (pv 1) (pv 3) (fun _ _ => rfl)) pa_nil)) (pa_cons (c__law_nested.pe hr (by omega) (by rfl) (pa_cons (pv 1) (pa_cons (pv 3) pa_nil))) (pa_cons (pe_callTy call_tuple_of (by rfl) z_tuple (by decide +kernel) (pa_cons (pv 4) pa_nil)) pa_nil))))))
      (pss_cons (ps_set (i := 7) sc__law_element_right.nd rfl (Or.inl rfl) (pe_lst (pa_cons (k_parent_of.kw hr (by omega) (by rfl) (pk_cons (pv 3) (pk_cons (pv 0) pk_nil))) (pa_cons (k_children_of.kw hr (by omega) (by rfl) (pk_cons (pv 3) (pk_cons (pv 0) pk_nil))) pa_nil))))
      (pss_cons (ps_set (i := 7) sc__law_element_right.nd rfl (Or.inl rfl) (pe_op op_cat (pv 7) (pe_lst (pa_cons (k_subtree.kw hr (by omega) (by rfl) (pk_cons (pv 3) (pk_cons (pv 0) pk_nil))) (pa_cons (k_path_of.kw hr (by omega) (by rfl) (pk_cons (pv 3) (pk_cons (pv 0) pk_nil))) pa_nil)))))
      (pss_one (ps_ret (pe_chain op_eq op_eq (pe_callB (call_reprD hq hu150) (by rfl) z_repr (by decide +kernel) (pa_cons (pv 5) pa_nil)) (pe_callB (call_reprD hq hu150) (by rfl) z_repr (by decide +kernel) (pa_cons (pv 6) pa_nil)) (pe_callB (call_reprD hq hu150) (by rfl) z_repr (by decide +kernel) (pa_cons (pv 7) pa_nil))))))))))), ?_⟩
    obtain ⟨ps, way⟩ := T.way_of t n hn
    obtain ⟨r0, e0⟩ := way.last
    have hlen := way.len
    have hfew := pl.few
    have hpos : 0 < ps.length := by rw [e0]; simp
    have hlast : ps[ps.length - 1]? = some n.key := by rw [e0]; simp
    have vroot : valV (edD es) (Sum.inr t.key) = none := valV_map_str _ _ fun y hy => T.root_no pl.nd ((pl.em _).mp hy)
    have vstep : ∀ m (h1 : m + 1 < ps.length), valV (edD es) (Sum.inr ps[m + 1]) = some (.str ps[m]) := fun m h1 =>
      valV_map_in _ _ _ pl.en ((pl.em _).mpr (way.step m _ _ (List.getElem?_eq_getElem (by omega)) (List.getElem?_eq_getElem h1)))
    have head0 : ∀ h1 : 0 < ps.length, ps[0] = t.key := fun h1 => by
      obtain ⟨r', e'⟩ := way.head
      have : ps[0]? = some t.key := by rw [e']; rfl
      rw [List.getElem?_eq_getElem h1] at this
      exact Option.some.inj this
    -- way = [name]
    refine ⟨.str n.key, rfl, (by show 1 ≤ sizeLine; decide), fun w0 nw0 => ?_⟩
    refine ⟨fun m σ' H' => m < ps.length ∧ ∃ wl, σ' = [some v, some (.ref p), some (.ref ab), some (.str n.key), some (.ref wl), none, none, none] ∧ Grow [] G H G H' ∧ H wl = none ∧ H' wl = some (.lst ((ps.drop m).map V.str)),
      ⟨ps.length - 1, by omega, w0, rfl, .beside gi nw0, nw0, ?_⟩, ?_⟩
    · rw [upd_same, List.drop_eq_getElem_cons (by omega), show ps.length - 1 + 1 = ps.length by omega, List.drop_length]
      have : ps[ps.length - 1] = n.key := by
        rw [List.getElem?_eq_getElem (by omega)] at hlast
        exact Option.some.inj hlast
      rw [this]
      rfl
    rintro m σ' H' ⟨hm, wl, rfl, gg, nwl, hwl⟩
    have at0 : atI ((ps.drop m).map V.str) 0 = some (.str ps[m]) := by
      rw [List.drop_eq_getElem_cons hm]
      exact atI_nat (j := 0) rfl
    have hab : H' ab = some (.dK (edD es)) := gg.i _ _ pl.ab
    refine ⟨.ref wl, rfl, wl, _, 0, .str ps[m], rfl, rfl, sqL hwl, at0, .ref ab, rfl, ab, _, rfl, DGet.k (k := Sum.inr ps[m]) hab, _, rfl, ?_⟩
    cases m with
    | succ m =>
      rw [vstep m hm]
      refine iteT ?_
      refine ⟨fun σ2 H2 => ∃ m', m' < m + 1 ∧ (m' < ps.length ∧ ∃ wl, σ2 = [some v, some (.ref p), some (.ref ab), some (.str n.key), some (.ref wl), none, none, none] ∧ Grow [] G H G H2 ∧ H wl = none ∧ H2 wl = some (.lst ((ps.drop m').map V.str))), fun _ _ h => h, ?_⟩
      have dg : DGet H' ab (.str ps[m + 1]) (some (.str ps[m])) := by
        have := DGet.k (k := Sum.inr ps[m + 1]) hab
        rw [vstep m hm] at this
        exact this
      refine ⟨.ref ab, rfl, .ref wl, rfl, wl, _, 0, .str ps[m + 1], rfl, rfl, sqL hwl, at0, ab, _, rfl, dg, (by show 1 ≤ sizeLine; decide), fun c1 nc1 => ?_⟩
      have wc1 : wl ≠ c1 := ne_of_none hwl nc1
      have nc1' : H c1 = none := gg.same.free nc1
      refine ⟨.ref wl, rfl, c1, wl, _, _, rfl, rfl, upd_same, (by rw [upd_ne wc1]; exact hwl), ?_, fun c2 nc2 => ?_⟩
      · rw [List.length_map, List.length_drop]
        exact Nat.le_trans (show _ ≤ 2000 by simp only [List.length_cons, List.length_nil]; omega) (by decide)
      · have g2 : Grow [] G H G (upd H' c1 (.lst [.str ps[m]])) := gg.mut nc1' (gg.i.free nc1)
        have nc2' : H c2 = none := g2.same.free nc2
        refine ⟨m, by omega, by omega, c2, rfl, g2.mut nc2' (g2.i.free nc2), nc2', ?_⟩
        rw [upd_same, List.drop_eq_getElem_cons (show m < ps.length by omega)]
        rfl
    | zero =>
      rw [head0 hm, vroot]
      refine iteF ?_
      rw [List.drop_zero] at hwl
      have g1 : Grow [] G H (upd G wl (.lst (ps.map V.str))) H' := gg.take nwl hwl
      have gwl : G wl = none := gi.free nwl
      have pl1 := pl.same (take_same (o := .lst (ps.map V.str)) gwl)
      have dw : Dp K (upd G wl (.lst (ps.map V.str))) (.ref wl) (.list (ps.map .str)) := .lst (sqL upd_same) (DpAll.strs ps)
      generalize (upd G wl (.lst (ps.map V.str))) = G1 at g1 pl1 dw
      obtain ⟨ra, hra⟩ := pl.lt.row hn
      have ndr : (rs.map (·.1)).Nodup := pl.lt.keys.nodup_iff.mpr pl.nd
      -- told
      have e1 : ∀ {σ : L2.St} {G' H' : Hp}, σ[0]? = some (some v) → σ[3]? = some (some (.str n.key)) → Plant K G' v p ab rs t es → EvA K (tCons (tVar 0) (tCons (tVar 3) tNil)) σ G' H' [t.d, .str n.key] := fun a b c =>
        ea_cons (em_var a c.dv) (ea_cons (em_var b (.str n.key)) ea_nil)
      have e2 : ∀ {σ : L2.St} {G' H' : Hp}, σ[0]? = some (some v) → σ[3]? = some (some (.str n.key)) → Plant K G' v p ab rs t es → EvA K (tCons (tVar 3) (tCons (tVar 0) tNil)) σ G' H' [.str n.key, t.d] := fun a b c =>
        ea_cons (em_var b (.str n.key)) (ea_cons (em_var a c.dv) ea_nil)
      have ev_told : EvM K (tLst (tCons (tCall (sp_parent_of K) [] E0 (tCons (tVar 0) (tCons (tVar 3) tNil))) (tCons (tCall (sp_children_of K) [] E0 (tCons (tVar 0) (tCons (tVar 3) tNil))) (tCons (tCall (sp_subtree K) [] E0 (tCons (tVar 0) (tCons (tVar 3) tNil))) (tCons (tCall (sp_path_of K) [] E0 (tCons (tVar 0) (tCons (tVar 3) tNil))) tNil)))))
          [some v, some (.ref p), some (.ref ab), some (.str n.key), some (.ref wl), none, none, none] G1 H' (.list [parentD ps, .tuple ((n.kids.map T.key).map .str), n.d, .tuple (ps.map .str)]) :=
        em_lst (ea_cons (em_call (e1 rfl rfl pl1) (spM_parent_of pl.few pl.nd way)) (ea_cons (em_call (e1 rfl rfl pl1) (spM_children_of pl.few pl.nd hn)) (ea_cons (em_call (e1 rfl rfl pl1) (spM_subtree pl.few pl.nd hn)) (ea_cons (em_call (e1 rfl rfl pl1) (spM_path_of pl.few pl.nd way)) ea_nil)))) (by show 4 ≤ 100000; decide)
      try dsimp only
      refine s_seq (s_set ?_)
      try dsimp only
      refine ev_told.now g1.i (fun H2 G2 u2 g2 hu2 => ?_)
      have pl2 := pl1.same g2.g
      have dw2 := Dp.same g2.g _ _ dw
      -- due
      have hget : Dp K G2 ((valV (edD es) (Sum.inr n.key)).getD .non) (parentD ps) := by
        unfold parentD
        by_cases hl : ps.length > 1
        · rw [if_pos hl]
          have e1 : ps.length - 2 + 1 = ps.length - 1 := by omega
          have h1 : ps[ps.length - 2 + 1] = n.key := by
            have : ps[ps.length - 2 + 1]? = some n.key := by rw [e1]; exact hlast
            rw [List.getElem?_eq_getElem (by omega)] at this
            exact Option.some.inj this
          have h2 := vstep (ps.length - 2) (by omega)
          rw [h1] at h2
          rw [h2, List.getD_eq_getElem?_getD, List.getElem?_eq_getElem (show ps.length - 2 < ps.length by omega)]
          exact .str _
        · rw [if_neg hl]
          have e1 : ps.length = 1 := by omega
          have h1 : n.key = t.key := by
            have h3 : ps[0]? = some n.key := by rw [← hlast, e1]
            rw [List.getElem?_eq_getElem hpos, head0 hpos] at h3
            exact (Option.some.inj h3).symm
          rw [h1, vroot]
          exact .non
      have ev_nested : EvM K (tCall (sp__law_nested K 20) [] E0 (tCons (tVar 1) (tCons (tVar 3) tNil))) [some v, some (.ref p), some (.ref ab), some (.str n.key), some (.ref wl), some u2, none, none] G2 H2 n.d := fun G' H' g' Q' q' =>
        ⟨.ref p, rfl, .str n.key, rfl, p, rs, t, n, G', rfl, g'.i, pl2.ls.same g'.g, pl.lt, pl.nd, pl.few, hn, pl.ht.sub hn, q'⟩
      have ev_due : EvM K (tLst (tCons (tDGet2 (tVar 2) (tVar 3) (tC .non)) (tCons (tCB (fun xs H Q => ∃ p ys, xs = [.ref p] ∧ ((SqL K H p ys ∧ ∀ l, H l = none → Q (.ref l) (upd H l (.tup ys))) ∨ (SqT K H p ys ∧ Q (.ref p) H))) (tCons (tDGet (tVar 1) (tVar 3)) tNil))
          (tCons (tCall (sp__law_nested K 20) [] E0 (tCons (tVar 1) (tCons (tVar 3) tNil))) (tCons (tCB (fun xs H Q => ∃ p ys, xs = [.ref p] ∧ ((SqL K H p ys ∧ ∀ l, H l = none → Q (.ref l) (upd H l (.tup ys))) ∨ (SqT K H p ys ∧ Q (.ref p) H))) (tCons (tVar 4) tNil)) tNil)))))
          [some v, some (.ref p), some (.ref ab), some (.str n.key), some (.ref wl), some u2, none, none] G2 H2 (.list [parentD ps, .tuple ((n.kids.map T.key).map .str), n.d, .tuple (ps.map .str)]) :=
        em_lst (ea_cons (em_get pl2.ab hget rfl rfl) (ea_cons (em_tuple (em_row pl2.ls ndr hra rfl rfl)) (ea_cons ev_nested (ea_cons (em_tuple (em_var rfl dw2)) ea_nil)))) (by show 4 ≤ 100000; decide)
      try dsimp only
      refine s_seq (s_set ?_)
      try dsimp only
      refine ev_due.now g2.i (fun H3 G3 u3 g3 hu3 => ?_)
      have pl3 := pl2.same g3.g
      -- named
      have ev_n1 : EvA K (tCons (tCallK (sp_parent_of K) gSwap E0 tNil (tCons (tVar 3) (tCons (tVar 0) tNil))) (tCons (tCallK (sp_children_of K) gSwap E0 tNil (tCons (tVar 3) (tCons (tVar 0) tNil))) tNil))
          [some v, some (.ref p), some (.ref ab), some (.str n.key), some (.ref wl), some u2, some u3, none] G3 H3 [parentD ps, .tuple ((n.kids.map T.key).map .str)] :=
        ea_cons (em_kw2 (e2 rfl rfl pl3) (spM_parent_of pl.few pl.nd way)) (ea_cons (em_kw2 (e2 rfl rfl pl3) (spM_children_of pl.few pl.nd hn)) ea_nil)
      try dsimp only
      refine s_seq (s_set ?_)
      try dsimp only
      refine ev_n1 G3 H3 (.refl g3.i) _ (fun H4 G4 us g4 hus => ⟨?_, fun pn npn => ?_⟩)
      · have := hus.length
        exact Nat.le_trans (show us.length ≤ 2 by rw [this]; exact Nat.le_refl _) (by decide)
      have pl4 := pl3.same g4.g
      have g5 : Grow [] G4 H4 G4 (upd H4 pn (.lst us)) := .beside g4.i npn
      have ev_n2 : EvA K (tCons (tCallK (sp_subtree K) gSwap E0 tNil (tCons (tVar 3) (tCons (tVar 0) tNil))) (tCons (tCallK (sp_path_of K) gSwap E0 tNil (tCons (tVar 3) (tCons (tVar 0) tNil))) tNil))
          [some v, some (.ref p), some (.ref ab), some (.str n.key), some (.ref wl), some u2, some u3, some (.ref pn)] G4 (upd H4 pn (.lst us)) [n.d, .tuple (ps.map .str)] :=
        ea_cons (em_kw2 (e2 rfl rfl pl4) (spM_subtree pl.few pl.nd hn)) (ea_cons (em_kw2 (e2 rfl rfl pl4) (spM_path_of pl.few pl.nd way)) ea_nil)
      try dsimp only
      refine s_seq (s_set ?_)
      try dsimp only
      refine ⟨.ref pn, rfl, ev_n2 G4 (upd H4 pn (.lst us)) (.refl g5.i) _ (fun H6 G6 us2 g6 hus2 => ⟨?_, fun pm npm => ?_⟩)⟩
      · have := hus2.length
        exact Nat.le_trans (show us2.length ≤ 2 by rw [this]; exact Nat.le_refl _) (by decide)
      have hpn : H6 pn = some (.lst us) := g6.same _ _ upd_same
      have pnm : pn ≠ pm := ne_of_none hpn npm
      refine ⟨pn, pm, us, us2, rfl, rfl, (by rw [upd_ne pnm]; exact hpn), upd_same, ?_, fun pz npz => ?_⟩
      · have h1 := hus.length
        have h2 := hus2.length
        exact Nat.le_trans (show _ ≤ 4 by rw [h1, h2]; exact Nat.le_refl _) (by decide)
      have g7 : Grow [] G6 H6 G6 (upd H6 pm (.lst us2)) := .beside g6.i npm
      have g8 : Grow [] G6 (upd H6 pm (.lst us2)) (upd G6 pz (.lst (us ++ us2))) (upd (upd H6 pm (.lst us2)) pz (.lst (us ++ us2))) := .add g7.i npz
      have gz : Grow [] G H (upd G6 pz (.lst (us ++ us2))) (upd (upd H6 pm (.lst us2)) pz (.lst (us ++ us2))) := ((((((g1.tr g2).tr g3).tr g4).tr g5).tr g6).tr g7).tr g8
      have hz : Dp K (upd G6 pz (.lst (us ++ us2))) (.ref pz) (.list [parentD ps, .tuple ((n.kids.map T.key).map .str), n.d, .tuple (ps.map .str)]) :=
        .lst (sqL upd_same) (DpAll.same g8.g _ _ ((DpAll.same g6.g _ _ hus).append hus2))
      have h2z : Dp K (upd (upd H6 pm (.lst us2)) pz (.lst (us ++ us2))) u2 (.list [parentD ps, .tuple ((n.kids.map T.key).map .str), n.d, .tuple (ps.map .str)]) :=
        Dp.same ((((g3.tr g4).g.trans g6.g).trans g8.g).trans g8.i) _ _ hu2
      have h3z : Dp K (upd (upd H6 pm (.lst us2)) pz (.lst (us ++ us2))) u3 (.list [parentD ps, .tuple ((n.kids.map T.key).map .str), n.d, .tuple (ps.map .str)]) :=
        Dp.same (((g4.g.trans g6.g).trans g8.g).trans g8.i) _ _ hu3
      have hzz := Dp.same g8.i _ _ hz
      have hko : ∀ k ∈ ps, KeyOk k := fun k hk => by
        have : ∀ {c u : T} {ps : List Str}, T.Way c u ps → ∀ x ∈ ps, x ∈ c.keys := by
          intro c u ps w
          induction w with
          | here t =>
            intro x hx
            rw [List.mem_singleton.mp hx]
            exact T.mem_pre_keys (T.self_pre t)
          | down hc _ ih =>
            intro x hx
            rw [T.keys_eq]
            rcases List.mem_cons.mp hx with e | e
            · rw [e]
              exact List.mem_cons_self ..
            · exact List.mem_cons_of_mem _ (List.mem_flatMap.mpr ⟨_, hc, ih x e⟩)
        exact pl.ko k (this way k hk)
      have nks := T.pre_size t n hn
      have nkids := T.pre_kids hn
      have hkn : ∀ k ∈ n.keys, KeyOk k := fun k hk => by
        obtain ⟨m, hm, em⟩ := List.mem_map.mp hk
        have sub : ∀ (t n : T), n ∈ t.pre → m ∈ n.pre → m ∈ t.pre := by
          refine T.indT fun t ih n hn hm => ?_
          rcases T.pre_cases hn with rfl | ⟨c, hc, hnc⟩
          · exact hm
          · exact T.kid_pre hc (ih c hc n hnc hm)
        rw [← em]
        exact pl.ko _ (T.mem_pre_keys (sub t n hn hm))
      have hkk : ∀ k ∈ n.kids.map T.key, KeyOk k := fun k hk => by
        obtain ⟨c, hc, e⟩ := List.mem_map.mp hk
        rw [← e]
        refine hkn _ ?_
        rw [T.keys_eq]
        exact List.mem_cons_of_mem _ (List.mem_flatMap.mpr ⟨c, hc, T.mem_pre_keys (T.self_pre c)⟩)
      have t1 : Tx 82 0 (parentD ps) := by
        unfold parentD
        by_cases hl : ps.length > 1
        · rw [if_pos hl]
          refine Tx.key (hko _ ?_)
          rw [List.getD_eq_getElem?_getD, List.getElem?_eq_getElem (show ps.length - 2 < ps.length by omega)]
          exact List.getElem_mem _
        · rw [if_neg hl]
          exact Tx.non.more (by decide) (Nat.le_refl _)
      have t2 := (Txs.keys _ hkk).tup
      have t3 := Tx.tree 20 n hkn (pl.ht.sub hn)
      have t4 := (Txs.keys ps hko).tup
      have ok : showOk (.list [parentD ps, .tuple ((n.kids.map T.key).map .str), n.d, .tuple (ps.map .str)]) := by
        refine ((t1.more (Nat.le_refl _) (show 0 ≤ 40 by decide)).cons ((t2.more (Nat.le_refl _) (show _ ≤ 40 by decide)).cons ((t3.more (Nat.le_refl _) (show _ ≤ 40 by decide)).cons ((t4.more (Nat.le_refl _) (show _ ≤ 40 by decide)).cons (Txs.nil.more (Nat.le_refl _) (show 0 ≤ 40 by decide)))))).lst.show ?_ (by decide)
        rw [List.length_map]
        omega
      try dsimp only
      refine ⟨u2, rfl, u2, _, rfl, h2z, rfl, ok, u3, rfl, u3, _, rfl, h3z, rfl, ok, rfl, _, rfl, ?_⟩
      rw [decide_eq_true rfl]
      refine iteT ?_
      refine ⟨.ref pz, rfl, .ref pz, _, rfl, hzz, rfl, ok, rfl, ?_⟩
      rw [decide_eq_true rfl]
      exact q _ _ _ gz (.bl true)
end
end K2
namespace Kg
open PySem PySem.Spec PyProof.Rows L2
def gOne : List V → List V → List V
  | [], [a] => [a]
  | _, _ => []
def gBack : List V → List V → List V
  | [], [a, b, c] => [c, b, a]
  | _, _ => []
section
variable {K : PySem.W.Frag} {σ : L2.St} {G H : Hp}
theorem em_kw1 {sp : Sp} {E : XK} {ta : TA} {a d : PyData} (h : EvA K ta σ G H [a]) (hs : SpM K sp G H [a] d) : EvM K (tCallK sp gOne E tNil ta) σ G H d := fun G1 H1 g Q q => by
  refine h G1 H1 g _ fun H2 G2 us g2 hus => ?_
  cases hus with
  | cons h1 h2 =>
    cases h2
    exact hs G2 H2 _ (g.tr g2) (.cons h1 .nil) Q (fun H3 G3 u g3 hu => q H3 G3 u (g2.tr g3) hu) E
theorem em_kw3 {sp : Sp} {E : XK} {ta : TA} {a b c d : PyData} (h : EvA K ta σ G H [a, b, c]) (hs : SpM K sp G H [c, b, a] d) : EvM K (tCallK sp gBack E tNil ta) σ G H d := fun G1 H1 g Q q => by
  refine h G1 H1 g _ fun H2 G2 us g2 hus => ?_
  cases hus with
  | cons h1 h2 =>
    cases h2 with
    | cons h2 h3 =>
      cases h3 with
      | cons h3 h4 =>
        cases h4
        exact hs G2 H2 _ (g.tr g2) (.cons h3 (.cons h2 (.cons h1 .nil))) Q (fun H3 G3 u g3 hu => q H3 G3 u (g2.tr g3) hu) E
end
theorem DpAll.bools {K : PySem.W.Frag} {G : Hp} : ∀ {vs : List V} (bs : List Bool), DpAll K G vs (bs.map .bool) → vs = bs.map V.bl
  | _, [], h => by cases h; rfl
  | _, b :: bs, h => by
    cases h with
    | cons h1 h2 =>
      cases h1
      exact congrArg _ (DpAll.bools bs h2)
theorem s_if {t : TT} {u w : TS} {D : Ends} {σ : L2.St} {H : Hp} (h : t σ H fun b H1 => if b = true then u D σ H1 else w D σ H1) : tIfS t u w D σ H := h
theorem s_op {r : R2} {ta tb : TE} {σ : L2.St} {H : Hp} {Q : VK} (h : ta σ H fun x H1 => tb σ H1 fun y H2 => r x y H2 Q) : tOp r ta tb σ H Q := h
theorem s_cb {r : List V → Hp → VK → Prop} {te : TE} {σ : L2.St} {H : Hp} {Q : VK} (h : te σ H fun v H1 => r [v] H1 Q) : tCB r (tCons te tNil) σ H Q := h
theorem s_test {te : TE} {σ : L2.St} {H : Hp} {Q : Bool → Hp → Prop} (h : te σ H fun v H1 => ∃ k, v = .bl k ∧ Q k H1) : tTest te σ H Q := h
theorem s_next {D : Ends} {σ : L2.St} {H : Hp} (h : D.nx σ H) : tNext D σ H := h
theorem s_not {t : TT} {σ : L2.St} {H : Hp} {Q : Bool → Hp → Prop} (h : t σ H fun c H1 => Q (!c) H1) : tNot t σ H Q := h
theorem s_b {te : TE} {σ : L2.St} {H : Hp} {Q : Bool → Hp → Prop} (h : te σ H fun v H1 => ∃ k, v = .bl k ∧ Q k H1) : tB te σ H Q := h
theorem Grow.hand {h : Addr} {G H G' H' : Hp} {b : Nat} (a : Grow [] G H G' H') (hd : Hd H h b) : Hd H' h b := by
  obtain ⟨g, x, t, e, r⟩ := hd
  exact ⟨g, x, t, a.same _ _ e, r⟩
theorem Grow.toBut {h : Addr} {G H G' H' : Hp} (a : Grow [] G H G' H') : But h H H' := fun b o _ e => a.same b o e
theorem But.into {h : Addr} {G H H' : Hp} (a : But h H H') (i : Same G H) (g : G h = none) : Same G H' := (a.grow i g).i
/-- the part of the heap that the law's own tree takes up -/
def plot (l p : Addr) (rs : List (Str × Addr × List Str)) (H : Hp) : Hp := fun a => if a = l ∨ a = p ∨ a ∈ rs.map (·.2.1) then H a else none
theorem plot_in (l p : Addr) (rs : List (Str × Addr × List Str)) (H : Hp) : Same (plot l p rs H) H := fun b o e => by
  unfold plot at e
  by_cases h : b = l ∨ b = p ∨ b ∈ rs.map (·.2.1)
  · rw [if_pos h] at e
    exact e
  · rw [if_neg h] at e
    cases e
theorem plot_at {l p a : Addr} {rs : List (Str × Addr × List Str)} {H : Hp} (h : a = l ∨ a = p ∨ a ∈ rs.map (·.2.1)) : plot l p rs H a = H a := if_pos h
theorem plot_off {l p a : Addr} {rs : List (Str × Addr × List Str)} {H : Hp} (h : ¬ (a = l ∨ a = p ∨ a ∈ rs.map (·.2.1))) : plot l p rs H a = none := if_neg h
theorem Names.ok {ks : List Str} {n : Nat} (h : K2.Names ks n) (hn : n ≤ 700) : ks.Nodup ∧ ks.length = n ∧ ∀ k ∈ ks, KeyOk k := by
  obtain ⟨stem, first, leap, h1, h2, h3, rfl⟩ := h
  refine ⟨names_nodup h3 n, by rw [List.length_map, List.length_range], fun k hk => ?_⟩
  obtain ⟨i, hi, rfl⟩ := List.mem_map.mp hk
  have hi := List.mem_range.mp hi
  have ht : (tailOf i).length ≤ 1 ∧ ∀ c ∈ tailOf i, c < 16 ^ 8 := by
    unfold tailOf
    by_cases h : 25 < i
    · rw [if_pos h]
      refine ⟨Nat.le_refl _, fun c hc => ?_⟩
      rw [List.mem_singleton.mp hc]
      have : i / 26 ≤ 26 := by omega
      exact Nat.lt_of_le_of_lt (show _ ≤ 200 by omega) (by decide)
    · rw [if_neg h]
      exact ⟨Nat.zero_le _, fun c hc => by cases hc⟩
  constructor
  · show (nameL stem first leap i).toArray.size ≤ 8
    rw [List.size_toArray]
    unfold nameL
    rw [List.length_append, List.length_append]
    have := ht.1
    simp only [List.length_cons, List.length_nil]
    omega
  · intro c hc
    have hc : c ∈ nameL stem first leap i := by simpa [nameOf] using hc
    unfold nameL at hc
    rcases List.mem_append.mp hc with z | z
    · rcases List.mem_append.mp z with z | z
      · exact Nat.lt_trans (h2 c z).2 (by decide)
      · rw [List.mem_singleton.mp z]
        have : (first + leap * i) % 26 < 26 := Nat.mod_lt _ (by decide)
        exact Nat.lt_of_le_of_lt (show _ ≤ 200 by omega) (by decide)
    · exact ht.2 c z
end Kg
namespace K2
open PySem PySem.Spec PyProof.Rows L2 Kg
section
variable {P : Program} {w : World} {K : PySem.W.Frag} {mg : Str → Option Value} {base : Heap}
theorem spM_keys_of {G H : Hp} {t : T} (few : t.size ≤ 1000) : SpM K (sp_keys_of K) G H [t.d] (.tuple (t.keys.map .str)) := fun G1 H1 us g h Q q E => by
  cases h with
  | cons h1 h2 =>
    cases h2
    exact ⟨_, t, G1, rfl, g.i, h1, few, q⟩
theorem spM_is_inside {G H : Hp} {t u n : T} {ps : List Str} (few : t.size ≤ 1000) (nd : t.keys.Nodup) (way : T.Way t u ps) (hn : n ∈ t.pre) : SpM K (sp_is_inside K) G H [t.d, .str u.key, .str n.key] (.bool (decide (n.key ∈ ps.dropLast))) := fun G1 H1 us g h Q q E => by
  cases h with
  | cons h1 h2 =>
    cases h2 with
    | cons h2 h3 =>
      cases h2
      cases h3 with
      | cons h3 h4 =>
        cases h3
        cases h4
        exact ⟨_, t, u, n, ps, G1, rfl, g.i, h1, few, nd, way, hn, q⟩
/-! ### _law_right -/
abbrev s__law_right : Stmt := topS 22
theorem sc__law_right : FnScope ["_law_hand_here", "_law_names", "_law_lists", "_law_plant", "_law_above", "_law_seen", "_law_turn", "_law_name", "_law_rival", "_law_due"] ["_law_hand_here"] (defScope s__law_right) := fscope (by decide +kernel)
def sp__law_right : Sp := fun vs H Q _ => ∃ (h : Addr), vs = [.ref h] ∧ Hd H h 1000 ∧ ∀ H', But h H H' → Q (.bl true) H'
set_option maxHeartbeats 1000000 in
theorem ok__law_right {f : Addr} {fd : FuncData} {k : Nat} (F : Fun K "_law_right" "_law_right" s__law_right f fd)
    (c__law_take : Cal P w K mg base CX0 1 "_law_take" ["_law_hand_here", "_law_many"] sp__law_take)
    (c__law_of : Cal P w K mg base CX0 2 "_law_of" ["_law_hand_here", "_law_items"] (sp__law_of K))
    (c__law_keys : Cal P w K mg base CX0 3 "_law_keys" ["_law_hand_here", "_law_many"] sp__law_keys)
    (c__law_grown : Cal P w K mg base CX0 3 "_law_grown" ["_law_hand_here", "_law_names", "_law_deep"] (sp__law_grown K))
    (c__law_nested : Cal P w K mg base CX0 21 "_law_nested" ["_law_lists", "_law_label"] (sp__law_nested K 20))
    (c__law_inside : Cal P w K mg base CX0 21 "_law_inside" ["_law_lists", "_law_name"] (sp__law_inside K 20))
    (c__law_parents : Cal P w K mg base CX0 1 "_law_parents" ["_law_lists"] sp__law_parents)
    (c__law_element_right : CalG P w K mg base 22 "_law_element_right" ["_law_plant", "_law_lists", "_law_above", "_law_name"] (sp__law_element_right K))
    (c_keys_of : Cal P w K mg base CX0 2 "keys_of" ["tree"] (sp_keys_of K)) (k_keys_of : CalK P w K mg base CX0 2 "keys_of" ["tree"] ["tree"] gOne (sp_keys_of K))
    (c_is_inside : Cal P w K mg base CX0 4 "is_inside" ["tree", "key", "other"] (sp_is_inside K)) (k_is_inside : CalK P w K mg base CX0 4 "is_inside" ["tree", "key", "other"] ["other", "key", "tree"] gBack (sp_is_inside K))
    (z_repr : mg "repr" = none) (z_tuple : mg "tuple" = none) (z_all : mg "all" = none) (z_range : mg "range" = none) (z_min : mg "min" = none) (z_len : mg "len" = none) :
    Fg P w K mg base (k + 23) f fd ["_law_hand_here"] sp__law_right := by
  refine fg_ok F sc__law_right (fun vs H Q E h => ?_) (fun cdv A outer s H vs Q E hr hq h => ?_)
  · obtain ⟨h, rfl, _⟩ := h
    rfl
  · obtain ⟨h, rfl, hd, q⟩ := h
    have hu := hu_of hr
    have hu150 := show (A.deeper (envOfC "_law_right" (defScope s__law_right) s.heap.objs.size f cdv)).units + 150 < cLine by
      have := hr.un
      omega
    refine ⟨_, (pss_cons (ps_set (i := 1) sc__law_right.nd rfl (Or.inl rfl) (c__law_keys.pe hr (by omega) (by rfl) (pa_cons (pv 0) (pa_cons (c__law_of.pe hr (by omega) (by rfl) (pa_cons (pv 0) (pa_cons (pe_lst (pa_cons (pe_op op_add pe_int (c__law_take.pe hr (by omega) (by rfl) (pa_cons (pv 0) (pa_cons pe_int pa_nil)))) (pa_cons (pe_op op_add pe_int (c__law_take.pe hr (by omega) (by rfl) (pa_cons (pv 0) (pa_cons pe_int pa_nil)))) (pa_cons pe_int pa_nil)))) pa_nil))) pa_nil))))
      (pss_cons (ps_set (i := 2) sc__law_right.nd rfl (Or.inr rfl) (c__law_grown.pe hr (by omega) (by rfl) (pa_cons (pv 0) (pa_cons (pv 1) (pa_cons (c__law_of.pe hr (by omega) (by rfl) (pa_cons (pv 0) (pa_cons (pe_lst (pa_cons pe_int (pa_cons pe_int (pa_cons pe_int pa_nil)))) pa_nil))) pa_nil)))))
      (pss_cons (ps_asg (pe_tup (pa_cons (c__law_nested.pe hr (by omega) (by rfl) (pa_cons (pv 2) (pa_cons (pe_ix ix_list (pv 1) pe_int (fun _ _ => rfl)) pa_nil))) (pa_cons (c__law_parents.pe hr (by omega) (by rfl) (pa_cons (pv 2) pa_nil)) pa_nil))) (pg_tup rfl (pgs_cons (pg_name (i := 3) sc__law_right.nd rfl (Or.inr rfl)) (pgs_cons (pg_name (i := 4) sc__law_right.nd rfl (Or.inr rfl)) pgs_nil))))
      (pss_cons (ps_set (i := 5) sc__law_right.nd rfl (Or.inl rfl) (pe_callB (call_reprD hq hu150) (by rfl) z_repr (by decide +kernel) (pa_cons (pv 3) pa_nil)))
      (pss_cons (ps_if (pt_cmpR op_ne (pe_callB (call_reprD hq hu150) (by rfl) z_repr (by decide +kernel) (pa_cons (pe_lst (pa_cons (c_keys_of.pe hr (by omega) (by rfl) (pa_cons (pv 3) pa_nil)) (pa_cons (k_keys_of.kw hr (by omega) (by rfl) (pk_cons (pv 3) pk_nil)) pa_nil))) pa_nil)) (pe_callB (call_reprD hq hu150) (by rfl) z_repr (by decide +kernel) (pa_cons (pe_op op_rep (pe_lst (pa_cons (pe_callTy call_tuple_of (by rfl) z_tuple (by decide +kernel) (pa_cons (c__law_inside.pe hr (by omega) (by rfl) (pa_cons (pv 2) (pa_cons (pe_ix ix_list (pv 1) pe_int (fun _ _ => rfl)) pa_nil))) pa_nil)) pa_nil)) pe_int) pa_nil)) (nomark _)) (pss_one (ps_ret pe_bl)) pss_nil)
      (pss_cons (ps_if (pt_not (pt_val (pe_callB (cr_all rfl) (by rfl) z_all (by decide +kernel) (pa_cons (pe_lc (own := [("_law_name", 7)]) (g := gName 7) (tt := tYes) (te := tCall (sp__law_element_right K) [] E0 (tCons (tVar 3) (tCons (tVar 2) (tCons (tVar 4) (tCons (tVar 7) tNil))))) rfl sc__law_right.nd (pi_list (pv 1)) (blkOk_by (own := [("_law_name", 7)]) (N := ["_law_hand_here", "_law_names", "_law_lists", "_law_plant", "_law_above", "_law_seen", "_law_turn", "_law_name", "_law_rival", "_law_due"]) (sc := defScope s__law_right) (by decide +kernel)) (fun _ _ _ _ _ => (pg_name (i := 7) sc__law_right.nd rfl (Or.inl rfl))) (fun _ _ _ _ _ => pts_nil) (fun _ _ _ _ _ => (c__law_element_right.pe hr hq (by omega) (by rfl) (pa_cons (pv 3) (pa_cons (pv 2) (pa_cons (pv 4) (pa_cons (pv 7) pa_nil))))))) pa_nil)))) (pss_one (ps_ret pe_bl)) pss_nil)
      (pss_cons (ps_for PassesOwn.never rfl (pi_range1 (by rfl) z_range (pa_cons (pe_callB (call_min2 rfl) (by rfl) z_min (by decide +kernel) (pa_cons pe_int (pa_cons (pe_op op_pow (pe_callB call_len_seq (by rfl) z_len (by decide +kernel) (pa_cons (pv 1) pa_nil)) pe_int) pa_nil))) pa_nil)) (pg_name (i := 6) sc__law_right.nd rfl (Or.inl rfl)) (pss_cons (ps_par (by rfl) sc__law_right.nd (i := 7) (j := 8) rfl rfl (by decide) rfl rfl (pa_cons (c__law_of.pe hr (by omega) (by rfl) (pa_cons (pv 0) (pa_cons (pv 1) pa_nil))) (pa_cons (c__law_of.pe hr (by omega) (by rfl) (pa_cons (pv 0) (pa_cons (pv 1) pa_nil))) pa_nil)) (by rfl))
        (Evl.pss_cut (ps_set (i := 9) sc__law_right.nd rfl (Or.inl rfl) (pe_and (pe_cmpR op_ne (pv 7) (pv 8) (nomark _)) (pe_one (pe_cmpR op_in_seq (pv 7) (c__law_inside.pe hr (by omega) (by rfl) (pa_cons (pv 2) (pa_cons (pv 8) pa_nil))) (by rfl)))))
        (pss_one (ps_if (pt_cmpR op_ne (pe_callB (call_reprD hq hu150) (by rfl) z_repr (by decide +kernel) (pa_cons (pe_lst (pa_cons (c_is_inside.pe hr (by omega) (by rfl) (pa_cons (pv 3) (pa_cons (pv 7) (pa_cons (pv 8) pa_nil)))) (pa_cons (k_is_inside.kw hr (by omega) (by rfl) (pk_cons (pv 8) (pk_cons (pv 7) (pk_cons (pv 3) pk_nil)))) pa_nil))) pa_nil)) (pe_callB (call_reprD hq hu150) (by rfl) z_repr (by decide +kernel) (pa_cons (pe_op op_rep (pe_lst (pa_cons (pv 9) pa_nil)) pe_int) pa_nil)) (nomark _)) (pss_one (ps_ret pe_bl)) pss_nil)))))
      (pss_one (ps_ret (pe_cmpR op_eq (pe_callB (call_reprD hq hu150) (by rfl) z_repr (by decide +kernel) (pa_cons (pv 3) pa_nil)) (pv 5) (nomark _))))))))))), ?_⟩
    have line := sizeLine_eq
    obtain ⟨hx0, eh0⟩ := hd.at_
    -- names
    refine ⟨.ref h, rfl, .ref h, rfl, .ref h, rfl, h, 12, 990, rfl, by decide, by decide, hd.less (by decide), fun r1 H1 hr1 B1 hd1 => ?_⟩
    refine ⟨1, (r1 : Int), rfl, rfl, .ref h, rfl, h, 12, 989, rfl, by decide, by decide, hd1, fun r2 H2 hr2 B2 hd2 => ?_⟩
    refine ⟨1, (r2 : Int), rfl, rfl, (by show 3 ≤ sizeLine; omega), fun l1 nl1 => ?_⟩
    obtain ⟨_, eh2⟩ := hd2.at_
    have l1h : l1 ≠ h := fun z => by rw [z, eh2] at nl1; cases nl1
    refine ⟨h, 988, hd2.same (by rw [upd_ne l1h.symm]), .inl ⟨l1, _, rfl, l1h, sqL upd_same, by show 0 < 3; decide, by show 3 ≤ 1000000; decide, fun i x H3 ex B3 hd3 => ?_⟩⟩
    have B13 : But h H H3 := (B1.trans B2).trans (((But.refl h H2).new nl1).trans B3)
    obtain ⟨n, rfl, n0, n1⟩ : ∃ n : Nat, x = .int (n : Int) ∧ 0 < n ∧ n ≤ 60 := by
      have hi : i < 3 := (List.getElem?_eq_some_iff.mp ex).1
      have : i = 0 ∨ i = 1 ∨ i = 2 := by omega
      rcases this with rfl | rfl | rfl <;> cases ex
      · exact ⟨1 + r1, by show V.int (1 + (r1 : Int)) = _; congr 1, by omega, by omega⟩
      · exact ⟨1 + r2, by show V.int (1 + (r2 : Int)) = _; congr 1, by omega, by omega⟩
      · exact ⟨60, rfl, by decide, by decide⟩
    refine ⟨h, n, 984, rfl, by omega, hd3, fun H4 l ks B4 nl lh hl nm hd4 => ?_⟩
    obtain ⟨ksn, ksl, kso⟩ := Names.ok nm (by omega)
    -- lists
    refine ⟨.ref h, rfl, .ref l, rfl, .ref h, rfl, (by show 3 ≤ sizeLine; omega), fun l2 nl2 => ?_⟩
    obtain ⟨_, eh4⟩ := hd4.at_
    have l2h : l2 ≠ h := fun z => by rw [z, eh4] at nl2; cases nl2
    refine ⟨h, 983, hd4.same (by rw [upd_ne l2h.symm]), .inl ⟨l2, _, rfl, l2h, sqL upd_same, by show 0 < 3; decide, by show 3 ≤ 1000000; decide, fun i x H5 ex B5 hd5 => ?_⟩⟩
    obtain ⟨deep, rfl, d0, d1⟩ : ∃ deep : Nat, x = .int (deep : Int) ∧ 1 < deep ∧ deep ≤ 20 := by
      have hi : i < 3 := (List.getElem?_eq_some_iff.mp ex).1
      have : i = 0 ∨ i = 1 ∨ i = 2 := by omega
      rcases this with rfl | rfl | rfl <;> cases ex
      · exact ⟨3, rfl, by decide, by decide⟩
      · exact ⟨12, rfl, by decide, by decide⟩
      · exact ⟨20, rfl, by decide, by decide⟩
    have B45 : But h H4 H5 := ((But.refl h H4).new nl2).trans B5
    have hl5 : H5 l = some (.lst (ks.map V.str)) := B45 _ _ lh hl
    refine ⟨h, l, ks, deep, 700, rfl, lh, sqL hl5, ksn, by omega, by omega, d0, by omega, hd5.less (by omega), fun H6 p rs t gr hd6 => ?_⟩
    have hl6 : H6 l = some (.lst (ks.map V.str)) := gr.bt _ _ lh hl5
    obtain ⟨_, eh5⟩ := hd5.at_
    have ph : p ≠ h := fun z => by rw [z] at gr; have := gr.np; rw [eh5] at this; cases this
    have rh : ∀ e ∈ rs, e.2.1 ≠ h := fun e he z => by have := gr.fr e he; rw [z, eh5] at this; cases this
    have B06 : But h H H6 := ((B13.trans B4).trans B45).trans gr.bt
    have tperm : t.keys.Perm ks := by
      have := gr.lt.keys
      rw [gr.rk] at this
      exact this.symm
    have tsz : t.size = n := by rw [← T.keys_len, tperm.length_eq, ksl]
    have tko : ∀ k ∈ t.keys, KeyOk k := fun k hk => kso k (tperm.mem_iff.mp hk)
    have tht : T.Ht 20 t := gr.ht.more d1
    have at0 : atI (ks.map V.str) 0 = some (.str t.key) := by
      rw [gr.rt]
      cases hks : ks with
      | nil =>
        rw [hks] at ksl
        simp at ksl
        omega
      | cons a b => exact atI_nat (j := 0) rfl
    -- plant, above
    have i6 : Same (plot l p rs H6) H6 := plot_in l p rs H6
    have g6h : plot l p rs H6 h = none := plot_off (fun z => by
      rcases z with z | z | z
      · exact lh z.symm
      · exact ph z.symm
      · obtain ⟨e, he, e1⟩ := List.mem_map.mp z
        exact rh e he e1)
    have ls6 : Lists (plot l p rs H6) p rs := ⟨by rw [plot_at (.inr (.inl rfl))]; exact gr.ls.1, fun e he => by
      rw [plot_at (.inr (.inr (List.mem_map.mpr ⟨e, he, rfl⟩)))]
      exact gr.ls.2 e he⟩
    have gl6 : plot l p rs H6 l = some (.lst (ks.map V.str)) := by rw [plot_at (.inl rfl)]; exact hl6
    generalize (plot l p rs H6) = G6 at i6 g6h ls6 gl6
    refine ⟨.ref p, rfl, .ref l, rfl, l, _, 0, .str t.key, rfl, rfl, sqL hl6, at0, p, rs, t, t, G6, rfl, i6, ls6, gr.lt, gr.nd, by omega, T.self_pre t, tht, fun H7 G7 v g7 dv => ?_⟩
    have rsE : rowsE rs = T.edgesOf (rs.map fun e => (e.1, e.2.2)) := by
      unfold rowsE T.edgesOf
      rw [List.flatMap_map]
    have rsP : (rowsE rs).Perm t.edges := by
      rw [rsE, T.edges_desc]
      exact T.perm_flatMap _ gr.lt
    have rsN : ((rowsE rs).map (·.1)).Nodup := ((rsP.map (·.1)).nodup_iff).mpr (List.nodup_cons.mp (T.edges_nodup gr.nd)).2
    refine ⟨.ref p, rfl, p, rs, G7, rfl, g7.i, ls6.same g7.g, rsN, ?_, fun H8 ab g8 nab hab => ?_⟩
    · rw [rsP.length_eq]
      have := T.edges_len t
      omega
    refine ⟨(by show 2 ≤ sizeLine; omega), fun tp ntp => ?_⟩
    refine ⟨tp, _, rfl, sqT upd_same, rfl, _, _, rfl, _, _, rfl, rfl, ?_⟩
    obtain ⟨hx6, eh6⟩ := hd6.at_
    have g7h : G7 h = none := g7.off g6h eh6
    have eh7 : H7 h = some (.lst hx6) := g7.same _ _ eh6
    have abh : ab ≠ h := fun z => by rw [z, eh7] at nab; cases nab
    have g9 : Grow [] G7 H7 (upd G7 ab (.dK (edD (rowsE rs)))) (upd H8 tp (.tup [v, .ref ab])) := by
      have a := g8.take nab hab
      exact a.tr (.beside a.i ntp)
    have g9h : (upd G7 ab (.dK (edD (rowsE rs)))) h = none := by rw [upd_ne abh.symm]; exact g7h
    have G7ab : G7 ab = none := g7.i.free nab
    have pl : Plant K (upd G7 ab (.dK (edD (rowsE rs)))) v p ab rs t (rowsE rs) := {
      dv := Dp.same g9.g _ _ dv
      ls := ls6.same (g7.g.trans g9.g)
      lt := gr.lt
      ab := upd_same
      en := rsN
      em := fun e => rsP.mem_iff
      nd := gr.nd
      few := by omega
      ko := tko
      ht := tht }
    have gl9 : (upd G7 ab (.dK (edD (rowsE rs)))) l = some (.lst (ks.map V.str)) := (g7.g.trans g9.g) _ _ gl6
    have hd9 : Hd (upd H8 tp (.tup [v, .ref ab])) h 700 := (g7.tr g9).hand hd6
    have B9 : But h H (upd H8 tp (.tup [v, .ref ab])) := B06.trans (g7.tr g9).toBut
    have i9 := g9.i
    generalize (upd H8 tp (.tup [v, .ref ab])) = H9 at i9 hd9 B9 ⊢
    generalize (upd G7 ab (.dK (edD (rowsE rs)))) = G9 at i9 g9h pl gl9
    clear g9 g8 g7 ls6 gl6 g6h i6 dv
    -- seen
    have disp : isDisp t.d = true := by rw [T.d_eq]; rfl
    have tx := Tx.tree 20 t tko tht
    have okT : showOk t.d := tx.show (by omega) (by decide)
    try dsimp only
    refine s_seq (s_set ?_)
    refine ⟨v, rfl, v, t.d, rfl, Dp.same i9 _ _ pl.dv, disp, okT, ?_⟩
    try dsimp only
    -- keys_of
    refine s_seq (s_if ?_)
    have ev_keys : EvM K (tLst (tCons (tCall (sp_keys_of K) [] E0 (tCons (tVar 3) tNil)) (tCons (tCallK (sp_keys_of K) gOne E0 tNil (tCons (tVar 3) tNil)) tNil)))
        [some (.ref h), some (.ref l), some (.ref p), some v, some (.ref ab), some (.str t.d.shown), none, none, none, none] G9 H9 (.list [.tuple (t.keys.map .str), .tuple (t.keys.map .str)]) :=
      em_lst (ea_cons (em_call (ea_cons (em_var rfl pl.dv) ea_nil) (spM_keys_of pl.few)) (ea_cons (em_kw1 (ea_cons (em_var rfl pl.dv) ea_nil) (spM_keys_of pl.few)) ea_nil)) (by show 2 ≤ 100000; decide)
    have txk := (Txs.keys t.keys tko).tup
    have okK : showOk (.list [.tuple (t.keys.map .str), .tuple (t.keys.map .str)]) := by
      refine (txk.cons (txk.cons (Txs.nil.more (Nat.le_refl _) (Nat.zero_le _)))).lst.show ?_ (by decide)
      rw [T.keys_len]
      omega
    refine s_test (s_op (s_cb ?_))
    refine ev_keys.now i9 (fun H10 G10 u10 g10 d10 => ?_)
    have pl10 := pl.same g10.g
    refine ⟨u10, _, rfl, Dp.same g10.i _ _ d10, rfl, okK, ?_⟩
    have hl10 : H10 l = some (.lst (ks.map V.str)) := g10.into _ _ gl9
    refine ⟨.ref p, rfl, .ref l, rfl, l, _, 0, .str t.key, rfl, rfl, sqL hl10, at0, p, rs, t, t, G10, rfl, g10.i, pl10.ls, gr.lt, gr.nd, pl.few, T.self_pre t, tht, fun H11 G11 lz g11 nlz glz hlz => ?_⟩
    refine ⟨lz, _, rfl, .inl ⟨sqL hlz, fun tz ntz => ?_⟩⟩
    refine ⟨(by show 1 ≤ sizeLine; omega), fun lq nlq => ?_⟩
    refine ⟨lq, 2, [.ref tz], rfl, rfl, upd_same, by decide, by decide, (by show 2 ≤ sizeLine; omega), fun lr nlr => ?_⟩
    have tzq : tz ≠ lq := ne_of_none upd_same nlq
    have tzr : tz ≠ lr := by
      refine ne_of_none (o := .tup (t.keys.map V.str)) ?_ nlr
      rw [upd_ne tzq, upd_same]
    have dlr : Dp K (upd (upd (upd H11 tz (.tup (t.keys.map V.str))) lq (.lst [.ref tz])) lr (.lst (List.replicate (2 : Int).toNat [V.ref tz]).flatten)) (.ref lr) (.list [.tuple (t.keys.map .str), .tuple (t.keys.map .str)]) := by
      have one : Dp K (upd (upd (upd H11 tz (.tup (t.keys.map V.str))) lq (.lst [.ref tz])) lr (.lst (List.replicate (2 : Int).toNat [V.ref tz]).flatten)) (.ref tz) (.tuple (t.keys.map .str)) :=
        .tup (sqT (by rw [upd_ne tzr, upd_ne tzq, upd_same])) (DpAll.strs _)
      exact .lst (sqL upd_same) (.cons one (.cons one .nil))
    refine ⟨.ref lr, _, rfl, dlr, rfl, okK, rfl, _, rfl, ?_⟩
    rw [decide_eq_true rfl]
    refine iteF ?_
    have g14 : Grow [] G10 H10 G11 (upd (upd (upd H11 tz (.tup (t.keys.map V.str))) lq (.lst [.ref tz])) lr (.lst (List.replicate (2 : Int).toNat [V.ref tz]).flatten)) := by
      have a : Grow [] G11 H11 G11 (upd H11 tz (.tup (t.keys.map V.str))) := .beside g11.i ntz
      have b : Grow [] G11 (upd H11 tz (.tup (t.keys.map V.str))) G11 (upd (upd H11 tz (.tup (t.keys.map V.str))) lq (.lst [.ref tz])) := .beside a.i nlq
      exact ((g11.tr a).tr b).tr (.beside b.i nlr)
    have gA := g10.tr g14
    generalize (upd (upd (upd H11 tz (.tup (t.keys.map V.str))) lq (.lst [.ref tz])) lr (.lst (List.replicate (2 : Int).toNat [V.ref tz]).flatten)) = H14 at gA ⊢
    have plA := pl.same gA.g
    have glA := gA.g _ _ gl9
    obtain ⟨hx9, eh9⟩ := hd9.at_
    have gAh : G11 h = none := gA.off g9h eh9
    have hdA : Hd H14 h 700 := gA.hand hd9
    have BA : But h H H14 := B9.trans gA.toBut
    have iA := gA.i
    clear g14 gA g11 glz hlz dlr tzr tzq nlr nlq ntz
    refine s_next ?_
    try dsimp only
    -- all of the elements
    refine s_seq (s_if (s_not (s_b (s_cb ?_))))
    have found : ∀ k ∈ ks, ∃ n ∈ t.pre, n.key = k := fun k hk => by
      obtain ⟨n, hn, e⟩ := List.mem_map.mp (tperm.mem_iff.mpr hk)
      exact ⟨n, hn, e⟩
    have ev_all : EvM K (tLc (iList K (tVar 1)) (gName 7) tYes (tCall (sp__law_element_right K) [] E0 (tCons (tVar 3) (tCons (tVar 2) (tCons (tVar 4) (tCons (tVar 7) tNil))))) [7])
        [some (.ref h), some (.ref l), some (.ref p), some v, some (.ref ab), some (.str t.d.shown), none, none, none, none] G11 H14 (.list ((ks.map fun _ => true).map .bool)) := by
      refine em_lcL (ds := ks.map .str) (em_var rfl (.lst (sqL glA) (DpAll.strs ks))) (by rw [List.length_map]; omega) (fun _ => rfl) (by rw [List.length_map, List.length_map, List.length_map]) ?_
      intro i x b d G1 H1 eb ed g hx
      rw [List.getElem?_map] at eb
      rw [List.map_map, List.getElem?_map] at ed
      cases hk : ks[i]? with
      | none =>
        rw [hk] at eb
        cases eb
      | some kk =>
        rw [hk] at eb ed
        cases eb
        cases ed
        cases hx
        obtain ⟨n, hn, rfl⟩ := found kk (List.mem_of_getElem? hk)
        intro G2 H2 g2 Q2 q2
        exact ⟨v, rfl, .ref p, rfl, .ref ab, rfl, .str n.key, rfl, v, p, ab, rs, t, n, rowsE rs, G2, rfl, g2.i, plA.same (g.g.trans g2.g), hn, q2⟩
    refine ev_all.now iA (fun H15 G15 u15 g15 d15 => ?_)
    obtain ⟨a15, xs15, rfl, ha15, hx15⟩ := d15.lst_at
    have ex15 := DpAll.bools _ hx15
    subst ex15
    refine ⟨a15, _, rfl, g15.i.seq ha15, true, ?_, ?_⟩
    · congr 1
      rw [List.all_map, List.all_eq_true]
      intro _ _
      rfl
    refine iteF ?_
    have plB := plA.same g15.g
    have glB := g15.g _ _ glA
    obtain ⟨hx14, eh14⟩ := hdA.at_
    have gBh : G15 h = none := g15.off gAh eh14
    have hdB : Hd H15 h 700 := g15.hand hdA
    have BB : But h H H15 := BA.trans g15.toBut
    have iB := g15.i
    clear g15 ha15 hx15 d15 ev_all ev_keys
    refine s_next ?_
    try dsimp only
    -- is_inside
    refine s_seq ?_
    have hlB : H15 l = some (.lst (ks.map V.str)) := iB _ _ glB
    have lenm : (ks.map V.str).length = n := by rw [List.length_map, ksl]
    refine ⟨.ref l, rfl, l, _, rfl, .inl (sqL hlB), _, 2, rfl, rfl, ⟨by decide, by decide, ?_⟩, 150, _, rfl, _, rfl, ?_, ?_, ?_⟩
    · rw [lenm]
      omega
    · by_cases hc : (((ks.map V.str).length : Nat) : Int) ^ (2 : Int).toNat < 150
      · rw [if_pos hc]
        have : (0 : Int) ≤ (((ks.map V.str).length : Nat) : Int) ^ (2 : Int).toNat := Int.pow_nonneg (by omega)
        omega
      · rw [if_neg hc]
        omega
    · by_cases hc : (((ks.map V.str).length : Nat) : Int) ^ (2 : Int).toNat < 150
      · rw [if_pos hc]
        omega
      · rw [if_neg hc]
        omega
    have mle : (if (((ks.map V.str).length : Nat) : Int) ^ (2 : Int).toNat < 150 then (((ks.map V.str).length : Nat) : Int) ^ (2 : Int).toNat else 150).toNat ≤ 150 := by
      by_cases hc : (((ks.map V.str).length : Nat) : Int) ^ (2 : Int).toNat < 150
      · rw [if_pos hc]
        omega
      · rw [if_neg hc]
        omega
    refine for_range (lo := 0) (n := (if (((ks.map V.str).length : Nat) : Int) ^ (2 : Int).toNat < 150 then (((ks.map V.str).length : Nat) : Int) ^ (2 : Int).toNat else 150).toNat) (fun i σ' H' => (∃ y6 y7 y8 y9, σ' = [some (.ref h), some (.ref l), some (.ref p), some v, some (.ref ab), some (.str t.d.shown), y6, y7, y8, y9]) ∧
      But h H H' ∧ Same G15 H' ∧ Hd H' h (700 - 2 * i)) ⟨⟨none, none, none, none, rfl⟩, BB, iB, hdB⟩ ?_ ?_
    · rintro i σ' H' hi ⟨⟨y6, y7, y8, y9, rfl⟩, Bt, it, hdt⟩
      have hi' : i < 150 := by omega
      have hlt : H' l = some (.lst (ks.map V.str)) := it _ _ glB
      -- name, rival
      refine ⟨.ref h, rfl, .ref l, rfl, h, 700 - 2 * i - 1, hdt.less (by omega), .inl ⟨l, _, rfl, lh, sqL hlt, by omega, by omega, fun j1 x1 J1 ex1 C1 hd1 => ?_⟩⟩
      have hlt1 : J1 l = some (.lst (ks.map V.str)) := C1 _ _ lh hlt
      refine ⟨.ref h, rfl, .ref l, rfl, h, 700 - 2 * (i + 1), hd1.less (by omega), .inl ⟨l, _, rfl, lh, sqL hlt1, by omega, by omega, fun j2 x2 J2 ex2 C2 hd2 => ?_⟩⟩
      obtain ⟨k1, hk1, rfl⟩ := mem_map_str (List.mem_of_getElem? ex1)
      obtain ⟨k2, hk2, rfl⟩ := mem_map_str (List.mem_of_getElem? ex2)
      obtain ⟨u, hu1, rfl⟩ := found k1 hk1
      obtain ⟨m, hm1, rfl⟩ := found k2 hk2
      obtain ⟨ps, way⟩ := T.way_of t u hu1
      have C12 : But h H' J2 := C1.trans C2
      have i2 : Same G15 J2 := C12.into it gBh
      refine ⟨_, _, rfl, ?_⟩
      -- due
      refine ⟨fun σ2 H2 => (∃ G2, Grow [] G15 J2 G2 H2) ∧ σ2 = [some (.ref h), some (.ref l), some (.ref p), some v, some (.ref ab), some (.str t.d.shown), some (.int ((0 : Int) + (i : Int))), some (.str u.key), some (.str m.key), some (.bl (decide (m.key ∈ ps.dropLast)))], ?_, ?_⟩
      · have win := way.inside gr.nd hu1 hm1
        refine ⟨.str u.key, rfl, .str m.key, rfl, rfl, _, rfl, ?_⟩
        by_cases he : u.key = m.key
        · rw [he, decide_eq_true rfl]
          refine iteF ?_
          refine ⟨⟨G15, .refl i2⟩, ?_⟩
          rw [win, decide_eq_true he]
          rfl
        · rw [decide_eq_false (fun z => he (by injection z))]
          refine iteT ?_
          refine ⟨.str u.key, rfl, .ref p, rfl, .str m.key, rfl, p, rs, t, m, G15, rfl, i2, plB.ls, gr.lt, gr.nd, pl.few, hm1, tht.sub hm1, fun H3 G3 lz g3 nlz glz hlz => ?_⟩
          refine ⟨lz, _, rfl, .inl (sqL hlz), rfl, flat_strs _, ⟨G3, g3⟩, ?_⟩
          show _ = [some (.ref h), some (.ref l), some (.ref p), some v, some (.ref ab), some (.str t.d.shown), some (.int ((0 : Int) + (i : Int))), some (.str u.key), some (.str m.key), some (.bl (decide (m.key ∈ ps.dropLast)))]
          rw [win, decide_eq_false he, ← inV_strs]
          rfl
      · rintro σ2 H2 ⟨⟨G2, g2⟩, rfl⟩
        have pl2 := plB.same g2.g
        have ev_in : EvM K (tLst (tCons (tCall (sp_is_inside K) [] E0 (tCons (tVar 3) (tCons (tVar 7) (tCons (tVar 8) tNil)))) (tCons (tCallK (sp_is_inside K) gBack E0 tNil (tCons (tVar 8) (tCons (tVar 7) (tCons (tVar 3) tNil)))) tNil)))
            [some (.ref h), some (.ref l), some (.ref p), some v, some (.ref ab), some (.str t.d.shown), some (.int ((0 : Int) + (i : Int))), some (.str u.key), some (.str m.key), some (.bl (decide (m.key ∈ ps.dropLast)))] G2 H2
            (.list [.bool (decide (m.key ∈ ps.dropLast)), .bool (decide (m.key ∈ ps.dropLast))]) :=
          em_lst (ea_cons (em_call (ea_cons (em_var rfl pl2.dv) (ea_cons (em_var rfl (.str _)) (ea_cons (em_var rfl (.str _)) ea_nil))) (spM_is_inside pl.few gr.nd way hm1))
            (ea_cons (em_kw3 (ea_cons (em_var rfl (.str _)) (ea_cons (em_var rfl (.str _)) (ea_cons (em_var rfl pl2.dv) ea_nil))) (spM_is_inside pl.few gr.nd way hm1)) ea_nil)) (by show 2 ≤ 100000; decide)
        generalize decide (m.key ∈ ps.dropLast) = due at ev_in ⊢
        have okB : showOk (.list [.bool due, .bool due]) := ((Tx.bl due).cons ((Tx.bl due).cons Txs.nil)).lst.show (by decide) (by decide)
        refine s_if (s_test (s_op (s_cb ?_)))
        refine ev_in.now g2.i (fun H3 G3 u3 g3 d3 => ?_)
        refine ⟨u3, _, rfl, Dp.same g3.i _ _ d3, rfl, okB, ?_⟩
        refine ⟨.bl due, rfl, (by show 1 ≤ sizeLine; omega), fun lq nlq => ?_⟩
        refine ⟨lq, 2, [.bl due], rfl, rfl, upd_same, by decide, by decide, (by show 2 ≤ sizeLine; omega), fun lr nlr => ?_⟩
        refine ⟨.ref lr, _, rfl, .lst (sqL upd_same) (.cons (.bl due) (.cons (.bl due) .nil)), rfl, okB, rfl, _, rfl, ?_⟩
        rw [decide_eq_true rfl]
        refine iteF (s_next ?_)
        have ga : Grow [] G3 H3 G3 (upd H3 lq (.lst [.bl due])) := .beside g3.i nlq
        have gb := ((g2.tr g3).tr ga).tr (Grow.beside (p := lr) (o := .lst (List.replicate (2 : Int).toNat [V.bl due]).flatten) ga.i nlr)
        exact ⟨⟨_, _, _, _, rfl⟩, (Bt.trans C12).trans gb.toBut, gb.into, gb.hand hd2⟩
    · rintro σ' H' ⟨⟨y6, y7, y8, y9, rfl⟩, Bt, it, hdt⟩
      refine ⟨v, rfl, v, t.d, rfl, Dp.same it _ _ plB.dv, disp, okT, .str t.d.shown, rfl, rfl, ?_⟩
      rw [decide_eq_true rfl]
      exact q H' Bt
end
end K2
namespace Kg
open PySem PySem.Spec PyProof.Rows L2
theorem seq_but {K : PySem.W.Frag} {H H' : Hp} {p a : Addr} {o : HO} {xs : List V} (b : But p (upd H p o) H') (n : H p = none) (s : SqL K H a xs) : SqL K H' a xs := by
  rcases s with (s | ⟨o', s⟩) | s
  · have ne := ne_of_none s n
    exact .inl (.inl (b _ _ ne (by rw [upd_ne ne]; exact s)))
  · have ne := ne_of_none s n
    exact .inl (.inr ⟨o', b _ _ ne (by rw [upd_ne ne]; exact s)⟩)
  · exact .inr s
theorem s_yes {te : TE} {σ : L2.St} {H : Hp} {Q1 : VK} {R : Hp → Prop} (h : te σ H Q1) : tYes σ H fun b H3 => if b = true then te σ H3 Q1 else R H3 := by
  show (if true = true then te σ H Q1 else R H)
  exact iteT h
def gOneU : List Value → List Value → List Value
  | [], [a] => [a]
  | _, _ => []
def gBackU : List Value → List Value → List Value
  | [], [a, b, c] => [c, b, a]
  | _, _ => []
section
variable {K : PySem.W.Frag} {x : Str} {st : Stmt} {f : Addr} {fd : FuncData}
theorem kb1 {a1 : Str} (F : Fun K x x st f fd) (h : ∀ (kV doc pm : Value) (an : Option Addr) (cdv ct a : Value), bindArgs (PySem.W.fnOf x x (defArgs st) (defBody st) (defScope st) .none kV doc pm an cdv ct) ⟨[], [(a1, a)]⟩ = pure [(a1, a)]) :
    KBinds K fd [a1] [a1] gOneU gOne := by
  obtain ⟨oc, od, kV, doc, pm, an, cdv, ct, osl, rfl, lk, hcd⟩ := F.ex
  refine ⟨fun s us ws _ hl => ?_, fun {vs us zs ws} r rz => ?_⟩
  · match us, ws, hl with
    | [], [a], _ => exact .of_eq (h kV doc pm an cdv ct a)
  · cases r with
    | nil =>
      cases rz with
      | nil => exact .nil
      | cons p q =>
        cases q with
        | nil => exact .cons p .nil
        | cons _ _ => exact .nil
    | cons _ _ => exact .nil
theorem kb2 {a1 a2 : Str} (F : Fun K x x st f fd) (h : ∀ (kV doc pm : Value) (an : Option Addr) (cdv ct a b : Value), bindArgs (PySem.W.fnOf x x (defArgs st) (defBody st) (defScope st) .none kV doc pm an cdv ct) ⟨[], [(a2, a), (a1, b)]⟩ = pure [(a1, b), (a2, a)]) :
    KBinds K fd [a1, a2] [a2, a1] gSwapU gSwap := by
  obtain ⟨oc, od, kV, doc, pm, an, cdv, ct, osl, rfl, lk, hcd⟩ := F.ex
  refine ⟨fun s us ws _ hl => ?_, fun {vs us zs ws} r rz => ?_⟩
  · match us, ws, hl with
    | [], [a, b], _ => exact .of_eq (h kV doc pm an cdv ct a b)
  · cases r with
    | nil =>
      cases rz with
      | nil => exact .nil
      | cons p q =>
        cases q with
        | nil => exact .nil
        | cons p2 q2 =>
          cases q2 with
          | nil => exact .cons p2 (.cons p .nil)
          | cons _ _ => exact .nil
    | cons _ _ => exact .nil
theorem kb3 {a1 a2 a3 : Str} (F : Fun K x x st f fd) (h : ∀ (kV doc pm : Value) (an : Option Addr) (cdv ct a b c : Value), bindArgs (PySem.W.fnOf x x (defArgs st) (defBody st) (defScope st) .none kV doc pm an cdv ct) ⟨[], [(a3, a), (a2, b), (a1, c)]⟩ = pure [(a1, c), (a2, b), (a3, a)]) :
    KBinds K fd [a1, a2, a3] [a3, a2, a1] gBackU gBack := by
  obtain ⟨oc, od, kV, doc, pm, an, cdv, ct, osl, rfl, lk, hcd⟩ := F.ex
  refine ⟨fun s us ws _ hl => ?_, fun {vs us zs ws} r rz => ?_⟩
  · match us, ws, hl with
    | [], [a, b, c], _ => exact .of_eq (h kV doc pm an cdv ct a b c)
  · cases r with
    | nil =>
      cases rz with
      | nil => exact .nil
      | cons p q =>
        cases q with
        | nil => exact .nil
        | cons p2 q2 =>
          cases q2 with
          | nil => exact .nil
          | cons p3 q3 =>
            cases q3 with
            | nil => exact .cons p3 (.cons p2 (.cons p .nil))
            | cons _ _ => exact .nil
    | cons _ _ => exact .nil
end
end Kg
namespace K2
open PySem PySem.Spec PyProof.Rows L2 Kg
section
variable {P : Program} {w : World} {K : PySem.W.Frag} {mg : Str → Option Value} {base : Heap}
/-! ### law -/
abbrev s_law : Stmt := topS 23
theorem sc_law : FnScope ["_law_script", "_law_k"] ["_law_script"] (defScope s_law) := fscope (by decide +kernel)
def sp_law (K : PySem.W.Frag) : Sp := fun vs H Q _ => ∃ (a : Addr) (ns : List Int), vs = [.ref a] ∧ SqL K H a (ns.map V.int) ∧ ns.length ≤ 63 ∧ ∀ H', Q (.bl true) H'
theorem ok_law {f : Addr} {fd : FuncData} (F : Fun K "law" "law" s_law f fd) (c__law_hand : Cal P w K mg base CX0 1 "_law_hand" ["_law_script", "_law_k"] (sp__law_hand K))
    (c__law_right : CalG P w K mg base 23 "_law_right" ["_law_hand_here"] sp__law_right) (z_all : mg "all" = none) (z_range : mg "range" = none) (z_max : mg "max" = none) (z_min : mg "min" = none) (z_len : mg "len" = none) :
    Fg P w K mg base 24 f fd ["_law_script"] (sp_law K) := by
  refine fg_ok (k := 23) F sc_law (fun vs H Q E h => ?_) (fun cdv A outer s H vs Q E hr hq h => ?_)
  · obtain ⟨a, ns, rfl, _⟩ := h
    rfl
  · obtain ⟨a, ns, rfl, hs, few, q⟩ := h
    refine ⟨_, (pss_one (ps_ret (pe_callB (cr_all rfl) (by rfl) z_all (by decide +kernel) (pa_cons (pe_lc (own := [("_law_k", 1)]) (g := gName 1) (tt := tYes) (te := tCall sp__law_right [] E0 (tCons (tCall (sp__law_hand K) [] E0 (tCons (tVar 0) (tCons (tVar 1) tNil))) tNil)) rfl sc_law.nd (pi_range1 (by rfl) z_range (pa_cons (pe_callB (call_max2 rfl) (by rfl) z_max (by decide +kernel) (pa_cons pe_int (pa_cons (pe_callB (call_min2 rfl) (by rfl) z_min (by decide +kernel) (pa_cons pe_int (pa_cons (pe_callB call_len_seq (by rfl) z_len (by decide +kernel) (pa_cons (pv 0) pa_nil)) pa_nil))) pa_nil))) pa_nil)) (blkOk_by (own := [("_law_k", 1)]) (N := ["_law_script", "_law_k"]) (sc := defScope s_law) (by decide +kernel)) (fun _ _ _ _ _ => (pg_name (i := 1) sc_law.nd rfl (Or.inl rfl))) (fun _ _ _ _ _ => pts_nil) (fun _ _ _ _ _ => (c__law_right.pe hr hq (by omega) (by rfl) (pa_cons (c__law_hand.pe hr (by omega) (by rfl) (pa_cons (pv 0) (pa_cons (pv 1) pa_nil))) pa_nil)))) pa_nil)))), ?_⟩
    have line := sizeLine_eq
    refine ⟨.ref a, rfl, a, _, rfl, .inl hs, 3, _, rfl, 1, _, rfl, ?_⟩
    obtain ⟨m, em, m3⟩ : ∃ m : Nat, (if (if (((ns.map V.int).length : Nat) : Int) < 3 then (((ns.map V.int).length : Nat) : Int) else 3) > 1 then (if (((ns.map V.int).length : Nat) : Int) < 3 then (((ns.map V.int).length : Nat) : Int) else 3) else 1) = (m : Int) ∧ m ≤ 3 := by
      rw [List.length_map]
      by_cases h1 : (ns.length : Int) < 3
      · rw [if_pos h1]
        by_cases h2 : (ns.length : Int) > 1
        · rw [if_pos h2]
          exact ⟨ns.length, rfl, by omega⟩
        · rw [if_neg h2]
          exact ⟨1, rfl, by decide⟩
      · rw [if_neg h1]
        exact ⟨3, rfl, by decide⟩
    refine ⟨(m : Int), by rw [em], by omega, by omega, fun D nD => ?_⟩
    refine lc_range (lo := 0) (n := (m : Int).toNat) (vs := [1]) (g := gName 1) (tt := tYes) (te := tCall sp__law_right [] E0 (tCons (tCall (sp__law_hand K) [] E0 (tCons (tVar 0) (tCons (tVar 1) tNil))) tNil)) (σ := [some (.ref a), none])
      (fun i H' => Same H H' ∧ H' D = some (.lst ((List.replicate i true).map V.bl))) ⟨Same.new nD, upd_same⟩ ?_ ?_
    · rintro i H' hi ⟨h1, h2⟩
      refine ⟨rfl, s_yes ?_⟩
      refine ⟨.ref a, rfl, .int ((0 : Int) + (i : Int)), rfl, a, ns, 0 + i, rfl, h1.seq hs, by omega, fun p o np hdp => ?_⟩
      have Dp' : D ≠ p := ne_of_none h2 np
      refine ⟨p, rfl, hdp.less (by decide), fun H3 b3 => ?_⟩
      have hD3 : H3 D = some (.lst ((List.replicate i true).map V.bl)) := b3 _ _ Dp' (by rw [upd_ne Dp']; exact h2)
      refine ⟨_, hD3, ?_, fun b' o' e => ?_, ?_⟩
      · rw [List.length_map, List.length_replicate]
        omega
      · rw [upd_ne (ne_of_none e nD)]
        have ne := ne_of_none (h1 _ _ e) np
        exact b3 _ _ ne (by rw [upd_ne ne]; exact h1 _ _ e)
      · rw [upd_same, List.replicate_succ', List.map_append]
        rfl
    · rintro H' ⟨_, h2⟩
      refine ⟨D, List.replicate (m : Int).toNat true, rfl, sqL h2, ?_⟩
      have : (List.replicate (m : Int).toNat true).all id = true := by
        rw [List.all_eq_true]
        intro x hx
        rw [(List.mem_replicate.mp hx).2]
        rfl
      rw [this]
      exact q H'
end
end K2
namespace K2
open PySem PySem.Spec PyProof.Rows L2 Kg
/-! ### what the top has left -/
theorem all_mk {P : Program} {w : World} {K : PySem.W.Frag} {h : Heap} {mg : Str → Option Value} {fa : Addr}
    (X : K.In h) (G : h.Ns mainGlobals mg) (hfa : mg "law" = some (.ref fa))
    {f_walk : Addr} {od_walk an_walk : Option Addr} {sl_walk : Array (Option Value)} {oc_walk kV_walk dc_walk pm_walk cd_walk ct_walk : Value}
    (a_walk : PySem.W.nsIn K mainGlobals "walk" = some (some (.ref f_walk)))
    (l_walk : K.lookup f_walk = some ⟨oc_walk, od_walk, .func (PySem.W.fnOf "walk" "walk" (defArgs s_walk) (defBody s_walk)
      (defScope s_walk) .none kV_walk dc_walk pm_walk an_walk cd_walk ct_walk), sl_walk⟩)
    (c_walk : PySem.W.codeIn K cd_walk "walk" = true) (k_walk : PySem.W.keepIn K (.ref f_walk) = true)
    {f_keys_of : Addr} {od_keys_of an_keys_of : Option Addr} {sl_keys_of : Array (Option Value)} {oc_keys_of kV_keys_of dc_keys_of pm_keys_of cd_keys_of ct_keys_of : Value}
    (a_keys_of : PySem.W.nsIn K mainGlobals "keys_of" = some (some (.ref f_keys_of)))
    (l_keys_of : K.lookup f_keys_of = some ⟨oc_keys_of, od_keys_of, .func (PySem.W.fnOf "keys_of" "keys_of" (defArgs s_keys_of) (defBody s_keys_of)
      (defScope s_keys_of) .none kV_keys_of dc_keys_of pm_keys_of an_keys_of cd_keys_of ct_keys_of), sl_keys_of⟩)
    (c_keys_of : PySem.W.codeIn K cd_keys_of "keys_of" = true) (k_keys_of : PySem.W.keepIn K (.ref f_keys_of) = true)
    {f_subtree : Addr} {od_subtree an_subtree : Option Addr} {sl_subtree : Array (Option Value)} {oc_subtree kV_subtree dc_subtree pm_subtree cd_subtree ct_subtree : Value}
    (a_subtree : PySem.W.nsIn K mainGlobals "subtree" = some (some (.ref f_subtree)))
    (l_subtree : K.lookup f_subtree = some ⟨oc_subtree, od_subtree, .func (PySem.W.fnOf "subtree" "subtree" (defArgs s_subtree) (defBody s_subtree)
      (defScope s_subtree) .none kV_subtree dc_subtree pm_subtree an_subtree cd_subtree ct_subtree), sl_subtree⟩)
    (c_subtree : PySem.W.codeIn K cd_subtree "subtree" = true) (k_subtree : PySem.W.keepIn K (.ref f_subtree) = true)
    {f_children_of : Addr} {od_children_of an_children_of : Option Addr} {sl_children_of : Array (Option Value)} {oc_children_of kV_children_of dc_children_of pm_children_of cd_children_of ct_children_of : Value}
    (a_children_of : PySem.W.nsIn K mainGlobals "children_of" = some (some (.ref f_children_of)))
    (l_children_of : K.lookup f_children_of = some ⟨oc_children_of, od_children_of, .func (PySem.W.fnOf "children_of" "children_of" (defArgs s_children_of) (defBody s_children_of)
      (defScope s_children_of) .none kV_children_of dc_children_of pm_children_of an_children_of cd_children_of ct_children_of), sl_children_of⟩)
    (c_children_of : PySem.W.codeIn K cd_children_of "children_of" = true) (k_children_of : PySem.W.keepIn K (.ref f_children_of) = true)
    {f_parents_of : Addr} {od_parents_of an_parents_of : Option Addr} {sl_parents_of : Array (Option Value)} {oc_parents_of kV_parents_of dc_parents_of pm_parents_of cd_parents_of ct_parents_of : Value}
    (a_parents_of : PySem.W.nsIn K mainGlobals "parents_of" = some (some (.ref f_parents_of)))
    (l_parents_of : K.lookup f_parents_of = some ⟨oc_parents_of, od_parents_of, .func (PySem.W.fnOf "parents_of" "parents_of" (defArgs s_parents_of) (defBody s_parents_of)
      (defScope s_parents_of) .none kV_parents_of dc_parents_of pm_parents_of an_parents_of cd_parents_of ct_parents_of), sl_parents_of⟩)
    (c_parents_of : PySem.W.codeIn K cd_parents_of "parents_of" = true) (k_parents_of : PySem.W.keepIn K (.ref f_parents_of) = true)
    {f_path_of : Addr} {od_path_of an_path_of : Option Addr} {sl_path_of : Array (Option Value)} {oc_path_of kV_path_of dc_path_of pm_path_of cd_path_of ct_path_of : Value}
    (a_path_of : PySem.W.nsIn K mainGlobals "path_of" = some (some (.ref f_path_of)))
    (l_path_of : K.lookup f_path_of = some ⟨oc_path_of, od_path_of, .func (PySem.W.fnOf "path_of" "path_of" (defArgs s_path_of) (defBody s_path_of)
      (defScope s_path_of) .none kV_path_of dc_path_of pm_path_of an_path_of cd_path_of ct_path_of), sl_path_of⟩)
    (c_path_of : PySem.W.codeIn K cd_path_of "path_of" = true) (k_path_of : PySem.W.keepIn K (.ref f_path_of) = true)
    {f_parent_of : Addr} {od_parent_of an_parent_of : Option Addr} {sl_parent_of : Array (Option Value)} {oc_parent_of kV_parent_of dc_parent_of pm_parent_of cd_parent_of ct_parent_of : Value}
    (a_parent_of : PySem.W.nsIn K mainGlobals "parent_of" = some (some (.ref f_parent_of)))
    (l_parent_of : K.lookup f_parent_of = some ⟨oc_parent_of, od_parent_of, .func (PySem.W.fnOf "parent_of" "parent_of" (defArgs s_parent_of) (defBody s_parent_of)
      (defScope s_parent_of) .none kV_parent_of dc_parent_of pm_parent_of an_parent_of cd_parent_of ct_parent_of), sl_parent_of⟩)
    (c_parent_of : PySem.W.codeIn K cd_parent_of "parent_of" = true) (k_parent_of : PySem.W.keepIn K (.ref f_parent_of) = true)
    {f_is_inside : Addr} {od_is_inside an_is_inside : Option Addr} {sl_is_inside : Array (Option Value)} {oc_is_inside kV_is_inside dc_is_inside pm_is_inside cd_is_inside ct_is_inside : Value}
    (a_is_inside : PySem.W.nsIn K mainGlobals "is_inside" = some (some (.ref f_is_inside)))
    (l_is_inside : K.lookup f_is_inside = some ⟨oc_is_inside, od_is_inside, .func (PySem.W.fnOf "is_inside" "is_inside" (defArgs s_is_inside) (defBody s_is_inside)
      (defScope s_is_inside) .none kV_is_inside dc_is_inside pm_is_inside an_is_inside cd_is_inside ct_is_inside), sl_is_inside⟩)
    (c_is_inside : PySem.W.codeIn K cd_is_inside "is_inside" = true) (k_is_inside : PySem.W.keepIn K (.ref f_is_inside) = true)
    {f__law_hand : Addr} {od__law_hand an__law_hand : Option Addr} {sl__law_hand : Array (Option Value)} {oc__law_hand kV__law_hand dc__law_hand pm__law_hand cd__law_hand ct__law_hand : Value}
    (a__law_hand : PySem.W.nsIn K mainGlobals "_law_hand" = some (some (.ref f__law_hand)))
    (l__law_hand : K.lookup f__law_hand = some ⟨oc__law_hand, od__law_hand, .func (PySem.W.fnOf "_law_hand" "_law_hand" (defArgs s__law_hand) (defBody s__law_hand)
      (defScope s__law_hand) .none kV__law_hand dc__law_hand pm__law_hand an__law_hand cd__law_hand ct__law_hand), sl__law_hand⟩)
    (c__law_hand : PySem.W.codeIn K cd__law_hand "_law_hand" = true) (k__law_hand : PySem.W.keepIn K (.ref f__law_hand) = true)
    {f__law_take : Addr} {od__law_take an__law_take : Option Addr} {sl__law_take : Array (Option Value)} {oc__law_take kV__law_take dc__law_take pm__law_take cd__law_take ct__law_take : Value}
    (a__law_take : PySem.W.nsIn K mainGlobals "_law_take" = some (some (.ref f__law_take)))
    (l__law_take : K.lookup f__law_take = some ⟨oc__law_take, od__law_take, .func (PySem.W.fnOf "_law_take" "_law_take" (defArgs s__law_take) (defBody s__law_take)
      (defScope s__law_take) .none kV__law_take dc__law_take pm__law_take an__law_take cd__law_take ct__law_take), sl__law_take⟩)
    (c__law_take : PySem.W.codeIn K cd__law_take "_law_take" = true) (k__law_take : PySem.W.keepIn K (.ref f__law_take) = true)
    {f__law_of : Addr} {od__law_of an__law_of : Option Addr} {sl__law_of : Array (Option Value)} {oc__law_of kV__law_of dc__law_of pm__law_of cd__law_of ct__law_of : Value}
    (a__law_of : PySem.W.nsIn K mainGlobals "_law_of" = some (some (.ref f__law_of)))
    (l__law_of : K.lookup f__law_of = some ⟨oc__law_of, od__law_of, .func (PySem.W.fnOf "_law_of" "_law_of" (defArgs s__law_of) (defBody s__law_of)
      (defScope s__law_of) .none kV__law_of dc__law_of pm__law_of an__law_of cd__law_of ct__law_of), sl__law_of⟩)
    (c__law_of : PySem.W.codeIn K cd__law_of "_law_of" = true) (k__law_of : PySem.W.keepIn K (.ref f__law_of) = true)
    {f__law_keys : Addr} {od__law_keys an__law_keys : Option Addr} {sl__law_keys : Array (Option Value)} {oc__law_keys kV__law_keys dc__law_keys pm__law_keys cd__law_keys ct__law_keys : Value}
    (a__law_keys : PySem.W.nsIn K mainGlobals "_law_keys" = some (some (.ref f__law_keys)))
    (l__law_keys : K.lookup f__law_keys = some ⟨oc__law_keys, od__law_keys, .func (PySem.W.fnOf "_law_keys" "_law_keys" (defArgs s__law_keys) (defBody s__law_keys)
      (defScope s__law_keys) .none kV__law_keys dc__law_keys pm__law_keys an__law_keys cd__law_keys ct__law_keys), sl__law_keys⟩)
    (c__law_keys : PySem.W.codeIn K cd__law_keys "_law_keys" = true) (k__law_keys : PySem.W.keepIn K (.ref f__law_keys) = true)
    {f__law_nested : Addr} {od__law_nested an__law_nested : Option Addr} {sl__law_nested : Array (Option Value)} {oc__law_nested kV__law_nested dc__law_nested pm__law_nested cd__law_nested ct__law_nested : Value}
    (a__law_nested : PySem.W.nsIn K mainGlobals "_law_nested" = some (some (.ref f__law_nested)))
    (l__law_nested : K.lookup f__law_nested = some ⟨oc__law_nested, od__law_nested, .func (PySem.W.fnOf "_law_nested" "_law_nested" (defArgs s__law_nested) (defBody s__law_nested)
      (defScope s__law_nested) .none kV__law_nested dc__law_nested pm__law_nested an__law_nested cd__law_nested ct__law_nested), sl__law_nested⟩)
    (c__law_nested : PySem.W.codeIn K cd__law_nested "_law_nested" = true) (k__law_nested : PySem.W.keepIn K (.ref f__law_nested) = true)
    {f__law_parents : Addr} {od__law_parents an__law_parents : Option Addr} {sl__law_parents : Array (Option Value)} {oc__law_parents kV__law_parents dc__law_parents pm__law_parents cd__law_parents ct__law_parents : Value}
    (a__law_parents : PySem.W.nsIn K mainGlobals "_law_parents" = some (some (.ref f__law_parents)))
    (l__law_parents : K.lookup f__law_parents = some ⟨oc__law_parents, od__law_parents, .func (PySem.W.fnOf "_law_parents" "_law_parents" (defArgs s__law_parents) (defBody s__law_parents)
      (defScope s__law_parents) .none kV__law_parents dc__law_parents pm__law_parents an__law_parents cd__law_parents ct__law_parents), sl__law_parents⟩)
    (c__law_parents : PySem.W.codeIn K cd__law_parents "_law_parents" = true) (k__law_parents : PySem.W.keepIn K (.ref f__law_parents) = true)
    {f__law_grown : Addr} {od__law_grown an__law_grown : Option Addr} {sl__law_grown : Array (Option Value)} {oc__law_grown kV__law_grown dc__law_grown pm__law_grown cd__law_grown ct__law_grown : Value}
    (a__law_grown : PySem.W.nsIn K mainGlobals "_law_grown" = some (some (.ref f__law_grown)))
    (l__law_grown : K.lookup f__law_grown = some ⟨oc__law_grown, od__law_grown, .func (PySem.W.fnOf "_law_grown" "_law_grown" (defArgs s__law_grown) (defBody s__law_grown)
      (defScope s__law_grown) .none kV__law_grown dc__law_grown pm__law_grown an__law_grown cd__law_grown ct__law_grown), sl__law_grown⟩)
    (c__law_grown : PySem.W.codeIn K cd__law_grown "_law_grown" = true) (k__law_grown : PySem.W.keepIn K (.ref f__law_grown) = true)
    {f__law_inside : Addr} {od__law_inside an__law_inside : Option Addr} {sl__law_inside : Array (Option Value)} {oc__law_inside kV__law_inside dc__law_inside pm__law_inside cd__law_inside ct__law_inside : Value}
    (a__law_inside : PySem.W.nsIn K mainGlobals "_law_inside" = some (some (.ref f__law_inside)))
    (l__law_inside : K.lookup f__law_inside = some ⟨oc__law_inside, od__law_inside, .func (PySem.W.fnOf "_law_inside" "_law_inside" (defArgs s__law_inside) (defBody s__law_inside)
      (defScope s__law_inside) .none kV__law_inside dc__law_inside pm__law_inside an__law_inside cd__law_inside ct__law_inside), sl__law_inside⟩)
    (c__law_inside : PySem.W.codeIn K cd__law_inside "_law_inside" = true) (k__law_inside : PySem.W.keepIn K (.ref f__law_inside) = true)
    {f__law_element_right : Addr} {od__law_element_right an__law_element_right : Option Addr} {sl__law_element_right : Array (Option Value)} {oc__law_element_right kV__law_element_right dc__law_element_right pm__law_element_right cd__law_element_right ct__law_element_right : Value}
    (a__law_element_right : PySem.W.nsIn K mainGlobals "_law_element_right" = some (some (.ref f__law_element_right)))
    (l__law_element_right : K.lookup f__law_element_right = some ⟨oc__law_element_right, od__law_element_right, .func (PySem.W.fnOf "_law_element_right" "_law_element_right" (defArgs s__law_element_right) (defBody s__law_element_right)
      (defScope s__law_element_right) .none kV__law_element_right dc__law_element_right pm__law_element_right an__law_element_right cd__law_element_right ct__law_element_right), sl__law_element_right⟩)
    (c__law_element_right : PySem.W.codeIn K cd__law_element_right "_law_element_right" = true) (k__law_element_right : PySem.W.keepIn K (.ref f__law_element_right) = true)
    {f__law_right : Addr} {od__law_right an__law_right : Option Addr} {sl__law_right : Array (Option Value)} {oc__law_right kV__law_right dc__law_right pm__law_right cd__law_right ct__law_right : Value}
    (a__law_right : PySem.W.nsIn K mainGlobals "_law_right" = some (some (.ref f__law_right)))
    (l__law_right : K.lookup f__law_right = some ⟨oc__law_right, od__law_right, .func (PySem.W.fnOf "_law_right" "_law_right" (defArgs s__law_right) (defBody s__law_right)
      (defScope s__law_right) .none kV__law_right dc__law_right pm__law_right an__law_right cd__law_right ct__law_right), sl__law_right⟩)
    (c__law_right : PySem.W.codeIn K cd__law_right "_law_right" = true) (k__law_right : PySem.W.keepIn K (.ref f__law_right) = true)
    {f_law : Addr} {od_law an_law : Option Addr} {sl_law : Array (Option Value)} {oc_law kV_law dc_law pm_law cd_law ct_law : Value}
    (a_law : PySem.W.nsIn K mainGlobals "law" = some (some (.ref f_law)))
    (l_law : K.lookup f_law = some ⟨oc_law, od_law, .func (PySem.W.fnOf "law" "law" (defArgs s_law) (defBody s_law)
      (defScope s_law) .none kV_law dc_law pm_law an_law cd_law ct_law), sl_law⟩)
    (c_law : PySem.W.codeIn K cd_law "law" = true) (k_law : PySem.W.keepIn K (.ref f_law) = true)
    (z_len : PySem.W.nsIn K mainGlobals "len" = some none)
    (z_abs : PySem.W.nsIn K mainGlobals "abs" = some none)
    (z_int : PySem.W.nsIn K mainGlobals "int" = some none)
    (z_range : PySem.W.nsIn K mainGlobals "range" = some none)
    (z_enumerate : PySem.W.nsIn K mainGlobals "enumerate" = some none)
    (z_tuple : PySem.W.nsIn K mainGlobals "tuple" = some none)
    (z_str : PySem.W.nsIn K mainGlobals "str" = some none)
    (z_isinstance : PySem.W.nsIn K mainGlobals "isinstance" = some none)
    (z_repr : PySem.W.nsIn K mainGlobals "repr" = some none)
    (z_all : PySem.W.nsIn K mainGlobals "all" = some none)
    (z_min : PySem.W.nsIn K mainGlobals "min" = some none)
    (z_max : PySem.W.nsIn K mainGlobals "max" = some none)
    : ∃ fd : FuncData, (∀ (s : Shared) (v : Value), BindsTo s fd ⟨[v], []⟩ [("_law_script", v)]) ∧
      ∀ base : Heap, K.In base → base.Ns mainGlobals mg → Fg P w K mg base 24 fa fd ["_law_script"] (sp_law K) := by
  have e := hfa.symm.trans (PySem.W.mg_of X G a_law)
  cases e
  have F_walk := fun_mk (st := s_walk) l_walk c_walk k_walk
  have g_walk := PySem.W.mg_of X G a_walk
  have b_walk := F_walk.binds (ps := ["tree"]) fun _ _ _ _ _ _ us hl => match us, hl with | [_], _ => rfl
  have F_keys_of := fun_mk (st := s_keys_of) l_keys_of c_keys_of k_keys_of
  have g_keys_of := PySem.W.mg_of X G a_keys_of
  have b_keys_of := F_keys_of.binds (ps := ["tree"]) fun _ _ _ _ _ _ us hl => match us, hl with | [_], _ => rfl
  have F_subtree := fun_mk (st := s_subtree) l_subtree c_subtree k_subtree
  have g_subtree := PySem.W.mg_of X G a_subtree
  have b_subtree := F_subtree.binds (ps := ["tree", "key"]) fun _ _ _ _ _ _ us hl => match us, hl with | [_, _], _ => rfl
  have F_children_of := fun_mk (st := s_children_of) l_children_of c_children_of k_children_of
  have g_children_of := PySem.W.mg_of X G a_children_of
  have b_children_of := F_children_of.binds (ps := ["tree", "key"]) fun _ _ _ _ _ _ us hl => match us, hl with | [_, _], _ => rfl
  have F_parents_of := fun_mk (st := s_parents_of) l_parents_of c_parents_of k_parents_of
  have g_parents_of := PySem.W.mg_of X G a_parents_of
  have b_parents_of := F_parents_of.binds (ps := ["tree"]) fun _ _ _ _ _ _ us hl => match us, hl with | [_], _ => rfl
  have F_path_of := fun_mk (st := s_path_of) l_path_of c_path_of k_path_of
  have g_path_of := PySem.W.mg_of X G a_path_of
  have b_path_of := F_path_of.binds (ps := ["tree", "key"]) fun _ _ _ _ _ _ us hl => match us, hl with | [_, _], _ => rfl
  have F_parent_of := fun_mk (st := s_parent_of) l_parent_of c_parent_of k_parent_of
  have g_parent_of := PySem.W.mg_of X G a_parent_of
  have b_parent_of := F_parent_of.binds (ps := ["tree", "key"]) fun _ _ _ _ _ _ us hl => match us, hl with | [_, _], _ => rfl
  have F_is_inside := fun_mk (st := s_is_inside) l_is_inside c_is_inside k_is_inside
  have g_is_inside := PySem.W.mg_of X G a_is_inside
  have b_is_inside := F_is_inside.binds (ps := ["tree", "key", "other"]) fun _ _ _ _ _ _ us hl => match us, hl with | [_, _, _], _ => rfl
  have F__law_hand := fun_mk (st := s__law_hand) l__law_hand c__law_hand k__law_hand
  have g__law_hand := PySem.W.mg_of X G a__law_hand
  have b__law_hand := F__law_hand.binds (ps := ["_law_script", "_law_k"]) fun _ _ _ _ _ _ us hl => match us, hl with | [_, _], _ => rfl
  have F__law_take := fun_mk (st := s__law_take) l__law_take c__law_take k__law_take
  have g__law_take := PySem.W.mg_of X G a__law_take
  have b__law_take := F__law_take.binds (ps := ["_law_hand_here", "_law_many"]) fun _ _ _ _ _ _ us hl => match us, hl with | [_, _], _ => rfl
  have F__law_of := fun_mk (st := s__law_of) l__law_of c__law_of k__law_of
  have g__law_of := PySem.W.mg_of X G a__law_of
  have b__law_of := F__law_of.binds (ps := ["_law_hand_here", "_law_items"]) fun _ _ _ _ _ _ us hl => match us, hl with | [_, _], _ => rfl
  have F__law_keys := fun_mk (st := s__law_keys) l__law_keys c__law_keys k__law_keys
  have g__law_keys := PySem.W.mg_of X G a__law_keys
  have b__law_keys := F__law_keys.binds (ps := ["_law_hand_here", "_law_many"]) fun _ _ _ _ _ _ us hl => match us, hl with | [_, _], _ => rfl
  have F__law_nested := fun_mk (st := s__law_nested) l__law_nested c__law_nested k__law_nested
  have g__law_nested := PySem.W.mg_of X G a__law_nested
  have b__law_nested := F__law_nested.binds (ps := ["_law_lists", "_law_label"]) fun _ _ _ _ _ _ us hl => match us, hl with | [_, _], _ => rfl
  have F__law_parents := fun_mk (st := s__law_parents) l__law_parents c__law_parents k__law_parents
  have g__law_parents := PySem.W.mg_of X G a__law_parents
  have b__law_parents := F__law_parents.binds (ps := ["_law_lists"]) fun _ _ _ _ _ _ us hl => match us, hl with | [_], _ => rfl
  have F__law_grown := fun_mk (st := s__law_grown) l__law_grown c__law_grown k__law_grown
  have g__law_grown := PySem.W.mg_of X G a__law_grown
  have b__law_grown := F__law_grown.binds (ps := ["_law_hand_here", "_law_names", "_law_deep"]) fun _ _ _ _ _ _ us hl => match us, hl with | [_, _, _], _ => rfl
  have F__law_inside := fun_mk (st := s__law_inside) l__law_inside c__law_inside k__law_inside
  have g__law_inside := PySem.W.mg_of X G a__law_inside
  have b__law_inside := F__law_inside.binds (ps := ["_law_lists", "_law_name"]) fun _ _ _ _ _ _ us hl => match us, hl with | [_, _], _ => rfl
  have F__law_element_right := fun_mk (st := s__law_element_right) l__law_element_right c__law_element_right k__law_element_right
  have g__law_element_right := PySem.W.mg_of X G a__law_element_right
  have b__law_element_right := F__law_element_right.binds (ps := ["_law_plant", "_law_lists", "_law_above", "_law_name"]) fun _ _ _ _ _ _ us hl => match us, hl with | [_, _, _, _], _ => rfl
  have F__law_right := fun_mk (st := s__law_right) l__law_right c__law_right k__law_right
  have g__law_right := PySem.W.mg_of X G a__law_right
  have b__law_right := F__law_right.binds (ps := ["_law_hand_here"]) fun _ _ _ _ _ _ us hl => match us, hl with | [_], _ => rfl
  have F_law := fun_mk (st := s_law) l_law c_law k_law
  have g_law := PySem.W.mg_of X G a_law
  have z_len' := PySem.W.mg_none_of X G z_len
  have z_abs' := PySem.W.mg_none_of X G z_abs
  have z_int' := PySem.W.mg_none_of X G z_int
  have z_range' := PySem.W.mg_none_of X G z_range
  have z_enumerate' := PySem.W.mg_none_of X G z_enumerate
  have z_tuple' := PySem.W.mg_none_of X G z_tuple
  have z_str' := PySem.W.mg_none_of X G z_str
  have z_isinstance' := PySem.W.mg_none_of X G z_isinstance
  have z_repr' := PySem.W.mg_none_of X G z_repr
  have z_all' := PySem.W.mg_none_of X G z_all
  have z_min' := PySem.W.mg_none_of X G z_min
  have z_max' := PySem.W.mg_none_of X G z_max
  refine ⟨PySem.W.fnOf "law" "law" (defArgs s_law) (defBody s_law) (defScope s_law) .none kV_law dc_law pm_law an_law cd_law ct_law,
    fun s v => .of_eq rfl, fun base _ _ => ?_⟩
  have C_walk : Cal P w K mg base CX0 1 "walk" ["tree"] (sp_walk K) := ⟨_, _, ok_walk F_walk, g_walk, k_walk, b_walk⟩
  have O_keys_of := ok_keys_of (P := P) (w := w) (base := base) (k := 0) F_keys_of C_walk z_tuple'
  have C_keys_of : Cal P w K mg base CX0 2 "keys_of" ["tree"] (sp_keys_of K) := ⟨_, _, O_keys_of, g_keys_of, k_keys_of, b_keys_of⟩
  have D_keys_of : CalK P w K mg base CX0 2 "keys_of" ["tree"] ["tree"] gOne (sp_keys_of K) := ⟨_, _, _, O_keys_of, g_keys_of, k_keys_of, kb1 F_keys_of fun _ _ _ _ _ _ _ => rfl⟩
  have O_subtree := ok_subtree (P := P) (w := w) (base := base) (k := 0) F_subtree C_walk
  have C_subtree : Cal P w K mg base CX0 2 "subtree" ["tree", "key"] (sp_subtree K) := ⟨_, _, O_subtree, g_subtree, k_subtree, b_subtree⟩
  have D_subtree : CalK P w K mg base CX0 2 "subtree" ["tree", "key"] ["key", "tree"] gSwap (sp_subtree K) := ⟨_, _, _, O_subtree, g_subtree, k_subtree, kb2 F_subtree fun _ _ _ _ _ _ _ _ => rfl⟩
  have O_children_of := ok_children_of (P := P) (w := w) (base := base) (k := 0) F_children_of C_subtree z_tuple'
  have C_children_of : Cal P w K mg base CX0 3 "children_of" ["tree", "key"] (sp_children_of K) := ⟨_, _, O_children_of, g_children_of, k_children_of, b_children_of⟩
  have D_children_of : CalK P w K mg base CX0 3 "children_of" ["tree", "key"] ["key", "tree"] gSwap (sp_children_of K) := ⟨_, _, _, O_children_of, g_children_of, k_children_of, kb2 F_children_of fun _ _ _ _ _ _ _ _ => rfl⟩
  have C_parents_of : Cal P w K mg base CX0 2 "parents_of" ["tree"] (sp_parents_of K) := ⟨_, _, ok_parents_of (k := 0) F_parents_of C_walk, g_parents_of, k_parents_of, b_parents_of⟩
  have O_path_of := ok_path_of (P := P) (w := w) (base := base) (k := 0) F_path_of C_parents_of z_tuple' z_str' z_isinstance'
  have C_path_of : Cal P w K mg base CX0 3 "path_of" ["tree", "key"] (sp_path_of K) := ⟨_, _, O_path_of, g_path_of, k_path_of, b_path_of⟩
  have D_path_of : CalK P w K mg base CX0 3 "path_of" ["tree", "key"] ["key", "tree"] gSwap (sp_path_of K) := ⟨_, _, _, O_path_of, g_path_of, k_path_of, kb2 F_path_of fun _ _ _ _ _ _ _ _ => rfl⟩
  have O_parent_of := ok_parent_of (P := P) (w := w) (base := base) (k := 0) F_parent_of C_path_of z_len'
  have C_parent_of : Cal P w K mg base CX0 4 "parent_of" ["tree", "key"] (sp_parent_of K) := ⟨_, _, O_parent_of, g_parent_of, k_parent_of, b_parent_of⟩
  have D_parent_of : CalK P w K mg base CX0 4 "parent_of" ["tree", "key"] ["key", "tree"] gSwap (sp_parent_of K) := ⟨_, _, _, O_parent_of, g_parent_of, k_parent_of, kb2 F_parent_of fun _ _ _ _ _ _ _ _ => rfl⟩
  have O_is_inside := ok_is_inside (P := P) (w := w) (base := base) (k := 0) F_is_inside C_path_of C_keys_of
  have C_is_inside : Cal P w K mg base CX0 4 "is_inside" ["tree", "key", "other"] (sp_is_inside K) := ⟨_, _, O_is_inside, g_is_inside, k_is_inside, b_is_inside⟩
  have D_is_inside : CalK P w K mg base CX0 4 "is_inside" ["tree", "key", "other"] ["other", "key", "tree"] gBack (sp_is_inside K) := ⟨_, _, _, O_is_inside, g_is_inside, k_is_inside, kb3 F_is_inside fun _ _ _ _ _ _ _ _ _ => rfl⟩
  have C_hand : Cal P w K mg base CX0 1 "_law_hand" ["_law_script", "_law_k"] (sp__law_hand K) := ⟨_, _, ok__law_hand (k := 0) F__law_hand z_len' z_abs' z_int', g__law_hand, k__law_hand, b__law_hand⟩
  have C_take : Cal P w K mg base CX0 1 "_law_take" ["_law_hand_here", "_law_many"] sp__law_take := ⟨_, _, ok__law_take (k := 0) F__law_take, g__law_take, k__law_take, b__law_take⟩
  have C_of : Cal P w K mg base CX0 2 "_law_of" ["_law_hand_here", "_law_items"] (sp__law_of K) := ⟨_, _, ok__law_of (k := 0) F__law_of C_take z_len', g__law_of, k__law_of, b__law_of⟩
  have C_keys : Cal P w K mg base CX0 3 "_law_keys" ["_law_hand_here", "_law_many"] sp__law_keys := ⟨_, _, ok__law_keys (k := 0) F__law_keys C_take C_of z_range', g__law_keys, k__law_keys, b__law_keys⟩
  have C_nested : Cal P w K mg base CX0 21 "_law_nested" ["_law_lists", "_law_label"] (sp__law_nested K 20) := ⟨_, _, ok__law_nested F__law_nested g__law_nested k__law_nested b__law_nested z_tuple' 20, g__law_nested, k__law_nested, b__law_nested⟩
  have C_parents : Cal P w K mg base CX0 1 "_law_parents" ["_law_lists"] sp__law_parents := ⟨_, _, ok__law_parents (k := 0) F__law_parents, g__law_parents, k__law_parents, b__law_parents⟩
  have C_grown : Cal P w K mg base CX0 3 "_law_grown" ["_law_hand_here", "_law_names", "_law_deep"] (sp__law_grown K) := ⟨_, _, ok__law_grown (k := 0) F__law_grown C_take C_of z_len' z_enumerate', g__law_grown, k__law_grown, b__law_grown⟩
  have C_inside : Cal P w K mg base CX0 21 "_law_inside" ["_law_lists", "_law_name"] (sp__law_inside K 20) := ⟨_, _, ok__law_inside F__law_inside g__law_inside k__law_inside b__law_inside 20, g__law_inside, k__law_inside, b__law_inside⟩
  have C_el : CalG P w K mg base 22 "_law_element_right" ["_law_plant", "_law_lists", "_law_above", "_law_name"] (sp__law_element_right K) := ⟨_, _, ok__law_element_right (k := 0) F__law_element_right C_parent_of D_parent_of C_children_of D_children_of C_subtree D_subtree C_path_of D_path_of C_nested z_tuple' z_repr', g__law_element_right, k__law_element_right, b__law_element_right⟩
  have C_right : CalG P w K mg base 23 "_law_right" ["_law_hand_here"] sp__law_right := ⟨_, _, ok__law_right (k := 0) F__law_right C_take C_of C_keys C_grown C_nested C_inside C_parents C_el C_keys_of D_keys_of C_is_inside D_is_inside z_repr' z_tuple' z_all' z_range' z_min' z_len', g__law_right, k__law_right, b__law_right⟩
  exact ok_law F_law C_hand C_right z_all' z_range' z_max' z_min' z_len'
end K2
open PySem PySem.W PyProof.Rows
set_option maxHeartbeats 0 in
theorem PySem.Challenge.cw_keyedmoves_k02_places_of_elements_holds : PySem.Challenge.rw_keyedmoves_k02_places_of_elements.Holds := by
  w_on; o_law; k_head; (case hw => w_witness2)
  k_fill
  refine Kg.walk_g (l := PySem.Challenge.rw_keyedmoves_k02_places_of_elements) (n := 63) (k := 24) (x := "_law_script") (sp := K2.sp_law) rfl (by decide) rfl
    ⟨rfl, by decide, by decide⟩ (fun w h Y => PySem.W.kIn_of Y) ?F (fun _ _ a ns hl _ hS => ⟨a, ns, rfl, hS, hl, fun _ => rfl⟩)
  case F =>
    intro w mg fa h KX G hmg
    refine' K2.all_mk KX G hmg ?a_walk ?l_walk ?c_walk ?k_walk ?a_keys_of ?l_keys_of ?c_keys_of ?k_keys_of ?a_subtree ?l_subtree ?c_subtree ?k_subtree ?a_children_of ?l_children_of ?c_children_of ?k_children_of ?a_parents_of ?l_parents_of ?c_parents_of ?k_parents_of ?a_path_of ?l_path_of ?c_path_of ?k_path_of ?a_parent_of ?l_parent_of ?c_parent_of ?k_parent_of ?a_is_inside ?l_is_inside ?c_is_inside ?k_is_inside ?a__law_hand ?l__law_hand ?c__law_hand ?k__law_hand ?a__law_take ?l__law_take ?c__law_take ?k__law_take ?a__law_of ?l__law_of ?c__law_of ?k__law_of ?a__law_keys ?l__law_keys ?c__law_keys ?k__law_keys ?a__law_nested ?l__law_nested ?c__law_nested ?k__law_nested ?a__law_parents ?l__law_parents ?c__law_parents ?k__law_parents ?a__law_grown ?l__law_grown ?c__law_grown ?k__law_grown ?a__law_inside ?l__law_inside ?c__law_inside ?k__law_inside ?a__law_element_right ?l__law_element_right ?c__law_element_right ?k__law_element_right ?a__law_right ?l__law_right ?c__law_right ?k__law_right ?a_law ?l_law ?c_law ?k_law ?z_len ?z_abs ?z_int ?z_range ?z_enumerate ?z_tuple ?z_str ?z_isinstance ?z_repr ?z_all ?z_min ?z_max
    (case a_walk => k_is); (case l_walk => k_is); (case c_walk => k_is); (case k_walk => k_is)
    (case a_keys_of => k_is); (case l_keys_of => k_is); (case c_keys_of => k_is); (case k_keys_of => k_is)
    (case a_subtree => k_is); (case l_subtree => k_is); (case c_subtree => k_is); (case k_subtree => k_is)
    (case a_children_of => k_is); (case l_children_of => k_is); (case c_children_of => k_is); (case k_children_of => k_is)
    (case a_parents_of => k_is); (case l_parents_of => k_is); (case c_parents_of => k_is); (case k_parents_of => k_is)
    (case a_path_of => k_is); (case l_path_of => k_is); (case c_path_of => k_is); (case k_path_of => k_is)
    (case a_parent_of => k_is); (case l_parent_of => k_is); (case c_parent_of => k_is); (case k_parent_of => k_is)
    (case a_is_inside => k_is); (case l_is_inside => k_is); (case c_is_inside => k_is); (case k_is_inside => k_is)
    (case a__law_hand => k_is); (case l__law_hand => k_is); (case c__law_hand => k_is); (case k__law_hand => k_is)
    (case a__law_take => k_is); (case l__law_take => k_is); (case c__law_take => k_is); (case k__law_take => k_is)
    (case a__law_of => k_is); (case l__law_of => k_is); (case c__law_of => k_is); (case k__law_of => k_is)
    (case a__law_keys => k_is); (case l__law_keys => k_is); (case c__law_keys => k_is); (case k__law_keys => k_is)
    (case a__law_nested => k_is); (case l__law_nested => k_is); (case c__law_nested => k_is); (case k__law_nested => k_is)
    (case a__law_parents => k_is); (case l__law_parents => k_is); (case c__law_parents => k_is); (case k__law_parents => k_is)
    (case a__law_grown => k_is); (case l__law_grown => k_is); (case c__law_grown => k_is); (case k__law_grown => k_is)
    (case a__law_inside => k_is); (case l__law_inside => k_is); (case c__law_inside => k_is); (case k__law_inside => k_is)
    (case a__law_element_right => k_is); (case l__law_element_right => k_is); (case c__law_element_right => k_is); (case k__law_element_right => k_is)
    (case a__law_right => k_is); (case l__law_right => k_is); (case c__law_right => k_is); (case k__law_right => k_is)
    (case a_law => k_is); (case l_law => k_is); (case c_law => k_is); (case k_law => k_is)
    (case z_len => k_is); (case z_abs => k_is); (case z_int => k_is); (case z_range => k_is)
    (case z_enumerate => k_is); (case z_tuple => k_is); (case z_str => k_is); (case z_isinstance => k_is)
    (case z_repr => k_is); (case z_all => k_is); (case z_min => k_is); (case z_max => k_is)
