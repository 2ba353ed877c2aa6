import PyProof.Rows.All
import Wide.All
import OpenK.AllK
import Wide.FinOn
import HandS.ForMost
import HandS.Wide
import HandS.EndBits
import HandS.TupAny
import HandS.Style
import HandS.IsInst
import HandS.Evl
import PyProof.ReprRoads
import KE.KIntText
import KE.GoesMore
import HandS.Zip
import HandS.Steps
import HandS.ExcInit
import HandS.ExcField
import HandS.WordsExc
import HandS.ExcValue
import HandS.ExcIs
import HandS.MakeKw
import HandS.MakeKwOnly
import PySem.Challenge.RW_twobricks_k01_errors_and_bounds
set_option Elab.async false
set_option linter.all false
set_option maxRecDepth 100000
/-! The base of the law proofs of Twobricks: repr of data, the end of a row whose law asks repr (its guards told). -/
namespace TB
open PySem PySem.Spec PyProof.Rows L2
/-! ### data in the abstract heap, dicts of nothing among them -/
mutual
inductive Rp (K : PySem.W.Frag) (H : Hp) : V → PyData → Prop
  | non : Rp K H .non .none
  | bl (b : Bool) : Rp K H (.bl b) (.bool b)
  | int (i : Int) : Rp K H (.int i) (.int i)
  | str (x : Str) : Rp K H (.str x) (.str x)
  | lst {a : Addr} {xs : List V} {ds : List PyData} : SqL K H a xs → RpAll K H xs ds → Rp K H (.ref a) (.list ds)
  | tup {a : Addr} {xs : List V} {ds : List PyData} : SqT K H a xs → RpAll K H xs ds → Rp K H (.ref a) (.tuple ds)
inductive RpAll (K : PySem.W.Frag) (H : Hp) : List V → List PyData → Prop
  | nil : RpAll K H [] []
  | cons {v : V} {vs : List V} {d : PyData} {ds : List PyData} : Rp K H v d → RpAll K H vs ds → RpAll K H (v :: vs) (d :: ds)
end
section
variable {X : Cx} {pins : List (Addr × Obj)} {σ : L2.St} {H : Hp} {s : Shared}
mutual
theorem Rp.reads (J : Inv X pins σ H s) : ∀ (e : PyData) (z : V) (y : Value), Rp X.K H z e → RelV z y → (∃ as, Reads s.heap y e as) ∧ e.hasDict = false
  | .none, _, _, q, r => by
    cases q; cases r
    exact ⟨⟨_, Reads.none⟩, rfl⟩
  | .bool c, _, _, q, r => by
    cases q; cases r
    exact ⟨⟨_, Reads.bool c⟩, rfl⟩
  | .int j, _, _, q, r => by
    cases q
    obtain ⟨tk, rfl⟩ := r
    exact ⟨⟨_, Reads.int j tk⟩, rfl⟩
  | .str y, _, _, q, r => by
    cases q
    obtain ⟨tk, rfl⟩ := r
    exact ⟨⟨_, Reads.str y tk⟩, rfl⟩
  | .list es, _, _, q, r => by
    cases q with
    | lst hq hz =>
      cases r
      obtain ⟨iq, rz, ⟨oq, nq, hoq, hcq, _, hdq⟩, _⟩ := J.list hq
      obtain ⟨⟨as, hr⟩, hn⟩ := Rp.readsAll J es _ iq hz rz
      exact ⟨⟨_, Reads.list hoq hcq hdq hr⟩, hn⟩
  | .tuple es, _, _, q, r => by
    cases q with
    | tup hq hz =>
      cases r
      obtain ⟨iq, rz, ⟨oq, hoq, hcq, nq, hdq⟩, _⟩ := J.tuple hq
      obtain ⟨⟨as, hr⟩, hn⟩ := Rp.readsAll J es _ iq hz rz
      exact ⟨⟨_, Reads.tuple hoq hcq hdq hr⟩, hn⟩
  | .dict _, _, _, q, _ => by cases q
theorem Rp.readsAll (J : Inv X pins σ H s) : ∀ (es : List PyData) (zs : List V) (ys : List Value), RpAll X.K H zs es → Vals zs ys → (∃ as, ReadsAll s.heap ys es as) ∧ PyData.hasDictAll es = false
  | [], _, _, q, r => by
    cases q; cases r
    exact ⟨⟨_, ReadsAll.nil⟩, rfl⟩
  | e :: es, _, _, q, r => by
    cases q with
    | cons q1 q2 =>
      cases r with
      | cons r1 r2 =>
        obtain ⟨⟨as, g1⟩, n1⟩ := Rp.reads J e _ _ q1 r1
        obtain ⟨⟨bs, g2⟩, n2⟩ := Rp.readsAll J es _ _ q2 r2
        exact ⟨⟨_, ReadsAll.cons g1 g2⟩, by rw [PyData.hasDictAll, n1, n2]; rfl⟩
end
end
def rRep (K : PySem.W.Frag) : List V → Hp → VK → Prop := fun xs H Q =>
  ∃ z e, xs = [z] ∧ Rp K H z e ∧ e.showable = true ∧ e.depth < 60 ∧ e.shown.length ≤ sizeLine ∧ Q (.str e.shown) H
theorem call_repr {X : Cx} (hg : X.A.guards = some []) (hu : X.A.units + 64 < cLine) : CallR X (.builtin "repr") (rRep X.K) := by
  intro pins s σ H xs us Q J r h
  obtain ⟨z, e, rfl, hz, hs, hd, hl, q⟩ := h
  obtain ⟨u, rfl, ru⟩ := vals1 r
  obtain ⟨⟨as, hr⟩, hn⟩ := Rp.reads J e z u hz ru
  cases hz with
  | non =>
    cases ru
    exact PySem.P.repr_of_none ⟨.str _, H, J.tok _, ⟨_, rfl⟩, q⟩
  | bl b =>
    cases ru
    exact PySem.P.repr_of_bool ⟨.str _, H, J.tok _, ⟨_, rfl⟩, by cases b <;> exact q⟩
  | int i =>
    obtain ⟨t, rfl⟩ := ru
    exact PySem.P.repr_of_int (of_decide_eq_true hs) ⟨.str _, H, J.tok _, ⟨_, rfl⟩, q⟩
  | str x =>
    obtain ⟨t, rfl⟩ := ru
    exact PySem.P.repr_of_str (hsz := hl) ⟨.str _, H, J.tok _, ⟨_, rfl⟩, q⟩
  | lst h1 h2 =>
    cases ru
    exact repr_of_reads' hr hs (fun hx => by rw [hn] at hx; cases hx) hg (by omega) (fun b o e => e) (fun h' u tk hk => ⟨.str _, H, J.kept hk, ⟨_, rfl⟩, q⟩) hl
  | tup h1 h2 =>
    cases ru
    exact repr_of_reads' hr hs (fun hx => by rw [hn] at hx; cases hx) hg (by omega) (fun b o e => e) (fun h' u tk hk => ⟨.str _, H, J.kept hk, ⟨_, rfl⟩, q⟩) hl
/-! ### a def that is called from the row's own caller, its guards known -/
/-- what the def at fa does, called by the row's caller -/
def AtTop (P : Program) (w : World) (K : PySem.W.Frag) (mg : Str → Option Value) (base : Heap) (fa : Addr) (fd : FuncData) (x : Str) (sp : Sp) : Prop :=
  ∀ (s : Shared) (H : Hp) (u : Value) (v : V) (Q : VK) (E : XK), Env0 P w K mg base callerA [] s H → BindsTo s fd ⟨[u], []⟩ [(x, u)] → RelV v u → sp [v] H Q E →
    codeAny (model P w) callerA (.call (.ref fa) ⟨[u], []⟩) (CR CX0 [] P w H s Q E) s
theorem atTop_of {P : Program} {w : World} {K : PySem.W.Frag} {mg : Str → Option Value} {base : Heap} {k : Nat} {x qual : Str} {st : Stmt} {f : Addr} {fd : FuncData} {N : List Str} {arg : Str} {sp : Sp}
    (F : Fun K x qual st f fd) (S : FnScope N [arg] (defScope st)) (hrm : Room (k + 1) callerA)
    (hbody : ∀ (cdv : Value) (s : Shared) (H : Hp) (v : V) (Q : VK) (E : XK), Room k (callerA.deeper (envOfC qual (defScope st) s.heap.objs.size f cdv)) → sp [v] H Q E →
      ∃ t, PSs (cxOf CX0 P w K mg base N qual (defScope st) f cdv callerA [] s H E).nox (defBody st) t ∧ t { nx := fun _ H' => Q .non H', rt := Q } (start N [v]) H) :
    AtTop P w K mg base f fd arg sp := by
  intro s H u v Q E e0 hb rv hsp
  obtain ⟨oc, od, kV, doc, pm, an, cdv, ct, osl, rfl, lk, hcd⟩ := F.ex
  have kin : K.In s.heap := e0.mod.kin.keeps fun b o q => (e0.bs b o q).1
  have nolim : s.heap.NoLimit := e0.mod.nolimit.keeps fun b o q => (e0.bs b o q).1
  have kinds : ∀ y ∈ [arg].zip [u], (defScope st).names.lookup y.1 = some .local ∨ ((defScope st).names.lookup y.1 = some .cell ∧ ((cellsFrom (s.heap.objs.size + 1) (defScope st).names []).lookup y.1).isSome = true) := fun ⟨m, z⟩ hy => by
    rcases S.par m (List.of_mem_zip hy).1 with c | c
    · exact .inl c
    · exact .inr ⟨c, PySem.W.cellsFrom_some _ _ _ (.inl c)⟩
  refine codeAny_call_function hrm.depth (kin _ _ lk) rfl S.co S.gen rfl (PySem.W.codeRec_of kin hcd) (hb _ _ _ _ ?_)
  refine wpAny_newFunctionEnv_cells S.kind kinds fun env henv s1 hin => ?_
  subst henv
  refine ⟨nolim.keeps hin.toInCall.keep, codeAny_func ?_⟩
  obtain ⟨t, ht, hq⟩ := hbody cdv s H v Q E (hrm.deeper _) hsp
  have J := inv_start (CX := CX0) (E := E) S hrm.hd e0 (vs := [v]) rfl (.cons rv .nil) hin
  refine wpAny_mono (ht.nox.run [] s1 (start N [v]) H _ J hq) (fun fl s' hs => ?_) fun _ _ hs => hs
  have done : ∀ {τ : L2.St} {H' : Hp} {z : V} {y : Value}, Inv (cxOf CX0 P w K mg base N qual (defScope st) f cdv callerA [] s H E) [] τ H' s' → RelV z y → Q z H' → CE [] P w H s Q y s' :=
    fun {τ H' z y} I r q => ⟨z, H', I.os, I.bare, I.base, I.hok, r, q⟩
  cases fl with
  | ret y =>
    obtain ⟨z, τ, H', I, r, q⟩ := hs
    exact done I r q
  | next =>
    obtain ⟨τ, H', I, q⟩ := hs
    exact done (z := V.non) (y := Value.none) I rfl q
  | brk =>
    obtain ⟨_, _, _, q⟩ := hs
    exact q.elim
  | cont =>
    obtain ⟨_, _, _, q⟩ := hs
    exact q.elim
theorem law_top {P : Program} {w : World} {K : PySem.W.Frag} {mg mb : Str → Option Value} {fa a : Addr} {fd : FuncData} {x : Str} {sp : Sp} {s₁ : Shared} {vs : List Value} {ns : List Int}
    (kin : K.In s₁.heap) (gn : s₁.heap.Ns mainGlobals mg) (bn : s₁.heap.Ns builtinsNs mb) (bnb : ∀ y : Str, y ≠ "__name__" → mb y = bootBuiltins y) (nolim : s₁.heap.NoLimit) (gens : s₁.gens = #[])
    (ho : s₁.heap.get? a = some { cls := .type "list", data := .seq vs.toArray }) (hi : IntsAre vs ns) (hl : ns.length ≤ sizeLine)
    (F : ∀ base : Heap, K.In base → base.Ns mainGlobals mg → AtTop P w K mg base fa fd x sp) (hb : ∀ (s : Shared) (u : Value), BindsTo s fd ⟨[u], []⟩ [(x, u)])
    (hsp : ∀ H : Hp, Only H → SqL K H a (ns.map V.int) → sp [.ref a] H (fun v _ => v = .bl true) fun _ _ _ => False) :
    codeAny (model P w) callerA (.call (.ref fa) ⟨[.ref a], []⟩) (fun r s' => r = .ok (.ret (.bool true)) ∧ OldK s₁.heap s'.heap ∧ s'.os = s₁.os ∧ AllBare s'.gens) s₁ := by
  have rv := vals_ints hi
  have main : ∀ H : Hp, Only H → SqL K H a (ns.map V.int) → HOk P w H s₁.heap → (∀ b, H b ≠ none → b = a) → (H a ≠ none → K.lookup a = none) →
      codeAny (model P w) callerA (.call (.ref fa) ⟨[.ref a], []⟩) (fun r s' => r = .ok (.ret (.bool true)) ∧ OldK s₁.heap s'.heap ∧ s'.os = s₁.os ∧ AllBare s'.gens) s₁ := by
    intro H only hS hok onlyA noK
    have notA : ∀ {b : Addr} {o : Obj} {es : Array DictEntry} {n : Nat}, s₁.heap.get? b = some o → o.data = .dict es n → H b = none := fun {b o es n} e d => by
      cases q : H b with
      | none => rfl
      | some u =>
        have eb : b = a := onlyA b (by rw [q]; simp)
        subst eb
        rw [ho] at e
        cases e
        exact nomatch d
    have keepNs : ∀ {b : Addr} {m : Str → Option Value}, s₁.heap.Ns b m → (hidT s₁.heap H).Ns b m := fun {b m} ⟨o, es, n, e, d, r⟩ => ⟨o, es, n, hidT_get e (notA e d), d, r⟩
    have kinT : K.In (hidT s₁.heap H) := fun b o e => hidT_get (kin b o e) (by
      cases q : H b with
      | none => rfl
      | some u =>
        have eb : b = a := onlyA b (by rw [q]; simp)
        subst eb
        rw [noK (by rw [q]; simp)] at e
        cases e)
    have hM : Mod K mg (hidT s₁.heap H) := ⟨kinT, keepNs gn, ⟨mb, keepNs bn, bnb⟩, let ⟨mc, c1, c2⟩ := nolim; ⟨mc, keepNs c1, c2⟩⟩
    have e0 : Env0 P w K mg (hidT s₁.heap H) callerA [] s₁ H := ⟨rfl, hM, fun b o e => of_hidT e, Nat.le_of_eq (hidT_size _ _), trivial, fun b hb => (by cases hb), hok, .of_eq gens⟩
    refine codeAny_mono (F _ kinT (keepNs gn) s₁ H (.ref a) (.ref a) _ _ e0 (hb s₁ (.ref a)) rfl (hsp H only hS)) fun r s' h => ?_
    cases r with
    | error e => exact False.elim h
    | ok fl =>
      cases fl with
      | next => exact h.elim
      | brk => exact h.elim
      | cont => exact h.elim
      | ret u =>
        obtain ⟨v, H', os, bare, un, hok', r', q⟩ := h
        have q' : v = .bl true := q
        subst q'
        cases r'
        refine ⟨rfl, OldK.of_keep fun b o e => ?_, os, bare⟩
        cases q : H b with
        | none => exact un.keep b o e q (fun z => by cases z) (fun z => by cases z)
        | some u =>
          rcases only b with z | ⟨ob, xs, z⟩
          · rw [q] at z; cases z
          · obtain ⟨e1, _⟩ := hok b _ z
            obtain ⟨e2, _⟩ := hok' b _ (un.frzs b ob _ z)
            rw [e] at e1
            cases e1
            exact e2
  cases hk : K.lookup a with
  | some o =>
    have e := kin a o hk
    rw [ho] at e
    cases e
    exact main (fun _ => none) (fun _ => .inl rfl) (.inr ⟨_, vs.toArray, _, hk, rfl, rfl, rfl, by rw [List.size_toArray, hi.length]; exact hl, by simpa using rv⟩) (fun b u z => nomatch z) (fun b z => (z rfl).elim) fun z => (z rfl).elim
  | none =>
    refine main (fun b => if b = a then some (.frz { cls := .type "list", data := .seq vs.toArray } (.lst (ns.map V.int))) else none) (fun b => ?_) (.inl (.inr ⟨{ cls := .type "list", data := .seq vs.toArray }, if_pos rfl⟩)) (fun b u z => ?_) (fun b z => ?_) fun _ => hk
    · by_cases eb : b = a
      · exact .inr ⟨_, _, if_pos eb⟩
      · exact .inl (if_neg eb)
    · by_cases eb : b = a
      · have z' := (if_pos eb).symm.trans z
        cases z'
        subst eb
        exact ⟨ho, by rw [List.length_map]; exact hl, vs, _, rv, ho⟩
      · exact nomatch (if_neg eb).symm.trans z
    · by_cases eb : b = a
      · exact eb
      · exact (z (if_neg eb)).elim
/-- the goal behind the head, from the law's promise at its caller; the script's bits told -/
theorem walk_top {l : PySem.W.OpenLaw} {n : Nat} {q : Program} {loose : List Str} {XP : (Str → Option Value) → Heap → Prop} {YP : World → Heap → Prop} {d : DefRec} {K : Params → PySem.W.Frag} {sp : World → Sp} {x : Str}
    (hn : l.most = some n) (hn2 : n ≤ sizeLine) (hdf : d.params.defaults = [])
    (hY : ∀ (w : World) (h : Heap), YP w h → (K w.params).In h)
    (F : ∀ (w : World) (mg : Str → Option Value) (fa : Addr) (h : Heap), (K w.params).In h → h.Ns mainGlobals mg → mg d.name = some (.ref fa) →
      ∃ fd : FuncData, (∀ (s : Shared) (u : Value), BindsTo s fd ⟨[u], []⟩ [(x, u)]) ∧ ∀ base : Heap, (K w.params).In base → base.Ns mainGlobals mg → AtTop l.prog w (K w.params) mg base fa fd x (sp w))
    (hsp : ∀ (w : World) (H : Hp) (a : Addr) (ns : List Int), ns.length ≤ n → (∀ z ∈ ns, Builtin.Int.intBits z ≤ 1048576) → Only H → SqL (K w.params) H a (ns.map V.int) → sp w [.ref a] H (fun v _ => v = .bl true) fun _ _ _ => False) :
    PySem.W.WalkO q loose XP YP l.row.toRowW d [] (fun f vs => PySem.call f vs) := by
  refine Att.attach_callB hn hdf fun w s₀ s₁ mg mb fa o pm cd doc a vs ns G Y _ _ _ hmg hobj hints hlen hbits hg => ?_
  have kin := hY w _ Y
  obtain ⟨fd, hb, hF⟩ := F w mg fa _ kin G.T.g hmg
  exact law_top kin G.T.g G.T.b G.T.builtins G.T.nolimit hg hobj hints (Nat.le_trans hlen hn2) hF hb fun H hO hS => hsp w H a ns hlen hbits hO hS
end TB
namespace TB
open PySem PySem.Spec PyProof.Rows L2 Evl
/-! ### a def that keeps a promise, called by its name -/
def Keeps (P : Program) (w : World) (K : PySem.W.Frag) (mg : Str → Option Value) (base : Heap) (k : Nat) (x : Str) (ps : List Str) (sp : Sp) : Prop :=
  ∃ (f : Addr) (fd : FuncData), mg x = some (.ref f) ∧ PySem.W.keepIn K (.ref f) = true ∧ Binds K fd ps [] ∧ FnOk P w K mg base CX0 k f fd ps sp
theorem keeps_of {P : Program} {w : World} {K : PySem.W.Frag} {mg : Str → Option Value} {base : Heap} {k : Nat} {x q : Str} {st : Stmt} {f : Addr} {fd : FuncData} {ps : List Str} {sp : Sp}
    (F : Fun K x q st f fd) {y : Str} (g : mg y = some (.ref f)) (b : Binds K fd ps []) (G : FnOk P w K mg base CX0 k f fd ps sp) : Keeps P w K mg base k y ps sp := ⟨f, fd, g, F.kp, b, G⟩
theorem pe_own {X : Cx} {k : Nat} {x : Str} {ps : List Str} {sp : Sp} {e : Expr} {es : List Expr} {t : TA} {p pos : Pos}
    (h : Keeps X.prog X.w X.K X.mg X.base k x ps sp) (hr : Room k X.A) (hg : Gl X x) (ha : PA X (e :: es) t) (hdb : (x == ("__debug__" : Str)) = false := by decide)
    (he : starEach (e :: es) X.env = (false, eval e X.env) :: starEach es X.env := by rfl) (hpl : (backTo pos (starEach es X.env)).any (·.1) = false := by rfl) :
    PE X (.Call (.Name x p) (e :: es) [] pos) (tCall sp [] E0 t) := by
  obtain ⟨f, fd, g, kp, b, G⟩ := h
  exact pe_call G hr hg g kp b .nil pass0 ha hdb he hpl
theorem pe_con {X : Cx} {x : Str} {i : Int} {pos : Pos} (hg : Gl X x) (h : ∃ t, X.mg x = some (.int i t)) (hdb : (x == ("__debug__" : Str)) = false := by decide) : PE X (.Name x pos) (tC (.int i)) := by
  obtain ⟨t, h⟩ := h
  exact pe_glob hg h ⟨t, rfl⟩ hdb
/-! ### the deck of drawn numbers -/
/-- at d stands the deck: the great numbers at g, all numbers at l, a count -/
def Deck (H : Hp) (d g l : Addr) : Prop := ∃ (gs ls : List Int) (c : Int),
  H d = some (.lst [.ref g, .ref l, .int c]) ∧ H g = some (.lst (gs.map V.int)) ∧ H l = some (.lst (ls.map V.int)) ∧ d ≠ g ∧ d ≠ l ∧ g ≠ l ∧ 0 < ls.length
/-- all but the deck's two changing lists stands as before -/
def Off (d g : Addr) (H H' : Hp) : Prop := ∀ a o, H a = some o → a ≠ d → a ≠ g → H' a = some o
theorem Off.refl {d g : Addr} {H : Hp} : Off d g H H := fun _ _ e _ _ => e
theorem Off.trans {d g : Addr} {H H1 H2 : Hp} (a : Off d g H H1) (b : Off d g H1 H2) : Off d g H H2 := fun x o e n m => b x o (a x o e n m) n m
theorem Off.of {d g : Addr} {H H' : Hp} (e : Ex H H') : Off d g H H' := fun a o h _ _ => e a o h
theorem Deck.ex {H H' : Hp} {d g l : Addr} (e : Ex H H') (h : Deck H d g l) : Deck H' d g l := by
  obtain ⟨gs, ls, c, h1, h2, h3, r⟩ := h
  exact ⟨gs, ls, c, e _ _ h1, e _ _ h2, e _ _ h3, r⟩
theorem Deck.ne {H : Hp} {d g l a : Addr} (h : Deck H d g l) (n : H a = none) : a ≠ d ∧ a ≠ g := by
  obtain ⟨gs, ls, c, h1, h2, h3, r⟩ := h
  exact ⟨fun q => (by rw [q, h1] at n; cases n), fun q => (by rw [q, h2] at n; cases n)⟩
/-- a tuple is none of the deck's lists -/
theorem Off.tup {d g l a : Addr} {H H' : Hp} {xs : List V} (e : Off d g H H') (D : Deck H d g l) (h : H a = some (.tup xs)) : H' a = some (.tup xs) := by
  obtain ⟨gs, ls, c, h1, h2, h3, r⟩ := D
  exact e a _ h (fun q => by rw [q, h1] at h; cases h) fun q => by rw [q, h2] at h; cases h
theorem Off.sqT {K : PySem.W.Frag} {d g l a : Addr} {H H' : Hp} {xs : List V} (e : Off d g H H') (D : Deck H d g l) (h : SqT K H a xs) : SqT K H' a xs := by
  obtain ⟨gs, ls, c, h1, h2, h3, r⟩ := D
  rcases h with (h | ⟨o, h⟩) | h
  · exact .inl (.inl (e a _ h (fun q => by rw [q, h1] at h; cases h) fun q => by rw [q, h2] at h; cases h))
  · exact .inl (.inr ⟨o, e a _ h (fun q => by rw [q, h1] at h; cases h) (fun q => by rw [q, h2] at h; cases h)⟩)
  · exact .inr h
def spDeck (K : PySem.W.Frag) : Sp := fun vs H Q _ => ∃ (a : Addr) (ns : List Int), vs = [.ref a] ∧ SqL K H a (ns.map V.int) ∧ ns.length ≤ 63 ∧
  ∀ d g l H', Ex H H' → H d = none → H g = none → Deck H' d g l → Q (.ref d) H'
def spDraw : Sp := fun vs H Q _ => ∃ (d g l : Addr) (m : Int), vs = [.ref d, .int m] ∧ 0 < m ∧ m ≤ 1000000000000 ∧ Deck H d g l ∧
  ∀ r H', 0 ≤ r → r < m → Deck H' d g l → Off d g H H' → Q (.int r) H'
def spOne : Sp := fun vs H Q _ => ∃ (d g l p : Addr) (xs : List V), vs = [.ref d, .ref p] ∧ Deck H d g l ∧ H p = some (.lst xs) ∧ p ≠ d ∧ p ≠ g ∧ 0 < xs.length ∧ xs.length ≤ 1000 ∧
  ∀ (i : Nat) (v : V) H', xs[i]? = some v → Deck H' d g l → Off d g H H' → Q v H'
theorem fmod_rng {a m : Int} (h : 0 < m) : 0 ≤ a.fmod m ∧ a.fmod m < m := ⟨Int.fmod_nonneg_of_pos a h, Int.fmod_lt_of_pos a h⟩
theorem fmod_small {a m : Int} (h : 0 < m) (h2 : m ≤ 2 ^ 64) : -(2 ^ 64) < a.fmod m ∧ a.fmod m < 2 ^ 64 := by
  have := fmod_rng (a := a) h
  omega
theorem ixN_zero {n : Nat} (h : 0 < n) : ixN n 0 = some 0 := by
  unfold ixN
  rw [if_pos (by omega), if_pos (by omega)]
  rfl
theorem size_small {n : Nat} (h : n ≤ 100000) : n ≤ sizeLine := Nat.le_trans h (by decide)
theorem size_small' {n : Nat} (h : n ≤ 100000) : n < sizeLine := Nat.lt_of_le_of_lt h (by decide)
end TB

namespace TB
open PySem PySem.Spec PyProof.Rows L2 Evl
/-! ### data kept -/
mutual
def flatD : PyData → Bool
  | .none | .bool _ | .int _ | .str _ => true
  | .list _ => false
  | .tuple ds => flatDs ds
  | .dict _ => false
def flatDs : List PyData → Bool
  | [] => true
  | d :: ds => flatD d && flatDs ds
end
section
variable {K : PySem.W.Frag} {H H' : Hp}
mutual
theorem Rp.ex (x : Ex H H') : ∀ (e : PyData) (z : V), Rp K H z e → Rp K H' z e
  | .none, _, q => by cases q; exact .non
  | .bool c, _, q => by cases q; exact .bl c
  | .int j, _, q => by cases q; exact .int j
  | .str y, _, q => by cases q; exact .str y
  | .list es, _, q => by
    cases q with
    | lst hq hz => exact .lst (ex_l x hq) (RpAll.ex x es _ hz)
  | .tuple es, _, q => by
    cases q with
    | tup hq hz => exact .tup (ex_t x hq) (RpAll.ex x es _ hz)
  | .dict _, _, q => by cases q
theorem RpAll.ex (x : Ex H H') : ∀ (es : List PyData) (zs : List V), RpAll K H zs es → RpAll K H' zs es
  | [], _, q => by cases q; exact .nil
  | e :: es, _, q => by
    cases q with
    | cons q1 q2 => exact .cons (Rp.ex x e _ q1) (RpAll.ex x es _ q2)
end
mutual
/-- what holds no lists stays when numbers are drawn -/
theorem Rp.off {d g l : Addr} (D : Deck H d g l) (x : Off d g H H') : ∀ (e : PyData) (z : V), flatD e = true → Rp K H z e → Rp K H' z e
  | .none, _, _, q => by cases q; exact .non
  | .bool c, _, _, q => by cases q; exact .bl c
  | .int j, _, _, q => by cases q; exact .int j
  | .str y, _, _, q => by cases q; exact .str y
  | .list es, _, f, q => by rw [flatD] at f; cases f
  | .tuple es, _, f, q => by
    rw [flatD] at f
    cases q with
    | tup hq hz => exact .tup (x.sqT D hq) (RpAll.off D x es _ f hz)
  | .dict _, _, _, q => by cases q
theorem RpAll.off {d g l : Addr} (D : Deck H d g l) (x : Off d g H H') : ∀ (es : List PyData) (zs : List V), flatDs es = true → RpAll K H zs es → RpAll K H' zs es
  | [], _, _, q => by cases q; exact .nil
  | e :: es, _, f, q => by
    rw [flatDs, Bool.and_eq_true] at f
    cases q with
    | cons q1 q2 => exact .cons (Rp.off D x e _ f.1 q1) (RpAll.off D x es _ f.2 q2)
end
theorem RpAll.len : ∀ {zs : List V} {es : List PyData}, RpAll K H zs es → zs.length = es.length
  | _, _, .nil => rfl
  | _, _, .cons _ t => congrArg (· + 1) t.len
theorem RpAll.get : ∀ {zs : List V} {es : List PyData} {i : Nat} {z : V}, RpAll K H zs es → zs[i]? = some z → ∃ e, es[i]? = some e ∧ Rp K H z e
  | _, _, _, _, .nil, h => by simp at h
  | _, _, 0, z, .cons q _, h => by simp at h; subst h; exact ⟨_, rfl, q⟩
  | _, _, i + 1, z, .cons _ t, h => by
    obtain ⟨e, h1, h2⟩ := RpAll.get (i := i) t (by simpa using h)
    exact ⟨e, by simpa using h1, h2⟩
theorem RpAll.get' : ∀ {zs : List V} {es : List PyData} {i : Nat} {e : PyData}, RpAll K H zs es → es[i]? = some e → ∃ z, zs[i]? = some z ∧ Rp K H z e
  | _, _, _, _, .nil, h => by simp at h
  | _, _, 0, e, .cons q _, h => by simp at h; subst h; exact ⟨_, rfl, q⟩
  | _, _, i + 1, e, .cons _ t, h => by
    obtain ⟨z, h1, h2⟩ := RpAll.get' (i := i) t (by simpa using h)
    exact ⟨z, by simpa using h1, h2⟩
theorem RpAll.append : ∀ {zs ys : List V} {es fs : List PyData}, RpAll K H zs es → RpAll K H ys fs → RpAll K H (zs ++ ys) (es ++ fs)
  | _, _, _, _, .nil, s => s
  | _, _, _, _, .cons q t, s => .cons q (t.append s)
theorem rpInts : ∀ ns : List Int, RpAll K H (ns.map V.int) (ns.map PyData.int)
  | [] => .nil
  | n :: ns => .cons (.int n) (rpInts ns)
theorem rpInts_inv : ∀ {ns : List Int} {zs : List V}, RpAll K H zs (ns.map PyData.int) → zs = ns.map V.int
  | [], _, h => by cases h; rfl
  | n :: ns, _, h => by
    cases h with
    | cons q t => cases q; rw [rpInts_inv t]; rfl
/-- sides as data, kinds as data -/
def tupI (ns : List Int) : PyData := .tuple (ns.map PyData.int)
def tupK (nss : List (List Int)) : PyData := .tuple (nss.map tupI)
theorem flat_ints : ∀ ns : List Int, flatDs (ns.map PyData.int) = true
  | [] => rfl
  | n :: ns => by rw [List.map_cons, flatDs, flat_ints ns]; rfl
theorem flat_tupI (ns : List Int) : flatD (tupI ns) = true := by unfold tupI; rw [flatD]; exact flat_ints ns
theorem flat_tupK (nss : List (List Int)) : flatD (tupK nss) = true := by
  unfold tupK
  rw [flatD]
  induction nss with
  | nil => rfl
  | cons n ns ih => rw [List.map_cons, flatDs, flat_tupI, ih]; rfl
theorem rp_tupI {a : Addr} {ns : List Int} (h : SqT K H a (ns.map V.int)) : Rp K H (.ref a) (tupI ns) := .tup h (rpInts ns)
theorem tupI_inv {z : V} {ns : List Int} (h : Rp K H z (tupI ns)) : ∃ a, z = .ref a ∧ SqT K H a (ns.map V.int) := by
  unfold tupI at h
  cases h with
  | tup hs ha => rw [rpInts_inv ha] at hs; exact ⟨_, rfl, hs⟩
theorem tupK_inv {z : V} {nss : List (List Int)} (h : Rp K H z (tupK nss)) : ∃ a xs, z = .ref a ∧ SqT K H a xs ∧ RpAll K H xs (nss.map tupI) := by
  unfold tupK at h
  cases h with
  | tup hs ha => exact ⟨_, _, rfl, hs, ha⟩
theorem sum_le {α : Type} (f : α → Nat) (k : Nat) : ∀ l : List α, (∀ x ∈ l, f x ≤ k) → (l.map f).sum ≤ l.length * k
  | [], _ => Nat.zero_le _
  | x :: l, h => by
    have h1 := h x List.mem_cons_self
    have h2 := sum_le f k l fun y hy => h y (List.mem_cons_of_mem _ hy)
    rw [List.map_cons, List.sum_cons, List.length_cons, Nat.succ_mul]
    omega
end
end TB

namespace TB
open PySem PySem.Spec PyProof.Rows L2 Evl
section
variable {K : PySem.W.Frag} {H : Hp}
mutual
/-- what holds no lists stays when a list changes -/
theorem Rp.mut {L : Addr} {xs : List V} {o : HO} (hL : H L = some (.lst xs)) : ∀ (e : PyData) (z : V), flatD e = true → Rp K H z e → Rp K (upd H L o) z e
  | .none, _, _, q => by cases q; exact .non
  | .bool c, _, _, q => by cases q; exact .bl c
  | .int j, _, _, q => by cases q; exact .int j
  | .str y, _, _, q => by cases q; exact .str y
  | .list es, _, f, q => by rw [flatD] at f; cases f
  | .tuple es, _, f, q => by
    rw [flatD] at f
    cases q with
    | tup hq hz =>
      refine .tup ?_ (rpAll_flat_mut hL es _ f hz)
      rcases hq with (h | ⟨ob, h⟩) | h
      · exact .inl (.inl (by rw [upd_ne (ne_of h hL (by intro z; cases z))]; exact h))
      · exact .inl (.inr ⟨ob, by rw [upd_ne (ne_of h hL (by intro z; cases z))]; exact h⟩)
      · exact .inr h
  | .dict _, _, _, q => by cases q
theorem rpAll_flat_mut {L : Addr} {xs : List V} {o : HO} (hL : H L = some (.lst xs)) : ∀ (es : List PyData) (zs : List V), flatDs es = true → RpAll K H zs es → RpAll K (upd H L o) zs es
  | [], _, _, q => by cases q; exact .nil
  | e :: es, _, f, q => by
    rw [flatDs, Bool.and_eq_true] at f
    cases q with
    | cons q1 q2 => exact .cons (Rp.mut hL e _ f.1 q1) (rpAll_flat_mut hL es _ f.2 q2)
end
theorem flats_tupI : ∀ nss : List (List Int), flatDs (nss.map tupI) = true
  | [] => rfl
  | n :: ns => by rw [List.map_cons, flatDs, flat_tupI, flats_tupI ns]; rfl
end
end TB

namespace TB
open PySem PySem.Spec PyProof.Rows L2 Evl
section
variable {K : PySem.W.Frag} {H : Hp}
theorem cut_take {xs : List V} {k : Nat} : cutV xs none (some (k : Int)) = xs.take k := by
  unfold cutV
  rw [HT.sIx_none, HT.sIx_nat, List.drop_zero, Nat.sub_zero]
  rcases Nat.le_total k xs.length with h | h
  · rw [Nat.min_eq_left h]
  · rw [Nat.min_eq_right h, List.take_of_length_le (Nat.le_refl _), List.take_of_length_le h]
theorem RpAll.take : ∀ {zs : List V} {es : List PyData} (k : Nat), RpAll K H zs es → RpAll K H (zs.take k) (es.take k)
  | _, _, 0, _ => .nil
  | _, _, _ + 1, .nil => .nil
  | _, _, k + 1, .cons q t => .cons q (RpAll.take k t)
theorem RpAll.mem : ∀ {zs : List V} {es : List PyData} {z : V}, RpAll K H zs es → z ∈ zs → ∃ e ∈ es, Rp K H z e
  | _, _, _, .nil, h => by cases h
  | _, _, z, .cons q t, h => by
    rcases List.mem_cons.mp h with h | h
    · subst h; exact ⟨_, List.mem_cons_self, q⟩
    · obtain ⟨e, h1, h2⟩ := t.mem h
      exact ⟨e, List.mem_cons_of_mem _ h1, h2⟩
/-- t[:k] of a tuple of data: the same one, or a new one -/
theorem slA_take {z : V} {ds : List PyData} {k : Nat} {Q : VK} (hz : Rp K H z (.tuple ds)) (q : ∀ v H', Ex H H' → Rp K H' v (.tuple (ds.take k)) → Q v H') : rSlA K z none (some (k : Int)) H Q := by
  cases hz with
  | tup hs ha =>
    rename_i a xs
    refine ⟨a, xs, rfl, hs, fun h => ?_, fun _ p hp => ?_⟩
    · rw [HT.sIx_nat] at h
      have e : ds.take k = ds := List.take_of_length_le (by rw [← ha.len]; have := h.2; omega)
      exact q _ _ (fun _ _ e => e) (by rw [e]; exact .tup hs ha)
    · refine q _ _ (Ex.new hp) (.tup (.inl (.inl upd_same)) ?_)
      rw [cut_take]
      exact RpAll.ex (Ex.new hp) _ _ (ha.take k)
theorem ex_refl : Ex H H := fun _ _ e => e
/-- a list of data, made anew -/
theorem rp_new {p : Addr} {zs : List V} {ds : List PyData} (hp : H p = none) (h : RpAll K H zs ds) : Rp K (upd H p (.lst zs)) (.ref p) (.list ds) := .lst (.inl (.inl upd_same)) (RpAll.ex (Ex.new hp) _ _ h)
theorem rp_newT {p : Addr} {zs : List V} {ds : List PyData} (hp : H p = none) (h : RpAll K H zs ds) : Rp K (upd H p (.tup zs)) (.ref p) (.tuple ds) := .tup (.inl (.inl upd_same)) (RpAll.ex (Ex.new hp) _ _ h)
end
end TB

namespace TB
open PySem PySem.Spec PyProof.Rows L2
/-! readings by name, for a comprehension's block -/
abbrev rLenQ (K : PySem.W.Frag) : List V → Hp → VK → Prop := fun xs H Q => ∃ p ys, xs = [.ref p] ∧ (SqL K H p ys ∨ SqT K H p ys) ∧ Q (.int ys.length) H
abbrev rTupQ (K : PySem.W.Frag) : List V → Hp → VK → Prop := fun xs H Q => ∃ p ys, xs = [.ref p] ∧ ((SqL K H p ys ∧ ∀ l, H l = none → Q (.ref l) (upd H l (.tup ys))) ∨ (SqT K H p ys ∧ Q (.ref p) H))
abbrev rListQ (K : PySem.W.Frag) : List V → Hp → VK → Prop := fun xs H Q => ∃ p ys, xs = [.ref p] ∧ (SqL K H p ys ∨ SqT K H p ys) ∧ ∀ l, H l = none → Q (.ref l) (upd H l (.lst ys))
end TB
set_option Elab.async false
set_option linter.all false
set_option maxRecDepth 100000
/-! Texts of sides and kinds: plain mathematics. -/
namespace TB
open PySem PySem.Spec PyProof.Rows L2
abbrev cs (z : Str) : List Nat := z.cps.toList
theorem cs_app (a b : Str) : cs (a ++ b) = cs a ++ cs b := by show (a ++ b).cps.toList = _; rw [Str.cps_append, Array.toList_append]
theorem cs_len (z : Str) : (cs z).length = z.length := Array.length_toList
theorem cs_ext {a b : Str} (h : cs a = cs b) : a = b := by
  cases a; cases b
  have : ∀ {x y : Array Nat}, x.toList = y.toList → x = y := fun {x y} e => by cases x; cases y; simpa using e
  exact congrArg Str.mk (this h)
/-! ### digits -/
def digs (n : Nat) : List Nat := (Nat.toDigits 10 n).map Char.toNat
theorem digitChar_code : ∀ d : Nat, d < 10 → (Nat.digitChar d).toNat = 48 + d := by decide
theorem digs_lt {n : Nat} (h : n < 10) : digs n = [48 + n] := by
  unfold digs
  rw [Nat.toDigits_of_lt_base h, List.map_singleton, digitChar_code n h]
theorem digs_ge {n : Nat} (h : 10 ≤ n) : digs n = digs (n / 10) ++ [48 + n % 10] := by
  have hm : n % 10 < 10 := Nat.mod_lt n (by decide)
  have t : Nat.toDigits 10 (n / 10) ++ Nat.toDigits 10 (n % 10) = Nat.toDigits 10 (10 * (n / 10) + n % 10) := Nat.toDigits_append_toDigits (by decide) (by omega) hm
  rw [Nat.div_add_mod] at t
  unfold digs
  rw [← t, List.map_append, Nat.toDigits_of_lt_base hm, List.map_singleton, digitChar_code _ hm]
theorem digs_mem : ∀ (n c : Nat), c ∈ digs n → 48 ≤ c ∧ c ≤ 57 := by
  intro n
  induction n using Nat.strongRecOn with
  | _ n ih =>
    intro c hc
    by_cases h : n < 10
    · rw [digs_lt h, List.mem_singleton] at hc; omega
    · rw [digs_ge (by omega), List.mem_append] at hc
      rcases hc with hc | hc
      · exact ih _ (by omega) c hc
      · rw [List.mem_singleton] at hc; omega
theorem digs_ne (n : Nat) : digs n ≠ [] := by
  by_cases h : n < 10
  · rw [digs_lt h]; simp
  · rw [digs_ge (by omega)]; simp
theorem digs_len {n : Nat} (h : n ≤ 1000000000000) : (digs n).length ≤ 13 := by
  unfold digs
  rw [List.length_map]
  exact digits10_le (by decide) (by omega)
def numS (n : Int) : Str := Str.ofString (toString n)
theorem cs_num {n : Int} (h : 0 ≤ n) : cs (numS n) = digs n.toNat := by
  obtain ⟨m, rfl⟩ := Int.eq_ofNat_of_zero_le h
  exact PySem.W.KIN.signs_num m
/-! ### reading numbers -/
def MS : Int := 1000000000000
def scan : List Nat → Int → Nat → Int × Nat
  | [], a, p => (a, p)
  | c :: r, a, p => if 48 ≤ c ∧ c ≤ 57 ∧ 1 ≤ a * 10 + ((c : Int) - 48) ∧ a * 10 + ((c : Int) - 48) ≤ MS then scan r (a * 10 + ((c : Int) - 48)) (p + 1) else (a, p)
def NoDigit (r : List Nat) : Prop := ∀ c t, r = c :: t → ¬ (48 ≤ c ∧ c ≤ 57)
theorem scan_stop {r : List Nat} {a : Int} {p : Nat} (h : NoDigit r) : scan r a p = (a, p) := by
  cases r with
  | nil => rfl
  | cons c t =>
    have := h c t rfl
    unfold scan
    rw [if_neg (fun q => this ⟨q.1, q.2.1⟩)]
theorem scan_digs : ∀ (n : Nat), 1 ≤ n → (n : Int) ≤ MS → ∀ (r : List Nat) (p : Nat), scan (digs n ++ r) 0 p = scan r n (p + (digs n).length) := by
  intro n
  induction n using Nat.strongRecOn with
  | _ n ih =>
    intro h1 h2 r p
    have hms : MS = 1000000000000 := rfl
    by_cases h : n < 10
    · rw [digs_lt h]
      show scan ((48 + n) :: r) 0 p = _
      rw [scan, if_pos (by refine ⟨?_, ?_, ?_, ?_⟩ <;> omega)]
      congr 1
      omega
    · rw [digs_ge (by omega), List.append_assoc, ih (n / 10) (by omega) (by omega) (by omega)]
      show scan ((48 + n % 10) :: r) _ _ = _
      rw [scan, if_pos (by refine ⟨?_, ?_, ?_, ?_⟩ <;> omega), List.length_append]
      congr 1
      omega
theorem scan_rng : ∀ (l : List Nat) (a : Int) (p : Nat), 0 ≤ a → a ≤ MS → 0 ≤ (scan l a p).1 ∧ (scan l a p).1 ≤ MS ∧ p ≤ (scan l a p).2 ∧ (scan l a p).2 ≤ p + l.length
  | [], a, p, h1, h2 => ⟨h1, h2, Nat.le_refl _, Nat.le_refl _⟩
  | c :: r, a, p, h1, h2 => by
    unfold scan
    by_cases h : 48 ≤ c ∧ c ≤ 57 ∧ 1 ≤ a * 10 + ((c : Int) - 48) ∧ a * 10 + ((c : Int) - 48) ≤ MS
    · rw [if_pos h]
      have := scan_rng r (a * 10 + ((c : Int) - 48)) (p + 1) (by omega) h.2.2.2
      rw [List.length_cons]
      omega
    · rw [if_neg h]
      exact ⟨h1, h2, Nat.le_refl _, Nat.le_add_right _ _⟩
/-- the sides whose text begins at p, at most k of them; a wrong sign's place -/
def sidesL (c : List Nat) : Nat → List Int → Nat → Except Nat (List Int × Nat)
  | 0, _, p => .error p
  | k + 1, acc, p =>
    let r := scan (c.drop p) 0 p
    if r.1 = 0 then .error r.2
    else if k = 0 ∨ r.2 = c.length ∨ c[r.2]? ≠ some 120 then .ok (acc ++ [r.1], r.2)
    else sidesL c k (acc ++ [r.1]) (r.2 + 1)
/-- the same, least of them at least -/
def sidesAt (c : List Nat) (p least most : Nat) : Except Nat (List Int × Nat) :=
  match sidesL c most [] p with
  | .ok (ns, q) => if ns.length < least then .error q else .ok (ns, q)
  | .error q => .error q
def parseS (c : List Nat) : Except Nat (List Int) :=
  match sidesAt c 0 1 4 with
  | .ok (ns, q) => if q < c.length then .error q else .ok ns
  | .error q => .error q
def kindsL (c : List Nat) (n : Nat) : Nat → List (List Int) → Nat → Except Nat (List (List Int))
  | k, acc, p =>
    if p < c.length then
      if c[p]? ≠ some 32 then .error p
      else match k with
        | 0 => .error p
        | k + 1 => match sidesAt c (p + 1) n n with
          | .ok (ns, q) => kindsL c n k (acc ++ [ns]) q
          | .error q => .error q
    else .ok acc
def parseK (c : List Nat) : Except Nat (List (List Int)) :=
  match sidesAt c 0 1 4 with
  | .ok (ns, q) => kindsL c ns.length 3 [ns] q
  | .error q => .error q
/-! ### the texts -/
def gl (sep : List Nat) : List (List Nat) → List Nat
  | [] => []
  | [x] => x
  | x :: r => x ++ sep ++ gl sep r
theorem cs_join (sep : Str) : ∀ ys : List Str, cs (Txt.join sep ys) = gl (cs sep) (ys.map cs) := by
  intro ys
  show cs (Builtin.Str.glued sep ys) = _
  rw [StrLaws.glued_eq_join]
  induction ys with
  | nil => rfl
  | cons x r ih =>
    cases r with
    | nil => rfl
    | cons y r =>
      show cs (x ++ sep ++ Str.join sep (y :: r)) = cs x ++ cs sep ++ gl (cs sep) ((y :: r).map cs)
      rw [cs_app, cs_app, ih]
def sideT (ns : List Int) : Str := Txt.join "x" (ns.map numS)
def kindT (nss : List (List Int)) : Str := Txt.join " " (nss.map sideT)
def sideC (ns : List Int) : List Nat := gl [120] (ns.map fun n => digs n.toNat)
def kindC (nss : List (List Int)) : List Nat := gl [32] (nss.map sideC)
def SideOk (ns : List Int) : Prop := 1 ≤ ns.length ∧ ns.length ≤ 4 ∧ ∀ n ∈ ns, 1 ≤ n ∧ n ≤ MS
theorem cs_side {ns : List Int} (h : ∀ n ∈ ns, 1 ≤ n ∧ n ≤ MS) : cs (sideT ns) = sideC ns := by
  unfold sideT sideC
  rw [cs_join, List.map_map]
  have : cs ("x" : Str) = [120] := by decide +kernel
  rw [this]
  congr 1
  refine List.map_congr_left fun n hn => ?_
  exact cs_num (by have := (h n hn).1; omega)
theorem cs_kind {nss : List (List Int)} (h : ∀ ns ∈ nss, ∀ n ∈ ns, 1 ≤ n ∧ n ≤ MS) : cs (kindT nss) = kindC nss := by
  unfold kindT kindC
  rw [cs_join, List.map_map]
  have : cs (" " : Str) = [32] := by decide +kernel
  rw [this]
  congr 1
  exact List.map_congr_left fun ns hn => cs_side (h ns hn)
/-- what may stand behind sides that are at an end -/
def Behind (r : List Nat) : Prop := ∀ c t, r = c :: t → c = 32
theorem sidesL_text : ∀ (ns : List Int) (k : Nat) (acc : List Int) (pre r : List Nat), 1 ≤ ns.length → ns.length ≤ k → (∀ n ∈ ns, 1 ≤ n ∧ n ≤ MS) → Behind r →
    sidesL (pre ++ (sideC ns ++ r)) k acc pre.length = .ok (acc ++ ns, (pre ++ sideC ns).length)
  | [], _, _, _, _, h, _, _, _ => by simp at h
  | n :: ns, 0, _, _, _, _, h, _, _ => by simp at h
  | n :: ns, k + 1, acc, pre, r, h1, h2, h3, h4 => by
    have hn := h3 n List.mem_cons_self
    have hN : ((n.toNat : Nat) : Int) = n := Int.toNat_of_nonneg (by omega)
    have nr : NoDigit r := fun c t e q => by have := h4 c t e; omega
    unfold sidesL
    rw [List.drop_left]
    cases ns with
    | nil =>
      have e : sideC [n] = digs n.toNat := rfl
      rw [e, scan_digs _ (by omega) (by rw [hN]; exact hn.2), scan_stop nr, hN]
      dsimp only
      rw [if_neg (by omega), if_pos, List.length_append]
      by_cases hk : k = 0
      · exact .inl hk
      · right
        cases r with
        | nil => left; simp
        | cons c t =>
          right
          have hc := h4 c t rfl
          rw [← List.append_assoc, ← List.length_append, List.getElem?_append_right (Nat.le_refl _), Nat.sub_self, hc]
          simp
    | cons m ns =>
      have e : sideC (n :: m :: ns) = digs n.toNat ++ [120] ++ sideC (m :: ns) := rfl
      have nx : NoDigit ([120] ++ (sideC (m :: ns) ++ r)) := fun c t e q => by
        have e2 : 120 = c := (List.cons.inj e).1
        omega
      rw [e, List.append_assoc, List.append_assoc, List.append_assoc, scan_digs _ (by omega) (by rw [hN]; exact hn.2), scan_stop nx, hN]
      dsimp only
      rw [if_neg (by omega), if_neg]
      · have ih := sidesL_text (m :: ns) k (acc ++ [n]) (pre ++ digs n.toNat ++ [120]) r (by simp) (by simp at h2 ⊢; omega) (fun x hx => h3 x (List.mem_cons_of_mem _ hx)) h4
        have e1 : pre ++ digs n.toNat ++ [120] ++ (sideC (m :: ns) ++ r) = pre ++ (digs n.toNat ++ ([120] ++ (sideC (m :: ns) ++ r))) := by simp
        rw [e1] at ih
        have e2 : (pre ++ digs n.toNat ++ [120]).length = pre.length + (digs n.toNat).length + 1 := by simp; omega
        rw [e2] at ih
        rw [ih]
        congr 2
        · simp
        · simp
      · intro q
        rcases q with q | q | q
        · simp at h2; omega
        · simp at q
        · apply q
          rw [← List.append_assoc, ← List.length_append, List.getElem?_append_right (Nat.le_refl _), Nat.sub_self]
          rfl
theorem sidesAt_text {ns : List Int} {k l : Nat} (pre r : List Nat) (h1 : 1 ≤ ns.length) (h2 : ns.length ≤ k) (hl : l ≤ ns.length) (h3 : ∀ n ∈ ns, 1 ≤ n ∧ n ≤ MS) (h4 : Behind r) :
    sidesAt (pre ++ (sideC ns ++ r)) pre.length l k = .ok (ns, (pre ++ sideC ns).length) := by
  unfold sidesAt
  rw [sidesL_text ns k [] pre r h1 h2 h3 h4]
  dsimp only
  rw [List.nil_append, if_neg (by omega)]
theorem parseS_text {ns : List Int} (h : SideOk ns) : parseS (sideC ns) = .ok ns := by
  have e := sidesAt_text (l := 1) (k := 4) [] [] h.1 h.2.1 h.1 h.2.2 (fun c t e => nomatch e)
  simp only [List.nil_append, List.append_nil, List.length_nil] at e
  unfold parseS
  rw [e]
  dsimp only
  rw [if_neg (Nat.lt_irrefl _)]
theorem kindsL_text : ∀ (nss : List (List Int)) (n k : Nat) (acc : List (List Int)) (pre : List Nat), nss.length ≤ k → 1 ≤ n → (∀ ns ∈ nss, ns.length = n ∧ ∀ m ∈ ns, 1 ≤ m ∧ m ≤ MS) →
    kindsL (pre ++ (nss.map fun ns => 32 :: sideC ns).flatten) n k acc pre.length = .ok (acc ++ nss)
  | [], n, k, acc, pre, _, _, _ => by
    unfold kindsL
    rw [if_neg (by simp)]
    simp
  | ns :: nss, n, 0, acc, pre, h, _, _ => by simp at h
  | ns :: nss, n, k + 1, acc, pre, h, h1, h2 => by
    have hn := h2 ns List.mem_cons_self
    unfold kindsL
    rw [if_pos (by simp)]
    have g : (pre ++ (List.map (fun ns => 32 :: sideC ns) (ns :: nss)).flatten)[pre.length]? = some 32 := by
      rw [List.getElem?_append_right (Nat.le_refl _), Nat.sub_self]
      rfl
    rw [if_neg (by rw [g]; simp)]
    dsimp only
    have bh : Behind (List.map (fun ns => 32 :: sideC ns) nss).flatten := fun c t e => by
      cases nss with
      | nil => exact nomatch e
      | cons a b =>
        have : 32 = c := (List.cons.inj e).1
        exact this.symm
    have e := sidesAt_text (ns := ns) (l := n) (k := n) (pre ++ [32]) (List.map (fun ns => 32 :: sideC ns) nss).flatten (by omega) (by omega) (by omega) hn.2 bh
    have e1 : pre ++ [32] ++ (sideC ns ++ (List.map (fun ns => 32 :: sideC ns) nss).flatten) = pre ++ (List.map (fun ns => 32 :: sideC ns) (ns :: nss)).flatten := by simp
    have e2 : (pre ++ [32]).length = pre.length + 1 := by simp
    rw [e1, e2] at e
    rw [e]
    dsimp only
    have ih := kindsL_text nss n k (acc ++ [ns]) (pre ++ [32] ++ sideC ns) (by simp at h; omega) h1 fun x hx => h2 x (List.mem_cons_of_mem _ hx)
    have e3 : pre ++ [32] ++ sideC ns ++ (List.map (fun ns => 32 :: sideC ns) nss).flatten = pre ++ (List.map (fun ns => 32 :: sideC ns) (ns :: nss)).flatten := by simp
    rw [e3] at ih
    rw [ih]
    simp
theorem kindC_cons (ns : List Int) : ∀ nss : List (List Int), kindC (ns :: nss) = sideC ns ++ (nss.map fun ns => 32 :: sideC ns).flatten
  | [] => by simp [kindC, gl]
  | m :: nss => by
    show sideC ns ++ [32] ++ kindC (m :: nss) = _
    rw [kindC_cons m nss]
    simp
def KindOk (nss : List (List Int)) (n : Nat) : Prop := 1 ≤ n ∧ n ≤ 4 ∧ 1 ≤ nss.length ∧ nss.length ≤ 4 ∧ ∀ ns ∈ nss, ns.length = n ∧ ∀ m ∈ ns, 1 ≤ m ∧ m ≤ MS
theorem parseK_text {nss : List (List Int)} {n : Nat} (h : KindOk nss n) : parseK (kindC nss) = .ok nss := by
  obtain ⟨h1, h2, h3, h4, h5⟩ := h
  cases nss with
  | nil => simp at h3
  | cons ns nss =>
    have hn := h5 ns List.mem_cons_self
    have bh : Behind (List.map (fun ns => 32 :: sideC ns) nss).flatten := fun c t e => by
      cases nss with
      | nil => exact nomatch e
      | cons a b =>
        have : 32 = c := (List.cons.inj e).1
        exact this.symm
    have e := sidesAt_text (ns := ns) (l := 1) (k := 4) [] (List.map (fun ns => 32 :: sideC ns) nss).flatten (by omega) (by omega) (by omega) hn.2 bh
    simp only [List.nil_append, List.length_nil] at e
    unfold parseK
    rw [kindC_cons, e]
    dsimp only
    have k := kindsL_text nss ns.length 3 [ns] (sideC ns) (by simp at h4; omega) (by omega) fun x hx => by
      have := h5 x (List.mem_cons_of_mem _ hx)
      exact ⟨by omega, this.2⟩
    rw [k]
    rfl
/-! ### sizes -/
theorem gl_len (sep : List Nat) : ∀ (l : List (List Nat)) (k : Nat), (∀ x ∈ l, x.length ≤ k) → (gl sep l).length ≤ l.length * (k + sep.length)
  | [], _, _ => Nat.zero_le _
  | [x], k, h => by
    have := h x List.mem_cons_self
    show x.length ≤ 1 * _
    omega
  | x :: y :: r, k, h => by
    have h1 := h x List.mem_cons_self
    have h2 := gl_len sep (y :: r) k fun z hz => h z (List.mem_cons_of_mem _ hz)
    show (x ++ sep ++ gl sep (y :: r)).length ≤ (r.length + 1 + 1) * _
    rw [List.length_append, List.length_append, Nat.succ_mul]
    have : (y :: r).length = r.length + 1 := rfl
    rw [this] at h2
    omega
theorem sideC_len {ns : List Int} (h : ns.length ≤ 4) (h2 : ∀ n ∈ ns, 1 ≤ n ∧ n ≤ MS) : (sideC ns).length ≤ 56 := by
  have hms : MS = 1000000000000 := rfl
  have := gl_len [120] (ns.map fun n => digs n.toNat) 13 fun x hx => by
    obtain ⟨n, hn, rfl⟩ := List.mem_map.mp hx
    have := h2 n hn
    exact digs_len (by omega)
  rw [List.length_map] at this
  show (gl [120] _).length ≤ 56
  have e : ([120] : List Nat).length = 1 := rfl
  rw [e] at this
  omega
theorem kindC_len {nss : List (List Int)} (h : nss.length ≤ 4) (h2 : ∀ ns ∈ nss, ns.length ≤ 4 ∧ ∀ n ∈ ns, 1 ≤ n ∧ n ≤ MS) : (kindC nss).length ≤ 228 := by
  have := gl_len [32] (nss.map sideC) 56 fun x hx => by
    obtain ⟨ns, hn, rfl⟩ := List.mem_map.mp hx
    exact sideC_len (h2 ns hn).1 (h2 ns hn).2
  rw [List.length_map] at this
  show (gl [32] _).length ≤ 228
  have e : ([32] : List Nat).length = 1 := rfl
  rw [e] at this
  omega
/-! ### a sign among the digits -/
theorem find_digit (c : Nat) : Txt.find ("0123456789" : Str) ⟨#[c]⟩ = if 48 ≤ c ∧ c ≤ 57 then (c : Int) - 48 else -1 := by
  by_cases h : 48 ≤ c ∧ c ≤ 57
  · rw [if_pos h]
    obtain ⟨h1, h2⟩ := h
    have : c = 48 ∨ c = 49 ∨ c = 50 ∨ c = 51 ∨ c = 52 ∨ c = 53 ∨ c = 54 ∨ c = 55 ∨ c = 56 ∨ c = 57 := by omega
    rcases this with rfl | rfl | rfl | rfl | rfl | rfl | rfl | rfl | rfl | rfl <;> decide +kernel
  · rw [if_neg h]
    have e := StrLaws.found_one ("0123456789" : Str) c
    have e2 : decide (c ∈ ("0123456789" : Str).cps.toList) = false := by
      have : ("0123456789" : Str).cps.toList = [48, 49, 50, 51, 52, 53, 54, 55, 56, 57] := by decide +kernel
      rw [this]
      refine decide_eq_false ?_
      simp only [List.mem_cons, List.not_mem_nil, or_false]
      omega
    rw [e2] at e
    unfold Txt.find
    cases ho : Builtin.Str.occurrences ("0123456789" : Str) ⟨#[c]⟩ 0 ("0123456789" : Str).length 1 with
    | nil => rfl
    | cons a b => rw [ho] at e; cases e
/-! ### what repr asks of data: their texts are not too long -/
structure Fit (n k : Nat) (d : PyData) : Prop where
  sh : d.showable = true
  len : d.shown.length ≤ n
  dp : d.depth ≤ k
theorem Fit.mono {n m k j : Nat} {d : PyData} (h : Fit n k d) (h1 : n ≤ m) (h2 : k ≤ j) : Fit m j d := ⟨h.sh, Nat.le_trans h.len h1, Nat.le_trans h.dp h2⟩
theorem fit_all {n k : Nat} : ∀ ds : List PyData, (∀ d ∈ ds, Fit n k d) → PyData.showableAll ds = true ∧ PyData.depthAll ds ≤ k ∧ ((PyData.shownAll ds).map (·.length)).sum ≤ ds.length * n ∧ (PyData.shownAll ds).length = ds.length
  | [], _ => ⟨rfl, Nat.zero_le _, Nat.zero_le _, rfl⟩
  | d :: ds, h => by
    obtain ⟨a, b, c, e⟩ := fit_all ds fun x hx => h x (List.mem_cons_of_mem _ hx)
    have f := h d List.mem_cons_self
    refine ⟨by rw [PyData.showableAll, f.sh, a]; rfl, by rw [PyData.depthAll]; have := f.dp; omega, ?_, by rw [PyData.shownAll, List.length_cons, e]; rfl⟩
    rw [PyData.shownAll, List.map_cons, List.sum_cons, List.length_cons, Nat.succ_mul]
    have := f.len
    omega
theorem Fit.list {n k : Nat} {ds : List PyData} (h : ∀ d ∈ ds, Fit n k d) : Fit (ds.length * n + 2 * ds.length + 3) (k + 1) (.list ds) := by
  obtain ⟨a, b, c, e⟩ := fit_all ds h
  refine ⟨by rw [PyData.showable]; exact a, ?_, by rw [PyData.depth]; omega⟩
  have := listText_len_le (PyData.shownAll ds)
  rw [PyData.shown]
  omega
theorem Fit.tuple {n k : Nat} {ds : List PyData} (h : ∀ d ∈ ds, Fit n k d) : Fit (ds.length * n + 2 * ds.length + 3) (k + 1) (.tuple ds) := by
  obtain ⟨a, b, c, e⟩ := fit_all ds h
  refine ⟨by rw [PyData.showable]; exact a, ?_, by rw [PyData.depth]; omega⟩
  have := tupleText_len_le (PyData.shownAll ds)
  rw [PyData.shown]
  omega
theorem fit_int {i : Int} (h : 0 ≤ i) (h2 : i ≤ MS) : Fit 13 0 (.int i) := by
  have hms : MS = 1000000000000 := rfl
  refine ⟨?_, ?_, Nat.le_refl _⟩
  · rw [PyData.showable]
    refine decide_eq_true ?_
    by_cases h0 : i.natAbs = 0
    · rw [h0]; decide
    · exact Nat.lt_of_lt_of_le ((Nat.log2_lt h0).mpr (show i.natAbs < 2 ^ 41 by omega)) (by decide)
  · show (numS i).length ≤ 13
    rw [← cs_len, cs_num h]
    exact digs_len (by omega)
theorem fit_str {x : Str} {n : Nat} (h : x.length ≤ n) (hc : ∀ c ∈ cs x, c < 16 ^ 8) : Fit (10 * n + 2) 0 (.str x) := by
  refine ⟨rfl, ?_, Nat.le_refl _⟩
  have := StrLaws.reprText_len x hc
  rw [PyData.shown]
  omega
theorem gl_mem {sep : List Nat} {c : Nat} : ∀ {l : List (List Nat)}, c ∈ gl sep l → c ∈ sep ∨ ∃ x ∈ l, c ∈ x
  | [], h => by cases h
  | [x], h => .inr ⟨x, List.mem_cons_self, h⟩
  | x :: y :: r, h => by
    have h' : c ∈ x ++ sep ++ gl sep (y :: r) := h
    rcases List.mem_append.mp h' with h1 | h1
    · rcases List.mem_append.mp h1 with h2 | h2
      · exact .inr ⟨x, List.mem_cons_self, h2⟩
      · exact .inl h2
    · rcases gl_mem h1 with h2 | ⟨z, hz, h2⟩
      · exact .inl h2
      · exact .inr ⟨z, List.mem_cons_of_mem _ hz, h2⟩
theorem side_code {ns : List Int} {c : Nat} (h : c ∈ sideC ns) : c < 1000 := by
  rcases gl_mem h with h | ⟨x, hx, h⟩
  · rw [List.mem_singleton.mp h]; decide
  · obtain ⟨n, _, rfl⟩ := List.mem_map.mp hx
    have := digs_mem _ _ h
    omega
theorem kind_code {nss : List (List Int)} {c : Nat} (h : c ∈ kindC nss) : c < 1000 := by
  rcases gl_mem h with h | ⟨x, hx, h⟩
  · rw [List.mem_singleton.mp h]; decide
  · obtain ⟨n, _, rfl⟩ := List.mem_map.mp hx
    exact side_code h
theorem fit_side {ns : List Int} (h : ns.length ≤ 4) (h2 : ∀ n ∈ ns, 1 ≤ n ∧ n ≤ MS) : Fit 3000 0 (.str (sideT ns)) := by
  refine (fit_str (n := 56) ?_ fun c hc => ?_).mono (by decide) (Nat.le_refl _)
  · rw [← cs_len, cs_side h2]; exact sideC_len h h2
  · rw [cs_side h2] at hc
    exact Nat.lt_of_lt_of_le (side_code hc) (by decide)
theorem fit_kind {nss : List (List Int)} (h : nss.length ≤ 4) (h2 : ∀ ns ∈ nss, ns.length ≤ 4 ∧ ∀ n ∈ ns, 1 ≤ n ∧ n ≤ MS) : Fit 3000 0 (.str (kindT nss)) := by
  have e := cs_kind fun ns hn => (h2 ns hn).2
  refine (fit_str (n := 228) ?_ fun c hc => ?_).mono (by decide) (Nat.le_refl _)
  · rw [← cs_len, e]; exact kindC_len h h2
  · rw [e] at hc
    exact Nat.lt_of_lt_of_le (kind_code hc) (by decide)
theorem fit_tupI {ns : List Int} (h : ns.length ≤ 4) (h2 : ∀ n ∈ ns, 1 ≤ n ∧ n ≤ MS) : Fit 100 1 (tupI ns) := by
  have := Fit.tuple (n := 13) (k := 0) (ds := ns.map PyData.int) fun d hd => by
    obtain ⟨n, hn, rfl⟩ := List.mem_map.mp hd
    have := h2 n hn
    exact fit_int (by omega) this.2
  rw [List.length_map] at this
  exact this.mono (by omega) (Nat.le_refl _)
theorem fit_tupK {nss : List (List Int)} (h : nss.length ≤ 4) (h2 : ∀ ns ∈ nss, ns.length ≤ 4 ∧ ∀ n ∈ ns, 1 ≤ n ∧ n ≤ MS) : Fit 3000 2 (tupK nss) := by
  have := Fit.tuple (n := 100) (k := 1) (ds := nss.map tupI) fun d hd => by
    obtain ⟨ns, hn, rfl⟩ := List.mem_map.mp hd
    exact fit_tupI (h2 ns hn).1 (h2 ns hn).2
  rw [List.length_map] at this
  exact this.mono (by omega) (Nat.le_refl _)
theorem sizeLine_big {n : Nat} (h : n ≤ 100000) : n ≤ sizeLine := Nat.le_trans h (by decide)
end TB
set_option Elab.async false
set_option linter.all false
set_option maxRecDepth 100000
/-! A layer over data: what an expression evaluates to, said of data (PyData), the heap's bookkeeping hidden in one state St. -/
namespace DL
open PySem PySem.Spec PyProof.Rows L2 Evl TB
mutual
/-- v stands for the data e, none of its objects at an address of N -/
inductive Rg (N : Addr → Prop) (H : Hp) : V → PyData → Prop
  | non : Rg N H .non .none
  | bl (b : Bool) : Rg N H (.bl b) (.bool b)
  | int (i : Int) : Rg N H (.int i) (.int i)
  | str (x : Str) : Rg N H (.str x) (.str x)
  | lst {a : Addr} {xs : List V} {ds : List PyData} : H a = some (.lst xs) → ¬ N a → RgAll N H xs ds → Rg N H (.ref a) (.list ds)
  | tup {a : Addr} {xs : List V} {ds : List PyData} : H a = some (.tup xs) → ¬ N a → RgAll N H xs ds → Rg N H (.ref a) (.tuple ds)
  | dic {a : Addr} : H a = some (.dK []) → ¬ N a → Rg N H (.ref a) (.dict [])
inductive RgAll (N : Addr → Prop) (H : Hp) : List V → List PyData → Prop
  | nil : RgAll N H [] []
  | cons {v : V} {vs : List V} {d : PyData} {ds : List PyData} : Rg N H v d → RgAll N H vs ds → RgAll N H (v :: vs) (d :: ds)
end
mutual
def hasL : PyData → Bool
  | .none | .bool _ | .int _ | .str _ => false
  | .list _ => true
  | .tuple ds => hasLs ds
  | .dict _ => false
def hasLs : List PyData → Bool
  | [] => false
  | d :: ds => hasL d || hasLs ds
end
/-- not both a list and a dict in it -/
def okD (e : PyData) : Bool := !(e.hasDict) || !(hasL e)
section
variable {N M : Addr → Prop} {H H' : Hp}
mutual
theorem Rg.to (x : ∀ a o, H a = some o → ¬ N a → H' a = some o ∧ ¬ M a) : ∀ (e : PyData) (z : V), Rg N H z e → Rg M H' z e
  | .none, _, q => by cases q; exact .non
  | .bool c, _, q => by cases q; exact .bl c
  | .int j, _, q => by cases q; exact .int j
  | .str y, _, q => by cases q; exact .str y
  | .list es, _, q => by
    cases q with
    | lst h n r => exact .lst (x _ _ h n).1 (x _ _ h n).2 (RgAll.to x es _ r)
  | .tuple es, _, q => by
    cases q with
    | tup h n r => exact .tup (x _ _ h n).1 (x _ _ h n).2 (RgAll.to x es _ r)
  | .dict es, _, q => by
    cases q with
    | dic h n => exact .dic (x _ _ h n).1 (x _ _ h n).2
theorem RgAll.to (x : ∀ a o, H a = some o → ¬ N a → H' a = some o ∧ ¬ M a) : ∀ (es : List PyData) (zs : List V), RgAll N H zs es → RgAll M H' zs es
  | [], _, q => by cases q; exact .nil
  | e :: es, _, q => by
    cases q with
    | cons q1 q2 => exact .cons (Rg.to x e _ q1) (RgAll.to x es _ q2)
end
theorem Rg.ex {v : V} {e : PyData} (x : Ex H H') (r : Rg N H v e) : Rg N H' v e := Rg.to (fun a o h n => ⟨x a o h, n⟩) e v r
theorem RgAll.ex {vs : List V} {es : List PyData} (x : Ex H H') (r : RgAll N H vs es) : RgAll N H' vs es := RgAll.to (fun a o h n => ⟨x a o h, n⟩) es vs r
theorem Rg.sub {v : V} {e : PyData} (x : ∀ a, M a → N a) (r : Rg N H v e) : Rg M H v e := Rg.to (fun a o h n => ⟨h, fun q => n (x a q)⟩) e v r
theorem RgAll.len : ∀ {zs : List V} {es : List PyData}, RgAll N H zs es → zs.length = es.length
  | _, _, .nil => rfl
  | _, _, .cons _ t => congrArg (· + 1) t.len
theorem RgAll.get : ∀ {zs : List V} {es : List PyData} {i : Nat} {z : V}, RgAll N H zs es → zs[i]? = some z → ∃ e, es[i]? = some e ∧ Rg N H z e
  | _, _, _, _, .nil, h => by simp at h
  | _, _, 0, z, .cons q _, h => by simp at h; subst h; exact ⟨_, rfl, q⟩
  | _, _, i + 1, z, .cons _ t, h => by
    obtain ⟨e, h1, h2⟩ := RgAll.get (i := i) t (by simpa using h)
    exact ⟨e, by simpa using h1, h2⟩
theorem RgAll.get' : ∀ {zs : List V} {es : List PyData} {i : Nat} {e : PyData}, RgAll N H zs es → es[i]? = some e → ∃ z, zs[i]? = some z ∧ Rg N H z e
  | _, _, _, _, .nil, h => by simp at h
  | _, _, 0, e, .cons q _, h => by simp at h; subst h; exact ⟨_, rfl, q⟩
  | _, _, i + 1, e, .cons _ t, h => by
    obtain ⟨z, h1, h2⟩ := RgAll.get' (i := i) t (by simpa using h)
    exact ⟨z, by simpa using h1, h2⟩
theorem RgAll.app : ∀ {zs ys : List V} {es fs : List PyData}, RgAll N H zs es → RgAll N H ys fs → RgAll N H (zs ++ ys) (es ++ fs)
  | _, _, _, _, .nil, s => s
  | _, _, _, _, .cons q t, s => .cons q (t.app s)
theorem RgAll.take : ∀ {zs : List V} {es : List PyData} (k : Nat), RgAll N H zs es → RgAll N H (zs.take k) (es.take k)
  | _, _, 0, _ => .nil
  | _, _, _ + 1, .nil => .nil
  | _, _, k + 1, .cons q t => .cons q (RgAll.take k t)
theorem RgAll.drop : ∀ {zs : List V} {es : List PyData} (k : Nat), RgAll N H zs es → RgAll N H (zs.drop k) (es.drop k)
  | _, _, 0, r => r
  | _, _, _ + 1, .nil => .nil
  | _, _, k + 1, .cons _ t => RgAll.drop k t
theorem RgAll.rev : ∀ {zs : List V} {es : List PyData}, RgAll N H zs es → RgAll N H zs.reverse es.reverse
  | _, _, .nil => .nil
  | _, _, .cons q t => by
    rw [List.reverse_cons, List.reverse_cons]
    exact t.rev.app (.cons q .nil)
theorem RgAll.mem : ∀ {zs : List V} {es : List PyData} {z : V}, RgAll N H zs es → z ∈ zs → ∃ e ∈ es, Rg N H z e
  | _, _, _, .nil, h => by cases h
  | _, _, z, .cons q t, h => by
    rcases List.mem_cons.mp h with h | h
    · subst h; exact ⟨_, List.mem_cons_self, q⟩
    · obtain ⟨e, h1, h2⟩ := t.mem h
      exact ⟨e, List.mem_cons_of_mem _ h1, h2⟩
theorem rgInts : ∀ ns : List Int, RgAll N H (ns.map V.int) (ns.map PyData.int)
  | [] => .nil
  | n :: ns => .cons (.int n) (rgInts ns)
theorem rgStrs : ∀ ns : List Str, RgAll N H (ns.map V.str) (ns.map PyData.str)
  | [] => .nil
  | n :: ns => .cons (.str n) (rgStrs ns)
theorem rgInts_inv : ∀ {ns : List Int} {zs : List V}, RgAll N H zs (ns.map PyData.int) → zs = ns.map V.int
  | [], _, h => by cases h; rfl
  | n :: ns, _, h => by
    cases h with
    | cons q t => cases q; rw [rgInts_inv t]; rfl
end
/-! ### repr -/
section
variable {X : Cx} {pins : List (Addr × Obj)} {σ : L2.St} {N : Addr → Prop} {H : Hp} {s : Shared}
mutual
theorem Rg.reads (J : Inv X pins σ H s) : ∀ (e : PyData) (z : V) (y : Value), Rg N H z e → RelV z y → ∃ as, Reads s.heap y e as ∧ (hasL e = false → sysModules ∉ as)
  | .none, _, _, q, r => by cases q; cases r; exact ⟨_, Reads.none, fun _ h => nomatch h⟩
  | .bool c, _, _, q, r => by cases q; cases r; exact ⟨_, Reads.bool c, fun _ h => nomatch h⟩
  | .int j, _, _, q, r => by cases q; obtain ⟨tk, rfl⟩ := r; exact ⟨_, Reads.int j tk, fun _ h => nomatch h⟩
  | .str y, _, _, q, r => by cases q; obtain ⟨tk, rfl⟩ := r; exact ⟨_, Reads.str y tk, fun _ h => nomatch h⟩
  | .list es, _, _, q, r => by
    cases q with
    | lst hq _ hz =>
      cases r
      obtain ⟨iq, rz, ⟨oq, nq, hoq, hcq, _, hdq⟩, _⟩ := J.list (.inl (.inl hq))
      obtain ⟨as, hr, _⟩ := Rg.readsAll J es _ iq hz rz
      exact ⟨_, Reads.list hoq hcq hdq hr, fun h => by rw [hasL] at h; cases h⟩
  | .tuple es, _, _, q, r => by
    cases q with
    | tup hq _ hz =>
      cases r
      obtain ⟨iq, rz, ⟨oq, hoq, hcq, nq, hdq⟩, _⟩ := J.tuple (.inl (.inl hq))
      obtain ⟨as, hr, hn⟩ := Rg.readsAll J es _ iq hz rz
      exact ⟨_, Reads.tuple hoq hcq hdq hr, fun h => hn (by rw [hasL] at h; exact h)⟩
  | .dict es, _, _, q, r => by
    cases q with
    | dic hq _ =>
      cases r
      obtain ⟨_, hne, vs, kv, o, es, ep, ho, ⟨hc, _⟩, hd, _, hp, _⟩ := J.hok _ _ hq
      cases kv
      have e0 : es.toList = [] := by
        cases h : es.toList with
        | nil => rfl
        | cons a b => rw [h] at hp; cases hp
      refine ⟨_, Reads.dict ho hc hd (by rw [e0]; exact .nil) (by rw [e0]; exact .nil), fun _ hm => ?_⟩
      simp only [List.append_nil, List.mem_singleton] at hm
      rw [← hm] at hne
      simp at hne
theorem Rg.readsAll (J : Inv X pins σ H s) : ∀ (es : List PyData) (zs : List V) (ys : List Value), RgAll N H zs es → Vals zs ys → ∃ as, ReadsAll s.heap ys es as ∧ (hasLs es = false → sysModules ∉ as)
  | [], _, _, q, r => by cases q; cases r; exact ⟨_, ReadsAll.nil, fun _ h => nomatch h⟩
  | e :: es, _, _, q, r => by
    cases q with
    | cons q1 q2 =>
      cases r with
      | cons r1 r2 =>
        obtain ⟨as, g1, n1⟩ := Rg.reads J e _ _ q1 r1
        obtain ⟨bs, g2, n2⟩ := Rg.readsAll J es _ _ q2 r2
        refine ⟨_, ReadsAll.cons g1 g2, fun h hm => ?_⟩
        rw [hasLs, Bool.or_eq_false_iff] at h
        rcases List.mem_append.mp hm with hm | hm
        · exact n1 h.1 hm
        · exact n2 h.2 hm
end
end
def rReprD : List V → Hp → VK → Prop := fun xs H Q =>
  ∃ N z e, xs = [z] ∧ Rg N H z e ∧ okD e = true ∧ e.showable = true ∧ e.depth < 60 ∧ e.shown.length ≤ sizeLine ∧ Q (.str e.shown) H
theorem call_reprD {X : Cx} (hg : X.A.guards = some []) (hu : X.A.units + 64 < cLine) : CallR X (.builtin "repr") rReprD := by
  intro pins s σ H xs us Q J r h
  obtain ⟨N, z, e, rfl, hz, hk, hs, hd, hl, q⟩ := h
  obtain ⟨u, rfl, ru⟩ := vals1 r
  obtain ⟨as, hr, hn⟩ := Rg.reads J e z u hz ru
  have hk' : e.hasDict = true → sysModules ∉ as := fun h => by
    unfold okD at hk
    rw [h] at hk
    exact hn (by simpa using hk)
  cases hz with
  | non =>
    cases ru
    exact PySem.P.repr_of_none ⟨.str _, H, J.tok _, ⟨_, rfl⟩, q⟩
  | bl b =>
    cases ru
    exact PySem.P.repr_of_bool ⟨.str _, H, J.tok _, ⟨_, rfl⟩, by cases b <;> exact q⟩
  | int i =>
    obtain ⟨t, rfl⟩ := ru
    exact PySem.P.repr_of_int (of_decide_eq_true hs) ⟨.str _, H, J.tok _, ⟨_, rfl⟩, q⟩
  | str x =>
    obtain ⟨t, rfl⟩ := ru
    exact PySem.P.repr_of_str (hsz := hl) ⟨.str _, H, J.tok _, ⟨_, rfl⟩, q⟩
  | lst h1 h2 =>
    cases ru
    exact repr_of_reads' hr hs hk' hg (by omega) (fun b o e => e) (fun h' u tk hk => ⟨.str _, H, J.kept hk, ⟨_, rfl⟩, q⟩) hl
  | tup h1 h2 =>
    cases ru
    exact repr_of_reads' hr hs hk' hg (by omega) (fun b o e => e) (fun h' u tk hk => ⟨.str _, H, J.kept hk, ⟨_, rfl⟩, q⟩) hl
  | dic h1 h2 =>
    cases ru
    exact repr_of_reads' hr hs hk' hg (by omega) (fun b o e => e) (fun h' u tk hk => ⟨.str _, H, J.kept hk, ⟨_, rfl⟩, q⟩) hl
/-! ### the state -/
def NOk (N : Addr → Prop) (H : Hp) : Prop := ∀ a, N a → H a ≠ none
theorem NOk.ex {N : Addr → Prop} {H H' : Hp} (h : NOk N H) (x : Ex H H') : NOk N H' := fun a n => by
  cases e : H a with
  | none => exact absurd e (h a n)
  | some o => rw [x a o e]; simp
theorem NOk.new {N : Addr → Prop} {H : Hp} {p : Addr} (h : NOk N H) (hp : H p = none) : ¬ N p := fun n => h p n hp
inductive Sl where
  | dat (e : PyData)
  | raw (v : V)
/-- what must stand while a def runs: the objects of N may change, I is what is known of them -/
structure Wd where
  N : Addr → Prop
  I : Hp → Prop
  ok : ∀ H, I H → NOk N H
  stab : ∀ H H', I H → (∀ a, N a → H' a = H a) → I H'
def SlOk (N M : Addr → Prop) (H : Hp) : Sl → Option V → Prop
  | .dat e, o => ∃ v, o = some v ∧ Rg N H v e
  | .raw v, o => o = some v
def Slots (N M : Addr → Prop) (H : Hp) (ρ : List (Option Sl)) (σ : L2.St) : Prop := ρ.length = σ.length ∧ ∀ (i : Nat) (s : Sl), ρ[i]? = some (some s) → ∃ o, σ[i]? = some o ∧ SlOk N M H s o
/-- the lists of one's own that still grow -/
def LocOk (N M : Addr → Prop) (H : Hp) (l : List (Addr × List PyData)) : Prop := (l.map (·.1)).Nodup ∧ ∀ p ∈ l, N p.1 ∧ ¬ M p.1 ∧ ∃ xs, H p.1 = some (.lst xs) ∧ RgAll N H xs p.2
structure St (W : Wd) (H0 : Hp) (ρ : List (Option Sl)) (τ : List (V × PyData)) (l : List (Addr × List PyData)) (σ : L2.St) (H : Hp) : Prop where
  inv : W.I H
  off : ∀ a o, H0 a = some o → ¬ W.N a → H a = some o
  ex : ∃ N : Addr → Prop, (∀ a, W.N a → N a) ∧ (∀ a, N a → ¬ W.N a → H0 a = none) ∧ NOk N H ∧ Slots N W.N H ρ σ ∧ (∀ p ∈ τ, Rg N H p.1 p.2) ∧ LocOk N W.N H l
theorem LocOk.ex {N M : Addr → Prop} {H H' : Hp} {l : List (Addr × List PyData)} (x : Ex H H') (h : LocOk N M H l) : LocOk N M H' l :=
  ⟨h.1, fun p hp => let ⟨a, b, xs, c, d⟩ := h.2 p hp; ⟨a, b, xs, x _ _ c, d.ex x⟩⟩
theorem SlOk.ex {N M : Addr → Prop} {H H' : Hp} {s : Sl} {o : Option V} (x : Ex H H') (h : SlOk N M H s o) : SlOk N M H' s o := by
  cases s with
  | dat e => obtain ⟨v, h1, h2⟩ := h; exact ⟨v, h1, h2.ex x⟩
  | raw v => exact h
theorem Slots.ex {N M : Addr → Prop} {H H' : Hp} {ρ : List (Option Sl)} {σ : L2.St} (x : Ex H H') (h : Slots N M H ρ σ) : Slots N M H' ρ σ :=
  ⟨h.1, fun i s e => let ⟨o, a, b⟩ := h.2 i s e; ⟨o, a, b.ex x⟩⟩
section
variable {W : Wd} {H0 H H' : Hp} {ρ : List (Option Sl)} {τ τ' : List (V × PyData)} {l : List (Addr × List PyData)} {σ : L2.St}
/-- the state at an extension of the heap, with the values that were made -/
theorem St.ext (S : St W H0 ρ τ l σ H) : ∃ N : Addr → Prop, NOk N H ∧ (∀ p ∈ τ, Rg N H p.1 p.2) ∧ (∀ (i : Nat) (s : Sl), ρ[i]? = some (some s) → ∃ o, σ[i]? = some o ∧ SlOk N W.N H s o) ∧
    ∀ H' (τ' : List (V × PyData)), Ex H H' → (∀ p ∈ τ', Rg N H' p.1 p.2) → St W H0 ρ τ' l σ H' := by
  obtain ⟨N, n1, n2, n3, n4, n5, n6⟩ := S.ex
  refine ⟨N, n3, n5, n4.2, fun H' τ' x h => ⟨W.stab H H' S.inv fun a na => ?_, fun a o e n => x _ _ (S.off a o e n), N, n1, n2, n3.ex x, n4.ex x, h, n6.ex x⟩⟩
  cases e : H a with
  | none => exact absurd e (n3 a (n1 a na))
  | some o => exact x a o e
theorem St.mono (S : St W H0 ρ τ l σ H) (h : ∀ p ∈ τ', p ∈ τ) : St W H0 ρ τ' l σ H := by
  obtain ⟨N, n1, n2, n3, n4, n5, n6⟩ := S.ex
  exact ⟨S.inv, S.off, N, n1, n2, n3, n4, fun p hp => n5 p (h p hp), n6⟩
theorem St.pop (S : St W H0 ρ (p :: τ) l σ H) : St W H0 ρ τ l σ H := S.mono fun _ h => List.mem_cons_of_mem _ h
theorem St.len (S : St W H0 ρ τ l σ H) : ρ.length = σ.length := let ⟨_, _, _, _, n4, _⟩ := S.ex; n4.1
/-- the last value goes to a slot -/
theorem St.set {v : V} {e : PyData} {i : Nat} (S : St W H0 ρ ((v, e) :: τ) l σ H) : St W H0 (ρ.set i (some (.dat e))) τ l (σ.set i (some v)) H := by
  obtain ⟨N, n1, n2, n3, n4, n5, n6⟩ := S.ex
  refine ⟨S.inv, S.off, N, n1, n2, n3, ⟨by rw [List.length_set, List.length_set]; exact n4.1, fun j s h => ?_⟩, fun p hp => n5 p (List.mem_cons_of_mem _ hp), n6⟩
  by_cases hj : i = j
  · subst hj
    have il : i < ρ.length := by
      have := (List.getElem?_eq_some_iff.mp h).1
      rw [List.length_set] at this
      exact this
    rw [List.getElem?_set_self il] at h
    cases h
    exact ⟨some v, List.getElem?_set_self (by rw [← n4.1]; exact il), v, rfl, n5 _ List.mem_cons_self⟩
  · rw [List.getElem?_set_ne hj] at h
    obtain ⟨o, h1, h2⟩ := n4.2 j s h
    exact ⟨o, by rw [List.getElem?_set_ne hj]; exact h1, h2⟩
/-- a slot is forgotten -/
theorem St.clr {i : Nat} {o : Option V} (S : St W H0 ρ τ l σ H) : St W H0 (ρ.set i none) τ l (σ.set i o) H := by
  obtain ⟨N, n1, n2, n3, n4, n5, n6⟩ := S.ex
  refine ⟨S.inv, S.off, N, n1, n2, n3, ⟨by rw [List.length_set, List.length_set]; exact n4.1, fun j s h => ?_⟩, n5, n6⟩
  by_cases hj : i = j
  · subst hj
    have il : i < ρ.length := by
      have := (List.getElem?_eq_some_iff.mp h).1
      rw [List.length_set] at this
      exact this
    rw [List.getElem?_set_self il] at h
    cases h
  · rw [List.getElem?_set_ne hj] at h
    obtain ⟨o', h1, h2⟩ := n4.2 j s h
    exact ⟨o', by rw [List.getElem?_set_ne hj]; exact h1, h2⟩
theorem St.dat {i : Nat} {e : PyData} (S : St W H0 ρ τ l σ H) (h : ρ[i]? = some (some (.dat e))) : ∃ v, σ[i]? = some (some v) ∧ St W H0 ρ ((v, e) :: τ) l σ H := by
  obtain ⟨N, n3, n5, n4, k⟩ := S.ext
  obtain ⟨o, h1, v, rfl, h2⟩ := n4 i _ h
  refine ⟨v, h1, k H _ ex_refl fun p hp => ?_⟩
  rcases List.mem_cons.mp hp with rfl | hp
  · exact h2
  · exact n5 p hp
theorem St.raw {i : Nat} {v : V} (S : St W H0 ρ τ l σ H) (h : ρ[i]? = some (some (.raw v))) : σ[i]? = some (some v) := by
  obtain ⟨N, n3, n5, n4, k⟩ := S.ext
  obtain ⟨o, h1, h2⟩ := n4 i _ h
  have h2 : o = some v := h2
  rw [h2] at h1
  exact h1
end
/-! ### expressions -/
def EvP (W : Wd) (H0 : Hp) (te : TE) (ρ : List (Option Sl)) (P : PyData → Prop) : Prop :=
  ∀ τ l σ H, St W H0 ρ τ l σ H → ∀ Q : VK, (∀ v e H', St W H0 ρ ((v, e) :: τ) l σ H' → P e → Q v H') → te σ H Q
def EvA (W : Wd) (H0 : Hp) (ta : TA) (ρ : List (Option Sl)) (P : List PyData → Prop) : Prop :=
  ∀ τ l σ H, St W H0 ρ τ l σ H → ∀ Q : List V → Hp → Prop, (∀ vs es H', St W H0 ρ (vs.zip es ++ τ) l σ H' → vs.length = es.length → P es → Q vs H') → ta σ H Q
def EvT (W : Wd) (H0 : Hp) (tt : TT) (ρ : List (Option Sl)) (P : Bool → Prop) : Prop :=
  ∀ τ l σ H, St W H0 ρ τ l σ H → ∀ Q : Bool → Hp → Prop, (∀ b H', St W H0 ρ τ l σ H' → P b → Q b H') → tt σ H Q
/-- what an operation on values does, said of data -/
def Res (N : Addr → Prop) (H : Hp) (P : PyData → Prop) (k : VK → Prop) : Prop := ∀ Q : VK, (∀ v e H', Ex H H' → Rg N H' v e → P e → Q v H') → k Q
def OpD (r : R2) (e1 e2 : PyData) (P : PyData → Prop) : Prop := ∀ N H v1 v2, NOk N H → Rg N H v1 e1 → Rg N H v2 e2 → Res N H P (r v1 v2 H)
def CaD (r : List V → Hp → VK → Prop) (es : List PyData) (P : PyData → Prop) : Prop := ∀ N H vs, NOk N H → RgAll N H vs es → Res N H P (r vs H)
section
variable {W : Wd} {H0 : Hp} {ρ : List (Option Sl)} {te ta tb : TE} {tas : TA} {P P1 P2 : PyData → Prop}
theorem EvP.imp (h : EvP W H0 te ρ P1) (i : ∀ e, P1 e → P2 e) : EvP W H0 te ρ P2 := fun τ l σ H S Q k => h τ l σ H S Q fun v e H' S' p => k v e H' S' (i e p)
theorem ev_dat {i : Nat} {e : PyData} (h : ρ[i]? = some (some (.dat e))) : EvP W H0 (tVar i) ρ (· = e) := fun τ l σ H S Q k => by
  obtain ⟨v, h1, S'⟩ := S.dat h
  exact ⟨v, h1, k v e H S' rfl⟩
theorem ev_const {v : V} {e : PyData} (h : ∀ N H, Rg N H v e) : EvP W H0 (tC v) ρ (· = e) := fun τ l σ H S Q k => by
  obtain ⟨N, n3, n5, n4, q⟩ := S.ext
  refine k v e H (q H _ ex_refl fun p hp => ?_) rfl
  rcases List.mem_cons.mp hp with rfl | hp
  · exact h _ _
  · exact n5 p hp
theorem ev_int {i : Int} : EvP W H0 (tC (.int i)) ρ (· = .int i) := ev_const fun _ _ => .int i
theorem ev_str {x : Str} : EvP W H0 (tC (.str x)) ρ (· = .str x) := ev_const fun _ _ => .str x
theorem ev_bl {b : Bool} : EvP W H0 (tC (.bl b)) ρ (· = .bool b) := ev_const fun _ _ => .bl b
theorem ev_non : EvP W H0 (tC .non) ρ (· = .none) := ev_const fun _ _ => .non
theorem ev_op {r : R2} (ha : EvP W H0 ta ρ P1) (hb : EvP W H0 tb ρ P2) (hr : ∀ e1 e2, P1 e1 → P2 e2 → OpD r e1 e2 P) : EvP W H0 (tOp r ta tb) ρ P := fun τ l σ H S Q k =>
  ha τ l σ H S _ fun v1 e1 H1 S1 p1 => hb _ l σ H1 S1 _ fun v2 e2 H2 S2 p2 => by
    obtain ⟨N, n3, n5, n4, q⟩ := S2.ext
    refine hr e1 e2 p1 p2 N H2 v1 v2 n3 (n5 _ (List.mem_cons_of_mem _ List.mem_cons_self)) (n5 _ List.mem_cons_self) Q fun v e H' x rg p => k v e H' (q H' _ x fun p hp => ?_) p
    rcases List.mem_cons.mp hp with rfl | hp
    · exact rg
    · exact (n5 p (List.mem_cons_of_mem _ (List.mem_cons_of_mem _ hp))).ex x
theorem eva_nil : EvA W H0 tNil ρ (· = []) := fun τ l σ H S Q k => k [] [] H S rfl rfl
theorem eva_cons {PA PB : List PyData → Prop} (ha : EvP W H0 ta ρ P1) (hb : EvA W H0 tas ρ PA) (h : ∀ e es, P1 e → PA es → PB (e :: es)) : EvA W H0 (tCons ta tas) ρ PB := fun τ l σ H S Q k =>
  ha τ l σ H S _ fun v e H1 S1 p1 => hb _ l σ H1 S1 _ fun vs es H2 S2 le p2 => k (v :: vs) (e :: es) H2 (S2.mono fun p hp => by
    simp only [List.zip_cons_cons, List.cons_append, List.mem_cons, List.mem_append] at hp ⊢
    rcases hp with hp | hp | hp
    · exact .inr (.inl hp)
    · exact .inl hp
    · exact .inr (.inr hp)) (congrArg (· + 1) le) (h e es p1 p2)
theorem zip_all {N : Addr → Prop} {H : Hp} : ∀ {vs : List V} {es : List PyData}, vs.length = es.length → (∀ p ∈ vs.zip es, Rg N H p.1 p.2) → RgAll N H vs es
  | [], [], _, _ => .nil
  | v :: vs, e :: es, l, h => .cons (h (v, e) (by simp)) (zip_all (by simpa using l) fun p hp => h p (by simp [hp]))
/-- a call of a built-in on data -/
theorem ev_cb {r : List V → Hp → VK → Prop} {PA : List PyData → Prop} (ha : EvA W H0 tas ρ PA) (hr : ∀ es, PA es → CaD r es P) : EvP W H0 (tCB r tas) ρ P := fun τ l σ H S Q k =>
  ha τ l σ H S _ fun vs es H1 S1 le pa => by
    obtain ⟨N, n3, n5, n4, q⟩ := S1.ext
    refine hr es pa N H1 vs n3 (zip_all le fun p hp => n5 p (List.mem_append_left _ hp)) Q fun v e H' x rg p => k v e H' (q H' _ x fun p hp => ?_) p
    rcases List.mem_cons.mp hp with rfl | hp
    · exact rg
    · exact (n5 p (List.mem_append_right _ hp)).ex x
theorem ev_tup {PA : List PyData → Prop} (ha : EvA W H0 tas ρ PA) (hs : ∀ es, PA es → es.length ≤ 100000) : EvP W H0 (tTup tas) ρ (fun e => ∃ es, e = .tuple es ∧ PA es) := fun τ l σ H S Q k =>
  ha τ l σ H S _ fun vs es H1 S1 le pa => ⟨size_small (by rw [le]; exact hs es pa), fun p hp => by
    obtain ⟨N, n3, n5, n4, q⟩ := S1.ext
    refine k _ (.tuple es) _ (q _ _ (Ex.new hp) fun p' hp' => ?_) ⟨es, rfl, pa⟩
    rcases List.mem_cons.mp hp' with rfl | hp'
    · exact .tup upd_same (n3.new hp) ((zip_all le fun p hp => n5 p (List.mem_append_left _ hp)).ex (Ex.new hp))
    · exact (n5 _ (List.mem_append_right _ hp')).ex (Ex.new hp)⟩
theorem ev_lst {PA : List PyData → Prop} (ha : EvA W H0 tas ρ PA) (hs : ∀ es, PA es → es.length ≤ 100000) : EvP W H0 (tLst tas) ρ (fun e => ∃ es, e = .list es ∧ PA es) := fun τ l σ H S Q k =>
  ha τ l σ H S _ fun vs es H1 S1 le pa => ⟨size_small (by rw [le]; exact hs es pa), fun p hp => by
    obtain ⟨N, n3, n5, n4, q⟩ := S1.ext
    refine k _ (.list es) _ (q _ _ (Ex.new hp) fun p' hp' => ?_) ⟨es, rfl, pa⟩
    rcases List.mem_cons.mp hp' with rfl | hp'
    · exact .lst upd_same (n3.new hp) ((zip_all le fun p hp => n5 p (List.mem_append_left _ hp)).ex (Ex.new hp))
    · exact (n5 _ (List.mem_append_right _ hp')).ex (Ex.new hp)⟩
end
end DL
set_option Elab.async false
set_option linter.all false
set_option maxRecDepth 100000
/-! t[::-1] of a tuple. -/
namespace DL
open PySem PySem.Spec PyProof.Rows L2 HT
section
variable {prog : Program} {w : World} {A : Around} {E : Value → Shared → Prop} {s : Shared}
theorem rev_places (n : Nat) : Builtin.Slice.slicePlaces ((n : Int) - 1) (-1) (-1) = n := by
  unfold Builtin.Slice.slicePlaces
  rw [if_neg (by decide), show -(-1 : Int) = 1 from rfl, Int.ediv_one]
  split <;> omega
theorem filterMap_all {α β : Type} {f : α → Option β} {g : α → β} : ∀ l : List α, (∀ x ∈ l, f x = some (g x)) → l.filterMap f = l.map g
  | [], _ => rfl
  | x :: l, h => by
    rw [List.filterMap_cons, h x List.mem_cons_self, List.map_cons, filterMap_all l fun y hy => h y (List.mem_cons_of_mem _ hy)]
theorem rev_adjust (n : Nat) : Builtin.Slice.sliceAdjust none none (-1) (n : Int) = ((n : Int) - 1, -1) := by
  unfold Builtin.Slice.sliceAdjust
  simp
theorem rev_pick (xs : Array Value) : ((List.range xs.size).filterMap fun (k : Nat) => xs[(((xs.size : Int) - 1) + (k : Int) * (-1)).toNat]?).toArray = xs.toList.reverse.toArray := by
  congr 1
  apply List.ext_getElem?
  intro i
  have e : (List.range xs.size).filterMap (fun (k : Nat) => xs[(((xs.size : Int) - 1) + (k : Int) * (-1)).toNat]?) = (List.range xs.size).map fun k => xs.toList.reverse[k]! := by
    refine filterMap_all _ fun k hk => ?_
    have hk' : k < xs.size := List.mem_range.mp hk
    have h1 : (((xs.size : Int) - 1) + (k : Int) * (-1)).toNat = xs.size - 1 - k := by omega
    rw [h1]
    have h2 : k < xs.toList.reverse.length := by rw [List.length_reverse, Array.length_toList]; exact hk'
    show xs[xs.size - 1 - k]? = some xs.toList.reverse[k]!
    rw [getElem!_pos xs.toList.reverse k h2, List.getElem_reverse, Array.getElem?_eq_getElem (by omega)]
    simp
  rw [e, List.getElem?_map]
  by_cases hi : i < xs.size
  · rw [List.getElem?_range hi]
    have h2 : i < xs.toList.reverse.length := by rw [List.length_reverse, Array.length_toList]; exact hi
    show some xs.toList.reverse[i]! = xs.toList.reverse[i]?
    rw [getElem!_pos xs.toList.reverse i h2, List.getElem?_eq_getElem h2]
  · have h2 : ¬ i < xs.toList.reverse.length := by rw [List.length_reverse, Array.length_toList]; exact hi
    rw [List.getElem?_eq_none (by rw [List.length_range]; omega), List.getElem?_eq_none (by omega)]
    rfl
theorem rev_applied {c : Addr} {t : Tok} {n : Nat} {Q : Int × Int × Nat → Shared → Prop} (hc : s.heap.IsSliceOf c .none .none (.int (-1) t)) (h : Q ((n : Int) - 1, -1, n) s) :
    wpAny (model prog w) A (Builtin.Slice.sliceApplied (.ref c) (pure (n : Int))) Q E s := by
  obtain ⟨ob, hob, _, hdd⟩ := id hc
  unfold Builtin.Slice.sliceApplied Builtin.Slice.sliceFields
  refine wpAny_bind (wpAny_bind (wpAny_field hob hdd (x := .none) rfl (wpAny_bind (wpAny_field hob hdd (x := .none) rfl (wpAny_bind (wpAny_field hob hdd (x := .int (-1) t) rfl (wpAny_pure ?_)))))))
  refine wpAny_bind (slicePart_int ?_)
  show wpAny _ _ (if ((-1 : Int) == 0) = true then _ else _) _ _ s
  rw [if_neg (by decide)]
  refine wpAny_bind (slicePart_none (wpAny_bind (slicePart_none (wpAny_bind (wpAny_pure ?_)))))
  show wpAny _ _ (match Builtin.Slice.sliceAdjust none none (-1) (n : Int) with | (lo, hi) => pure (lo, (-1 : Int), Builtin.Slice.slicePlaces lo hi (-1))) _ _ s
  rw [rev_adjust n]
  show wpAny _ _ (pure ((n : Int) - 1, (-1 : Int), Builtin.Slice.slicePlaces ((n : Int) - 1) (-1) (-1))) _ _ s
  rw [rev_places]
  exact wpAny_pure h
theorem tuple_rev {b c : Addr} {xs : Array Value} {t : Tok} {Q : Value → Shared → Prop} (hb : IsTup s.heap b xs) (hc : s.heap.IsSliceOf c .none .none (.int (-1) t)) (hz : xs.size ≤ sizeLine)
    (h : Q (.ref s.heap.objs.size) { s with heap := s.heap.push { cls := .type "tuple", data := .seq xs.toList.reverse.toArray } }) : wpAny (model prog w) A (getItem (.ref b) (.ref c)) Q E s := by
  have hsz : sizeOk (.seq xs.toList.reverse.toArray) := by
    show xs.toList.reverse.toArray.size ≤ sizeLine
    rw [List.size_toArray, List.length_reverse, Array.length_toList]
    exact hz
  obtain ⟨ob, hob, hcs, hdd⟩ := id hc
  have hty : s.TypeIs (.ref c) "slice" := ⟨ob, hob, hcs⟩
  unfold getItem
  try with_reducible refine wpAny_holding ?_
  first | refine wpAny_bind (wpAny_pure ?_) | skip
  refine wpAny_bind (wpAny_sequenceKey hb.typeIs (by decide) (wpAny_bind (wpAny_callSpecial?_slot (name := Str.ofString "__getitem__") hb.typeIs PyProof.Rows.slot_tuple_getitem
    (wpAny_call_entry PyProof.Rows.slot_tuple_getitem hb.typeIs entry_tuple_getitem ?_ (args_tuple_getitem _ _)))))
  show wpAny _ _ (Builtin.Tuple.tupleItemsOf (.ref b) >>= _) _ _ s
  refine wpAny_bind (tupleItemsOf_ hb (wpAny_bind (wpAny_typeOf hty ?_)))
  rw [if_pos (by decide)]
  refine wpAny_bind (rev_applied hc ?_)
  have no : ¬ ((((xs.size : Int) - 1) == 0 && (-1 : Int) == 1 && xs.size == xs.size) = true) := by simp
  show wpAny _ _ (if (((xs.size : Int) - 1) == 0 && (-1 : Int) == 1 && xs.size == xs.size) = true then _ else _) _ _ s
  rw [if_neg no, rev_pick]
  first
    | exact wpAny_bind (m := Builtin.Tuple.tupleExact _) (wpAny_newObj_type (wpAny_pure ⟨_, rfl, wpAny_pure h⟩) hsz)
    | exact wpAny_bind (m := Builtin.Tuple.tupleExact _) (wpAny_newObj_type (wpAny_bind (wpAny_pure (wpAny_pure ⟨_, rfl, wpAny_pure h⟩))) hsz)
    | exact wpAny_bind (wpAny_bind (m := Builtin.Tuple.tupleExact _) (wpAny_newObj_type (wpAny_pure (wpAny_pure ⟨_, rfl, wpAny_pure h⟩)) hsz))
    | exact wpAny_bind (wpAny_bind (m := Builtin.Tuple.tupleExact _) (wpAny_newObj_type (wpAny_pure ⟨_, rfl, wpAny_pure h⟩) hsz))
end
def tRevT (K : PySem.W.Frag) (te : TE) : TE := fun σ H Q => te σ H fun x H1 => ∃ a xs, x = .ref a ∧ SqT K H1 a xs ∧ ∀ p, H1 p = none → Q (.ref p) (upd H1 p (.tup xs.reverse))
theorem pe_revT {X : Cx} {e : Expr} {te : TE} {k : Nat} {p1 p2 p3 pos : Pos} (he : PE X e te) : PE X (.Subscript e (.Slice none none (some (.UnaryOp .USub (.Constant (.int 1) k p1) p2)) p3) pos) (tRevT X.K te) := by
  refine ⟨fun pins s σ H Q J h => ?_⟩
  refine Subscript_ (thn (he.run pins s σ H _ J h) fun v s1 ⟨x, H1, J1, r1, q1⟩ => ?_)
  obtain ⟨a, xs, rfl, hx, q⟩ := q1
  cases r1
  have hm : PO X (some (.UnaryOp .USub (.Constant (.int 1) k p1) p2)) (tPart (tUn (rU fun i => .int (-i)) (tC (.int 1)))) := po_some (pe_un un_neg pe_int)
  refine wpAny_Slice (thn (po_none.run pins s1 σ H1 (fun o G => o = none ∧ G = H1) J1 ⟨rfl, rfl⟩) fun vl s2 ⟨l, H2, J2, pl, el, e2⟩ => ?_)
  subst el e2
  refine thn (po_none.run pins s2 σ H2 (fun o G => o = none ∧ G = H2) J2 ⟨rfl, rfl⟩) fun vu s3 ⟨u, H3, J3, pu, eu, e3⟩ => ?_
  subst eu e3
  refine thn (hm.run pins s3 σ H3 (fun o G => o = some (-1) ∧ G = H3) J3 ⟨1, rfl, -1, rfl, rfl, rfl⟩) fun vs s4 ⟨o, H4, J4, ps, eo, e4⟩ => ?_
  subst eo e4
  have J5 : Inv X pins σ H4 { s4 with heap := s4.heap.push { cls := .type "slice", data := .fields #[vl, vu, vs] } } := J4.kept (t' := s4.toks) fun b ob z => Heap.get?_push_of_some _ z
  obtain ⟨its, r, ht, hz⟩ := J5.tuple hx
  have hlen := r.length
  cases pl
  cases pu
  cases ps
  refine tail_any (ops := [.ref a, .ref s4.heap.objs.size]) ht.typeIs (PyProof.Rows.slot_tuple_getitem.lookup) ?_ (by with_unfolding_all rfl)
  refine tuple_rev ht (Heap.IsSliceOf.new _ _ _ _) (by rw [List.size_toArray, ← hlen]; exact hz) ?_
  refine ⟨.ref _, _, J5.laid (t' := s4.toks) (o := .tup xs.reverse) (fun b ob z => Heap.get?_push_of_some _ z) (Nat.le_refl _) ?_, rfl, q _ (J5.hok.fresh (Nat.le_refl _))⟩
  exact ⟨by rw [List.length_reverse]; exact hz, _, r.reverse, IsTup.new _ _⟩
end DL
set_option Elab.async false
set_option linter.all false
set_option maxRecDepth 100000
/-! The layer over data: operations, tests, calls. -/
namespace DL
open PySem PySem.Spec PyProof.Rows L2 Evl TB
section
variable {N : Addr → Prop} {H : Hp} {K : PySem.W.Frag}
/-! ### operations -/
theorem atI_all {zs : List V} {es : List PyData} {i : Int} {e : PyData} (r : RgAll N H zs es) (h : atI es i = some e) : ∃ z, atI zs i = some z ∧ Rg N H z e := by
  unfold atI at h ⊢
  rw [r.len]
  cases hj : ixN es.length i with
  | none => rw [hj] at h; cases h
  | some j =>
    rw [hj] at h
    exact r.get' h
theorem res_rfl {v : V} {e : PyData} {k : VK → Prop} (h : Rg N H v e) (hk : ∀ Q : VK, Q v H → k Q) : Res N H (· = e) k := fun Q q => hk Q (q v e H ex_refl h rfl)
theorem opd_I0 {g : Int → Int → V} {i j : Int} {e : PyData} (h : ∀ N H, Rg N H (g i j) e) : OpD (rI0 g) (.int i) (.int j) (· = e) := fun N H v1 v2 _ r1 r2 => by
  cases r1; cases r2
  exact res_rfl (h N H) fun Q q => ⟨i, j, rfl, rfl, q⟩
theorem opd_I {C : Int → Int → Prop} {g : Int → Int → V} {i j : Int} {e : PyData} (c : C i j) (h : ∀ N H, Rg N H (g i j) e) : OpD (rI C g) (.int i) (.int j) (· = e) := fun N H v1 v2 _ r1 r2 => by
  cases r1; cases r2
  exact res_rfl (h N H) fun Q q => ⟨i, j, rfl, rfl, c, q⟩
theorem opd_eqI {i j : Int} : OpD rEq (.int i) (.int j) (· = .bool (decide (i = j))) := fun N H v1 v2 _ r1 r2 => by
  cases r1; cases r2
  refine res_rfl (.bl _) fun Q q => ⟨rfl, ?_⟩
  have : decide (V.int i = V.int j) = decide (i = j) := by simp
  rw [this]; exact q
theorem opd_neI {i j : Int} : OpD rNe (.int i) (.int j) (· = .bool (!decide (i = j))) := fun N H v1 v2 _ r1 r2 => by
  cases r1; cases r2
  refine res_rfl (.bl _) fun Q q => ⟨rfl, ?_⟩
  have : decide (V.int i = V.int j) = decide (i = j) := by simp
  rw [this]; exact q
theorem opd_neS {x y : Str} : OpD rNe (.str x) (.str y) (· = .bool (!decide (x = y))) := fun N H v1 v2 _ r1 r2 => by
  cases r1; cases r2
  refine res_rfl (.bl _) fun Q q => ⟨rfl, ?_⟩
  have : decide (V.str x = V.str y) = decide (x = y) := by simp
  rw [this]; exact q
theorem opd_ixT {ds : List PyData} {i : Int} {e : PyData} (h : atI ds i = some e) : OpD (rIxT K) (.tuple ds) (.int i) (· = e) := fun N H v1 v2 _ r1 r2 => by
  cases r1 with
  | tup ha _ hr =>
    cases r2
    obtain ⟨z, h1, h2⟩ := atI_all hr h
    exact res_rfl h2 fun Q q => ⟨_, _, i, z, rfl, rfl, .inl (.inl ha), h1, q⟩
theorem opd_ixL {ds : List PyData} {i : Int} {e : PyData} (h : atI ds i = some e) : OpD (rIxL K) (.list ds) (.int i) (· = e) := fun N H v1 v2 _ r1 r2 => by
  cases r1 with
  | lst ha _ hr =>
    cases r2
    obtain ⟨z, h1, h2⟩ := atI_all hr h
    exact res_rfl h2 fun Q q => ⟨_, _, i, z, rfl, rfl, .inl (.inl ha), h1, q⟩
theorem opd_catT {ds es : List PyData} (hl : ds.length + es.length ≤ 100000) : OpD (rCatA K) (.tuple ds) (.tuple es) (· = .tuple (ds ++ es)) := fun N H v1 v2 ok r1 r2 Q q => by
  cases r1 with
  | tup ha na hr =>
    cases r2 with
    | tup hb nb hs =>
      rename_i a xs b ys
      refine ⟨a, b, xs, ys, rfl, rfl, .inl (.inl ha), .inl (.inl hb), size_small (by rw [hr.len, hs.len]; exact hl), fun h => ?_, fun _ h => ?_, fun _ _ p hp => ?_⟩
      · subst h
        cases hr
        exact q _ _ _ ex_refl (.tup hb nb hs) rfl
      · subst h
        cases hs
        exact q _ _ _ ex_refl (.tup ha na hr) (by rw [List.append_nil])
      · exact q _ _ _ (Ex.new hp) (.tup upd_same (ok.new hp) ((hr.app hs).ex (Ex.new hp))) rfl
theorem opd_catL {ds es : List PyData} (hl : ds.length + es.length ≤ 100000) : OpD rCat (.list ds) (.list es) (· = .list (ds ++ es)) := fun N H v1 v2 ok r1 r2 Q q => by
  cases r1 with
  | lst ha na hr =>
    cases r2 with
    | lst hb nb hs =>
      exact ⟨_, _, _, _, rfl, rfl, ha, hb, size_small (by rw [hr.len, hs.len]; exact hl), fun p hp => q _ _ _ (Ex.new hp) (.lst upd_same (ok.new hp) ((hr.app hs).ex (Ex.new hp))) rfl⟩
/-! data without dicts, for == and != -/
mutual
theorem Rg.dp : ∀ (e : PyData) (v : V), Rg N H v e → e.hasDict = false → Dp K H v e
  | .none, _, q, _ => by cases q; exact .non
  | .bool c, _, q, _ => by cases q; exact .bl c
  | .int j, _, q, _ => by cases q; exact .int j
  | .str y, _, q, _ => by cases q; exact .str y
  | .list es, _, q, h => by
    rw [PyData.hasDict] at h
    cases q with
    | lst ha _ r => exact .lst (.inl (.inl ha)) (RgAll.dp es _ r h)
  | .tuple es, _, q, h => by
    rw [PyData.hasDict] at h
    cases q with
    | tup ha _ r => exact .tup (.inl (.inl ha)) (RgAll.dp es _ r h)
  | .dict es, _, q, h => by rw [PyData.hasDict] at h; cases h
theorem RgAll.dp : ∀ (es : List PyData) (vs : List V), RgAll N H vs es → PyData.hasDictAll es = false → DpAll K H vs es
  | [], _, q, _ => by cases q; exact .nil
  | e :: es, _, q, h => by
    rw [PyData.hasDictAll, Bool.or_eq_false_iff] at h
    cases q with
    | cons q1 q2 => exact .cons (Rg.dp e _ q1 h.1) (RgAll.dp es _ q2 h.2)
end
theorem noDict_of {d : PyData} (h : SeqAt.shaped d = true) : d.hasDict = false := PyData.hasDict_of_canLay d (Bool.and_eq_true_iff.mp h).1
theorem opd_neD {d e : PyData} (h1 : SeqAt.shaped d = true) (h2 : SeqAt.shaped e = true) : OpD (rNeD K) d e (· = .bool (!PyData.eqv d e)) := fun N H v1 v2 _ r1 r2 =>
  res_rfl (.bl _) fun Q q => ⟨d, e, r1.dp _ _ (noDict_of h1), r2.dp _ _ (noDict_of h2), h1, h2, q⟩
theorem opd_eqD {d e : PyData} (h1 : SeqAt.shaped d = true) (h2 : SeqAt.shaped e = true) : OpD (rEqD K) d e (· = .bool (PyData.eqv d e)) := fun N H v1 v2 _ r1 r2 =>
  res_rfl (.bl _) fun Q q => ⟨d, e, r1.dp _ _ (noDict_of h1), r2.dp _ _ (noDict_of h2), h1, h2, q⟩
theorem opd_notB {a b : Bool} : OpD rNotB (.bool a) (.bool b) (· = .bool (!decide (a = b))) := fun N H v1 v2 _ r1 r2 => by
  cases r1; cases r2
  exact res_rfl (.bl _) fun Q q => ⟨a, b, rfl, rfl, q⟩
/-! ### built-in calls -/
theorem cad_len {ds : List PyData} : CaD (fun xs H Q => ∃ p ys, xs = [.ref p] ∧ (SqL K H p ys ∨ SqT K H p ys) ∧ Q (.int ys.length) H) [.tuple ds] (· = .int ds.length) := fun N H vs _ r => by
  cases r with
  | cons r1 r2 =>
    cases r2
    cases r1 with
    | tup ha _ hr =>
      refine res_rfl (.int _) fun Q q => ⟨_, _, rfl, .inr (.inl (.inl ha)), ?_⟩
      rw [hr.len]; exact q
theorem cad_lenL {ds : List PyData} : CaD (fun xs H Q => ∃ p ys, xs = [.ref p] ∧ (SqL K H p ys ∨ SqT K H p ys) ∧ Q (.int ys.length) H) [.list ds] (· = .int ds.length) := fun N H vs _ r => by
  cases r with
  | cons r1 r2 =>
    cases r2
    cases r1 with
    | lst ha _ hr =>
      refine res_rfl (.int _) fun Q q => ⟨_, _, rfl, .inl (.inl (.inl ha)), ?_⟩
      rw [hr.len]; exact q
theorem cad_list {ds : List PyData} : CaD (fun xs H Q => ∃ p ys, xs = [.ref p] ∧ (SqL K H p ys ∨ SqT K H p ys) ∧ ∀ l, H l = none → Q (.ref l) (upd H l (.lst ys))) [.tuple ds] (· = .list ds) := fun N H vs ok r Q q => by
  cases r with
  | cons r1 r2 =>
    cases r2
    cases r1 with
    | tup ha _ hr => exact ⟨_, _, rfl, .inr (.inl (.inl ha)), fun p hp => q _ _ _ (Ex.new hp) (.lst upd_same (ok.new hp) (hr.ex (Ex.new hp))) rfl⟩
theorem cad_listL {ds : List PyData} : CaD (fun xs H Q => ∃ p ys, xs = [.ref p] ∧ (SqL K H p ys ∨ SqT K H p ys) ∧ ∀ l, H l = none → Q (.ref l) (upd H l (.lst ys))) [.list ds] (· = .list ds) := fun N H vs ok r Q q => by
  cases r with
  | cons r1 r2 =>
    cases r2
    cases r1 with
    | lst ha _ hr => exact ⟨_, _, rfl, .inl (.inl (.inl ha)), fun p hp => q _ _ _ (Ex.new hp) (.lst upd_same (ok.new hp) (hr.ex (Ex.new hp))) rfl⟩
theorem cad_tuple {ds : List PyData} : CaD (fun xs H Q => ∃ p ys, xs = [.ref p] ∧ ((SqL K H p ys ∧ ∀ l, H l = none → Q (.ref l) (upd H l (.tup ys))) ∨ (SqT K H p ys ∧ Q (.ref p) H))) [.list ds] (· = .tuple ds) := fun N H vs ok r Q q => by
  cases r with
  | cons r1 r2 =>
    cases r2
    cases r1 with
    | lst ha _ hr => exact ⟨_, _, rfl, .inl ⟨.inl (.inl ha), fun p hp => q _ _ _ (Ex.new hp) (.tup upd_same (ok.new hp) (hr.ex (Ex.new hp))) rfl⟩⟩
theorem cad_strI {i : Int} (h : i.natAbs.log2 < 1920) : CaD (fun xs H Q => ∃ i, xs = [.int i] ∧ i.natAbs.log2 < 1920 ∧ Q (.str (toString i)) H) [.int i] (· = .str (numS i)) := fun N H vs _ r => by
  cases r with
  | cons r1 r2 =>
    cases r2; cases r1
    exact res_rfl (.str _) fun Q q => ⟨i, rfl, h, q⟩
theorem cad_boolI {i : Int} : CaD (fun xs H Q => (∃ i, xs = [.int i] ∧ Q (.bl (i != 0)) H) ∨ ∃ k, xs = [.bl k] ∧ Q (.bl k) H) [.int i] (· = .bool (i != 0)) := fun N H vs _ r => by
  cases r with
  | cons r1 r2 =>
    cases r2; cases r1
    exact res_rfl (.bl _) fun Q q => .inl ⟨i, rfl, q⟩
theorem cad_repr {d : PyData} (h1 : okD d = true) (h2 : d.showable = true) (h3 : d.depth < 60) (h4 : d.shown.length ≤ sizeLine) : CaD rReprD [d] (· = .str d.shown) := fun N H vs _ r => by
  cases r with
  | cons r1 r2 =>
    cases r2
    exact res_rfl (.str _) fun Q q => ⟨N, _, d, rfl, r1, h1, h2, h3, h4, q⟩
/-- the name of a value's class -/
def tyN : PyData → String
  | .none => "NoneType" | .bool _ => "bool" | .int _ => "int" | .str _ => "str" | .list _ => "list" | .tuple _ => "tuple" | .dict _ => "dict"
theorem tyX_of {v : V} {e : PyData} (r : Rg N H v e) : TyX K H v (.type (tyN e)) := by
  cases r with
  | non => exact .base .non
  | bl b => exact .base (.bl b)
  | int i => exact .base (.int i)
  | str x => exact .base (.str x)
  | lst h _ _ => exact .base (.lst h)
  | tup h _ _ => exact .base (.tup h)
  | dic h _ => exact .base (.dK h)
def isB (T n : String) : Bool := n == T || (T == "int" && n == "bool")
def isA (T : String) (e : PyData) : Bool := isB T (tyN e)
def tyNames : List String := ["NoneType", "bool", "int", "str", "list", "tuple", "dict"]
theorem tyN_mem (e : PyData) : tyN e ∈ tyNames := by cases e <;> simp [tyN, tyNames]
theorem kit_of {T : String} (h : ∀ n ∈ tyNames, kitB n T = some (isB T n)) (e : PyData) : PySem.W.kitOne K (.type (tyN e)) (.type T) = some (isA T e) := kit_ty (h _ (tyN_mem e))
theorem kit_tuple (e : PyData) : PySem.W.kitOne K (.type (tyN e)) (.type "tuple") = some (isA "tuple" e) := kit_of (by decide +kernel) e
theorem kit_int (e : PyData) : PySem.W.kitOne K (.type (tyN e)) (.type "int") = some (isA "int" e) := kit_of (by decide +kernel) e
theorem kit_bool (e : PyData) : PySem.W.kitOne K (.type (tyN e)) (.type "bool") = some (isA "bool" e) := kit_of (by decide +kernel) e
theorem kit_str (e : PyData) : PySem.W.kitOne K (.type (tyN e)) (.type "str") = some (isA "str" e) := kit_of (by decide +kernel) e
end
section
variable {W : Wd} {H0 : Hp} {ρ : List (Option Sl)} {te ta tb tc : TE} {tas : TA} {P P1 P2 : PyData → Prop} {K : PySem.W.Frag} {tt tu : TT}
theorem ev_isi {T : String} (ha : EvP W H0 te ρ P) (hk : ∀ e, PySem.W.kitOne K (.type (tyN e)) (.type T) = some (isA T e)) : EvP W H0 (tCB (rIsi K) (tCons te (tCons (tC (.ty T)) tNil))) ρ (fun e => ∃ d, P d ∧ e = .bool (isA T d)) := fun τ l σ H S Q k =>
  ha τ l σ H S _ fun v d H1 S1 p => by
    obtain ⟨N, n3, n5, n4, q⟩ := S1.ext
    refine ⟨v, .ty T, .type (tyN d), .type T, isA T d, rfl, .ty T, tyX_of (n5 _ List.mem_cons_self), hk d, k _ (.bool (isA T d)) H1 (q _ _ ex_refl fun p hp => ?_) ⟨d, p, rfl⟩⟩
    rcases List.mem_cons.mp hp with rfl | hp
    · exact .bl _
    · exact n5 _ (List.mem_cons_of_mem _ hp)
/-! ### one operand known -/
theorem ev_op' {r : R2} {d1 d2 e : PyData} (ha : EvP W H0 ta ρ (· = d1)) (hb : EvP W H0 tb ρ (· = d2)) (hr : OpD r d1 d2 (· = e)) : EvP W H0 (tOp r ta tb) ρ (· = e) :=
  ev_op ha hb fun e1 e2 h1 h2 => by rw [h1, h2]; exact hr
theorem eva_one {d : PyData} (ha : EvP W H0 te ρ (· = d)) : EvA W H0 (tCons te tNil) ρ (· = [d]) := eva_cons ha eva_nil fun e es h1 h2 => by rw [h1, h2]
theorem eva_more {d : PyData} {ds : List PyData} (ha : EvP W H0 te ρ (· = d)) (hb : EvA W H0 tas ρ (· = ds)) : EvA W H0 (tCons te tas) ρ (· = d :: ds) := eva_cons ha hb fun e es h1 h2 => by rw [h1, h2]
theorem ev_cb' {r : List V → Hp → VK → Prop} {ds : List PyData} {e : PyData} (ha : EvA W H0 tas ρ (· = ds)) (hr : CaD r ds (· = e)) : EvP W H0 (tCB r tas) ρ (· = e) := ev_cb ha fun es h => by rw [h]; exact hr
theorem ev_tup' {ds : List PyData} (ha : EvA W H0 tas ρ (· = ds)) (hs : ds.length ≤ 100000) : EvP W H0 (tTup tas) ρ (· = .tuple ds) := (ev_tup ha fun es h => by rw [h]; exact hs).imp fun e ⟨es, h1, h2⟩ => by rw [h1, h2]
theorem ev_lst' {ds : List PyData} (ha : EvA W H0 tas ρ (· = ds)) (hs : ds.length ≤ 100000) : EvP W H0 (tLst tas) ρ (· = .list ds) := (ev_lst ha fun es h => by rw [h]; exact hs).imp fun e ⟨es, h1, h2⟩ => by rw [h1, h2]
theorem ev_isi' {T : String} {d : PyData} (ha : EvP W H0 te ρ (· = d)) (hk : ∀ e, PySem.W.kitOne K (.type (tyN e)) (.type T) = some (isA T e)) : EvP W H0 (tCB (rIsi K) (tCons te (tCons (tC (.ty T)) tNil))) ρ (· = .bool (isA T d)) :=
  (ev_isi ha hk).imp fun e ⟨x, h1, h2⟩ => by rw [h2, h1]
theorem ev_and {a : Bool} (ha : EvP W H0 ta ρ (· = .bool a)) (hb : a = true → EvP W H0 tb ρ P) (h0 : a = false → P (.bool false)) : EvP W H0 (tAndV ta tb) ρ P := fun τ l σ H S Q k =>
  ha τ l σ H S _ fun v e H1 S1 p => by
    subst p
    obtain ⟨N, n3, n5, n4, q⟩ := S1.ext
    have hv : v = .bl a := by
      have := n5 _ List.mem_cons_self
      cases this; rfl
    subst hv
    refine ⟨a, rfl, ?_⟩
    cases a with
    | true => exact (if_pos rfl).mpr (hb rfl τ l σ H1 S1.pop Q k)
    | false => exact (if_neg Bool.false_ne_true).mpr (k _ (.bool false) H1 S1 (h0 rfl))
theorem ev_not {a : Bool} (ha : EvP W H0 ta ρ (· = .bool a)) : EvP W H0 (tNotV ta) ρ (· = .bool (!a)) := fun τ l σ H S Q k =>
  ha τ l σ H S _ fun v e H1 S1 p => by
    subst p
    obtain ⟨N, n3, n5, n4, q⟩ := S1.ext
    have hv : v = .bl a := by
      have := n5 _ List.mem_cons_self
      cases this; rfl
    subst hv
    refine ⟨a, rfl, k _ (.bool !a) H1 (q _ _ ex_refl fun p hp => ?_) rfl⟩
    rcases List.mem_cons.mp hp with rfl | hp
    · exact .bl _
    · exact n5 _ (List.mem_cons_of_mem _ hp)
theorem et_of {a : Bool} (ha : EvP W H0 te ρ (· = .bool a)) : EvT W H0 (tTest te) ρ (· = a) := fun τ l σ H S Q k =>
  ha τ l σ H S _ fun v e H1 S1 p => by
    subst p
    obtain ⟨N, n3, n5, n4, q⟩ := S1.ext
    have hv : v = .bl a := by
      have := n5 _ List.mem_cons_self
      cases this; rfl
    exact ⟨a, hv, k a H1 S1.pop rfl⟩
theorem et_b {a : Bool} (ha : EvP W H0 te ρ (· = .bool a)) : EvT W H0 (tB te) ρ (· = a) := et_of ha
theorem et_not {a : Bool} (h : EvT W H0 tt ρ (· = a)) : EvT W H0 (tNot tt) ρ (· = !a) := fun τ l σ H S Q k => h τ l σ H S _ fun b H1 S1 p => k _ H1 S1 (by rw [p])
theorem et_or {a b : Bool} (h1 : EvT W H0 tt ρ (· = a)) (h2 : a = false → EvT W H0 tu ρ (· = b)) : EvT W H0 (tOr tt tu) ρ (· = (a || b)) := fun τ l σ H S Q k => h1 τ l σ H S _ fun c H1 S1 p => by
  subst p
  cases c with
  | true => exact (if_pos rfl).mpr (k true H1 S1 rfl)
  | false => exact (if_neg Bool.false_ne_true).mpr (h2 rfl τ l σ H1 S1 Q fun c' H2 S2 p => k c' H2 S2 (by rw [p]; rfl))
theorem et_and {a b : Bool} (h1 : EvT W H0 tt ρ (· = a)) (h2 : a = true → EvT W H0 tu ρ (· = b)) : EvT W H0 (tAnd tt tu) ρ (· = (a && b)) := fun τ l σ H S Q k => h1 τ l σ H S _ fun c H1 S1 p => by
  subst p
  cases c with
  | true => exact (if_pos rfl).mpr (h2 rfl τ l σ H1 S1 Q fun c' H2 S2 p => k c' H2 S2 (by rw [p]; rfl))
  | false => exact (if_neg Bool.false_ne_true).mpr (k false H1 S1 rfl)
/-- a < b < c of ints -/
theorem ev_chain {g g' : Int → Int → Bool} {i j m : Int} (ha : EvP W H0 ta ρ (· = .int i)) (hb : EvP W H0 tb ρ (· = .int j)) (hc : EvP W H0 tc ρ (· = .int m)) :
    EvP W H0 (tChain (rI0 fun x y => .bl (g x y)) (rI0 fun x y => .bl (g' x y)) ta tb tc) ρ (· = .bool (g i j && g' j m)) := fun τ l σ H S Q k =>
  ha τ l σ H S _ fun v1 e1 H1 S1 p1 => hb _ l σ H1 S1 _ fun v2 e2 H2 S2 p2 => by
    subst p1 p2
    obtain ⟨N, n3, n5, n4, q⟩ := S2.ext
    have h2 := n5 _ List.mem_cons_self
    have h1 := n5 (v1, .int i) (List.mem_cons_of_mem _ List.mem_cons_self)
    cases h1; cases h2
    refine ⟨i, j, rfl, rfl, g i j, rfl, ?_⟩
    cases hg : g i j with
    | true =>
      refine (if_pos rfl).mpr (hc _ l σ H2 S2 _ fun v3 e3 H3 S3 p3 => ?_)
      subst p3
      obtain ⟨N3, m3, m5, m4, q3⟩ := S3.ext
      have h3 := m5 _ List.mem_cons_self
      cases h3
      refine ⟨j, m, rfl, rfl, k _ (.bool (g' j m)) H3 (q3 _ _ ex_refl fun p hp => ?_) (by simp [hg])⟩
      rcases List.mem_cons.mp hp with rfl | hp
      · exact .bl _
      · exact m5 p (List.mem_cons_of_mem _ (List.mem_cons_of_mem _ (List.mem_cons_of_mem _ hp)))
    | false =>
      refine (if_neg Bool.false_ne_true).mpr (k _ (.bool false) H2 (q _ _ ex_refl fun p hp => ?_) (by simp [hg]))
      rcases List.mem_cons.mp hp with rfl | hp
      · exact .bl _
      · exact n5 p (List.mem_cons_of_mem _ (List.mem_cons_of_mem _ hp))
theorem ev_if {a : Bool} (h : EvT W H0 tt ρ (· = a)) (h1 : a = true → EvP W H0 ta ρ P) (h2 : a = false → EvP W H0 tb ρ P) : EvP W H0 (tIf tt ta tb) ρ P := fun τ l σ H S Q k => h τ l σ H S _ fun c H1 S1 p => by
  subst p
  cases c with
  | true => exact (if_pos rfl).mpr (h1 rfl τ l σ H1 S1 Q k)
  | false => exact (if_neg Bool.false_ne_true).mpr (h2 rfl τ l σ H1 S1 Q k)
/-! ### slices -/
def EvO (W : Wd) (H0 : Hp) (to : TO) (ρ : List (Option Sl)) (o : Option Int) : Prop := ∀ τ l σ H, St W H0 ρ τ l σ H → ∀ Q : Option Int → Hp → Prop, (∀ H', St W H0 ρ τ l σ H' → Q o H') → to σ H Q
theorem eo_none : EvO W H0 tNoPart ρ none := fun τ l σ H S Q k => k H S
theorem eo_some {i : Int} (h : EvP W H0 te ρ (· = .int i)) : EvO W H0 (tPart te) ρ (some i) := fun τ l σ H S Q k => h τ l σ H S _ fun v e H1 S1 p => by
  subst p
  obtain ⟨N, n3, n5, n4, q⟩ := S1.ext
  have := n5 _ List.mem_cons_self
  cases this
  exact ⟨i, rfl, k H1 S1.pop⟩
def cutD {α : Type} (ds : List α) (lo hi : Option Int) : List α := (ds.drop (HT.sIx ds.length 0 lo)).take (HT.sIx ds.length ds.length hi - HT.sIx ds.length 0 lo)
theorem ev_slT {tl th : TO} {lo hi : Option Int} {ds : List PyData} (ha : EvP W H0 te ρ (· = .tuple ds)) (hl : EvO W H0 tl ρ lo) (hh : EvO W H0 th ρ hi) : EvP W H0 (tSl (rSlA K) te tl th) ρ (· = .tuple (cutD ds lo hi)) := fun τ l σ H S Q k =>
  ha τ l σ H S _ fun v e H1 S1 p => hl _ l σ H1 S1 _ fun H2 S2 => hh _ l σ H2 S2 _ fun H3 S3 => by
    subst p
    obtain ⟨N, n3, n5, n4, q⟩ := S3.ext
    have hv := n5 _ List.mem_cons_self
    have rest : ∀ p ∈ τ, Rg N H3 p.1 p.2 := fun p hp => n5 p (List.mem_cons_of_mem _ hp)
    cases hv with
    | tup hA hn hr =>
      rename_i a xs
      have ec : RgAll N H3 (cutV xs lo hi) (cutD ds lo hi) := by
        unfold cutV cutD
        rw [hr.len]
        exact (hr.drop _).take _
      refine ⟨a, xs, rfl, .inl (.inl hA), fun hw => ?_, fun _ p hp => ?_⟩
      · have e : cutD ds lo hi = ds := by
          unfold cutD
          rw [hr.len] at hw
          rw [hw.1, hw.2, List.drop_zero, Nat.sub_zero, List.take_length]
        refine k _ (.tuple ds) H3 (q _ _ ex_refl fun p hp => ?_) (by rw [e])
        rcases List.mem_cons.mp hp with rfl | hp
        · exact .tup hA hn hr
        · exact rest p hp
      · refine k _ (.tuple (cutD ds lo hi)) _ (q _ _ (Ex.new hp) fun p' hp' => ?_) rfl
        rcases List.mem_cons.mp hp' with rfl | hp'
        · exact .tup upd_same (n3.new hp) (ec.ex (Ex.new hp))
        · exact (rest p' hp').ex (Ex.new hp)
theorem ev_revT {ds : List PyData} (ha : EvP W H0 te ρ (· = .tuple ds)) : EvP W H0 (tRevT K te) ρ (· = .tuple ds.reverse) := fun τ l σ H S Q k =>
  ha τ l σ H S _ fun v e H3 S3 p => by
    subst p
    obtain ⟨N, n3, n5, n4, q⟩ := S3.ext
    have hv := n5 _ List.mem_cons_self
    cases hv with
    | tup hA hn hr =>
      refine ⟨_, _, rfl, .inl (.inl hA), fun p hp => k _ (.tuple ds.reverse) _ (q _ _ (Ex.new hp) fun p' hp' => ?_) rfl⟩
      rcases List.mem_cons.mp hp' with rfl | hp'
      · exact .tup upd_same (n3.new hp) (hr.rev.ex (Ex.new hp))
      · exact (n5 p' (List.mem_cons_of_mem _ hp')).ex (Ex.new hp)
/-! ### calls of defs -/
/-- a def upon data that changes nothing: where A holds of its arguments, its value is one of F -/
def SpF (A : List PyData → Prop) (F : List PyData → PyData → Prop) : Sp := fun vs H Q _ => ∃ N es, NOk N H ∧ RgAll N H vs es ∧ A es ∧ ∀ v e H', Ex H H' → Rg N H' v e → F es e → Q v H'
theorem ev_callF {A : List PyData → Prop} {F : List PyData → PyData → Prop} {PA : List PyData → Prop} (ha : EvA W H0 tas ρ PA) (hA : ∀ es, PA es → A es) : EvP W H0 (tCall (SpF A F) [] E0 tas) ρ (fun e => ∃ es, PA es ∧ F es e) := fun τ l σ H S Q k =>
  ha τ l σ H S _ fun vs es H1 S1 le pa => by
    obtain ⟨N, n3, n5, n4, q⟩ := S1.ext
    refine ⟨N, es, n3, ?_, hA es pa, fun v e H' x r f => k v e H' (q H' _ x fun p hp => ?_) ⟨es, pa, f⟩⟩
    · rw [List.append_nil]
      exact zip_all le fun p hp => n5 p (List.mem_append_left _ hp)
    · rcases List.mem_cons.mp hp with rfl | hp
      · exact r
      · exact (n5 p (List.mem_append_right _ hp)).ex x
/-- what stands while such a def runs -/
def WF (N : Addr → Prop) (H0 : Hp) : Wd where
  N := N
  I := fun H => NOk N H0 ∧ ∀ a, N a → H a = H0 a
  ok := fun H h a n => by rw [h.2 a n]; exact h.1 a n
  stab := fun H H' h x => ⟨h.1, fun a n => by rw [x a n]; exact h.2 a n⟩
def slotsOf (es : List PyData) (k : Nat) : List (Option Sl) := es.map (fun e => some (.dat e)) ++ List.replicate k none
theorem slots_start {N M : Addr → Prop} {H : Hp} {k : Nat} : ∀ {vs : List V} {es : List PyData}, RgAll N H vs es → Slots N M H (slotsOf es k) (vs.map some ++ List.replicate k none)
  | _, _, .nil => ⟨by simp [slotsOf], fun i s h => by
      have h' : (List.replicate k (none : Option Sl))[i]? = some (some s) := h
      rw [List.getElem?_replicate] at h'
      split at h' <;> cases h'⟩
  | v :: vs, e :: es, .cons r t => by
    obtain ⟨h1, h2⟩ := slots_start (M := M) (k := k) t
    refine ⟨by simpa [slotsOf] using h1, fun i s h => ?_⟩
    cases i with
    | zero =>
      have h' : some (some (Sl.dat e)) = some (some s) := h
      cases h'
      exact ⟨some v, rfl, v, rfl, r⟩
    | succ i => exact h2 i s h
theorem St.startF {N : Addr → Prop} {H : Hp} {vs : List V} {es : List PyData} {k : Nat} (ok : NOk N H) (r : RgAll N H vs es) : St (WF N H) H (slotsOf es k) [] [] (vs.map some ++ List.replicate k none) H :=
  ⟨⟨ok, fun _ _ => rfl⟩, fun _ _ e _ => e, N, fun _ h => h, fun _ h n => absurd h n, ok, slots_start r, (fun _ h => nomatch h), List.nodup_nil, fun _ h => nomatch h⟩
theorem St.endF {N : Addr → Prop} {H H' : Hp} {σ : L2.St} {τ : List (V × PyData)} {v : V} {e : PyData} {l : List (Addr × List PyData)} (S : St (WF N H) H ρ ((v, e) :: τ) l σ H') : Ex H H' ∧ Rg N H' v e := by
  obtain ⟨M, n1, n2, n3, n4, n5, n6⟩ := S.ex
  refine ⟨fun a o h => ?_, (n5 _ List.mem_cons_self).sub n1⟩
  by_cases hn : N a
  · rw [S.inv.2 a hn]; exact h
  · exact S.off a o h hn
end
end DL
set_option Elab.async false
set_option linter.all false
set_option maxRecDepth 100000
/-! The layer over data: local lists, comprehensions, loops, defs that draw. -/
namespace DL
open PySem PySem.Spec PyProof.Rows L2 Evl TB
section
variable {W : Wd} {H0 H H' : Hp} {ρ : List (Option Sl)} {τ τ' : List (V × PyData)} {l : List (Addr × List PyData)} {σ : L2.St}
theorem Rg.fresh {N : Addr → Prop} {H : Hp} {p : Addr} {v : V} {e : PyData} (hp : H p = none) (r : Rg N H v e) : Rg (fun a => N a ∨ a = p) H v e :=
  Rg.to (fun a o h n => ⟨h, fun q => q.elim n fun z => by rw [z, hp] at h; cases h⟩) e v r
theorem RgAll.fresh {N : Addr → Prop} {H : Hp} {p : Addr} {vs : List V} {es : List PyData} (hp : H p = none) (r : RgAll N H vs es) : RgAll (fun a => N a ∨ a = p) H vs es :=
  RgAll.to (fun a o h n => ⟨h, fun q => q.elim n fun z => by rw [z, hp] at h; cases h⟩) es vs r
/-- a new list of one's own -/
theorem St.newL {p : Addr} (S : St W H0 ρ τ l σ H) (hp : H p = none) : St W H0 ρ τ ((p, []) :: l) σ (upd H p (.lst [])) := by
  obtain ⟨N, n1, n2, n3, n4, n5, n6⟩ := S.ex
  have x : Ex H (upd H p (.lst [])) := Ex.new hp
  have hNp : ¬ N p := n3.new hp
  refine ⟨W.stab H _ S.inv fun a na => ?_, fun a o e n => x _ _ (S.off a o e n), fun a => N a ∨ a = p, fun a h => .inl (n1 a h), fun a h n => ?_, fun a h => ?_, ⟨n4.1, fun i s h => ?_⟩, fun q hq => ((n5 q hq).fresh hp).ex x, ?_, fun q hq => ?_⟩
  · rw [upd_ne (fun z => by rw [z] at na; exact hNp (n1 p na))]
  · rcases h with h | h
    · exact n2 a h n
    · subst h
      cases e : H0 a with
      | none => rfl
      | some o => rw [S.off a o e n] at hp; cases hp
  · rcases h with h | h
    · exact n3.ex x a h
    · rw [h, upd_same]; simp
  · obtain ⟨o, h1, h2⟩ := n4.2 i s h
    refine ⟨o, h1, ?_⟩
    cases s with
    | dat e => obtain ⟨v, q1, q2⟩ := h2; exact ⟨v, q1, (q2.fresh hp).ex x⟩
    | raw v => exact h2
  · rw [List.map_cons, List.nodup_cons]
    refine ⟨fun hm => ?_, n6.1⟩
    obtain ⟨q, hq, e⟩ := List.mem_map.mp hm
    have := (n6.2 q hq).1
    rw [e] at this
    exact hNp this
  · rcases List.mem_cons.mp hq with rfl | hq
    · exact ⟨.inr rfl, fun q => hNp (n1 p q), [], upd_same, .nil⟩
    · obtain ⟨a1, a2, xs, a3, a4⟩ := n6.2 q hq
      exact ⟨.inl a1, a2, xs, x _ _ a3, (a4.fresh hp).ex x⟩
theorem Rg.upd {N : Addr → Prop} {H : Hp} {p : Addr} {o : HO} (hp : N p) {v : V} {e : PyData} (r : Rg N H v e) : Rg N (upd H p o) v e :=
  Rg.to (fun a o' h n => ⟨by rw [upd_ne (fun z => by rw [z] at n; exact n hp)]; exact h, n⟩) e v r
theorem RgAll.upd {N : Addr → Prop} {H : Hp} {p : Addr} {o : HO} (hp : N p) {vs : List V} {es : List PyData} (r : RgAll N H vs es) : RgAll N (L2.upd H p o) vs es :=
  RgAll.to (fun a o' h n => ⟨by rw [upd_ne (fun z => by rw [z] at n; exact n hp)]; exact h, n⟩) es vs r
/-- the last value is put behind a list of one's own -/
theorem St.app {p : Addr} {ds : List PyData} {v : V} {e : PyData} (S : St W H0 ρ ((v, e) :: τ) ((p, ds) :: l) σ H) : ∃ xs, H p = some (.lst xs) ∧ xs.length = ds.length ∧ St W H0 ρ τ ((p, ds ++ [e]) :: l) σ (L2.upd H p (.lst (xs ++ [v]))) := by
  obtain ⟨N, n1, n2, n3, n4, n5, n6⟩ := S.ex
  obtain ⟨b1, b2, xs, b3, b4⟩ := n6.2 _ List.mem_cons_self
  refine ⟨xs, b3, b4.len, W.stab H _ S.inv fun a na => ?_, fun a o e n => ?_, N, n1, n2, fun a h => ?_, ⟨n4.1, fun i s h => ?_⟩, fun q hq => (n5 q (List.mem_cons_of_mem _ hq)).upd b1, n6.1, fun q hq => ?_⟩
  · rw [upd_ne (fun z => by rw [z] at na; exact b2 na)]
  · rw [upd_ne (fun z => ?_)]
    · exact S.off a o e n
    · have := n2 p b1 b2
      rw [z, this] at e; cases e
  · by_cases z : a = p
    · rw [z, upd_same]; simp
    · rw [upd_ne z]; exact n3 a h
  · obtain ⟨o, h1, h2⟩ := n4.2 i s h
    refine ⟨o, h1, ?_⟩
    cases s with
    | dat e => obtain ⟨v, q1, q2⟩ := h2; exact ⟨v, q1, q2.upd b1⟩
    | raw v => exact h2
  · rcases List.mem_cons.mp hq with rfl | hq
    · exact ⟨b1, b2, _, upd_same, (b4.app (.cons (n5 _ List.mem_cons_self) .nil)).upd b1⟩
    · obtain ⟨a1, a2, ys, a3, a4⟩ := n6.2 q (List.mem_cons_of_mem _ hq)
      have nd := n6.1
      rw [List.map_cons, List.nodup_cons] at nd
      have hne : q.1 ≠ p := fun z => nd.1 (List.mem_map.mpr ⟨q, hq, z⟩)
      exact ⟨a1, a2, ys, by rw [upd_ne hne]; exact a3, a4.upd b1⟩
/-- a list of one's own is data from now on -/
theorem St.frz {p : Addr} {ds : List PyData} (S : St W H0 ρ τ ((p, ds) :: l) σ H) : St W H0 ρ ((.ref p, .list ds) :: τ) l σ H := by
  obtain ⟨N, n1, n2, n3, n4, n5, n6⟩ := S.ex
  obtain ⟨b1, b2, xs, b3, b4⟩ := n6.2 _ List.mem_cons_self
  have sub : ∀ a, (N a ∧ a ≠ p) → N a := fun a h => h.1
  have nd := n6.1
  rw [List.map_cons, List.nodup_cons] at nd
  refine ⟨S.inv, S.off, fun a => N a ∧ a ≠ p, fun a h => ⟨n1 a h, fun z => b2 (z ▸ h)⟩, fun a h n => n2 a h.1 n, fun a h => n3 a h.1, ⟨n4.1, fun i s h => ?_⟩, fun q hq => ?_, nd.2, fun q hq => ?_⟩
  · obtain ⟨o, h1, h2⟩ := n4.2 i s h
    refine ⟨o, h1, ?_⟩
    cases s with
    | dat e => obtain ⟨v, q1, q2⟩ := h2; exact ⟨v, q1, q2.sub sub⟩
    | raw v => exact h2
  · rcases List.mem_cons.mp hq with rfl | hq
    · exact .lst b3 (fun z => z.2 rfl) (RgAll.to (fun a o h n => ⟨h, fun z => n z.1⟩) _ _ b4)
    · exact (n5 q hq).sub sub
  · obtain ⟨a1, a2, ys, a3, a4⟩ := n6.2 q (List.mem_cons_of_mem _ hq)
    exact ⟨⟨a1, fun z => nd.1 (List.mem_map.mpr ⟨q, hq, z⟩)⟩, a2, ys, a3, RgAll.to (fun a o h n => ⟨h, fun z => n z.1⟩) _ _ a4⟩
theorem St.raws {i : Nat} {v : V} (S : St W H0 ρ τ l σ H) (hσ : σ[i]? = some (some v)) (hi : i < ρ.length) : St W H0 (ρ.set i (some (.raw v))) τ l σ H := by
  obtain ⟨N, n1, n2, n3, n4, n5, n6⟩ := S.ex
  refine ⟨S.inv, S.off, N, n1, n2, n3, ⟨by rw [List.length_set]; exact n4.1, fun j s h => ?_⟩, n5, n6⟩
  by_cases hj : i = j
  · subst hj
    rw [List.getElem?_set_self hi] at h
    cases h
    exact ⟨_, hσ, rfl⟩
  · rw [List.getElem?_set_ne hj] at h
    exact n4.2 j s h
/-- fewer slots known -/
theorem St.less {ρ' : List (Option Sl)} (S : St W H0 ρ τ l σ H) (hl : ρ'.length = ρ.length) (h : ∀ (i : Nat) (s : Sl), ρ'[i]? = some (some s) → ρ[i]? = some (some s)) : St W H0 ρ' τ l σ H := by
  obtain ⟨N, n1, n2, n3, n4, n5, n6⟩ := S.ex
  exact ⟨S.inv, S.off, N, n1, n2, n3, ⟨by rw [hl]; exact n4.1, fun i s e => n4.2 i s (h i s e)⟩, n5, n6⟩
def wipeR (ρ : List (Option Sl)) : List Nat → List (Option Sl)
  | [] => ρ
  | v :: vs => (wipeR ρ vs).set v none
theorem St.wipe (S : St W H0 ρ τ l σ H) : ∀ vs, St W H0 (wipeR ρ vs) τ l (L2.wipe σ vs) H
  | [] => S
  | v :: vs => (S.wipe vs).clr
theorem wipe_id {i : Nat} {o : Option V} : (L2.wipe ((L2.wipe σ [i]).set i o) [i]) = L2.wipe σ [i] := by
  show ((σ.set i none).set i o).set i none = σ.set i none
  rw [List.set_set, List.set_set]
end
section
variable {W : Wd} {H0 : Hp} {ρ : List (Option Sl)} {te ta tb tn : TE} {tas : TA} {P P1 P2 : PyData → Prop} {K : PySem.W.Frag} {tt : TT}
/-- behind a block: the outer slots again -/
theorem St.re {τ : List (V × PyData)} {l : List (Addr × List PyData)} {σ σ' : L2.St} {H : Hp} {i : Nat} {x : Option Sl} (S : St W H0 (ρ.set i x) τ l σ' H) (hi : ρ[i]? = some none) (hσ : ∀ j, j ≠ i → σ'[j]? = σ[j]?) (hl : ρ.length = σ.length) : St W H0 ρ τ l σ H := by
  obtain ⟨N, n1, n2, n3, n4, n5, n6⟩ := S.ex
  refine ⟨S.inv, S.off, N, n1, n2, n3, ⟨hl, fun j s h => ?_⟩, n5, n6⟩
  have hj : j ≠ i := fun z => by rw [z, hi] at h; cases h
  obtain ⟨o, h1, h2⟩ := n4.2 j s (by rw [List.getElem?_set_ne hj.symm]; exact h)
  exact ⟨o, by rw [← hσ j hj]; exact h1, h2⟩
theorem wipe_set_ne {σ : L2.St} {i j : Nat} {o : Option V} (h : j ≠ i) : ((L2.wipe σ [i]).set i o)[j]? = σ[j]? := by
  show ((σ.set i none).set i o)[j]? = σ[j]?
  rw [List.set_set, List.getElem?_set_ne h.symm]
/-- [e for x in range(n)] -/
theorem ev_lcR {n : Int} {i : Nat} (hn0 : 0 ≤ n) (hn : n ≤ 1000) (hi : ρ[i]? = some none) (ha : EvP W H0 tn ρ (· = .int n))
    (he : ∀ j : Nat, (j : Int) < n → EvP W H0 te (ρ.set i (some (.dat (.int j)))) P) :
    EvP W H0 (tLc (iRng1 (tCons tn tNil)) (gName i) tYes te [i]) ρ (fun e => ∃ ds : List PyData, e = .list ds ∧ (ds.length : Int) = n ∧ ∀ d ∈ ds, P d) := fun τ l σ H S Q k =>
  ha τ l σ H S _ fun v e H1 S1 p => by
    subst p
    obtain ⟨N, n3, n5, n4, q⟩ := S1.ext
    have hv := n5 _ List.mem_cons_self
    cases hv
    refine ⟨n, rfl, by omega, by omega, fun D hD => ?_⟩
    -- the outer slots stand beside the block's
    refine lc_range (lo := 0) (n := n.toNat) (fun j H' => ∃ ds : List PyData, ds.length = j ∧ (∀ d ∈ ds, P d) ∧ St W H0 ρ τ ((D, ds) :: l) σ H') ?_ (fun j H' hj h => ?_) (fun H' h => ?_)
    · exact ⟨[], rfl, (fun d h => nomatch h), (S1.pop).newL hD⟩
    · obtain ⟨ds, hl, hd, S2⟩ := h
      have S3 : St W H0 (ρ.set i (some (.dat (.int j)))) τ ((D, ds) :: l) ((L2.wipe σ [i]).set i (some (.int (0 + (j : Int))))) H' := by
        have a := (S2.wipe [i])
        obtain ⟨N', m3, m5, m4, q'⟩ := a.ext
        have b := q' H' (((.int (0 + (j : Int)), .int (0 + (j : Int))) : V × PyData) :: τ) ex_refl fun p hp => by
          rcases List.mem_cons.mp hp with rfl | hp
          · exact .int _
          · exact m5 p hp
        have c := b.set (i := i)
        have e1 : (wipeR ρ [i]).set i (some (Sl.dat (.int (0 + (j : Int))))) = ρ.set i (some (.dat (.int j))) := by
          show (ρ.set i none).set i _ = _
          rw [List.set_set, Int.zero_add]
        rw [e1] at c
        exact c
      refine ⟨wipe_id, he j (by omega) τ _ _ H' S3 _ fun y e H4 S4 pe => ?_⟩
      have S5 := S4.re hi (fun j hj => wipe_set_ne hj) S.len
      obtain ⟨xs, x1, x2, S6⟩ := S5.app
      exact ⟨xs, x1, size_small' (by rw [x2]; omega), ds ++ [e], by rw [List.length_append, hl]; rfl, fun d h => by
        rcases List.mem_append.mp h with h | h
        · exact hd d h
        · rw [List.mem_singleton.mp h]; exact pe, S6⟩
    · obtain ⟨ds, hl, hd, S2⟩ := h
      exact k _ _ H' S2.frz ⟨ds, rfl, by omega, hd⟩
/-- a value's list, held fast: it is the same in every state over the new base -/
theorem St.baseL {τ : List (V × PyData)} {l : List (Addr × List PyData)} {σ : L2.St} {H : Hp} {v : V} {ds : List PyData} (S : St W H0 ρ ((v, .list ds) :: τ) l σ H) :
    ∃ a xs, v = .ref a ∧ H a = some (.lst xs) ∧ xs.length = ds.length ∧ ¬ W.N a ∧ (∀ b o, H0 b = some o → ¬ W.N b → upd H0 a (.lst xs) b = some o) ∧ (∀ b, upd H0 a (.lst xs) b = none → H0 b = none) ∧ St W (upd H0 a (.lst xs)) ρ ((v, .list ds) :: τ) l σ H := by
  obtain ⟨N, n1, n2, n3, n4, n5, n6⟩ := S.ex
  have hv := n5 _ List.mem_cons_self
  cases hv with
  | lst hA hn hr =>
    rename_i a xs
    refine ⟨a, xs, rfl, hA, hr.len, fun h => hn (n1 a h), fun b o e nb => ?_, fun b e => ?_, S.inv, fun b o e nb => ?_, N, n1, fun b h nb => ?_, n3, n4, n5, n6⟩
    · by_cases z : b = a
      · subst z
        have := S.off b o e nb
        rw [this] at hA
        cases hA
        exact upd_same
      · rw [upd_ne z]; exact e
    · by_cases z : b = a
      · rw [z, upd_same] at e; cases e
      · rw [upd_ne z] at e; exact e
    · by_cases z : b = a
      · rw [z, upd_same] at e; cases e; rw [z]; exact hA
      · rw [upd_ne z] at e; exact S.off b o e nb
    · rw [upd_ne (fun z => by rw [z] at h; exact hn h)]
      exact n2 b h nb
theorem St.baseT {τ : List (V × PyData)} {l : List (Addr × List PyData)} {σ : L2.St} {H : Hp} {v : V} {ds : List PyData} (S : St W H0 ρ ((v, .tuple ds) :: τ) l σ H) :
    ∃ a xs, v = .ref a ∧ H a = some (.tup xs) ∧ xs.length = ds.length ∧ ¬ W.N a ∧ (∀ b o, H0 b = some o → ¬ W.N b → upd H0 a (.tup xs) b = some o) ∧ (∀ b, upd H0 a (.tup xs) b = none → H0 b = none) ∧ St W (upd H0 a (.tup xs)) ρ ((v, .tuple ds) :: τ) l σ H := by
  obtain ⟨N, n1, n2, n3, n4, n5, n6⟩ := S.ex
  have hv := n5 _ List.mem_cons_self
  cases hv with
  | tup hA hn hr =>
    rename_i a xs
    refine ⟨a, xs, rfl, hA, hr.len, fun h => hn (n1 a h), fun b o e nb => ?_, fun b e => ?_, S.inv, fun b o e nb => ?_, N, n1, fun b h nb => ?_, n3, n4, n5, n6⟩
    · by_cases z : b = a
      · subst z
        have := S.off b o e nb
        rw [this] at hA
        cases hA
        exact upd_same
      · rw [upd_ne z]; exact e
    · by_cases z : b = a
      · rw [z, upd_same] at e; cases e
      · rw [upd_ne z] at e; exact e
    · by_cases z : b = a
      · rw [z, upd_same] at e; cases e; rw [z]; exact hA
      · rw [upd_ne z] at e; exact S.off b o e nb
    · rw [upd_ne (fun z => by rw [z] at h; exact hn h)]
      exact n2 b h nb
/-- back to the base ahead -/
theorem St.unbase {G : Hp} {τ : List (V × PyData)} {l : List (Addr × List PyData)} {σ : L2.St} {H : Hp} (h1 : ∀ b o, H0 b = some o → ¬ W.N b → G b = some o) (h2 : ∀ b, G b = none → H0 b = none) (S : St W G ρ τ l σ H) : St W H0 ρ τ l σ H := by
  obtain ⟨N, n1, n2, n3, n4, n5, n6⟩ := S.ex
  exact ⟨S.inv, fun b o e n => S.off b o (h1 b o e n) n, N, n1, fun b h n => h2 b (n2 b h n), n3, n4, n5, n6⟩
/-- an item of a list held fast, as the block's own name -/
theorem St.item {τ : List (V × PyData)} {l : List (Addr × List PyData)} {σ : L2.St} {H : Hp} {a : Addr} {xs : List V} {ds : List PyData} {c : PyData} {j : Nat} {x : V} (S : St W H0 ρ ((.ref a, c) :: τ) l σ H)
    (hc : ∀ N, Rg N H (.ref a) c → RgAll N H xs ds) (hx : xs[j]? = some x) : ∃ d, ds[j]? = some d ∧ St W H0 ρ ((x, d) :: (.ref a, c) :: τ) l σ H := by
  obtain ⟨N, n1, n2, n3, n4, n5, n6⟩ := S.ex
  obtain ⟨d, h1, h2⟩ := (hc N (n5 _ List.mem_cons_self)).get hx
  exact ⟨d, h1, S.inv, S.off, N, n1, n2, n3, n4, fun p hp => by
    rcases List.mem_cons.mp hp with rfl | hp
    · exact h2
    · exact n5 p hp, n6⟩
def Rel2 (R : PyData → PyData → Prop) (ds es : List PyData) : Prop := es.length = ds.length ∧ ∀ (i : Nat) (d e : PyData), ds[i]? = some d → es[i]? = some e → R d e
theorem Rel2.snoc {R : PyData → PyData → Prop} {ds es : List PyData} {j : Nat} {d e : PyData} (h : Rel2 R (ds.take j) es) (hd : ds[j]? = some d) (r : R d e) : Rel2 R (ds.take (j + 1)) (es ++ [e]) := by
  have jl : j < ds.length := (List.getElem?_eq_some_iff.mp hd).1
  have tl : (ds.take j).length = j := by rw [List.length_take]; omega
  have el : es.length = j := by rw [h.1, tl]
  refine ⟨by rw [List.length_append, List.length_take, el]; simp; omega, fun i x y hx hy => ?_⟩
  have il : i < j + 1 := by
    have := (List.getElem?_eq_some_iff.mp hy).1
    rw [List.length_append, el] at this
    exact this
  by_cases z : i < j
  · rw [List.getElem?_append_left (by omega)] at hy
    refine h.2 i x y ?_ hy
    rw [List.getElem?_take_of_lt z]
    rw [List.getElem?_take_of_lt il] at hx
    exact hx
  · have : i = j := by omega
    subst this
    rw [List.getElem?_append_right (by omega), el, Nat.sub_self] at hy
    rw [List.getElem?_take_of_lt il, hd] at hx
    cases hx
    have hy' : some e = some y := hy
    cases hy'
    exact r
/-- [e for x in t], t a tuple -/
theorem ev_lcT {i : Nat} {ds : List PyData} {R : PyData → PyData → Prop} (hl : ds.length ≤ 1000) (hi : ρ[i]? = some none) (ha : EvP W H0 ta ρ (· = .tuple ds))
    (he : ∀ G d, d ∈ ds → EvP W G te (ρ.set i (some (.dat d))) (R d)) :
    EvP W H0 (tLc (iTup K ta) (gName i) tYes te [i]) ρ (fun e => ∃ es : List PyData, e = .list es ∧ Rel2 R ds es) := fun τ l σ H S Q k =>
  ha τ l σ H S _ fun v e H1 S1 p => by
    subst p
    obtain ⟨a, xs, rfl, hA, hlen, hna, u1, u2, B⟩ := S1.baseT
    refine ⟨a, rfl, ⟨xs, .inl (.inl hA)⟩, fun D hD => ?_⟩
    have keep : ∀ {τ' l' σ' H'}, St W (upd H0 a (.tup xs)) ρ τ' l' σ' H' → H' a = some (.tup xs) := fun S => S.off a _ upd_same hna
    refine lc_tup (K := K) (a := a) (xs := xs) (fun j H' => ∃ es : List PyData, Rel2 R (ds.take j) es ∧ St W (upd H0 a (.tup xs)) ρ ((.ref a, .tuple ds) :: τ) ((D, es) :: l) σ H') ?_ (fun j H' _ h => ?_) (fun j x H' hx h => ?_) (fun H' h => ?_)
    · exact ⟨[], ⟨by simp, fun _ _ _ _ h => by simp at h⟩, B.newL hD⟩
    · obtain ⟨es, _, S2⟩ := h
      exact .inl (.inl (keep S2))
    · obtain ⟨es, hr, S2⟩ := h
      have hAk := keep S2
      obtain ⟨d, hd, S3⟩ := S2.item (xs := xs) (ds := ds) (fun N r => by
        cases r with
        | tup q1 q2 q3 => rw [hAk] at q1; cases q1; exact q3) hx
      have S4 := (S3.wipe [i]).set (i := i)
      have e1 : (wipeR ρ [i]).set i (some (Sl.dat d)) = ρ.set i (some (.dat d)) := by
        show (ρ.set i none).set i _ = _
        rw [List.set_set]
      rw [e1] at S4
      refine ⟨wipe_id, he _ d (List.mem_of_getElem? hd) _ _ _ H' S4 _ fun y e H4 S5 pe => ?_⟩
      have S6 := S5.re hi (fun j hj => wipe_set_ne hj) S.len
      obtain ⟨ys, x1, x2, S7⟩ := S6.app
      have el : es.length ≤ 1000 := by rw [hr.1, List.length_take]; omega
      exact ⟨ys, x1, size_small' (by rw [x2]; omega), es ++ [e], hr.snoc hd pe, S7⟩
    · obtain ⟨es, hr, S2⟩ := h
      rw [hlen, List.take_length] at hr
      exact k _ _ H' (((S2.unbase u1 u2).frz).mono fun p hp => by
        rcases List.mem_cons.mp hp with rfl | hp
        · exact List.mem_cons_self
        · exact List.mem_cons_of_mem _ (List.mem_cons_of_mem _ hp)) ⟨es, rfl, hr⟩
/-- [e for x in range(n) if t], known -/
theorem ev_lcRf {n : Int} {i : Nat} {b : Nat → Bool} {f : Nat → PyData} (hn0 : 0 ≤ n) (hn : n ≤ 1000) (hi : ρ[i]? = some none) (ha : EvP W H0 tn ρ (· = .int n))
    (ht : ∀ j : Nat, (j : Int) < n → EvT W H0 tt (ρ.set i (some (.dat (.int j)))) (· = b j)) (he : ∀ j : Nat, (j : Int) < n → b j = true → EvP W H0 te (ρ.set i (some (.dat (.int j)))) (· = f j)) :
    EvP W H0 (tLc (iRng1 (tCons tn tNil)) (gName i) tt te [i]) ρ (· = .list (((List.range n.toNat).filter b).map f)) := fun τ l σ H S Q k =>
  ha τ l σ H S _ fun v e H1 S1 p => by
    subst p
    obtain ⟨N, n3, n5, n4, q⟩ := S1.ext
    have hv := n5 _ List.mem_cons_self
    cases hv
    refine ⟨n, rfl, by omega, by omega, fun D hD => ?_⟩
    refine lc_range (lo := 0) (n := n.toNat) (fun j H' => St W H0 ρ τ ((D, ((List.range j).filter b).map f) :: l) σ H') ((S1.pop).newL hD) (fun j H' hj S2 => ?_) (fun H' S2 => k _ _ H' S2.frz rfl)
    have S3 : St W H0 (ρ.set i (some (.dat (.int j)))) τ ((D, ((List.range j).filter b).map f) :: l) ((L2.wipe σ [i]).set i (some (.int (0 + (j : Int))))) H' := by
      have a := (S2.wipe [i])
      obtain ⟨N', m3, m5, m4, q'⟩ := a.ext
      have c := (q' H' (((.int (0 + (j : Int)), .int (0 + (j : Int))) : V × PyData) :: τ) ex_refl fun p hp => by
        rcases List.mem_cons.mp hp with rfl | hp
        · exact .int _
        · exact m5 p hp).set (i := i)
      have e1 : (wipeR ρ [i]).set i (some (Sl.dat (.int (0 + (j : Int))))) = ρ.set i (some (.dat (.int j))) := by
        show (ρ.set i none).set i _ = _
        rw [List.set_set, Int.zero_add]
      rw [e1] at c
      exact c
    refine ⟨wipe_id, ht j (by omega) τ _ _ H' S3 _ fun c H3 S4 pc => ?_⟩
    subst pc
    have el : (((List.range j).filter b).map f).length ≤ 1000 := by
      rw [List.length_map]
      have := List.length_filter_le b (List.range j)
      rw [List.length_range] at this
      omega
    have er : (((List.range (j + 1)).filter b).map f) = (((List.range j).filter b).map f) ++ (if b j = true then [f j] else []) := by
      rw [List.range_succ, List.filter_append, List.map_append]
      cases hb : b j <;> simp [hb]
    cases hb : b j with
    | true =>
      refine (if_pos rfl).mpr (he j (by omega) hb τ _ _ H3 S4 _ fun y e H4 S5 pe => ?_)
      subst pe
      have S6 := S5.re hi (fun j hj => wipe_set_ne hj) S.len
      obtain ⟨ys, x1, x2, S7⟩ := S6.app
      rw [er, hb, if_pos rfl]
      exact ⟨ys, x1, size_small' (by rw [x2]; omega), S7⟩
    | false =>
      refine (if_neg Bool.false_ne_true).mpr ?_
      rw [er, hb, if_neg Bool.false_ne_true, List.append_nil]
      exact S4.re hi (fun j hj => wipe_set_ne hj) S.len
end
end DL
set_option Elab.async false
set_option linter.all false
set_option maxRecDepth 100000
/-! The layer over data: defs that draw numbers from the deck. -/
namespace DL
open PySem PySem.Spec PyProof.Rows L2 Evl TB
/-- what stands while a def that draws runs -/
def WD (d g l : Addr) (N : Addr → Prop) (B : Hp) : Wd where
  N := N
  I := fun H => NOk N H ∧ N d ∧ N g ∧ N l ∧ Deck H d g l ∧ ∀ a, N a → a ≠ d → a ≠ g → a ≠ l → H a = B a
  ok := fun H h => h.1
  stab := fun H H' h x => by
    obtain ⟨h1, h2, h3, h4, ⟨gs, ls, c, q1, q2, q3, q4⟩, h6⟩ := h
    exact ⟨fun a n => by rw [x a n]; exact h1 a n, h2, h3, h4, ⟨gs, ls, c, by rw [x d h2]; exact q1, by rw [x g h3]; exact q2, by rw [x l h4]; exact q3, q4⟩, fun a n n1 n2 n3 => by rw [x a n]; exact h6 a n n1 n2 n3⟩
def Oth (d g l : Addr) (H H' : Hp) : Prop := ∀ a o, H a = some o → a ≠ d → a ≠ g → a ≠ l → H' a = some o
def SpW (A : List PyData → Prop) (F : List PyData → PyData → Prop) : Sp := fun vs H Q _ => ∃ (d g l : Addr) (N : Addr → Prop) (es : List PyData) (vs' : List V), vs = .ref d :: vs' ∧ NOk N H ∧ N d ∧ N g ∧ N l ∧ Deck H d g l ∧ RgAll N H vs' es ∧ A es ∧
  ∀ v e H', Deck H' d g l → Oth d g l H H' → Rg N H' v e → F es e → Q v H'
section
variable {d g l : Addr} {N : Addr → Prop} {B H0 H H' : Hp} {ρ : List (Option Sl)} {te : TE} {tas : TA} {τ : List (V × PyData)} {loc : List (Addr × List PyData)} {σ : L2.St}
theorem Deck.tr {H : Hp} (D : Deck H d g l) : ∀ a, a = d ∨ a = g ∨ a = l → H a ≠ none := by
  obtain ⟨gs, ls, c, q1, q2, q3, _⟩ := D
  rintro a (rfl | rfl | rfl)
  · rw [q1]; simp
  · rw [q2]; simp
  · rw [q3]; simp
theorem nok_oth {M : Addr → Prop} (h : NOk M H) (D : Deck H' d g l) (x : Oth d g l H H') : NOk M H' := fun a n => by
  by_cases z : a = d ∨ a = g ∨ a = l
  · exact Deck.tr D a z
  · cases e : H a with
    | none => exact absurd e (h a n)
    | some o => rw [x a o e (fun q => z (.inl q)) (fun q => z (.inr (.inl q))) fun q => z (.inr (.inr q))]; simp
/-- the state behind a draw -/
theorem St.oth (S : St (WD d g l N B) H0 ρ τ loc σ H) :
    ∃ M : Addr → Prop, NOk M H ∧ M d ∧ M g ∧ M l ∧ Deck H d g l ∧ (∀ p ∈ τ, Rg M H p.1 p.2) ∧ ∀ (H' : Hp) (τ' : List (V × PyData)), Deck H' d g l → Oth d g l H H' → (∀ p ∈ τ', Rg M H' p.1 p.2) → St (WD d g l N B) H0 ρ τ' loc σ H' := by
  obtain ⟨M, n1, n2, n3, n4, n5, n6⟩ := S.ex
  obtain ⟨i1, i2, i3, i4, i5, i6⟩ := S.inv
  refine ⟨M, n3, n1 d i2, n1 g i3, n1 l i4, i5, n5, fun H' τ' D x h => ?_⟩
  have keep : ∀ {P : Addr → Prop}, P d → P g → P l → ∀ a o, H a = some o → ¬ P a → H' a = some o := fun {P} pd pg pl a o e n => x a o e (fun z => n (z ▸ pd)) (fun z => n (z ▸ pg)) fun z => n (z ▸ pl)
  have kM := keep (P := M) (n1 d i2) (n1 g i3) (n1 l i4)
  refine ⟨⟨nok_oth i1 D x, i2, i3, i4, D, fun a n q1 q2 q3 => ?_⟩, fun a o e n => keep (P := N) i2 i3 i4 a o (S.off a o e n) n, M, n1, n2, nok_oth n3 D x, ⟨n4.1, fun i s e => ?_⟩, h, n6.1, fun p hp => ?_⟩
  · rw [← i6 a n q1 q2 q3]
    cases e : H a with
    | none => exact absurd e (i1 a n)
    | some o => exact x a o e q1 q2 q3
  · obtain ⟨o, a1, a2⟩ := n4.2 i s e
    refine ⟨o, a1, ?_⟩
    cases s with
    | dat e => obtain ⟨v, b1, b2⟩ := a2; exact ⟨v, b1, Rg.to (fun a o h n => ⟨kM a o h n, n⟩) _ _ b2⟩
    | raw v => exact a2
  · obtain ⟨a1, a2, xs, a3, a4⟩ := n6.2 p hp
    have a2' : ¬ N p.1 := a2
    exact ⟨a1, a2, xs, keep (P := N) i2 i3 i4 _ _ a3 a2', RgAll.to (fun a o h n => ⟨kM a o h n, n⟩) _ _ a4⟩
theorem ev_callW {A : List PyData → Prop} {F : List PyData → PyData → Prop} {PA : List PyData → Prop} {i : Nat} (hr : ρ[i]? = some (some (.raw (.ref d)))) (ha : EvA (WD d g l N B) H0 tas ρ PA) (hA : ∀ es, PA es → A es) :
    EvP (WD d g l N B) H0 (tCall (SpW A F) [] E0 (tCons (tVar i) tas)) ρ (fun e => ∃ es, PA es ∧ F es e) := fun τ loc σ H S Q k =>
  ⟨.ref d, S.raw hr, ha τ loc σ H S _ fun vs es H1 S1 le pa => by
    obtain ⟨M, m1, m2, m3, m4, m5, m6, q⟩ := S1.oth
    refine ⟨d, g, l, M, es, vs, by rw [List.append_nil], m1, m2, m3, m4, m5, zip_all le fun p hp => m6 p (List.mem_append_left _ hp), hA es pa, fun v e H' D x r f => k v e H' (q H' _ D x fun p hp => ?_) ⟨es, pa, f⟩⟩
    rcases List.mem_cons.mp hp with rfl | hp
    · exact r
    · exact Rg.to (fun a o h n => ⟨x a o h (fun z => n (z ▸ m2)) (fun z => n (z ▸ m3)) fun z => n (z ▸ m4), n⟩) _ _ (m6 p (List.mem_append_right _ hp))⟩
theorem St.startW {vs : List V} {es : List PyData} {k : Nat} (ok : NOk N H) (h1 : N d) (h2 : N g) (h3 : N l) (D : Deck H d g l) (r : RgAll N H vs es) :
    St (WD d g l N H) H (some (.raw (.ref d)) :: slotsOf es k) [] [] (some (.ref d) :: (vs.map some ++ List.replicate k none)) H := by
  refine ⟨⟨ok, h1, h2, h3, D, fun _ _ _ _ _ => rfl⟩, fun _ _ e _ => e, N, fun _ h => h, fun _ h n => absurd h n, ok, ⟨?_, fun i s h => ?_⟩, (fun _ h => nomatch h), List.nodup_nil, fun _ h => nomatch h⟩
  · have := (slots_start (M := N) (k := k) r).1
    simpa using this
  · cases i with
    | zero =>
      have h' : some (some (Sl.raw (.ref d))) = some (some s) := h
      cases h'
      exact ⟨_, rfl, rfl⟩
    | succ i => exact (slots_start (M := N) (k := k) r).2 i s h
theorem St.endW {v : V} {e : PyData} (S : St (WD d g l N H) H ρ ((v, e) :: τ) loc σ H') : Deck H' d g l ∧ Oth d g l H H' ∧ Rg N H' v e := by
  obtain ⟨M, n1, n2, n3, n4, n5, n6⟩ := S.ex
  obtain ⟨i1, i2, i3, i4, i5, i6⟩ := S.inv
  refine ⟨i5, fun a o h q1 q2 q3 => ?_, (n5 _ List.mem_cons_self).sub n1⟩
  by_cases hn : N a
  · rw [i6 a hn q1 q2 q3]; exact h
  · exact S.off a o h hn
end
/-! ### the draws -/
def drawA (es : List PyData) : Prop := ∃ m : Int, es = [.int m] ∧ 0 < m ∧ m ≤ 1000000000000
def drawF (es : List PyData) (e : PyData) : Prop := ∃ m r : Int, es = [.int m] ∧ e = .int r ∧ 0 ≤ r ∧ r < m
theorem draw_imp {vs : List V} {H : Hp} {Q : VK} {E : XK} (h : SpW drawA drawF vs H Q E) : spDraw vs H Q E := by
  obtain ⟨d, g, l, N, es, vs', rfl, ok, nd, ng, nl, D, r, ⟨m, rfl, m0, m1⟩, q⟩ := h
  cases r with
  | cons r1 r2 =>
    cases r2; cases r1
    exact ⟨d, g, l, m, rfl, m0, m1, D, fun r H' r0 r1 D' o => q _ (.int r) H' D' (fun a o' e n1 n2 _ => o a o' e n1 n2) (.int r) ⟨m, r, rfl, rfl, r0, r1⟩⟩
def oneA (es : List PyData) : Prop := ∃ ds, es = [.list ds] ∧ 0 < ds.length ∧ ds.length ≤ 1000
def oneF (es : List PyData) (e : PyData) : Prop := ∃ ds, es = [.list ds] ∧ e ∈ ds
theorem one_imp {vs : List V} {H : Hp} {Q : VK} {E : XK} (h : SpW oneA oneF vs H Q E) : spOne vs H Q E := by
  obtain ⟨d, g, l, N, es, vs', rfl, ok, nd, ng, nl, D, r, ⟨ds, rfl, m0, m1⟩, q⟩ := h
  cases r with
  | cons r1 r2 =>
    cases r2
    cases r1 with
    | lst hA hn hr =>
      refine ⟨d, g, l, _, _, rfl, D, hA, fun z => hn (z ▸ nd), fun z => hn (z ▸ ng), by rw [hr.len]; exact m0, by rw [hr.len]; exact m1, fun i v H' hv D' o => ?_⟩
      obtain ⟨e, he, hre⟩ := hr.get hv
      exact q v e H' D' (fun a o' h n1 n2 _ => o a o' h n1 n2) (Rg.to (fun a o' h n => ⟨o a o' h (fun z => n (z ▸ nd)) (fun z => n (z ▸ ng)), n⟩) _ _ hre) ⟨ds, rfl, List.mem_of_getElem? he⟩
section
variable {P : Program} {w : World} {K : PySem.W.Frag} {mg : Str → Option Value} {base : Heap} {k : Nat} {x : Str} {ps : List Str}
theorem Keeps.imp {sp sp' : Sp} (h : Keeps P w K mg base k x ps sp) (i : ∀ vs H Q E, sp' vs H Q E → sp vs H Q E) : Keeps P w K mg base k x ps sp' := by
  obtain ⟨f, fd, a, b, c, G⟩ := h
  exact ⟨f, fd, a, b, c, G.imp i⟩
theorem Keeps.up {sp : Sp} {j : Nat} (h : Keeps P w K mg base k x ps sp) (i : k ≤ j) : Keeps P w K mg base j x ps sp := by
  obtain ⟨f, fd, a, b, c, G⟩ := h
  exact ⟨f, fd, a, b, c, G.mono i⟩
end
end DL
set_option Elab.async false
set_option linter.all false
set_option maxRecDepth 100000
/-! What is drawn. -/
namespace DL
open PySem PySem.Spec PyProof.Rows L2 Evl TB
section
variable {W : Wd} {H0 : Hp} {ρ : List (Option Sl)} {te ta tb tn : TE} {tas : TA} {P P1 P2 : PyData → Prop} {tt tu : TT} {R : Bool → Prop}
theorem ev_neg {i : Int} (h : EvP W H0 te ρ (· = .int i)) : EvP W H0 (tUn (rU fun i => .int (-i)) te) ρ (· = .int (-i)) := fun τ l σ H S Q k => h τ l σ H S _ fun v e H1 S1 p => by
  subst p
  obtain ⟨N, n3, n5, n4, q⟩ := S1.ext
  have := n5 _ List.mem_cons_self
  cases this
  refine ⟨i, rfl, k _ (.int (-i)) H1 (q _ _ ex_refl fun p hp => ?_) rfl⟩
  rcases List.mem_cons.mp hp with rfl | hp
  · exact .int _
  · exact n5 p (List.mem_cons_of_mem _ hp)
theorem ev_pow {i j : Int} (h : CPow i j) : EvP W H0 (tOp (rI CPow fun i j => .int (i ^ j.toNat)) (tC (.int i)) (tC (.int j))) ρ (· = .int (i ^ j.toNat)) := ev_op' ev_int ev_int (opd_I h fun _ _ => .int _)
theorem ev_catL {ds es : List PyData} (ha : EvP W H0 ta ρ (· = .list ds)) (hb : EvP W H0 tb ρ (· = .list es)) (h : ds.length + es.length ≤ 100000) : EvP W H0 (tOp rCat ta tb) ρ (· = .list (ds ++ es)) := ev_op' ha hb (opd_catL h)
theorem ev_dict0 : EvP W H0 tDNewK ρ (· = .dict []) := fun τ l σ H S Q k => fun p hp => by
  obtain ⟨N, n3, n5, n4, q⟩ := S.ext
  refine k _ (.dict []) _ (q _ _ (Ex.new hp) fun p' hp' => ?_) rfl
  rcases List.mem_cons.mp hp' with rfl | hp'
  · exact .dic upd_same (n3.new hp)
  · exact (n5 p' hp').ex (Ex.new hp)
theorem et_of' (ha : EvP W H0 te ρ P) (h : ∀ e, P e → ∃ b, e = .bool b ∧ R b) : EvT W H0 (tTest te) ρ R := fun τ l σ H S Q k => ha τ l σ H S _ fun v e H1 S1 p => by
  obtain ⟨b, rfl, rb⟩ := h e p
  obtain ⟨N, n3, n5, n4, q⟩ := S1.ext
  have := n5 _ List.mem_cons_self
  cases this
  exact ⟨b, rfl, k b H1 S1.pop rb⟩
theorem et_and1 (h1 : EvT W H0 tt ρ (· = true)) (h2 : EvT W H0 tu ρ R) : EvT W H0 (tAnd tt tu) ρ R := fun τ l σ H S Q k => h1 τ l σ H S _ fun b H1 S1 p => by
  subst p
  exact (if_pos rfl).mpr (h2 τ l σ H1 S1 Q k)
theorem et_and0 (h1 : EvT W H0 tt ρ (· = false)) (h : R false) : EvT W H0 (tAnd tt tu) ρ R := fun τ l σ H S Q k => h1 τ l σ H S _ fun b H1 S1 p => by
  subst p
  exact (if_neg Bool.false_ne_true).mpr (k false H1 S1 h)
theorem EvT.imp {R' : Bool → Prop} (h : EvT W H0 tt ρ R) (i : ∀ b, R b → R' b) : EvT W H0 tt ρ R' := fun τ l σ H S Q k => h τ l σ H S Q fun b H' S' p => k b H' S' (i b p)
end
theorem flds {xs ys : List PyData} : PyData.hasDictAll (xs ++ ys) = (PyData.hasDictAll xs || PyData.hasDictAll ys) := by
  induction xs with
  | nil => rw [List.nil_append, PyData.hasDictAll, Bool.false_or]
  | cons x xs ih => rw [List.cons_append, PyData.hasDictAll, PyData.hasDictAll, ih, Bool.or_assoc]
theorem flls {xs ys : List PyData} : hasLs (xs ++ ys) = (hasLs xs || hasLs ys) := by
  induction xs with
  | nil => rw [List.nil_append, hasLs, Bool.false_or]
  | cons x xs ih => rw [List.cons_append, hasLs, hasLs, ih, Bool.or_assoc]
/-- no list, no dict in it -/
def plain (e : PyData) : Prop := e.hasDict = false ∧ hasL e = false
theorem plains {xs : List PyData} (h : ∀ x ∈ xs, plain x) : PyData.hasDictAll xs = false ∧ hasLs xs = false := by
  induction xs with
  | nil => exact ⟨rfl, rfl⟩
  | cons x xs ih =>
    have := ih fun y hy => h y (List.mem_cons_of_mem _ hy)
    have hx := h x List.mem_cons_self
    exact ⟨by rw [PyData.hasDictAll, hx.1, this.1]; rfl, by rw [hasLs, hx.2, this.2]; rfl⟩
theorem okD_plain {e : PyData} (h : plain e) : okD e = true := by unfold okD; rw [h.1]; rfl
theorem okD_list {xs : List PyData} (h : ∀ x ∈ xs, plain x) : okD (.list xs) = true := by
  unfold okD
  rw [PyData.hasDict, (plains h).1]; rfl
theorem plain_tuple {xs : List PyData} (h : ∀ x ∈ xs, plain x) : plain (.tuple xs) := ⟨by rw [PyData.hasDict]; exact (plains h).1, by rw [hasL]; exact (plains h).2⟩
theorem okD_mid {xs ys : List PyData} {e : PyData} (hx : ∀ x ∈ xs, plain x) (hy : ∀ x ∈ ys, plain x) (he : okD e = true) : okD (.tuple (xs ++ [e] ++ ys)) = true := by
  unfold okD at he ⊢
  rw [PyData.hasDict, hasL, flds, flds, flls, flls, (plains hx).1, (plains hx).2, (plains hy).1, (plains hy).2]
  rw [PyData.hasDictAll, PyData.hasDictAll, hasLs, hasLs]
  simp only [Bool.or_false, Bool.false_or]
  exact he
theorem fit_nat {i : Int} (h : 0 ≤ i) (h2 : i < 10 ^ 40) : Fit 40 0 (.int i) := by
  refine ⟨?_, ?_, Nat.le_refl _⟩
  · rw [PyData.showable]
    refine decide_eq_true ?_
    by_cases h0 : i.natAbs = 0
    · rw [h0]; decide
    · exact Nat.lt_of_lt_of_le ((Nat.log2_lt h0).mpr (show i.natAbs < 2 ^ 133 by
        have : (10 : Int) ^ 40 < 2 ^ 133 := by decide
        omega)) (by decide)
  · show (numS i).length ≤ 40
    rw [← cs_len, cs_num h]
    unfold digs
    rw [List.length_map]
    exact digits10_le (by decide) (by
      have : ((i.toNat : Nat) : Int) = i := Int.toNat_of_nonneg h
      omega)
/-- what is good to be shown -/
def Gd (n k : Nat) (e : PyData) : Prop := okD e = true ∧ Fit n k e
theorem Gd.mono {n m k j : Nat} {e : PyData} (h : Gd n k e) (h1 : n ≤ m) (h2 : k ≤ j) : Gd m j e := ⟨h.1, h.2.mono h1 h2⟩
def Lv : Nat → PyData → Prop
  | 0, d => ∃ i : Int, d = .int i ∧ 0 ≤ i ∧ i ≤ MS
  | n + 1, d => ∃ ds : List PyData, d = .tuple ds ∧ ds.length ≤ 8 ∧ ∀ x ∈ ds, Lv n x
def Bo : Nat → Nat
  | 0 => 1000
  | n + 1 => 9 * Bo n + 100
theorem Bo_ge (n : Nat) : 1000 ≤ Bo n := by
  induction n with
  | zero => exact Nat.le_refl _
  | succ n ih => show 1000 ≤ 9 * Bo n + 100; omega
theorem Lv.plain : ∀ {n : Nat} {d : PyData}, Lv n d → plain d
  | 0, _, ⟨i, h, _⟩ => by rw [h]; exact ⟨rfl, rfl⟩
  | n + 1, _, ⟨ds, h, _, hx⟩ => by rw [h]; exact plain_tuple fun x hm => Lv.plain (hx x hm)
theorem fit_tup {n k m : Nat} {ds : List PyData} (h : ∀ d ∈ ds, Fit n k d) (hl : ds.length ≤ 9) (hm : 9 * n + 100 ≤ m) : Fit m (k + 1) (.tuple ds) :=
  (Fit.tuple h).mono (by have := Nat.mul_le_mul_right n hl; omega) (Nat.le_refl _)
theorem fit_lst {n k m : Nat} {ds : List PyData} (h : ∀ d ∈ ds, Fit n k d) (hl : ds.length ≤ 9) (hm : 9 * n + 100 ≤ m) : Fit m (k + 1) (.list ds) :=
  (Fit.list h).mono (by have := Nat.mul_le_mul_right n hl; omega) (Nat.le_refl _)
theorem Lv.fit : ∀ {n : Nat} {d : PyData}, Lv n d → Fit (Bo n) n d
  | 0, _, ⟨i, h, h0, h1⟩ => by rw [h]; exact (fit_int h0 h1).mono (by decide) (Nat.le_refl _)
  | n + 1, _, ⟨ds, h, hl, hx⟩ => by rw [h]; exact fit_tup (fun x hm => Lv.fit (hx x hm)) (by omega) (Nat.le_refl _)
/-! ### draws in expressions -/
section
variable {d g l : Addr} {N : Addr → Prop} {B H0 : Hp} {ρ : List (Option Sl)} {te : TE} {tas : TA} {P : PyData → Prop} {j : Nat}
theorem ev_draw {m : Int} (hr : ρ[j]? = some (some (.raw (.ref d)))) (hm : EvP (WD d g l N B) H0 te ρ (· = .int m)) (m0 : 0 < m) (m1 : m ≤ 1000000000000) :
    EvP (WD d g l N B) H0 (tCall (SpW drawA drawF) [] E0 (tCons (tVar j) (tCons te tNil))) ρ (fun e => ∃ r : Int, e = .int r ∧ 0 ≤ r ∧ r < m) :=
  (ev_callW hr (eva_one hm) fun es h => by rw [h]; exact ⟨m, rfl, m0, m1⟩).imp fun e ⟨es, h1, m', r, h2, h3, h4, h5⟩ => by
    rw [h1] at h2
    cases h2
    exact ⟨r, h3, h4, h5⟩
theorem ev_one (hr : ρ[j]? = some (some (.raw (.ref d)))) (hm : EvP (WD d g l N B) H0 te ρ P) (h : ∀ e, P e → ∃ ds, e = .list ds ∧ 0 < ds.length ∧ ds.length ≤ 1000) :
    EvP (WD d g l N B) H0 (tCall (SpW oneA oneF) [] E0 (tCons (tVar j) (tCons te tNil))) ρ (fun e => ∃ ds, P (.list ds) ∧ e ∈ ds) :=
  (ev_callW hr (PA := fun es => ∃ e, es = [e] ∧ P e) (eva_cons hm eva_nil fun e es h1 h2 => by rw [h2]; exact ⟨e, rfl, h1⟩) fun es ⟨e, h1, h2⟩ => by
    obtain ⟨ds, rfl, a, b⟩ := h e h2
    exact ⟨ds, h1, a, b⟩).imp fun x ⟨es, ⟨e, h1, h2⟩, ds, h3, h4⟩ => by
    rw [h1] at h3
    cases h3
    exact ⟨ds, h2, h4⟩
end
def nonA (es : List PyData) : Prop := es = []
def oddF (_ : List PyData) (e : PyData) : Prop := Gd 100 3 e
def farF (_ : List PyData) (e : PyData) : Prop := ∃ r : Int, e = .int r ∧ 1 ≤ r ∧ r ≤ MS
def wideA (es : List PyData) : Prop := ∃ n : Nat, es = [.int n] ∧ n ≤ 100
def wideF (es : List PyData) (e : PyData) : Prop := ∃ (n : Nat) (ns : List Int), es = [.int n] ∧ e = tupI ns ∧ ns.length = n ∧ ∀ x ∈ ns, 1 ≤ x ∧ x ≤ MS
theorem ints_of {R : Int → Prop} : ∀ {ds : List PyData}, (∀ d ∈ ds, ∃ n : Int, d = .int n ∧ R n) → ∃ ns : List Int, ds = ns.map PyData.int ∧ ∀ n ∈ ns, R n
  | [], _ => ⟨[], rfl, fun _ h => nomatch h⟩
  | d :: ds, h => by
    obtain ⟨n, rfl, hn⟩ := h d List.mem_cons_self
    obtain ⟨ns, rfl, hs⟩ := ints_of fun x hx => h x (List.mem_cons_of_mem _ hx)
    exact ⟨n :: ns, rfl, fun m hm => by
      rcases List.mem_cons.mp hm with rfl | hm
      · exact hn
      · exact hs m hm⟩
/-! ### statements in their readings -/
theorem d_asg {te : TE} {i : Nat} {ts : TS} {D : Ends} {σ : L2.St} {H : Hp} (h : te σ H fun x H1 => ts D (σ.set i (some x)) H1) : tSeq (tAsg te (gName i)) ts D σ H := h
theorem d_ret {te : TE} {D : Ends} {σ : L2.St} {H : Hp} (h : te σ H D.rt) : tRet te D σ H := h
theorem d_if {tt : TT} {t u ts : TS} {D : Ends} {σ : L2.St} {H : Hp} (h : tt σ H fun b H1 => if b = true then t { D with nx := fun σ H => ts D σ H } σ H1 else u { D with nx := fun σ H => ts D σ H } σ H1) : tSeq (tIfS tt t u) ts D σ H := h
theorem d_seq {t ts : TS} {D : Ends} {σ : L2.St} {H : Hp} (h : t { D with nx := fun σ H => ts D σ H } σ H) : tSeq t ts D σ H := h
abbrev St.rho {W : Wd} {H0 H : Hp} {ρ : List (Option Sl)} {τ : List (V × PyData)} {l : List (Addr × List PyData)} {σ : L2.St} (_ : St W H0 ρ τ l σ H) : List (Option Sl) := ρ
def goodB (n k : Nat) (e : PyData) : Bool := okD e && (e.showable && (decide (e.shown.length ≤ n) && decide (e.depth ≤ k)))
theorem gd_of {n k : Nat} {ds : List PyData} (h : ds.all (goodB n k) = true) {e : PyData} (he : e ∈ ds) : Gd n k e := by
  have := List.all_eq_true.mp h e he
  unfold goodB at this
  simp only [Bool.and_eq_true, decide_eq_true_eq] at this
  exact ⟨this.1, this.2.1, this.2.2.1, this.2.2.2⟩
theorem plain_of {e : PyData} {is : List Int} (h : e = tupI is) : plain e := by
  rw [h]
  exact plain_tuple fun x hx => by
    obtain ⟨n, _, rfl⟩ := List.mem_map.mp hx
    exact ⟨rfl, rfl⟩
theorem opd_add {i j : Int} : OpD (rI0 fun i j => .int (i + j)) (.int i) (.int j) (· = .int (i + j)) := opd_I0 fun _ _ => .int _
theorem opd_sub {i j : Int} : OpD (rI0 fun i j => .int (i - j)) (.int i) (.int j) (· = .int (i - j)) := opd_I0 fun _ _ => .int _
theorem opd_gt {i j : Int} : OpD (rI0 fun i j => .bl (decide (j < i))) (.int i) (.int j) (· = .bool (decide (j < i))) := opd_I0 fun _ _ => .bl _
theorem opd_lt {i j : Int} : OpD (rI0 fun i j => .bl (decide (i < j))) (.int i) (.int j) (· = .bool (decide (i < j))) := opd_I0 fun _ _ => .bl _
theorem OpD.imp {r : R2} {e1 e2 : PyData} {P P' : PyData → Prop} (h : OpD r e1 e2 P) (i : ∀ e, P e → P' e) : OpD r e1 e2 P' := fun N H v1 v2 ok q1 q2 Q k => h N H v1 v2 ok q1 q2 Q fun v e H' x y z => k v e H' x y (i e z)
theorem CaD.imp {r : List V → Hp → VK → Prop} {es : List PyData} {P P' : PyData → Prop} (h : CaD r es P) (i : ∀ e, P e → P' e) : CaD r es P' := fun N H vs ok q Q k => h N H vs ok q Q fun v e H' x y z => k v e H' x y (i e z)
theorem d_next {f : L2.St → Hp → Prop} {a : VK} {b c : L2.St → Hp → Prop} {σ : L2.St} {H : Hp} (h : f σ H) : tNext { nx := f, rt := a, bk := b, ct := c } σ H := h
theorem d_nx {f : L2.St → Hp → Prop} {a : VK} {b c : L2.St → Hp → Prop} {σ : L2.St} {H : Hp} (h : f σ H) : Ends.nx { nx := f, rt := a, bk := b, ct := c } σ H := h
end DL
set_option Elab.async false
set_option linter.all false
set_option maxRecDepth 100000
/-! The layer over data: loops over lists of data, a list of one's own made longer, a pair taken apart. -/
namespace DL
open PySem PySem.Spec PyProof.Rows L2 Evl TB
section
variable {W : Wd} {H0 H : Hp} {ρ : List (Option Sl)} {τ : List (V × PyData)} {l : List (Addr × List PyData)} {σ : L2.St} {K : PySem.W.Frag}
theorem St.un2 {v : V} {e1 e2 : PyData} (S : St W H0 ρ ((v, .tuple [e1, e2]) :: τ) l σ H) : ∃ a v1 v2, v = .ref a ∧ SqT K H a [v1, v2] ∧ St W H0 ρ ((v1, e1) :: (v2, e2) :: τ) l σ H := by
  obtain ⟨N, n1, n2, n3, n4, n5, n6⟩ := S.ex
  have hv := n5 _ List.mem_cons_self
  cases hv with
  | @tup a xs _ hA hn hr =>
    cases hr with
    | cons r1 r =>
      cases r with
      | cons r2 r =>
        cases r
        refine ⟨a, _, _, rfl, .inl (.inl hA), S.inv, S.off, N, n1, n2, n3, n4, fun p hp => ?_, n6⟩
        rcases List.mem_cons.mp hp with rfl | hp
        · exact r1
        · rcases List.mem_cons.mp hp with rfl | hp
          · exact r2
          · exact n5 p (List.mem_cons_of_mem _ hp)
/-- a list of one's own is made longer by another list -/
theorem St.more {p b : Addr} {ds es : List PyData} (S : St W H0 ρ ((.ref b, .list es) :: τ) ((p, ds) :: l) σ H) : ∃ xs zs, H p = some (.lst xs) ∧ H b = some (.lst zs) ∧ xs.length = ds.length ∧ zs.length = es.length ∧ St W H0 ρ τ ((p, ds ++ es) :: l) σ (upd H p (.lst (xs ++ zs))) := by
  obtain ⟨N, n1, n2, n3, n4, n5, n6⟩ := S.ex
  obtain ⟨b1, b2, xs, b3, b4⟩ := n6.2 _ List.mem_cons_self
  have hv := n5 _ List.mem_cons_self
  cases hv with
  | @lst _ zs _ hA hn hr =>
  refine ⟨xs, zs, b3, hA, b4.len, hr.len, W.stab H _ S.inv fun a na => ?_, fun a o e n => ?_, N, n1, n2, fun a h => ?_, ⟨n4.1, fun i s h => ?_⟩, fun q hq => (n5 q (List.mem_cons_of_mem _ hq)).upd b1, n6.1, fun q hq => ?_⟩
  · rw [upd_ne (fun z => by rw [z] at na; exact b2 na)]
  · rw [upd_ne (fun z => ?_)]
    · exact S.off a o e n
    · have := n2 p b1 b2
      rw [z, this] at e; cases e
  · by_cases z : a = p
    · rw [z, upd_same]; simp
    · rw [upd_ne z]; exact n3 a h
  · obtain ⟨o, h1, h2⟩ := n4.2 i s h
    refine ⟨o, h1, ?_⟩
    cases s with
    | dat e => obtain ⟨v, q1, q2⟩ := h2; exact ⟨v, q1, q2.upd b1⟩
    | raw v => exact h2
  · rcases List.mem_cons.mp hq with rfl | hq
    · exact ⟨b1, b2, _, upd_same, (b4.app hr).upd b1⟩
    · obtain ⟨a1, a2, ys, a3, a4⟩ := n6.2 q (List.mem_cons_of_mem _ hq)
      have nd := n6.1
      rw [List.map_cons, List.nodup_cons] at nd
      have hne : q.1 ≠ p := fun z => nd.1 (List.mem_map.mpr ⟨q, hq, z⟩)
      exact ⟨a1, a2, ys, by rw [upd_ne hne]; exact a3, a4.upd b1⟩
theorem St.loc {p : Addr} {ds : List PyData} (S : St W H0 ρ τ ((p, ds) :: l) σ H) : ∃ xs, H p = some (.lst xs) ∧ xs.length = ds.length := by
  obtain ⟨N, n1, n2, n3, n4, n5, n6⟩ := S.ex
  obtain ⟨b1, b2, xs, b3, b4⟩ := n6.2 _ List.mem_cons_self
  exact ⟨xs, b3, b4.len⟩
/-- for x in a list of data -/
theorem for_dataL {v : V} {ds : List PyData} {i : Nat} {tb : TS} {D : Ends} (S : St W H0 ρ ((v, .list ds) :: τ) l σ H) (J : Nat → List (Option Sl) → List (Addr × List PyData) → Prop) (hJ : J 0 ρ l)
    (hs : ∀ (G : Hp) (j : Nat) (d : PyData) (ρ' : List (Option Sl)) (l' : List (Addr × List PyData)) (σ' : L2.St) (H' : Hp), (∀ b o, H0 b = some o → ¬ W.N b → G b = some o) → (∀ b, G b = none → H0 b = none) → ds[j]? = some d → J j ρ' l' → St W G (ρ'.set i (some (.dat d))) ((v, .list ds) :: τ) l' σ' H' →
      ∀ Nx : L2.St → Hp → Prop, (∀ ρ2 l2 σ2 H2, J (j + 1) ρ2 l2 → St W G ρ2 ((v, .list ds) :: τ) l2 σ2 H2 → Nx σ2 H2) → tb { D with nx := Nx, ct := Nx, bk := D.nx } σ' H')
    (hd : ∀ ρ' l' σ' H', J ds.length ρ' l' → St W H0 ρ' ((v, .list ds) :: τ) l' σ' H' → D.nx σ' H') :
    ∃ a, v = .ref a ∧ (∃ xs, SqL K H a xs) ∧ ∃ Wx : Nat → Nat → L2.St → Hp → Prop, (∃ m, Wx 0 m σ H) ∧ ∀ i' m σ H, Wx i' m σ H → ((Itl K a).stop i' H ∧ D.nx σ H) ∨
      ((Itl K a).go i' H ∧ ∃ N : L2.St → Hp → Prop, (∀ σ' H', N σ' H' → ∃ m', m' < m ∧ Wx (i' + 1) m' σ' H') ∧ ∀ x H', (Itl K a).yld i' H x H' → gName i x σ H' fun σ2 H2 => tb { D with nx := N, ct := N, bk := D.nx } σ2 H2) := by
  obtain ⟨a, xs, rfl, hA, hlen, hna, u1, u2, B⟩ := S.baseL
  have keep : ∀ {τ' l' σ' H' ρ'}, St W (upd H0 a (.lst xs)) ρ' τ' l' σ' H' → H' a = some (.lst xs) := fun S => S.off a _ upd_same hna
  refine ⟨a, rfl, ⟨xs, .inl (.inl hA)⟩, for_list (K := K) (a := a) (xs := xs) (fun j σ' H' => ∃ ρ' l', J j ρ' l' ∧ St W (upd H0 a (.lst xs)) ρ' ((.ref a, .list ds) :: τ) l' σ' H') ⟨ρ, l, hJ, B⟩ (fun j σ' H' _ h => ?_) (fun j x σ' H' hx h => ?_) (fun σ' H' h => ?_)⟩
  · obtain ⟨ρ', l', _, S2⟩ := h
    exact .inl (.inl (keep S2))
  · obtain ⟨ρ', l', hj, S2⟩ := h
    have hAk := keep S2
    obtain ⟨d, hd', S3⟩ := S2.item (xs := xs) (ds := ds) (fun N r => by
      cases r with
      | lst q1 q2 q3 => rw [hAk] at q1; cases q1; exact q3) hx
    exact hs _ j d ρ' l' _ H' u1 u2 hd' hj S3.set _ fun ρ2 l2 σ2 H2 h1 h2 => ⟨ρ2, l2, h1, h2⟩
  · obtain ⟨ρ', l', hj, S2⟩ := h
    rw [hlen] at hj
    exact hd ρ' l' σ' H' hj (S2.unbase u1 u2)
end
/-- the law's own state, once its deck is made -/
theorem St.deck0 {d g l : Addr} {H : Hp} {ρ : List (Option Sl)} {σ : L2.St} (D : Deck H d g l) (hl : ρ.length = σ.length) (h : ∀ (i : Nat) (s : Sl), ρ[i]? = some (some s) → ∃ v, s = .raw v ∧ σ[i]? = some (some v)) :
    St (WD d g l (fun a => a = d ∨ a = g ∨ a = l) H) H ρ [] [] σ H := by
  have ok : NOk (fun a => a = d ∨ a = g ∨ a = l) H := fun a n => Deck.tr D a n
  refine ⟨⟨ok, .inl rfl, .inr (.inl rfl), .inr (.inr rfl), D, fun _ _ _ _ _ => rfl⟩, fun _ _ e _ => e, _, fun _ h => h, fun _ h n => absurd h n, ok, ⟨hl, fun i s e => ?_⟩, (fun _ h => nomatch h), List.nodup_nil, fun _ h => nomatch h⟩
  obtain ⟨v, rfl, hv⟩ := h i s e
  exact ⟨_, hv, rfl⟩
theorem fit_nat2 {i : Int} (h : 0 ≤ i) (h2 : i < 10 ^ 60) : Fit 60 0 (.int i) := by
  refine ⟨?_, ?_, Nat.le_refl _⟩
  · rw [PyData.showable]
    refine decide_eq_true ?_
    by_cases h0 : i.natAbs = 0
    · rw [h0]; decide
    · exact Nat.lt_of_lt_of_le ((Nat.log2_lt h0).mpr (show i.natAbs < 2 ^ 200 by
        have : (10 : Int) ^ 60 < 2 ^ 200 := by decide
        omega)) (by decide)
  · show (numS i).length ≤ 60
    rw [← cs_len, cs_num h]
    unfold digs
    rw [List.length_map]
    exact digits10_le (by decide) (by
      have : ((i.toNat : Nat) : Int) = i := Int.toNat_of_nonneg h
      omega)
section
variable {W : Wd} {H0 : Hp} {ρ : List (Option Sl)} {te ta tb : TE} {P : PyData → Prop}
/-- repr of what is good to be shown -/
theorem ev_repr {n k : Nat} {e : PyData} (h : EvP W H0 te ρ (· = e)) (g : Gd n k e) (hn : n ≤ 1000000) (hk : k < 60) : EvP W H0 (tCB rReprD (tCons te tNil)) ρ (· = .str e.shown) :=
  ev_cb' (eva_one h) (cad_repr g.1 g.2.sh (Nat.lt_of_le_of_lt g.2.dp hk) (Nat.le_trans g.2.len (Nat.le_trans hn (by decide))))
end
theorem d_forL {K : PySem.W.Frag} {te : TE} {i : Nat} {tb : TS} {D : Ends} {σ : L2.St} {H : Hp} (h : te σ H fun v H => ∃ a, v = .ref a ∧ (∃ xs, SqL K H a xs) ∧ ∃ Wx : Nat → Nat → L2.St → Hp → Prop, (∃ m, Wx 0 m σ H) ∧ ∀ i' m σ H, Wx i' m σ H → ((Itl K a).stop i' H ∧ D.nx σ H) ∨
      ((Itl K a).go i' H ∧ ∃ N : L2.St → Hp → Prop, (∀ σ' H', N σ' H' → ∃ m', m' < m ∧ Wx (i' + 1) m' σ' H') ∧ ∀ x H', (Itl K a).yld i' H x H' → gName i x σ H' fun σ2 H2 => tb { D with nx := N, ct := N, bk := D.nx } σ2 H2)) :
    tFor (iList K te) (gName i) tb D σ H := h
theorem g_name {i : Nat} {v : V} {σ : L2.St} {H : Hp} {Q : L2.St → Hp → Prop} (h : Q (σ.set i (some v)) H) : gName i v σ H Q := h
abbrev WL (d g l : Addr) (H : Hp) : Wd := WD d g l (fun a => a = d ∨ a = g ∨ a = l) H
theorem St.nil {W : Wd} {H0 H : Hp} {ρ : List (Option Sl)} {τ : List (V × PyData)} {l : List (Addr × List PyData)} {σ : L2.St} (S : St W H0 ρ τ l σ H) : St W H0 ρ [] l σ H := S.mono fun _ h => nomatch h
section
variable {W : Wd} {H0 : Hp} {ρ : List (Option Sl)} {te ta tb : TE} {P : PyData → Prop} {K : PySem.W.Frag} {tt : TT}
/-- [e for x in xs if t], where no item passes the test -/
theorem ev_lc0 {i : Nat} {Qd : List PyData → Prop} (hi : ρ[i]? = some none) (ha : EvP W H0 ta ρ (fun e => ∃ ds, e = .list ds ∧ Qd ds)) (ht : ∀ G ds dd, Qd ds → dd ∈ ds → EvT W G tt (ρ.set i (some (.dat dd))) (· = false)) :
    EvP W H0 (tLc (iList K ta) (gName i) tt te [i]) ρ (· = .list []) := fun τ l σ H S Q k =>
  ha τ l σ H S _ fun v e H1 S1 p => by
    obtain ⟨ds, rfl, hq⟩ := p
    obtain ⟨a, xs, rfl, hA, hlen, hna, u1, u2, B⟩ := S1.baseL
    refine ⟨a, rfl, ⟨xs, .inl (.inl hA)⟩, fun D hD => ?_⟩
    have keep : ∀ {τ' l' σ' H'}, St W (upd H0 a (.lst xs)) ρ τ' l' σ' H' → H' a = some (.lst xs) := fun S => S.off a _ upd_same hna
    refine lc_list (K := K) (a := a) (xs := xs) (fun j H' => St W (upd H0 a (.lst xs)) ρ ((.ref a, .list ds) :: τ) ((D, []) :: l) σ H') (B.newL hD) (fun j H' _ S2 => .inl (.inl (keep S2))) (fun j x H' hx S2 => ?_) (fun H' S2 => ?_)
    · have hAk := keep S2
      obtain ⟨d, hd, S3⟩ := S2.item (xs := xs) (ds := ds) (fun N r => by
        cases r with
        | lst q1 q2 q3 => rw [hAk] at q1; cases q1; exact q3) hx
      have S4 := (S3.wipe [i]).set (i := i)
      have e1 : (wipeR ρ [i]).set i (some (Sl.dat d)) = ρ.set i (some (.dat d)) := by
        show (ρ.set i none).set i _ = _
        rw [List.set_set]
      rw [e1] at S4
      refine ⟨wipe_id, ht _ ds d hq (List.mem_of_getElem? hd) _ _ _ H' S4 _ fun b H4 S5 pb => ?_⟩
      subst pb
      refine (if_neg Bool.false_ne_true).mpr ?_
      exact S5.re hi (fun j hj => wipe_set_ne hj) S.len
    · exact k _ _ H' (((S2.unbase u1 u2).frz).mono fun p hp => by
        rcases List.mem_cons.mp hp with rfl | hp
        · exact List.mem_cons_self
        · exact List.mem_cons_of_mem _ (List.mem_cons_of_mem _ hp)) rfl
end
theorem d_asgG {te : TE} {g : TG} {ts : TS} {D : Ends} {σ : L2.St} {H : Hp} (h : te σ H fun x H1 => g x σ H1 (ts D)) : tSeq (tAsg te g) ts D σ H := h
theorem d_ifl {tt : TT} {t u : TS} {D : Ends} {σ : L2.St} {H : Hp} (h : tt σ H fun b H1 => if b = true then t D σ H1 else u D σ H1) : tIfS tt t u D σ H := h
end DL
set_option Elab.async false
set_option linter.all false
set_option maxRecDepth 100000
/-! enumerate over a tuple: the call, the walk, the loop. -/
namespace EN
open PySem PySem.Spec PyProof.Rows L2 Evl
open Sem (wp)
set_option maxHeartbeats 1000000 in
theorem meets_enumT {v : Value} {o : Obj} {HB : Heap → Prop} (B : Begins v o HB) :
    Meets (Builtin.«enumerate.__new__» ⟨[.type "enumerate", v], []⟩) (fun _ R s => HB s.heap ∧
      R (.ok (.ret (.ref (s.heap.push o).objs.size)))
        { s with heap := (s.heap.push o).push { cls := .type "enumerate", data := .fields #[.none, .bool false, .ref s.heap.objs.size, rawInt 0, .none, .none] } }) :=
  .of_wp fun prog w A R s st => by
    obtain ⟨hp, gl, dd, tk, os⟩ := s; obtain ⟨st1, st⟩ := st
    have hsub2 := sub_enumerate
    have qi : ∀ {A' : Around} {E Q : Value → Shared → Prop}, Q (.ref hp.objs.size) ⟨hp.push o, gl, dd, tk, os⟩ → wpAny (model prog w) A' (pyIter v) Q E ⟨hp, gl, dd, tk, os⟩ :=
      fun q => B.iter prog w _ _ ⟨hp, gl, dd, tk, os⟩ _ st1 q
    wp_walk using qi
    refine wpAny_stack_any fun sk => wpAny_pure ?_
    split
    · rename_i c _ _ _ _ _
      cases (c == Value.type "enumerate")
      · wp_walk using qi
        exact ⟨_, rfl, st⟩
      · wp_walk using qi
        exact ⟨_, rfl, st⟩
    · wp_walk using qi
      exact ⟨_, rfl, st⟩
theorem call_enumT {prog : Program} {w : World} {A : Around} {E : Value → Shared → Prop} {s : Shared} {t : Addr} {items : Array Value} {Q : Value → Shared → Prop} (hT : s.heap.IsTuple t items)
    (k : ∀ g, IsEnum g (s.heap.objs.size + 1) s.heap.objs.size 0 .none → g.IsTupleIter s.heap.objs.size t 0 → g.objs.size = s.heap.objs.size + 2 →
      (∀ b o, s.heap.get? b = some o → g.get? b = some o) → Q (.ref (s.heap.objs.size + 1)) { s with heap := g }) :
    wpAny (model prog w) A (call (.type "enumerate") [.ref t]) Q E s := by
  refine callType_new F.called_enumerate (by decide) (F.typeCall_enumerate_1 _) (F.newCall_enumerate_1 _) (fun ob => F.args_object_init_2 ob _) F.entry_enumerate_new
    (meets_enumT (begins_tuple t items)) ⟨hT, ?_⟩
  have z1 : (s.heap.push { cls := .type "tuple_iterator", data := .fields #[.ref t, .int 0 0] }).objs.size = s.heap.objs.size + 1 := Heap.size_push ..
  show _ ∧ _
  rw [z1]
  have he1 : IsEnum ((s.heap.push { cls := .type "tuple_iterator", data := .fields #[.ref t, .int 0 0] }).push
      { cls := .type "enumerate", data := .fields #[.none, .bool false, .ref s.heap.objs.size, rawInt 0, .none, .none] }) (s.heap.objs.size + 1) s.heap.objs.size 0 .none := by
    have q := Heap.get?_push_size (s.heap.push { cls := .type "tuple_iterator", data := .fields #[.ref t, .int 0 0] })
      (o := { cls := .type "enumerate", data := .fields #[.none, .bool false, .ref s.heap.objs.size, rawInt 0, .none, .none] }) rfl
    rw [z1] at q; exact q
  refine ⟨⟨_, he1, rfl⟩, k _ he1 ⟨_, Heap.get?_push_of_some _ (Heap.get?_push_size _ rfl), rfl, rfl⟩ (by rw [Heap.size_push, z1]) fun b o x => Heap.get?_push_of_some _ (Heap.get?_push_of_some _ x)⟩
/-- the tuple at a, each item in a new pair -/
def IteT (K : PySem.W.Frag) (a : Addr) : It :=
  ⟨fun i H => ∃ (xs : List V) (x : V), SqT K H a xs ∧ xs[i]? = some x, fun i H v H' => ∃ T x, v = .ref T ∧ H T = none ∧ H' = upd H T (.tup [.int (i : Nat), x]) ∧ ∀ xs, SqT K H a xs → xs[i]? = some x, fun i H => ∃ xs : List V, SqT K H a xs ∧ xs.length ≤ i⟩
theorem turn_enumT {P : Program} {w : World} {K : PySem.W.Frag} {elts : List Expr} {kk : Nat} {tpos : Pos} (a e it : Addr) :
    Turn P w K (.Tuple elts kk tpos) (IteT K a) [e, it] e (fun i h => (∃ old, IsEnum h e it ((i : Nat) : Int) old) ∧ h.IsTupleIter it a i ∧ e ≠ it ∧ a ≠ e ∧ a ≠ it) where
  mem := by simp
  obj := fun i h st b hb => by
    obtain ⟨⟨old, he⟩, ⟨o, ho, hc, hd⟩, _⟩ := st
    rcases (by simpa using hb : b = e ∨ b = it) with z | z
    · rw [z]; exact ⟨_, he, fun v q => nomatch q⟩
    · rw [z]; exact ⟨o, ho, fun v q => by rw [hd] at q; cases q⟩
  keep := fun i h h' st k => let ⟨⟨old, he⟩, hi, hne⟩ := st; ⟨⟨old, k e (by simp) _ he⟩, hi.at fun o q => k it (by simp) o q, hne⟩
  item := by
    intro X hP hw hK hc i pins s σ H E I hf st hg
    subst hP hw hK
    obtain ⟨⟨old, he⟩, hit, hne, n1, n2⟩ := st
    obtain ⟨xs, x, hq, hx⟩ := hg
    obtain ⟨its, rv, p, hz⟩ := I.tuple hq
    obtain ⟨u, hu, ru⟩ := rv.get hx
    have p' : s.heap.IsTuple a its.toArray := p
    have hel : e < s.heap.objs.size := Heap.lt_size he
    have hil : it < s.heap.objs.size := by obtain ⟨_, q, _⟩ := hit; exact Heap.lt_size q
    have hlt : i < its.toArray.size := by
      have := (List.getElem?_eq_some_iff.mp hu).1
      simpa using this
    refine wpAny_pyNext_enum_itemD (Draws.tuple (prog := X.prog) (w := X.w) (A := X.A.in1) (show X.A.in1.handled = none from I.ok.hd hc) it a n2 its.toArray) he ⟨hit, p'⟩ hlt hne (fp := [it, a]) (fun q => by
      rcases (by simpa using q : e = it ∨ e = a) with z | z
      · exact hne z
      · exact n1 z.symm) fun y g tk hy ho hst hT hsz hk => ?_
    have ey : y = u := by
      have h1 : its.toArray[i]? = some u := by simpa using hu
      rw [h1] at hy
      exact (Option.some.inj hy).symm
    subst ey
    refine ⟨_, rfl, wpAny_letOwnedTupleGo_enum (s := { s with heap := g, toks := tk + 1 }) ho fun g2 he2 sb => ?_⟩
    have hT2 : g2.get? s.heap.objs.size = some { cls := .type "tuple", data := .seq #[.int i tk, y] } := (sb.2 _ (Nat.ne_of_gt hel)).trans hT
    have new : ObjOk X.prog X.w (upd H s.heap.objs.size (.tup [.int (i : Nat), x])) g2 s.heap.objs.size (.tup [.int (i : Nat), x]) :=
      ⟨by show 2 ≤ sizeLine; decide, [.int i tk, y], .cons ⟨_, rfl⟩ (.cons ru .nil), ⟨_, hT2, rfl, _, rfl⟩⟩
    have J1 : Inv X pins σ (upd H s.heap.objs.size (.tup [.int (i : Nat), x])) { s with heap := g2, toks := tk + 1 } :=
      I.turnedNew (ch := [e, it]) (fun b ob hb q => (sb.2 b (fun z => hb (by simp [z]))).trans (hk b ob (fun z => hb (by simp [z])) (fun z => hb (by simp [z])) q)) hf (Nat.le_refl _) new
    refine ⟨.ref s.heap.objs.size, _, J1, rfl, ⟨_, x, rfl, I.hok.fresh (Nat.le_refl _), rfl, fun ys hy => by rw [I.tuple_inj hy hq]; exact hx⟩, ⟨⟨y, ?_⟩, hst.1.at fun o q => (sb.2 it (Ne.symm hne)).trans q, hne, n1, n2⟩, fun b hb => ?_⟩
    · have e1 : ((i + 1 : Nat) : Int) = (i : Int) + 1 := by omega
      rw [e1]; exact he2
    · have hb' : b < s.heap.objs.size := by
        rcases (by simpa using hb : b = e ∨ b = it) with z | z
        · rw [z]; exact hel
        · rw [z]; exact hil
      rw [upd_ne (Nat.ne_of_lt hb')]
      exact (hf b hb).1
  done := by
    intro X hP hw hK hc i pins s σ H E I hf st hg
    subst hP hw hK
    obtain ⟨⟨old, he⟩, hit, hne, n1, n2⟩ := st
    obtain ⟨xs, hq, hx⟩ := hg
    obtain ⟨its, rv, p, hz⟩ := I.tuple hq
    obtain ⟨f0, f1, f2, f3, f4, f5⟩ := hf it (by simp)
    have hl := rv.length
    have p' : s.heap.IsTuple a its.toArray := p
    have D : Draws X.prog X.w X.A.in1 it [it, a] i (fun _ _ => True) (fun j h => j = i ∧ h.IsTupleIter it a j ∧ h.IsTuple a its.toArray) :=
      { live := fun _ _ st => let ⟨o, ho, _⟩ := st.2.1; ⟨o, ho⟩
        frame := fun _ _ _ st hk => ⟨st.1, st.2.1.at fun o e => hk it (by simp) o e, st.2.2.at fun o e => hk a (by simp) o e⟩
        item := fun j s Q E hi st hQ => absurd st.1 (Nat.ne_of_lt hi)
        done := fun s Q E st hE => wpAny_nextOf_tuple_end (show X.A.in1.handled = none from I.ok.hd hc) st.2.1 st.2.2 (by simp; omega) hE }
    exact wpAny_pyNext_enum_endD D he ⟨rfl, hit, p'⟩ fun g eb => ⟨rfl, I.turned (t' := s.toks) (fun b o hb q => eb b o hb q) f0 f1 f3 f4 f5⟩
  self := fun A i s Q E st h => let ⟨⟨_, he⟩, _⟩ := st; wpAny_pyIter_enum he h
def iEnumT (K : PySem.W.Frag) (ta : TA) : TI := fun σ H R => ta σ H fun vs H1 => ∃ a xs, vs = [.ref a] ∧ SqT K H1 a xs ∧ R (IteT K a) H1
theorem pi_enumT {X : Cx} {e : Expr} {ta : TA} {p pos tpos : Pos} {elts : List Expr} {kk : Nat} (hg : Gl X "enumerate") (hm : X.mg "enumerate" = none) (ha : PA X [e] ta) (hs : starEach [e] X.env = [(false, eval e X.env)] := by rfl) :
    PI X (.Tuple elts kk tpos) (.Call (.Name "enumerate" p) [e] [] pos) (iEnumT X.K ta) := by
  refine ⟨fun pins s σ H R I h => ?_⟩
  refine Call_ (ld_blt I hg hm boot_enumerate (PyProof.Rows.callWith_type1 (thn (ha.run pos pins s σ H _ I h) fun us t1 ⟨vs, H1, I1, r1, q1⟩ => ?_) hs rfl))
  obtain ⟨a, xs, ex, hq, q⟩ := q1
  subst ex
  cases r1 with
  | cons r rr =>
    cases rr
    cases r
    obtain ⟨its, rv, p1, hz⟩ := I1.tuple hq
    have p' : t1.heap.IsTuple a its.toArray := p1
    have ha : a < t1.heap.objs.size := by obtain ⟨o, ho, _⟩ := id p'; exact Heap.lt_size ho
    refine call_enumT p' fun g he hit hsz hk => wpAny_pyIter_enum he ?_
    have J : Inv X pins σ H1 { t1 with heap := g } := I1.kept (t' := t1.toks) hk
    refine ⟨t1.heap.objs.size + 1, [t1.heap.objs.size + 1, t1.heap.objs.size], _, _, H1, rfl, J, turn_enumT a (t1.heap.objs.size + 1) t1.heap.objs.size, ⟨⟨.none, he⟩, hit, Nat.succ_ne_self _, Nat.ne_of_lt (Nat.lt_succ_of_lt ha), Nat.ne_of_lt ha⟩, fun b hb => ?_, q⟩
    have hle : t1.heap.objs.size ≤ b := by
      rcases (by simpa using hb : b = t1.heap.objs.size + 1 ∨ b = t1.heap.objs.size) with z | z
      · rw [z]; exact Nat.le_succ _
      · rw [z]; exact Nat.le_refl _
    exact I1.fpOk hle (I1.hok.fresh hle)
theorem for_enumT {K : PySem.W.Frag} {a : Addr} {xs : List V} {g : TG} {tb : TS} {D : Ends} {σ : L2.St} {H : Hp} (Pv : Nat → L2.St → Hp → Prop) (h0 : Pv 0 σ H) (hq : ∀ i σ H, Pv i σ H → SqT K H a xs)
    (hs : ∀ (i : Nat) (x : V) (T : Addr) (σ : L2.St) (H : Hp), xs[i]? = some x → Pv i σ H → H T = none → g (.ref T) σ (upd H T (.tup [.int (i : Nat), x])) fun σ2 H2 => tb { D with nx := Pv (i + 1), ct := Pv (i + 1), bk := D.nx } σ2 H2) (hd : ∀ σ H, Pv xs.length σ H → D.nx σ H) :
    ∃ W : Nat → Nat → L2.St → Hp → Prop, (∃ m, W 0 m σ H) ∧ ∀ i m σ H, W i m σ H →
      ((IteT K a).stop i H ∧ D.nx σ H) ∨ ((IteT K a).go i H ∧ ∃ N : L2.St → Hp → Prop, (∀ σ' H', N σ' H' → ∃ m', m' < m ∧ W (i + 1) m' σ' H') ∧ ∀ v H', (IteT K a).yld i H v H' → g v σ H' fun σ2 H2 => tb { D with nx := N, ct := N, bk := D.nx } σ2 H2) := by
  refine ⟨fun i m σ H => m = xs.length - i ∧ i ≤ xs.length ∧ Pv i σ H, ⟨xs.length, rfl, Nat.zero_le _, h0⟩, ?_⟩
  rintro i m σ H ⟨rfl, hi, p⟩
  have qx := hq i σ H p
  by_cases hlt : i < xs.length
  · have hx : xs[i]? = some xs[i] := List.getElem?_eq_getElem hlt
    refine .inr ⟨⟨xs, _, qx, hx⟩, Pv (i + 1), fun σ' H' p' => ⟨xs.length - (i + 1), by omega, rfl, hlt, p'⟩, fun v H' y => ?_⟩
    obtain ⟨T, x', rfl, hT, rfl, f1⟩ := y
    exact hs i x' T σ H (f1 xs qx) p hT
  · have e : i = xs.length := by omega
    subst e
    exact .inl ⟨⟨xs, qx, Nat.le_refl _⟩, hd σ H p⟩
end EN
set_option Elab.async false
set_option linter.all false
set_option maxRecDepth 100000
/-! A loop with enumerate over a tuple of data. -/
namespace DL
open PySem PySem.Spec PyProof.Rows L2 Evl TB EN
section
variable {W : Wd} {H0 : Hp} {ρ : List (Option Sl)} {te : TE} {K : PySem.W.Frag}
theorem d_forE {te : TE} {g : TG} {tb : TS} {D : Ends} {σ : L2.St} {H : Hp} (h : te σ H fun v H => ∃ a xs, [v] = [V.ref a] ∧ SqT K H a xs ∧ ∃ Wx : Nat → Nat → L2.St → Hp → Prop, (∃ m, Wx 0 m σ H) ∧ ∀ i' m σ H, Wx i' m σ H → ((IteT K a).stop i' H ∧ D.nx σ H) ∨
      ((IteT K a).go i' H ∧ ∃ N : L2.St → Hp → Prop, (∀ σ' H', N σ' H' → ∃ m', m' < m ∧ Wx (i' + 1) m' σ' H') ∧ ∀ x H', (IteT K a).yld i' H x H' → g x σ H' fun σ2 H2 => tb { D with nx := N, ct := N, bk := D.nx } σ2 H2)) :
    tFor (iEnumT K (tCons te tNil)) g tb D σ H := h
theorem for_enumD {ds : List PyData} {i j : Nat} {tb : TS} {D : Ends} {τ : List (V × PyData)} {l : List (Addr × List PyData)} {σ : L2.St} {H : Hp} (he : EvP W H0 te ρ (· = .tuple ds)) (S : St W H0 ρ τ l σ H) (J : Nat → Prop) (Qr : List (Option Sl) → Prop) (hJ : J 0) (hQ : Qr ρ)
    (hs : ∀ (G : Hp) (k : Nat) (v : V) (d : PyData) (ρ' : List (Option Sl)) (σ' : L2.St) (H' : Hp), (∀ b o, H0 b = some o → ¬ W.N b → G b = some o) → (∀ b, G b = none → H0 b = none) → ds[k]? = some d → J k → Qr ρ' →
      St W G ((ρ'.set i (some (.dat (.int (k : Nat))))).set j (some (.dat d))) ((v, .tuple ds) :: τ) l σ' H' → ∀ Nx : L2.St → Hp → Prop, (∀ ρ2 σ2 H2, J (k + 1) → Qr ρ2 → St W G ρ2 ((v, .tuple ds) :: τ) l σ2 H2 → Nx σ2 H2) → tb { D with nx := Nx, ct := Nx, bk := D.nx } σ' H')
    (hd : ∀ v ρ' σ' H', J ds.length → Qr ρ' → St W H0 ρ' ((v, .tuple ds) :: τ) l σ' H' → D.nx σ' H') :
    tFor (iEnumT K (tCons te tNil)) (gTup K 2 (gCons (gName i) (gCons (gName j) gNil))) tb D σ H := by
  refine d_forE ?_
  refine he τ l σ H S _ fun v e H1 S1 p => ?_
  subst p
  obtain ⟨a, xs, rfl, hA, hlen, hna, u1, u2, B⟩ := S1.baseT
  have keep : ∀ {τ' l' σ' H' ρ'}, St W (upd H0 a (.tup xs)) ρ' τ' l' σ' H' → H' a = some (.tup xs) := fun S => S.off a _ upd_same hna
  refine ⟨a, xs, rfl, .inl (.inl hA), for_enumT (K := K) (a := a) (xs := xs) (fun k σ' H' => ∃ ρ', J k ∧ Qr ρ' ∧ St W (upd H0 a (.tup xs)) ρ' ((.ref a, .tuple ds) :: τ) l σ' H') ⟨ρ, hJ, hQ, B⟩ (fun k σ' H' h => ?_) (fun k x T σ' H' hx h hT => ?_) (fun σ' H' h => ?_)⟩
  · obtain ⟨ρ', _, _, S2⟩ := h
    exact .inl (.inl (keep S2))
  · obtain ⟨ρ', hj, hq, S2⟩ := h
    have hAk := keep S2
    obtain ⟨d, hd', S3⟩ := S2.item (xs := xs) (ds := ds) (fun N r => by
      cases r with
      | tup q1 q2 q3 => rw [hAk] at q1; cases q1; exact q3) hx
    have ex := Ex.new (o := .tup [.int (k : Nat), x]) hT
    obtain ⟨N', m3, m5, m4, q'⟩ := S3.ext
    have S4 := q' (upd H' T (.tup [.int (k : Nat), x])) ((.int (k : Nat), .int (k : Nat)) :: (x, d) :: (.ref a, .tuple ds) :: τ) ex fun p hp => by
      rcases List.mem_cons.mp hp with rfl | hp
      · exact .int _
      · exact (m5 p hp).ex ex
    refine ⟨T, _, rfl, .inl (.inl upd_same), rfl, _, _, rfl, _, _, rfl, rfl, ?_⟩
    exact hs _ k (.ref a) d ρ' _ _ u1 u2 hd' hj hq ((S4.set (i := i)).set (i := j)) _ fun ρ2 σ2 H2 h1 h2 h3 => ⟨ρ2, h1, h2, h3⟩
  · obtain ⟨ρ', hj, hq, S2⟩ := h
    rw [hlen] at hj
    exact hd _ ρ' σ' H' hj hq (S2.unbase u1 u2)
theorem d_forR {te : TE} {g : TG} {tb : TS} {D : Ends} {σ : L2.St} {H : Hp} (h : te σ H fun v H => ∃ n : Int, [v] = [V.int n] ∧ -(2 ^ 62) ≤ n ∧ n < 2 ^ 62 ∧ ∃ Wx : Nat → Nat → L2.St → Hp → Prop, (∃ m, Wx 0 m σ H) ∧ ∀ i' m σ H, Wx i' m σ H → ((Itr 0 n.toNat).stop i' H ∧ D.nx σ H) ∨
      ((Itr 0 n.toNat).go i' H ∧ ∃ N : L2.St → Hp → Prop, (∀ σ' H', N σ' H' → ∃ m', m' < m ∧ Wx (i' + 1) m' σ' H') ∧ ∀ x H', (Itr 0 n.toNat).yld i' H x H' → g x σ H' fun σ2 H2 => tb { D with nx := N, ct := N, bk := D.nx } σ2 H2)) :
    tFor (iRng1 (tCons te tNil)) g tb D σ H := h
/-- for i in range(n) -/
theorem for_rangeD {n : Nat} {i : Nat} {tb : TS} {D : Ends} {τ : List (V × PyData)} {l : List (Addr × List PyData)} {σ : L2.St} {H : Hp} (he : EvP W H0 te ρ (· = .int n)) (hn : n ≤ 1000) (S : St W H0 ρ τ l σ H) (J : Nat → Prop) (Qr : List (Option Sl) → Prop) (hJ : J 0) (hQ : Qr ρ)
    (hs : ∀ (k : Nat) (ρ' : List (Option Sl)) (σ' : L2.St) (H' : Hp), k < n → J k → Qr ρ' →
      St W H0 (ρ'.set i (some (.dat (.int (k : Nat))))) τ l σ' H' → ∀ Nx : L2.St → Hp → Prop, (∀ ρ2 σ2 H2, J (k + 1) → Qr ρ2 → St W H0 ρ2 τ l σ2 H2 → Nx σ2 H2) → tb { D with nx := Nx, ct := Nx, bk := D.nx } σ' H')
    (hd : ∀ ρ' σ' H', J n → Qr ρ' → St W H0 ρ' τ l σ' H' → D.nx σ' H') :
    tFor (iRng1 (tCons te tNil)) (gName i) tb D σ H := by
  refine d_forR ?_
  refine he τ l σ H S _ fun v e H1 S1 p => ?_
  subst p
  obtain ⟨N, n3, n5, n4, q⟩ := S1.ext
  have hv := n5 _ List.mem_cons_self
  cases hv
  refine ⟨n, rfl, by omega, by omega, ?_⟩
  refine for_range (lo := 0) (n := (n : Int).toNat) (fun k σ' H' => ∃ ρ', J k ∧ Qr ρ' ∧ St W H0 ρ' τ l σ' H') ⟨ρ, hJ, hQ, S1.pop⟩ (fun k σ' H' hk h => ?_) (fun σ' H' h => ?_)
  · obtain ⟨ρ', hj, hq, S2⟩ := h
    obtain ⟨N', m3, m5, m4, q'⟩ := S2.ext
    have S3 := q' H' ((.int (0 + (k : Int)), .int (k : Nat)) :: τ) ex_refl fun p hp => by
      rcases List.mem_cons.mp hp with rfl | hp
      · rw [Int.zero_add]; exact .int _
      · exact m5 p hp
    exact hs k ρ' _ _ (by omega) hj hq (S3.set (i := i)) _ fun ρ2 σ2 H2 h1 h2 h3 => ⟨ρ2, h1, h2, h3⟩
  · obtain ⟨ρ', hj, hq, S2⟩ := h
    exact hd ρ' σ' H' (by simpa using hj) hq S2
end
/-! ### the first that is told -/
def firstE (n : Nat) (f : Nat → Option PyData) : PyData := ((List.range n).findSome? f).getD .none
theorem first_none {n : Nat} {f : Nat → Option PyData} (h : ∀ k, k < n → f k = none) : firstE n f = .none := by
  unfold firstE
  have : (List.range n).findSome? f = none := by
    rw [List.findSome?_eq_none_iff]
    exact fun x hx => h x (List.mem_range.mp hx)
  rw [this]; rfl
theorem first_at {f : Nat → Option PyData} {i : Nat} {r : PyData} (h : ∀ k, k < i → f k = none) (hi : f i = some r) : ∀ n, i < n → (List.range n).findSome? f = some r
  | 0, h0 => absurd h0 (Nat.not_lt_zero _)
  | n + 1, h0 => by
    rw [List.range_succ, List.findSome?_append]
    by_cases z : i < n
    · rw [first_at h hi n z]; rfl
    · have : i = n := by omega
      subst this
      have e : (List.range i).findSome? f = none := by
        rw [List.findSome?_eq_none_iff]
        exact fun x hx => h x (List.mem_range.mp hx)
      rw [e, List.findSome?_cons, hi]; rfl
theorem first_eq {n i : Nat} {f : Nat → Option PyData} {r : PyData} (h : ∀ k, k < i → f k = none) (hi : f i = some r) (hn : i < n) : firstE n f = r := by
  unfold firstE
  rw [first_at h hi n hn]; rfl
theorem opd_isN {e : PyData} : OpD rIsN e .none (· = .bool (match e with | .none => true | _ => false)) := fun N H v1 v2 _ r1 r2 => by
  cases r2
  cases r1 <;> exact res_rfl (.bl _) fun Q q => ⟨rfl, q⟩
theorem opd_notN {e : PyData} : OpD rNotN e .none (· = .bool (!(match e with | .none => true | _ => false))) := fun N H v1 v2 _ r1 r2 => by
  cases r2
  cases r1 <;> exact res_rfl (.bl _) fun Q q => ⟨rfl, q⟩
end DL
set_option Elab.async false
set_option linter.all false
set_option maxRecDepth 100000
/-! Own errors with one field: made, raised, caught; defs that may raise, over data. -/
namespace TB
open PySem PySem.Spec PyProof.Rows L2
/-- __init__(self, f): self.f = f -/
def spIni (C : Addr) (f : Str) : Sp := fun vs H Q _ => ∃ (a : Addr) (v : V), vs = [.ref a, v] ∧ H a = some (exo a C none) ∧ ∀ dx, H dx = none → dx ≠ a → Q .non (upd (upd H dx (exd dx [(f, v)])) a (exo a C (some dx)))
/-- what the text tells of an own error class at C, the field f -/
structure ErrC (P : Program) (w : World) (K : PySem.W.Frag) (mg : Str → Option Value) (base : Heap) (x f : Str) (C : Addr) : Prop where
  g : mg x = some (.ref C)
  T : OexC K C
  xf : XfC K C
  no : PySem.W.findIn K (.ref C) f = some none
  te : PySem.W.exmOne K (.ref C) (.ref C) = some true
  init : ∃ (fI : Addr) (fd : FuncData) (ps : List Str), PySem.W.findIn K (.ref C) "__init__" = some (some (.ref fI)) ∧ PySem.W.typeIn K (.ref fI) = some (.type "function") ∧ Binds K fd ps [] ∧ FnOk P w K mg base CX0 1 fI fd ps (spIni C f)
theorem raise_at {C : Addr} {f : Str} {v : V} {H1 : Hp} {Q : XK} (h : ∀ d, H1 d = none → Q (.ref C) (some d) (upd H1 d (.xd [(f, v)]))) :
    [v].length ≤ 1000 ∧ ∀ a, H1 a = none → spIni C f (.ref a :: ([v] ++ [])) (upd H1 a (exo a C none))
      (fun u H2 => u = .non ∧ ∃ (d : Addr) (fs : List (Str × V)), H2 a = some (exo a C (some d)) ∧ H2 d = some (exd d fs) ∧ H1 d = none ∧ Q (.ref C) (some d) (upd (del H2 a) d (.xd fs))) (fun _ _ _ => False) := by
  refine ⟨(show 1 ≤ 1000 by decide), fun a ha => ⟨a, v, rfl, upd_same, fun dx hd hne => ⟨rfl, dx, _, upd_same, by rw [upd_ne hne, upd_same], ?_, ?_⟩⟩⟩
  · rwa [upd_ne hne] at hd
  · have hd' : H1 dx = none := by rwa [upd_ne hne] at hd
    have e : upd (del (upd (upd (upd H1 a (exo a C none)) dx (exd dx [(f, v)])) a (exo a C (some dx))) a) dx (.xd [(f, v)]) = upd H1 dx (.xd [(f, v)]) := by
      funext b
      by_cases z : b = dx
      · rw [z, upd_same, upd_same]
      · rw [upd_ne z, upd_ne z]
        by_cases y : b = a
        · rw [y, del_same, ha]
        · rw [del_ne y, upd_ne y, upd_ne z, upd_ne y]
    rw [e]
    exact h dx hd'
/-- raise x(e) -/
def tRaiseF (C : Addr) (f : Str) (W : WX) (ta : TA) : TS := fun _ σ H => tMkO C (spIni C f) [] ta σ H fun cls d H' => W cls d σ H'
theorem ps_raiseF {X : Cx} {W : WX} {x f : Str} {C : Addr} {e : Expr} {ta : TA} {p pos pos2 : Pos} (hc : X.calm = true) (G : ErrC X.prog X.w X.K X.mg X.base x f C) (hr : Room 2 X.A) (tk : Takes X W) (hg : Gl X x) (ha : PA X [e] ta)
    (hdb : (x == ("__debug__" : Str)) = false := by decide) (he : starEach (e :: []) X.env = (false, eval e X.env) :: starEach [] X.env := by rfl) (hpl : (backTo pos (starEach [] X.env)).any (·.1) = false := by rfl) :
    PS X (.Raise (some (.Call (.Name x p) [e] [] pos)) none pos2) (tRaiseF C f W ta) := by
  obtain ⟨fI, fd, ps, iC, tI, b, F1⟩ := G.init
  exact ps_raise hc tk (pmk_oex G.T iC tI F1 hr b .nil pass0 hg G.g ha hdb he hpl)
/-- a def that may raise -/
def KeepsX (P : Program) (w : World) (K : PySem.W.Frag) (mg : Str → Option Value) (base : Heap) (k : Nat) (x : Str) (ps : List Str) (sp : Sp) : Prop :=
  ∃ (f : Addr) (fd : FuncData), mg x = some (.ref f) ∧ PySem.W.keepIn K (.ref f) = true ∧ Binds K fd ps [] ∧ FnOk P w K mg base (L2.CX P w) k f fd ps sp
theorem keepsX_of {P : Program} {w : World} {K : PySem.W.Frag} {mg : Str → Option Value} {base : Heap} {k : Nat} {x q : Str} {st : Stmt} {f : Addr} {fd : FuncData} {ps : List Str} {sp : Sp}
    (F : Fun K x q st f fd) {y : Str} (g : mg y = some (.ref f)) (b : Binds K fd ps []) (G : FnOk P w K mg base (L2.CX P w) k f fd ps sp) : KeepsX P w K mg base k y ps sp := ⟨f, fd, g, F.kp, b, G⟩
theorem pe_ownX {X : Cx} {W : WX} {k : Nat} {x : Str} {ps : List Str} {sp : Sp} {e : Expr} {es : List Expr} {t : TA} {p pos : Pos}
    (h : KeepsX X.prog X.w X.K X.mg X.base k x ps sp) (hr : Room k X.A) (tk : Takes X W) (hg : Gl X x) (ha : PA X (e :: es) t) (hdb : (x == ("__debug__" : Str)) = false := by decide)
    (he : starEach (e :: es) X.env = (false, eval e X.env) :: starEach es X.env := by rfl) (hpl : (backTo pos (starEach es X.env)).any (·.1) = false := by rfl) :
    PE X (.Call (.Name x p) (e :: es) [] pos) (tCallS sp (WE W) t) := by
  obtain ⟨f, fd, g, kp, b, G⟩ := h
  exact pe_callS G hr hg g kp b (fun σ => passAt tk σ) ha hdb he hpl
/-- an error of the class at S is what «except S» names -/
theorem exm_own {K : PySem.W.Frag} {S : Addr} (h1 : PySem.W.subIn K (.ref S) (.type "BaseException") = some true) (h2 : PySem.W.isClsIn K S = true) (h3 : PySem.W.typeIn K (.ref S) = some (.type "type")) (h4 : PySem.W.subIn K (.ref S) (.ref S) = some true) :
    PySem.W.exmOne K (.ref S) (.ref S) = some true := by
  have a : (PySem.W.subIn K (.ref S) (.type "BaseException") == some true) = true := by rw [h1]; rfl
  have b : ((PySem.W.clsIn K S).isSome && PySem.W.typeIn K (.ref S) == some (.type "type")) = true := by
    have z : (PySem.W.clsIn K S).isSome = true := h2
    rw [z, h3]; rfl
  unfold PySem.W.exmOne
  rw [if_pos a]
  show (if _ then _ else _) = _
  rw [if_pos b]
  exact h4
end TB
namespace DL
open PySem PySem.Spec PyProof.Rows L2 Evl TB
/-- a def upon data that changes nothing and may raise the error at C: with A its value is one of F, or the error's field is one of G -/
def SpX (C : Addr) (f : Str) (A : List PyData → Prop) (F G : List PyData → PyData → Prop) : Sp := fun vs H Q E => ∃ N es, NOk N H ∧ RgAll N H vs es ∧ A es ∧ (∀ v e H', Ex H H' → Rg N H' v e → F es e → Q v H') ∧
  ∀ d v e H', H' d = some (.xd [(f, v)]) → Ex H H' → Rg N H' v e → G es e → E (.ref C) (some d) H'
section
variable {W : Wd} {H0 : Hp} {ρ : List (Option Sl)} {te : TE} {tas : TA} {P : PyData → Prop} {PA : List PyData → Prop} {C : Addr} {f : Str} {A : List PyData → Prop} {F G : List PyData → PyData → Prop}
theorem call_X {E : L2.St → XK} {τ : List (V × PyData)} {l : List (Addr × List PyData)} {σ : L2.St} {H : Hp} {Q : VK} (ha : EvA W H0 tas ρ PA) (hA : ∀ es, PA es → A es) (S : St W H0 ρ τ l σ H)
    (kq : ∀ v e es H', St W H0 ρ ((v, e) :: τ) l σ H' → PA es → F es e → Q v H') (ke : ∀ d v e es H', St W H0 ρ ((v, e) :: τ) l σ H' → H' d = some (.xd [(f, v)]) → PA es → G es e → E σ (.ref C) (some d) H') :
    tCallS (SpX C f A F G) E tas σ H Q :=
  ha τ l σ H S _ fun vs es H1 S1 le pa => by
    obtain ⟨N, n3, n5, n4, q⟩ := S1.ext
    have more : ∀ {v e H'}, Ex H1 H' → Rg N H' v e → St W H0 ρ ((v, e) :: τ) l σ H' := fun {v e H'} x r => q H' _ x fun p hp => by
      rcases List.mem_cons.mp hp with rfl | hp
      · exact r
      · exact (n5 p (List.mem_append_right _ hp)).ex x
    exact ⟨N, es, n3, zip_all le fun p hp => n5 p (List.mem_append_left _ hp), hA es pa, fun v e H' x r h => kq v e es H' (more x r) pa h, fun d v e H' hd x r h => ke d v e es H' (more x r) hd pa h⟩
theorem raise_X {Wx : WX} {τ : List (V × PyData)} {l : List (Addr × List PyData)} {σ : L2.St} {H : Hp} {D : Ends} (ha : EvP W H0 te ρ P) (S : St W H0 ρ τ l σ H)
    (k : ∀ d v e H', St W H0 ρ ((v, e) :: τ) l σ H' → H' d = some (.xd [(f, v)]) → P e → Wx (.ref C) (some d) σ H') : tRaiseF C f Wx (tCons te tNil) D σ H :=
  ha τ l σ H S _ fun v e H1 S1 p => raise_at (C := C) (f := f) (v := v) (H1 := H1) (Q := fun cls d H' => Wx cls d σ H') fun d hd => by
    obtain ⟨N, n3, n5, n4, q⟩ := S1.ext
    exact k d v e _ (q _ ((v, e) :: τ) (Ex.new hd) fun p hp => (n5 p hp).ex (Ex.new hd)) upd_same p
end
end DL
set_option Elab.async false
set_option linter.all false
set_option maxRecDepth 100000
/-! Own exceptions as values: made by place and by name. -/
namespace PySem
namespace ExK
open Builtin Builtin.ObjectAttr PySem.HandSPX
section
variable {M : Model} {A : Around} {E : Value → Shared → Prop} {h : Heap} {g : Array GenState} {d : Drawn} {t : Nat} {os : OsState}
variable {nm q : Str} {C N : Addr} {bs bm bmB : List Value} {hdct : Bool} {sn : List Str} {sub : List Value} {ab : Bool} {col : Option Bool} {dd : Option Addr} {k0 k1 k2 k3 k5 : Option Value} {B newId initId : String}
theorem check_newK (F : ExcBaseFacts B newId initId bmB) (hT : ∀ X : String, bm.contains (.type X) = bmB.contains (.type X)) {rest : List Value} {kw : List (Str × Value)} {Q : Unit → Shared → Prop}
    (hC : h.get? C = some (excClassObj nm q C N bs bm hdct sn sub ab col dd k0 k1 k2 k3 k5 newId)) (hq : Q () ⟨h, g, d, t, os⟩) : wpAny M A (checkBuiltinCall newId ⟨.ref C :: rest, kw⟩) Q E ⟨h, g, d, t, os⟩ := by
  have hcont : (Value.ref C :: bm).contains (.type B) = true := by rw [List.contains_cons, hT, F.hasB, Bool.or_true]
  have hstar := F.noStar
  simp only [checkBuiltinCall, F.newKind, F.newSplit, F.newRow]
  repeat (first | refine wpAny_loadPart_at hC ?_ | (refine wpAny_isSubtype_exc hC ?_; rw [hcont]) | refine wpAny_staticBase_exc hC ?_ | refine wpAny_madeBy_exc hC ?_ | simp only [bne_self_eq_false, Bool.false_eq_true, if_false] | wp_step)
  exact hq
end
section
variable {prog : Program} {w : World} {A : Around} {E : Value → Shared → Prop} {R : Result → Shared → Prop} {h : Heap} {g : Array GenState} {d : Drawn} {t : Nat} {os : OsState}
variable {nm q : Str} {C N : Addr} {bs bm bmB : List Value} {hdct : Bool} {sn : List Str} {sub : List Value} {ab : Bool} {col : Option Bool} {dd : Option Addr} {k0 k1 k2 k3 k5 : Option Value} {B newId initId : String}
theorem new_ownK (F : ExcBaseFacts B newId initId bmB) (hT : ∀ X : String, bm.contains (.type X) = bmB.contains (.type X)) {rest : List Value} {kw : List (Str × Value)}
    (hC : h.get? C = some (excClassObj nm q C N bs bm hdct sn sub ab col dd k0 k1 k2 k3 k5 newId))
    (hq : R (.ok (.ret (.ref (h.objs.size + 1)))) ⟨(h.push { cls := .type "tuple", data := .seq rest.toArray }).push
      { cls := .ref C, data := .fields #[.ref h.objs.size, .none, .none, .none, .bool false, .none] }, g, d, t, os⟩) (hrest : rest.length ≤ sizeLine) :
    codeAny (model prog w) A (.builtin newId ⟨.ref C :: rest, kw⟩) R ⟨h, g, d, t, os⟩ := by
  have hends := F.ends
  have hcB : (Value.ref C :: bm).contains (.type B) = true := by rw [List.contains_cons, hT, F.hasB, Bool.or_true]
  have hcA : (Value.ref C :: bm).contains (.type "AttributeError") = false := by rw [List.contains_cons, hT, F.noAttr]; rfl
  have hcN : (Value.ref C :: bm).contains (.type "NameError") = false := by rw [List.contains_cons, hT, F.noName]; rfl
  refine codeAny_builtinAt F.entry ?_
  unfold Builtin.«BaseException.__new__»
  refine wpAt_bind ?_
  show wpAt _ _ _ (stack >>= _) _ _ _
  refine wpAt_bind (wpAt_stack fun p below => wpAt_of_wpAny ?_)
  wp_walk
  refine wpAt_of_wpAny ?_
  rw [F.owner]
  repeat (first | with_reducible refine wpAny_madeHere_exc F.canon hC ?_ | with_reducible refine wpAny_loadPart_at hC ?_ | (with_reducible refine wpAny_isSubtype_exc hC ?_; first | rw [hcB] | rw [hcA] | rw [hcN]) | wp_step)
  show R _ _
  rw [Heap.size_push]
  exact hq
theorem type_call_ownK (F : ExcBaseFacts B newId initId bmB) (hT : ∀ X : String, bm.contains (.type X) = bmB.contains (.type X)) {rest : List Value} {kw : List (Str × Value)} {fI : Addr} {Q : Fin → Shared → Prop}
    (hC : h.get? C = some (excClassObj nm q C N bs bm hdct sn sub ab col dd k0 k1 k2 k3 k5 newId))
    (hi : W.Looks (model prog w) h (typeLookup (.ref C) "__init__") (some (.ref fI))) (hb : ∀ self, W.Looks (model prog w) h (bindSpecial (.ref fI) self) (.ref fI, [self])) (hrest : rest.length ≤ sizeLine)
    (hq : codeAny (model prog w) A (.call (.ref fI) ⟨.ref (h.objs.size + 1) :: rest, kw⟩)
      (fun r s' => match r with | .ok (.ret v) => v = .none ∧ Q (.done (.ret (.ref (h.objs.size + 1)))) s' | .ok _ => False | .error e => E e s')
      ⟨(h.push (W.kdv_tup rest)).push (excO C h.objs.size), g, d, t, os⟩) :
    wpAny (model prog w) A (Builtin.«type.__call__» ⟨.ref C :: rest, kw⟩) Q E ⟨h, g, d, t, os⟩ := by
  repeat (first | with_reducible refine wpAny_loadPart_at hC ?_ | with_reducible refine wpAny_madeBy_exc hC ?_ | wp_step)
  refine codeAny_call_builtin_code (Code.quiet_builtin _ F.quiet) (check_newK F hT hC ?_)
  refine new_ownK F hT hC ?_ hrest
  show wpAny _ _ _ _ _ _
  have k : ∀ b o, h.get? b = some o → ((h.push (W.kdv_tup rest)).push (excO C h.objs.size)).get? b = some o := fun b o e => Heap.get?_push_of_some _ (Heap.get?_push_of_some _ e)
  have hC₁ := k _ _ hC
  have hget : ((h.push (W.kdv_tup rest)).push (excO C h.objs.size)).get? (h.objs.size + 1) = some (excO C h.objs.size) := by heap_get
  have hcC : (Value.ref C :: bm).contains (.ref C) = true := by simp
  have i1 := hi.keeps k
  have b1 := (hb (.ref (h.objs.size + 1))).keeps k
  unfold isInstance
  repeat (first | with_reducible refine wpAny_loadPart_at hget ?_ | (with_reducible refine wpAny_isSubtype_exc hC₁ ?_; rw [hcC]) | wp_step)
  show wpAny _ _ (typeLookup (.ref C) _) _ _ _
  refine i1.at ?_
  refine wpAny_holding (wpAny_bind (b1.at ?_))
  refine wpAny_bind (wpAny_call (codeAny_mono hq fun r s' z => ?_))
  rcases r with e | (v | _ | _ | _) <;> first | exact z | exact z.elim | skip
  obtain ⟨rfl, z⟩ := z
  first
    | exact wpAny_pure (wpAny_pure z)
    | (wp_walk; exact z)
theorem call_ownK (F : ExcBaseFacts B newId initId bmB) (hT : ∀ X : String, bm.contains (.type X) = bmB.contains (.type X)) {rest : List Value} {kw : List (Str × Value)} {fI : Addr}
    (hC : h.get? C = some (excClassObj nm q C N bs bm hdct sn sub ab col dd k0 k1 k2 k3 k5 newId))
    (hi : W.Looks (model prog w) h (typeLookup (.ref C) "__init__") (some (.ref fI))) (hb : ∀ self, W.Looks (model prog w) h (bindSpecial (.ref fI) self) (.ref fI, [self])) (hrest : rest.length ≤ sizeLine)
    (hq : codeAny (model prog w) (A.under (.builtin "type.__call__" ⟨.ref C :: rest, kw⟩)) (.call (.ref fI) ⟨.ref (h.objs.size + 1) :: rest, kw⟩) (W.InitBack (h.objs.size + 1) R)
      ⟨(h.push (W.kdv_tup rest)).push (excO C h.objs.size), g, d, t, os⟩) :
    codeAny (model prog w) A (.call (.ref C) ⟨rest, kw⟩) R ⟨h, g, d, t, os⟩ := by
  have f1 := tc_lookup
  have f2 := tc_bind (.ref C)
  have hTy : (⟨h, g, d, t, os⟩ : Shared).TypeIs (.ref C) "type" := ⟨_, hC, rfl⟩
  refine codeAny_of_tree ?_
  show wpAny _ _ (callAny (.ref C) _) _ _ _
  repeat (any_goals (first | assumption | with_reducible refine wpAny_loadPart_at hC ?_ | wp_step))
  refine ⟨rfl, ?_⟩
  refine codeAny_call_builtin_at (Code.quiet_builtin _ (by decide +kernel)) entry_typeCall (wpAny_check_type_call_sub hC (type_call_ownK F hT hC hi hb hrest ?_))
  refine codeAny_mono hq fun r s' z => ?_
  rcases r with e | (v | _ | _ | _) <;> exact z
end
end ExK
end PySem
set_option Elab.async false
set_option linter.all false
set_option maxRecDepth 100000
namespace PySem.W
open PySem PySem.Spec PySem.Calls PyProof.Rows
section
variable {prog : Program} {w : World} {A : Around} {E : Value → Shared → Prop} {s : Shared} {K : Frag} {x D : Addr} {ox : Obj} {od : Option Obj}
theorem findObj_dataD {C : Addr} {name : Str} {a g : Value} (hc : (clsIn K C).isSome = true) (ha : findIn K (.ref C) name = some (some a)) (hg : specialIn K a "__get__" = some (some g)) (ht : takesIn K a = some true) : findObj K C od name = some (.bind g a) := by
  obtain ⟨cd, hc⟩ := Option.isSome_iff_exists.mp hc
  unfold findObj
  rw [hc, Option.bind_some, ha, Option.bind_some]
  simp [hg, ht]
theorem kin_classD {Q : Option Value → Shared → Prop} (hga : findIn K (.ref D) "__getattribute__" = some (some (.builtin "BaseException.__getattribute__"))) (hgt : findIn K (.ref D) "__getattr__" = some none) (hsub : subIn K (.ref D) (.type "BaseException") = some true)
    (hdct : hasDictIn K D = true) (ha : findIn K (.ref D) "__class__" = some (some (.builtin "object.__class__")))
    (hn : specialIn K (.builtin "object.__class__") "__get__" = some (some (.builtin "getset_descriptor.__get__"))) (htk : takesIn K (.builtin "object.__class__") = some true) (hm : mroIn K D (.type "object") = some true)
    (X : K.In s.heap) (I : InstAt s.heap x ox D od) (h : Q (some (.ref D)) { s with toks := s.toks + 1 }) : wpAny (model prog w) A (getAttr? (.ref x) "__class__") Q E s := by
  have hf : findObj K D od "__class__" = some (.bind (.builtin "getset_descriptor.__get__") (.builtin "object.__class__")) := findObj_dataD (by obtain ⟨cd, hc, _⟩ := any_some hdct; rw [hc]; rfl) ha hn htk
  obtain ⟨hp, g, d, t, os⟩ := s
  have L0 := I.type (M := model prog w)
  have L1 := looks_findIn (M := model prog w) X hga
  have L2 := looks_findIn (M := model prog w) X hgt
  have L3 := looks_find (M := model prog w) X I hf
  have sub : Looks (model prog w) hp (isInstance (.ref x) (.type "BaseException")) true := L0.andThen (looks_subIn X hsub)
  have hx0 : (false && onTheHeap (Value.builtin "BaseException.__getattribute__")) = false := rfl
  have hx2 : (Value.builtin "BaseException.__getattribute__" == Value.builtin "object.__getattribute__") = false := by decide +kernel
  have hx1 : (onTheHeap (Value.ref D) && Value.builtin "BaseException.__getattribute__" == Value.builtin "object.__getattribute__") = false := by rw [hx2]; rfl
  unfold getAttr? getAttrBy? getAttrBy
  refine wpAny_bind (wpAny_mkText (wpAny_bind (wpAny_attempt (wpAny_holding (wpAny_bind (L0.at (wpAny_bind (L1.at ?_))))))))
  show wpAny _ _ (if (onTheHeap (Value.ref D) && Value.builtin "BaseException.__getattribute__" == Value.builtin "object.__getattribute__") = true then _ else _) _ _ _
  rw [hx1, if_neg Bool.false_ne_true]
  unfold getAttrByItsOwn hookBefore
  refine wpAny_bind ?_
  rw [if_pos (show onTheHeap (Value.ref D) = true from rfl)]
  refine L2.at ?_
  refine wpAny_bind (wpAny_attempt (wpAny_holding ?_))
  unfold callGetattribute
  rw [hx0, if_neg Bool.false_ne_true]
  unfold boundAndCalled
  rw [PySem.F.excAttr_ValueError.ga.bind (.ref x)]
  refine wpAny_bind (wpAny_pure ?_)
  show wpAny _ _ (call (.builtin "BaseException.__getattribute__") [.ref x, .str "__class__" t]) _ _ _
  refine wpAny_call (codeAny_call_builtin PySem.F.excAttr_ValueError.ga.plain PySem.F.entry_bexc_ga ?_)
  refine @check_slot (model prog w) _ _ ⟨hp, g, d, t + 1, os⟩ "BaseException.__getattribute__" "BaseException" "__getattribute__" (.ref x) [.str "__class__" t] [] _ (by decide +kernel) (by decide +kernel) sub (PySem.F.args_bexc_ga (.ref x) (.str "__class__" t)) ?_
  unfold Builtin.«object.__getattribute__»
  refine wpAny_bind (wpAny_of_eq (a := ((Value.ref x : Value), [Value.str "__class__" t])) (by first | rfl | (simp only [slotArgs]; rfl)) ?_)
  refine wpAny_bind (wpAny_pure (wpAny_bind (L0.at (wpAny_bind (L3.at ?_)))))
  show wpAny _ _ (holding [Value.builtin "object.__class__"] (call (.builtin "getset_descriptor.__get__") [.builtin "object.__class__", .ref x, .ref D]) >>= ret) _ _ _
  refine wpAny_bind (wpAny_holding (wpAny_call (class_get (s := ⟨hp, g, d, t + 1, os⟩) (ox := ox) (od := od) X I hm ?_)))
  refine wpAny_pure ?_
  show wpAny _ _ (handedOut (.ref D)) _ _ _
  rw [handedOut_of (v := .ref D) rfl]
  first
    | exact wpAny_pure (wpAny_pure h)
    | exact wpAny_pure h
    | exact wpAny_pure (wpAny_bind (wpAny_pure (wpAny_pure h)))
theorem kitx_excD (hga : findIn K (.ref D) "__getattribute__" = some (some (.builtin "BaseException.__getattribute__"))) (hgt : findIn K (.ref D) "__getattr__" = some none) (hsub : subIn K (.ref D) (.type "BaseException") = some true) (hdct : hasDictIn K D = true) (ha : findIn K (.ref D) "__class__" = some (some (.builtin "object.__class__")))
    (hn : specialIn K (.builtin "object.__class__") "__get__" = some (some (.builtin "getset_descriptor.__get__"))) (htk : takesIn K (.builtin "object.__class__") = some true) (hm : mroIn K D (.type "object") = some true) :
    KitX K (.ref x) (.ref D) (fun h => InstAt h x ox D od) where
  ty := fun _ _ _ I => I.type
  it := fun _ _ X _ => by
    obtain ⟨cdD, hcD, _⟩ := any_some hdct
    unfold clsIn at hcD
    split at hcD
    · rename_i c' d' cd' sl' ho
      intro A' Q' E' s' k q
      unfold isType loadHead
      exact wpAny_bind (wpAny_loadPart (k _ _ (X _ _ ho)) (wpAny_pure q))
    · cases hcD
  ne := fun h tp dd its n sl X htp => by
    obtain ⟨cdD, hcD, _⟩ := any_some hdct
    refine Bool.eq_false_iff.mpr fun q => ?_
    have e : D = tp := Value.ref.inj (beq_iff_eq.mp q)
    subst e
    unfold clsIn at hcD
    split at hcD
    · rename_i c' d' cd' sl' ho
      have z := (X _ _ ho).symm.trans htp
      cases z
    · cases hcD
  ca := fun X I k => kin_classD hga hgt hsub hdct ha hn htk hm X I k
end
end PySem.W
namespace TB
open PySem PySem.Spec PyProof.Rows L2 Evl
/-! ### readings -/
/-- the exception of the class at C stands at a, its fields (the last one first) -/
def ErrAt (C : Addr) (fs : List (Str × V)) (H : Hp) (a : Addr) : Prop := (fs = [] ∧ H a = some (exo a C none)) ∨ ∃ dx, H a = some (exo a C (some dx)) ∧ H dx = some (exd dx fs)
theorem ErrAt.ex {C : Addr} {fs : List (Str × V)} {H H' : Hp} {a : Addr} (x : Ex H H') (h : ErrAt C fs H a) : ErrAt C fs H' a := by
  rcases h with ⟨h1, h2⟩ | ⟨dx, h1, h2⟩
  · exact .inl ⟨h1, x _ _ h2⟩
  · exact .inr ⟨dx, x _ _ h1, x _ _ h2⟩
/-- __init__(self, f, ..): self.f = f, .. -/
def spIn (C : Addr) (fs : List Str) : Sp := fun vs H Q _ => ∃ (a : Addr) (ws : List V), vs = .ref a :: ws ∧ ws.length = fs.length ∧ H a = some (exo a C none) ∧
  ∀ H', (∀ b o, b ≠ a → H b = some o → H' b = some o) → ErrAt C (fs.zip ws).reverse H' a → Q .non H'
section
variable {X : Cx} {C : Addr} {e : Expr} {es : List Expr} {ta : TA} {x : Str} {p pos : Pos}
/-- C(e, ..) as a value -/
def tMkV (C : Addr) (fs : List Str) (ta : TA) : TE := fun σ H Q => ta σ H fun ws H1 => ws.length = fs.length ∧ ws.length ≤ 1000 ∧ ∀ a H2, H1 a = none → Ex H1 H2 → ErrAt C (fs.zip ws).reverse H2 a → Q (.ref a) H2
theorem ex_off {H1 H' : Hp} {a : Addr} {o : HO} (h : H1 a = none) (x : ∀ b o', b ≠ a → upd H1 a o b = some o' → H' b = some o') : Ex H1 H' := fun b o' e => by
  have hb : b ≠ a := fun z => by rw [z, h] at e; cases e
  exact x b o' hb (by rw [upd_ne hb]; exact e)
theorem run_mkV {pins : List (Addr × Obj)} {σ : L2.St} {H : Hp} {s : Shared} {Q : VK} {us ws : List Value} {vs zs : List V} {fI : Addr} {k : Nat} {fd : FuncData} {ps ks fs : List Str} {g : List Value → List Value → List Value} {gV : List V → List V → List V} (T : OexC X.K C)
    (iC : PySem.W.findIn X.K (.ref C) "__init__" = some (some (.ref fI))) (tI : PySem.W.typeIn X.K (.ref fI) = some (.type "function")) (F1 : FnOk X.prog X.w X.K X.mg X.base CX0 k fI fd ps (spIn C fs)) (hr : Room (k + 1) X.A)
    (hb : ∀ (s : Shared) (a : Addr), X.K.In s.heap → us.length = vs.length → ws.length = zs.length → BindsTo s fd ⟨.ref a :: us, ks.zip ws⟩ (ps.zip (.ref a :: g us ws))) (hg : Vals (gV vs zs) (g us ws))
    (I : Inv X pins σ H s) (r : Vals vs us) (rz : Vals zs ws) (hl : (gV vs zs).length = fs.length) (hz : us.length ≤ 1000) (h : ∀ a H2, H a = none → Ex H H2 → ErrAt C (fs.zip (gV vs zs)).reverse H2 a → Q (.ref a) H2) :
    wpAny (model X.prog X.w) X.A (call (.ref C) us (ks.zip ws)) (EP X pins σ Q) X.xe s := by
  obtain ⟨nm, q, N, bs, bm, sn, sub, ab, col, dd, k0, k1, k2, k3, k5, hC, hbm⟩ := T.cls
  obtain ⟨hp, gg, dr, tk, os⟩ := s
  have hsz : hp.objs.size ≤ hp.objs.size + 1 := Nat.le_succ _
  have hn : H (hp.objs.size + 1) = none := I.hok.fresh hsz
  have kk : ∀ b o, hp.get? b = some o → ((hp.push (PySem.W.kdv_tup us)).push (PySem.HandSPX.excO C hp.objs.size)).get? b = some o := fun b o e => Heap.get?_push_of_some _ (Heap.get?_push_of_some _ e)
  have hget : ((hp.push (PySem.W.kdv_tup us)).push (PySem.HandSPX.excO C hp.objs.size)).get? (hp.objs.size + 1) = some (PySem.HandSPX.excO C hp.objs.size) := by heap_get
  have I2 : Inv X pins σ (upd H (hp.objs.size + 1) (exo (hp.objs.size + 1) C none)) ⟨(hp.push (PySem.W.kdv_tup us)).push (PySem.HandSPX.excO C hp.objs.size), gg, dr, tk, os⟩ :=
    I.laid (t' := tk) (a := hp.objs.size + 1) (o := exo (hp.objs.size + 1) C none) (h' := (hp.push (PySem.W.kdv_tup us)).push (PySem.HandSPX.excO C hp.objs.size)) kk hsz (exo_ok hget)
  have r2 : Vals (V.ref (hp.objs.size + 1) :: gV vs zs) (Value.ref (hp.objs.size + 1) :: g us ws) := .cons rfl hg
  have hus : us.length ≤ sizeLine := by rw [sizeLine_eq]; omega
  have hq : spIn C fs (V.ref (hp.objs.size + 1) :: gV vs zs) (upd H (hp.objs.size + 1) (exo (hp.objs.size + 1) C none)) (fun v H2 => v = .non ∧ Q (.ref (hp.objs.size + 1)) H2) (fun _ _ _ => False) :=
    ⟨_, _, rfl, hl, upd_same, fun H' x1 x2 => ⟨rfl, h _ H' hn (ex_off hn x1) x2⟩⟩
  refine wpAny_call (PySem.ExK.call_ownK F.excBase_ValueError (fun Y => PySem.HandSPX.refsVE_contains Y bm hbm) (I.kIn _ _ hC) (PySem.W.looks_findIn I.kIn iC) (fun self => PySem.W.bind_fn I.kIn self tI) hus
    (codeAny_mono (F1.run _ X.stack _ _ ⟨Value.ref (hp.objs.size + 1) :: us, ks.zip ws⟩ (Value.ref (hp.objs.size + 1) :: g us ws) _ _ (fun _ _ _ => False) (hr.make C us (ks.zip ws)) (I2.env0.make C us (ks.zip ws)) (hb _ _ I2.kIn (Paired.length r).symm (Paired.length rz).symm) r2 hq) fun r s' hq' => ?_))
  cases r with
  | error er => exact pass0 pins σ _ _ er s' I2 hq'
  | ok fl =>
    cases fl with
    | ret u =>
      obtain ⟨v, H', I3, rv, ev, q3⟩ := I2.after hq'
      subst ev
      exact ⟨rv, ⟨V.ref (hp.objs.size + 1), H', I3, rfl, q3⟩⟩
    | next => exact False.elim hq'
    | brk => exact False.elim hq'
    | cont => exact False.elim hq'
/-- what the text tells of an own error class with fields -/
structure ErrN (P : Program) (w : World) (K : PySem.W.Frag) (mg : Str → Option Value) (base : Heap) (x : Str) (fs : List Str) (C : Addr) : Prop where
  g : mg x = some (.ref C)
  T : OexC K C
  init : ∃ (fI : Addr) (fd : FuncData) (ps : List Str), PySem.W.findIn K (.ref C) "__init__" = some (some (.ref fI)) ∧ PySem.W.typeIn K (.ref fI) = some (.type "function") ∧ Binds K fd ps [] ∧ ps.length = fs.length + 1 ∧ FnOk P w K mg base CX0 1 fI fd ps (spIn C fs) ∧
    (∀ f, fs = [f] → ∀ (s : Shared) (a u : Value), BindsTo s fd ⟨[a], [f].zip [u]⟩ (ps.zip [a, u])) ∧ (∀ f g, fs = [f, g] → ∀ (s : Shared) (a u v : Value), BindsTo s fd ⟨[a], [g, f].zip [v, u]⟩ (ps.zip [a, u, v]))
theorem pe_mkV {fs : List Str} (G : ErrN X.prog X.w X.K X.mg X.base x fs C) (hr : Room 2 X.A) (hg : Gl X x) (ha : PA X (e :: es) ta)
    (hdb : (x == ("__debug__" : Str)) = false := by decide) (he : starEach (e :: es) X.env = (false, eval e X.env) :: starEach es X.env := by rfl) (hpl : (backTo pos (starEach es X.env)).any (·.1) = false := by rfl) :
    PE X (.Call (.Name x p) (e :: es) [] pos) (tMkV C fs ta) := by
  obtain ⟨fI, fd, ps, iC, tI, b, lp, F1, _⟩ := G.init
  refine ⟨fun pins s σ H Q I h => ?_⟩
  refine wpAny_Call_Name_kw (ld_glob I hg G.g ?_ hdb)
  refine PySem.W.callWith_K (h₀ := X.base) I.ok.mod.kin G.T.kC (thn (ha.run pos pins s σ H _ I h) fun us s1 ⟨vs, H1, I1, r1, hl, hz, q1⟩ => ⟨I1.kIn, ?_⟩) he hpl
  have lu := Paired.length r1
  exact run_mkV (us := us) (ws := []) (ks := []) (zs := []) (g := fun us _ => us) (gV := fun vs _ => vs) G.T iC tI F1 hr (fun s a Y _ _ => by
    have := b s (.ref a :: us) Y (by rw [List.append_nil, lp, List.length_cons]; omega)
    rw [List.append_nil] at this
    exact this) r1 I1 r1 .nil hl (by omega) q1
/-- C(f = e) as a value -/
theorem pe_mkK {f : Str} {kpos : Pos} (G : ErrN X.prog X.w X.K X.mg X.base x [f] C) (hr : Room 2 X.A) (hg : Gl X x) (hkw : PK X [⟨some f, e, kpos⟩] ta)
    (hall : (backToKw pos (keywordEach [⟨some f, e, kpos⟩] X.env)).all (·.1.isSome) = true := by rfl) (hks : (backToKw pos (keywordEach [⟨some f, e, kpos⟩] X.env)).filterMap (·.1) = [f] := by rfl) (hdb : (x == ("__debug__" : Str)) = false := by decide)
    (hpl : ((backTo pos (starEach [] X.env)).any (·.1) || (backToKw pos (keywordEach [⟨some f, e, kpos⟩] X.env)).any (·.1.isNone)) = false := by rfl) :
    PE X (.Call (.Name x p) [] [⟨some f, e, kpos⟩] pos) (tMkV C [f] ta) := by
  obtain ⟨fI, fd, ps, iC, tI, b, lp, F1, k1, k2⟩ := G.init
  refine ⟨fun pins s σ H Q I h => ?_⟩
  refine wpAny_Call_Name_kw (ld_glob I hg G.g ?_ hdb)
  refine PySem.W.callWith_KW0 (h₀ := X.base) I.ok.mod.kin G.T.kC hall ?_ hpl
  refine thn (hkw.run pos pins s σ H _ I h) fun ws s2 ⟨zs, H2, I2, rz, hl, hz, q1⟩ => ⟨I2.kIn, ?_⟩
  rw [hks]
  have lw := Paired.length rz
  match zs, ws, hl, lw, rz with
  | [z], [u], _, _, rz =>
    exact run_mkV (us := []) (ws := [u]) (ks := [f]) (vs := []) (zs := [z]) (g := fun _ ws => ws) (gV := fun _ zs => zs) G.T iC tI F1 hr (fun s a Y _ _ => k1 f rfl s (.ref a) u) rz I2 .nil rz rfl (Nat.zero_le _) q1
/-- C(g = e, f = e'), the fields f, g -/
def tMkV2 (C : Addr) (f g : Str) (ta : TA) : TE := fun σ H Q => ta σ H fun ws H1 => ∃ v u, ws = [v, u] ∧ ∀ a H2, H1 a = none → Ex H1 H2 → ErrAt C [(g, v), (f, u)] H2 a → Q (.ref a) H2
theorem pe_mkK2 {f g : Str} {e2 : Expr} {kpos kpos2 : Pos} (G : ErrN X.prog X.w X.K X.mg X.base x [f, g] C) (hr : Room 2 X.A) (hg : Gl X x) (hkw : PK X [⟨some g, e, kpos⟩, ⟨some f, e2, kpos2⟩] ta)
    (hall : (backToKw pos (keywordEach [⟨some g, e, kpos⟩, ⟨some f, e2, kpos2⟩] X.env)).all (·.1.isSome) = true := by rfl) (hks : (backToKw pos (keywordEach [⟨some g, e, kpos⟩, ⟨some f, e2, kpos2⟩] X.env)).filterMap (·.1) = [g, f] := by rfl) (hdb : (x == ("__debug__" : Str)) = false := by decide)
    (hpl : ((backTo pos (starEach [] X.env)).any (·.1) || (backToKw pos (keywordEach [⟨some g, e, kpos⟩, ⟨some f, e2, kpos2⟩] X.env)).any (·.1.isNone)) = false := by rfl) :
    PE X (.Call (.Name x p) [] [⟨some g, e, kpos⟩, ⟨some f, e2, kpos2⟩] pos) (tMkV2 C f g ta) := by
  obtain ⟨fI, fd, ps, iC, tI, b, lp, F1, k1, k2⟩ := G.init
  refine ⟨fun pins s σ H Q I h => ?_⟩
  refine wpAny_Call_Name_kw (ld_glob I hg G.g ?_ hdb)
  refine PySem.W.callWith_KW0 (h₀ := X.base) I.ok.mod.kin G.T.kC hall ?_ hpl
  refine thn (hkw.run pos pins s σ H _ I h) fun ws s2 ⟨zs, H2, I2, rz, v, u, hzs, q1⟩ => ⟨I2.kIn, ?_⟩
  rw [hks]
  subst hzs
  have lw := Paired.length rz
  match ws, lw, rz with
  | [v', u'], _, rz =>
    have rg : Vals [u, v] [u', v'] := by
      cases rz with
      | cons r1 r2 =>
        cases r2 with
        | cons r2 r3 => exact .cons r2 (.cons r1 .nil)
    exact run_mkV (us := []) (ws := [v', u']) (ks := [g, f]) (vs := []) (zs := [v, u]) (g := fun _ ws => ws.reverse) (gV := fun _ zs => zs.reverse) G.T iC tI F1 hr (fun s a Y _ _ => k2 f g rfl s (.ref a) u' v') rg I2 .nil rz rfl (Nat.zero_le _) q1
/-- C(), C without an __init__ of its own -/
def tMkV0 (C : Addr) : TE := fun σ H Q => ∀ a H2, H a = none → Ex H H2 → ErrAt C [] H2 a → Q (.ref a) H2
theorem pe_mkV0 {bmB : List Value} {B newId initId : String} (F : ExcBaseFacts B newId initId bmB) (q : PySem.W.excIn X.K C bmB newId = true) (gC : X.mg x = some (.ref C)) (kC : PySem.W.keepIn X.K (.ref C) = true) (hg : Gl X x) (hdb : (x == ("__debug__" : Str)) = false := by decide) :
    PE X (.Call (.Name x p) [] [] pos) (tMkV0 C) := by
  refine ⟨fun pins s σ H Q I h => ?_⟩
  refine wpAny_Call_Name_kw (ld_glob I hg gC ?_ hdb)
  refine PySem.W.callWith_K0 I.kIn kC ?_
  show wpAny _ _ (call (.ref C) []) _ _ _
  obtain ⟨bm, N, nm, qn, bs, hdct, sn, sub, ab, col, dd, k0, k1, k2, k3, k5, mN, hC, hN, hni, T⟩ := exc_obj I.kIn q
  obtain ⟨hp, gg, dr, tk, os⟩ := s
  refine wpAny_call_exc_subT F T hC hN hni (fun h' a hm => ?_) (by show 0 ≤ sizeLine; exact Nat.zero_le _)
  have hn : H a = none := I.hok.gone hm.new
  obtain ⟨t, ht, _, _⟩ := hm.there
  exact ⟨.ref a, upd H a (exo a C none), I.laidN hm.keeps hm.new hn (exo_ok ht), rfl, h a _ hn (Ex.new hn) (.inl ⟨rfl, upd_same⟩)⟩
/-! ### fields -/
def tGf (C : Addr) (n : Str) (te : TE) : TE := fun σ H Q => te σ H fun x H1 => ∃ (a : Addr) (fs : List (Str × V)) (v : V), x = .ref a ∧ ErrAt C fs H1 a ∧ fs.lookup n = some v ∧ Q v H1
theorem pe_gf {te : TE} {n : Str} (T : XfC X.K C) (hno : PySem.W.findIn X.K (.ref C) n = some none) (he : PE X e te) (hb : attributeBase e n X.env (eval e X.env) = eval e X.env := by rfl) : PE X (.Attribute e n pos) (tGf C n te) := by
  refine ⟨fun pins s σ H Q I h => ?_⟩
  refine attr_of hb (thn (he.run pins s σ H _ I h) fun u s1 hh => ?_)
  obtain ⟨x, H1, I1, rx, a, fs, v, ex, ea, l, q⟩ := hh
  subst ex
  obtain rfl : u = Value.ref a := rx
  rcases ea with ⟨rfl, _⟩ | ⟨dx, e1, e2⟩
  · cases l
  obtain ⟨t1, ho⟩ := exo_at I1.hok e1
  obtain ⟨mA, hns, hr⟩ := exd_at I1.hok e2
  obtain ⟨od, hod, hl⟩ := lookIn_ns hns
  obtain ⟨u, hu, ru⟩ := RelO.some_of (v := v) (o := mA n) (by rw [← l]; exact hr n)
  have J : PySem.W.InstAt s1.heap a _ C (some od) := ⟨ho, rfl, rfl, hod⟩
  exact HandSPX.exc_get I1.kIn J T.ga T.gg T.exC (PySem.W.findObj_own T.hdC hno rfl (by rw [hl, hu])) (handed_of ru) ⟨v, H1, I1.tok _, ru, q⟩
/-! ### isinstance -/
def rIsV (K : PySem.W.Frag) : List V → Hp → VK → Prop := fun xs H Q => ∃ (a C : Addr) (fs : List (Str × V)) (c : V) (cv : Value) (b : Bool), xs = [.ref a, c] ∧ ErrAt C fs H a ∧ ExcC K C ∧ (∀ u, RelV c u → u = cv) ∧ PySem.W.kitOne K (.ref C) cv = some b ∧ Q (.bl b) H
theorem call_isV : CallR X (.builtin "isinstance") (rIsV X.K) := by
  intro pins s σ H xs us Q I r h
  obtain ⟨a, C, fs, c, cv, b, rfl, ea, T, hcv, e, q⟩ := h
  cases r with
  | cons rx rr =>
    cases rr with
    | cons rt rr =>
      cases rr
      cases rx
      have ec := hcv _ rt
      subst ec
      rcases ea with ⟨_, e1⟩ | ⟨dx, e1, e2⟩
      · obtain ⟨t1, ho⟩ := exo_at I.hok e1
        have J : PySem.W.InstAt s.heap a _ C none := ⟨ho, rfl, rfl, trivial⟩
        exact PySem.W.kia_one (PySem.W.kitx_excD T.hg T.hk T.hs T.hd T.ha T.hn T.ht T.hm) I.kIn J e (fun z => nomatch z) fun tk => ⟨.bl b, H, I.kept (t' := tk) fun _ _ z => z, rfl, q⟩
      · obtain ⟨t1, ho⟩ := exo_at I.hok e1
        obtain ⟨mA, hns, hr⟩ := exd_at I.hok e2
        obtain ⟨od, hod, hl⟩ := lookIn_ns hns
        have J : PySem.W.InstAt s.heap a _ C (some od) := ⟨ho, rfl, rfl, hod⟩
        exact PySem.W.kia_one (PySem.W.kitx_excD T.hg T.hk T.hs T.hd T.ha T.hn T.ht T.hm) I.kIn J e (fun z => nomatch z) fun tk => ⟨.bl b, H, I.kept (t' := tk) fun _ _ z => z, rfl, q⟩
end
end TB
set_option Elab.async false
set_option linter.all false
set_option maxRecDepth 100000
namespace TB
open PySem PySem.Spec PyProof.Rows L2 Evl
/-! ### what the written part says of such classes -/
structure XCls (K : PySem.W.Frag) (CB C : Addr) : Prop where
  lk : ∃ nm q N bs sn sub ab col dd k0 k1 k2 k3 k5, K.lookup C = some (excClassObj nm q C N bs (.ref CB :: PySem.HandSPX.veTail) true sn sub ab col dd k0 k1 k2 k3 k5 "ValueError.__new__")
  ty : PySem.W.typeIn K (.ref C) = some (.type "type")
  ga : PySem.W.findIn K (.ref C) "__getattribute__" = some (some (.builtin "BaseException.__getattribute__"))
  gt : PySem.W.findIn K (.ref C) "__getattr__" = some none
  ca : PySem.W.findIn K (.ref C) "__class__" = some (some (.builtin "object.__class__"))
section
variable {K : PySem.W.Frag} {CB C D : Addr}
theorem XCls.cls (X : XCls K CB C) : ∃ nm q N bs sn sub ab col, PySem.W.clsIn K C = some { name := nm, bases := bs, mro := .ref C :: .ref CB :: PySem.HandSPX.veTail, ns := N, qualname := q, hasDict := true, slotNames := sn, subclasses := sub, abstract := ab, collection := col, hasDel := false } := by
  obtain ⟨nm, q, N, bs, sn, sub, ab, col, dd, k0, k1, k2, k3, k5, h⟩ := X.lk
  refine ⟨nm, q, N, bs, sn, sub, ab, col, ?_⟩
  unfold PySem.W.clsIn
  rw [h] <;> rfl
theorem XCls.mro (X : XCls K CB C) (v : Value) : PySem.W.mroIn K C v = some ((Value.ref C :: .ref CB :: PySem.HandSPX.veTail).contains v) := by
  obtain ⟨nm, q, N, bs, sn, sub, ab, col, h⟩ := X.cls
  unfold PySem.W.mroIn
  rw [h] <;> rfl
theorem XCls.hd (X : XCls K CB C) : PySem.W.hasDictIn K C = true := by
  obtain ⟨nm, q, N, bs, sn, sub, ab, col, h⟩ := X.cls
  unfold PySem.W.hasDictIn
  rw [h] <;> rfl
theorem XCls.sub (X : XCls K CB C) : PySem.W.subIn K (.ref C) (.type "BaseException") = some true := by
  show PySem.W.mroIn K C _ = _
  rw [X.mro]
  rfl
theorem XCls.xf (X : XCls K CB C) : XfC K C := ⟨X.ga, X.gt, X.sub, X.hd⟩
theorem XCls.exc (X : XCls K CB C) (hn : PySem.W.specialIn K (.builtin "object.__class__") "__get__" = some (some (.builtin "getset_descriptor.__get__"))) (ht : PySem.W.takesIn K (.builtin "object.__class__") = some true) : ExcC K C :=
  ⟨X.ga, X.gt, X.sub, X.hd, X.ca, hn, ht, by rw [X.mro]; rfl⟩
theorem ref_beq (a b : Addr) : (Value.ref a == Value.ref b) = decide (a = b) := by
  rw [Bool.eq_iff_iff]; simp
theorem XCls.kit (X : XCls K CB C) (Y : XCls K CB D) (h : D ≠ CB) : PySem.W.kitOne K (.ref C) (.ref D) = some (decide (C = D)) := by
  unfold PySem.W.kitOne
  rw [ref_beq]
  by_cases e : C = D
  · rw [if_pos (decide_eq_true e), decide_eq_true e]
  · rw [if_neg (by rw [decide_eq_false e]; exact Bool.false_ne_true), decide_eq_false e]
    obtain ⟨nm, q, N, bs, sn, sub, ab, col, hc⟩ := Y.cls
    show (if ((PySem.W.clsIn K D).isSome && PySem.W.typeIn K (.ref D) == some (.type "type")) = true then PySem.W.subIn K (.ref C) (.ref D) else none) = _
    rw [hc, Y.ty, if_pos (by simp)]
    show PySem.W.mroIn K C _ = _
    rw [X.mro, List.contains_cons, List.contains_cons, ref_beq, ref_beq, decide_eq_false (fun z => e z.symm), decide_eq_false h]
    rfl
theorem XCls.kb (X : XCls K CB C) (h1 : PySem.W.isClsIn K CB = true) (h2 : PySem.W.typeIn K (.ref CB) = some (.type "type")) : PySem.W.kitOne K (.ref C) (.ref CB) = some true := by
  unfold PySem.W.kitOne
  rw [ref_beq]
  by_cases e : C = CB
  · rw [if_pos (decide_eq_true e)]
  · rw [if_neg (by rw [decide_eq_false e]; exact Bool.false_ne_true)]
    have z : (PySem.W.clsIn K CB).isSome = true := h1
    show (if ((PySem.W.clsIn K CB).isSome && PySem.W.typeIn K (.ref CB) == some (.type "type")) = true then PySem.W.subIn K (.ref C) (.ref CB) else none) = _
    rw [z, h2, if_pos (by simp)]
    show PySem.W.mroIn K C _ = _
    rw [X.mro, List.contains_cons, List.contains_cons, ref_beq, ref_beq, decide_eq_true rfl]
    simp
theorem XCls.kv (X : XCls K CB C) : PySem.W.kitOne K (.ref C) (.type "ValueError") = some true := by
  unfold PySem.W.kitOne
  rw [if_neg (by simp)]
  show (if PySem.W.kitMeta "ValueError" = true then PySem.W.subIn K (.ref C) (.type "ValueError") else none) = _
  rw [if_pos (by decide +kernel)]
  show PySem.W.mroIn K C _ = _
  rw [X.mro]
  rfl
end
/-! ### lists that are not sysModules -/
def tLstN (t : TA) : TE := fun σ H Q => t σ H fun xs H1 => xs.length ≤ sizeLine ∧ ∀ p, H1 p = none → p ≠ sysModules → Q (.ref p) (upd H1 p (.lst xs))
def rCatN : R2 := fun x y H Q => ∃ l b xs zs, x = .ref l ∧ y = .ref b ∧ H l = some (.lst xs) ∧ H b = some (.lst zs) ∧ xs.length + zs.length ≤ sizeLine ∧ ∀ p, H p = none → p ≠ sysModules → Q (.ref p) (upd H p (.lst (xs ++ zs)))
def rRepN : R2 := fun x y H Q => ∃ l k xs, x = .ref l ∧ y = .int k ∧ H l = some (.lst xs) ∧ -(2 ^ 63) ≤ k ∧ k < 2 ^ 63 ∧ xs.length * k.toNat ≤ sizeLine ∧
  ∀ p, H p = none → p ≠ sysModules → Q (.ref p) (upd H p (.lst (List.replicate k.toNat xs).flatten))
section
variable {X : Cx} {es : List Expr} {t : TA} {pos : Pos}
theorem pe_lstN (h : PA X es t) : PE X (.List es pos) (tLstN t) := by
  refine ⟨fun pins s σ H Q I hq => ?_⟩
  refine wpAny_List_spliced (thn (h.run pos pins s σ H _ I hq) fun us s1 ⟨xs, H1, I1, r, z, q⟩ => ⟨by rw [← r.length]; exact z, ?_⟩)
  have hf : H1 s1.heap.objs.size = none := I1.hok.fresh (Nat.le_refl _)
  refine ⟨.ref s1.heap.objs.size, upd H1 s1.heap.objs.size (.lst xs), I1.laid (t' := s1.toks) (fun b u e => Heap.get?_push_of_some _ e) (Nat.le_refl _) ?_, rfl, q _ hf (Nat.ne_of_gt I1.big)⟩
  exact ⟨z, us, 0, r, Heap.get?_push_size _ rfl⟩
theorem op_catN : OpR X (binaryOp .Add) rCatN := by
  intro pins s σ H x y v u Q I rx ry h
  obtain ⟨l, b, xs, zs, rfl, rfl, hH, hB, hz, q⟩ := h
  cases rx
  cases ry
  obtain ⟨z, its, n, r, hl, e⟩ := I.lstM hH
  obtain ⟨z2, its2, n2, r2, hl2, e2⟩ := I.lstM hB
  refine PySem.P.add_list e e2 ?_ (by rw [List.size_toArray, List.size_toArray]; omega)
  have ea : its.toArray ++ its2.toArray = (its ++ its2).toArray := by simp
  rw [ea]
  exact ⟨.ref _, _, I.lnew (t' := s.toks) (r.append r2) (by rw [List.length_append]; omega), rfl, q _ I.fresh (Nat.ne_of_gt I.big)⟩
theorem op_repN : OpR X (binaryOp .Mult) rRepN := by
  intro pins s σ H x y v u Q I rx ry h
  obtain ⟨l, k, xs, rfl, rfl, hH, h1, h2, hz, q⟩ := h
  cases rx
  obtain ⟨t, rfl⟩ := ry
  obtain ⟨z, its, n, r, hl, e⟩ := I.lstM hH
  have hlen : its.toArray.size * k.toNat ≤ sizeLine := by rw [List.size_toArray, ← hl]; exact hz
  have hcap : ¬ its.toArray.size * k.toNat > (2 ^ 63 - 1) / 8 := by
    have : (sizeLine : Nat) ≤ (2 ^ 63 - 1) / 8 := by decide
    omega
  have hfit : ¬ (!Builtin.List.listFitsIndex k) = true := by
    rw [fitsIndex_both h1 h2]
    exact Bool.false_ne_true
  have hlong : ¬ Builtin.List.listTooLong (its.toArray.size * k.toNat) = true := by
    rw [notLongL hlen]
    exact Bool.false_ne_true
  have hnew : List.foldl (fun x1 x2 => x1 ++ x2) #[] (List.replicate (if its.toArray.isEmpty = true then 0 else k.toNat) its.toArray) = (List.replicate k.toNat its).flatten.toArray := by
    have f0 : ∀ m : Nat, List.foldl (fun x1 x2 => x1 ++ x2) #[] (List.replicate m its.toArray) = (List.replicate m its).flatten.toArray := fun m => by
      have := foldl_rep its m []
      rw [List.nil_append] at this
      exact this
    rw [f0]
    cases its with
    | nil => simp
    | cons a r' => rw [if_neg (by simp)]
  refine wpAny_binaryOp_repeat_ref (T := "list") (U := "int") (by decide) ⟨_, e, rfl⟩ (fun s' => typeIs_int s' k t) noFill_list_mul F.fills_int_mul F.slot_int_rmul repeat_list F.slot_int_index.lookup
    (call_meets F.slot_int_rmul (typeIs_int s k t) F.entry_int_rmul (F.args_int_rmul_2 _ _) (int___rmul___int_list k t l its.toArray n)
      ⟨e, rfl, ⟨_, e, rfl⟩, call_meets F.slot_list_mul ⟨_, e, rfl⟩ F.entry_list_mul (F.args_list_mul_2 _ _) (AutoListH.list___mul___list_int_3 l its.toArray n k t hfit hcap hlong) ⟨e, ?_⟩⟩)
  rw [hnew]
  exact ⟨.ref _, _, I.lnew (t' := s.toks) (r.rep k.toNat) (by rw [PyProof.Rows.lm_len_rep_flat, Nat.mul_comm]; exact hz), rfl, q _ I.fresh (Nat.ne_of_gt I.big)⟩
end
end TB
namespace DL
open PySem PySem.Spec PyProof.Rows L2 Evl TB
/-- repr of a list of data, the list at another place than sysModules -/
def rReprN : List V → Hp → VK → Prop := fun xs H Q =>
  ∃ N p zs es, xs = [V.ref p] ∧ p ≠ sysModules ∧ H p = some (.lst zs) ∧ RgAll N H zs es ∧ (hasLs es = false ∨ PyData.hasDictAll es = false) ∧ (PyData.list es).showable = true ∧ (PyData.list es).depth < 60 ∧ (PyData.list es).shown.length ≤ sizeLine ∧ Q (.str (PyData.list es).shown) H
theorem call_reprN {X : Cx} (hg : X.A.guards = some []) (hu : X.A.units + 64 < cLine) : CallR X (.builtin "repr") rReprN := by
  intro pins s σ H xs us Q J r h
  obtain ⟨N, p, zs, es, rfl, hp, hq, hz, hk, hs, hd, hl, q⟩ := h
  obtain ⟨u, rfl, ru⟩ := vals1 r
  cases ru
  obtain ⟨iq, rz, ⟨oq, nq, hoq, hcq, _, hdq⟩, _⟩ := J.list (.inl (.inl hq))
  obtain ⟨as, hr, hn⟩ := Rg.readsAll J es _ iq hz rz
  have hr' := Reads.list hoq hcq hdq hr
  refine repr_of_reads' hr' hs (fun h => ?_) hg (by omega) (fun b o e => e) (fun h' u tk hk => ⟨.str _, H, J.kept hk, ⟨_, rfl⟩, q⟩) hl
  rw [PyData.hasDict] at h
  rcases hk with hk | hk
  · intro hm
    rcases List.mem_cons.mp hm with hm | hm
    · exact hp hm.symm
    · exact hn hk hm
  · rw [hk] at h; cases h
section
variable {W : Wd} {H0 H : Hp} {ρ : List (Option Sl)} {τ : List (V × PyData)} {l : List (Addr × List PyData)} {σ : L2.St} {te ta tb : TE} {tas : TA} {P : PyData → Prop}
/-- the present heap is the base from now on -/
theorem St.rebase (S : St W H0 ρ τ [] σ H) : St W H ρ τ [] σ H := by
  obtain ⟨N, n1, n2, n3, n4, n5, n6⟩ := S.ex
  exact ⟨S.inv, fun a o e _ => e, W.N, fun _ h => h, fun a h n => absurd h n, fun a n => n3 a (n1 a n), ⟨n4.1, fun i s e => by
    obtain ⟨o, h1, h2⟩ := n4.2 i s e
    refine ⟨o, h1, ?_⟩
    cases s with
    | dat e => obtain ⟨v, q1, q2⟩ := h2; exact ⟨v, q1, q2.sub n1⟩
    | raw v => exact h2⟩, fun p hp => (n5 p hp).sub n1, List.nodup_nil, fun _ h => nomatch h⟩
/-- data of the base is data still -/
theorem St.base_rg {v : V} {e : PyData} (S : St W H0 ρ τ l σ H) (h : Rg W.N H0 v e) : St W H0 ρ ((v, e) :: τ) l σ H := by
  obtain ⟨N, n1, n2, n3, n4, n5, n6⟩ := S.ex
  refine ⟨S.inv, S.off, N, n1, n2, n3, n4, fun p hp => ?_, n6⟩
  rcases List.mem_cons.mp hp with rfl | hp
  · exact Rg.to (fun a o e n => ⟨S.off a o e n, fun z => by rw [n2 a z n] at e; cases e⟩) _ _ h
  · exact n5 p hp
/-- an expression that gives a list at another place than sysModules -/
def EvN (W : Wd) (H0 : Hp) (te : TE) (ρ : List (Option Sl)) (P : List PyData → Prop) : Prop :=
  ∀ τ l σ H, St W H0 ρ τ l σ H → ∀ Q : VK, (∀ p es H', p ≠ sysModules → St W H0 ρ ((.ref p, .list es) :: τ) l σ H' → P es → Q (.ref p) H') → te σ H Q
theorem ev_lstN {ds : List PyData} (ha : EvA W H0 tas ρ (· = ds)) (hs : ds.length ≤ 100000) : EvN W H0 (tLstN tas) ρ (· = ds) := fun τ l σ H S Q k =>
  ha τ l σ H S _ fun vs es H1 S1 le pa => ⟨size_small (by rw [le, pa]; exact hs), fun p hp hsm => by
    obtain ⟨N, n3, n5, n4, q⟩ := S1.ext
    refine k p es _ hsm (q _ _ (Ex.new hp) fun p' hp' => ?_) pa
    rcases List.mem_cons.mp hp' with rfl | hp'
    · exact .lst upd_same (n3.new hp) ((zip_all le fun p hp => n5 p (List.mem_append_left _ hp)).ex (Ex.new hp))
    · exact (n5 _ (List.mem_append_right _ hp')).ex (Ex.new hp)⟩
theorem ev_catN {ds es : List PyData} (ha : EvP W H0 ta ρ (· = .list ds)) (hb : EvP W H0 tb ρ (· = .list es)) (h : ds.length + es.length ≤ 100000) : EvN W H0 (tOp rCatN ta tb) ρ (· = ds ++ es) := fun τ l σ H S Q k =>
  ha τ l σ H S _ fun v1 e1 H1 S1 p1 => hb _ l σ H1 S1 _ fun v2 e2 H2 S2 p2 => by
    subst p1 p2
    obtain ⟨N, n3, n5, n4, q⟩ := S2.ext
    have r1 := n5 _ (List.mem_cons_of_mem _ List.mem_cons_self)
    have r2 := n5 _ List.mem_cons_self
    cases r1 with
    | lst hx nx hr =>
      cases r2 with
      | lst hy ny hs =>
        refine ⟨_, _, _, _, rfl, rfl, hx, hy, size_small (by rw [hr.len, hs.len]; exact h), fun p hp hsm => k p (ds ++ es) _ hsm (q _ _ (Ex.new hp) fun p' hp' => ?_) rfl⟩
        rcases List.mem_cons.mp hp' with rfl | hp'
        · exact .lst upd_same (n3.new hp) ((hr.app hs).ex (Ex.new hp))
        · exact (n5 p' (List.mem_cons_of_mem _ (List.mem_cons_of_mem _ hp'))).ex (Ex.new hp)
theorem RgAll.repl {N : Addr → Prop} {H : Hp} {zs : List V} {es : List PyData} (r : RgAll N H zs es) : ∀ k : Nat, RgAll N H (List.replicate k zs).flatten (List.replicate k es).flatten
  | 0 => .nil
  | k + 1 => by
    rw [List.replicate_succ, List.replicate_succ, List.flatten_cons, List.flatten_cons]
    exact r.app (RgAll.repl r k)
theorem len_repl {α : Type} (k : Nat) (l : List α) : (List.replicate k l).flatten.length = k * l.length := by
  induction k with
  | zero => simp
  | succ k ih => rw [List.replicate_succ, List.flatten_cons, List.length_append, ih, Nat.succ_mul, Nat.add_comm]
theorem ev_repN {ds : List PyData} {k : Nat} (ha : EvP W H0 ta ρ (· = .list ds)) (hb : EvP W H0 tb ρ (· = .int (k : Nat))) (h : ds.length * k ≤ 100000) (hk : k ≤ 1000) : EvN W H0 (tOp rRepN ta tb) ρ (· = (List.replicate k ds).flatten) := fun τ l σ H S Q c =>
  ha τ l σ H S _ fun v1 e1 H1 S1 p1 => hb _ l σ H1 S1 _ fun v2 e2 H2 S2 p2 => by
    subst p1 p2
    obtain ⟨N, n3, n5, n4, q⟩ := S2.ext
    have r1 := n5 _ (List.mem_cons_of_mem _ List.mem_cons_self)
    have r2 := n5 _ List.mem_cons_self
    cases r1 with
    | lst hx nx hr =>
      cases r2
      refine ⟨_, (k : Nat), _, rfl, rfl, hx, by omega, by omega, size_small (by rw [hr.len, Int.toNat_natCast]; exact h), fun p hp hsm => ?_⟩
      rw [Int.toNat_natCast]
      refine c p (List.replicate k ds).flatten _ hsm (q _ _ (Ex.new hp) fun p' hp' => ?_) rfl
      rcases List.mem_cons.mp hp' with rfl | hp'
      · exact .lst upd_same (n3.new hp) ((hr.repl k).ex (Ex.new hp))
      · exact (n5 p' (List.mem_cons_of_mem _ (List.mem_cons_of_mem _ hp'))).ex (Ex.new hp)
theorem ev_rawN {i : Nat} {p : Addr} {es : List PyData} (hr : ρ[i]? = some (some (.raw (.ref p)))) (hsm : p ≠ sysModules) (h : Rg W.N H0 (.ref p) (.list es)) : EvN W H0 (tVar i) ρ (· = es) := fun τ l σ H S Q k =>
  ⟨_, S.raw hr, k p es H hsm (S.base_rg h) rfl⟩
theorem ev_reprN {es : List PyData} (h : EvN W H0 te ρ (· = es)) (hk : hasLs es = false ∨ PyData.hasDictAll es = false) (hs : Fit 1000000 50 (.list es)) : EvP W H0 (tCB rReprN (tCons te tNil)) ρ (· = .str (PyData.list es).shown) := fun τ l σ H S Q k =>
  h τ l σ H S _ fun p es' H1 hsm S1 pe => by
    subst pe
    obtain ⟨N, n3, n5, n4, q⟩ := S1.ext
    have hv := n5 _ List.mem_cons_self
    cases hv with
    | lst hA hn hr =>
      refine ⟨N, p, _, es', rfl, hsm, hA, hr, hk, hs.sh, Nat.lt_of_le_of_lt hs.dp (by decide), Nat.le_trans hs.len (by decide), k _ (.str (PyData.list es').shown) H1 (q _ _ ex_refl fun p hp => ?_) rfl⟩
      rcases List.mem_cons.mp hp with rfl | hp
      · exact .str _
      · exact n5 p (List.mem_cons_of_mem _ hp)
end
end DL
set_option Elab.async false
set_option linter.all false
set_option maxRecDepth 100000
/-! What an expression gives, said of values and the heap, where nothing changes. -/
namespace DL
open PySem PySem.Spec PyProof.Rows L2 Evl TB
abbrev RV := V → Hp → Prop
def Stb (R : RV) : Prop := ∀ v H H', Ex H H' → R v H → R v H'
def All2 : List RV → List V → Hp → Prop
  | [], [], _ => True
  | R :: Rs, v :: vs, H => R v H ∧ All2 Rs vs H
  | _, _, _ => False
def StbA (Rs : List RV) : Prop := ∀ R ∈ Rs, Stb R
theorem All2.ex : ∀ {Rs : List RV} {vs : List V} {H H' : Hp}, StbA Rs → Ex H H' → All2 Rs vs H → All2 Rs vs H'
  | [], [], _, _, _, _, _ => trivial
  | R :: Rs, v :: vs, _, _, s, x, h => ⟨s R List.mem_cons_self _ _ _ x h.1, All2.ex (fun R' h' => s R' (List.mem_cons_of_mem _ h')) x h.2⟩
  | [], _ :: _, _, _, _, _, h => h.elim
  | _ :: _, [], _, _, _, _, h => h.elim
theorem All2.app : ∀ {Rs Ts : List RV} {vs us : List V} {H : Hp}, All2 Rs vs H → All2 Ts us H → All2 (Rs ++ Ts) (vs ++ us) H
  | [], _, [], _, _, _, h => h
  | R :: Rs, _, v :: vs, _, _, h1, h2 => ⟨h1.1, All2.app h1.2 h2⟩
  | [], _, _ :: _, _, _, h, _ => h.elim
  | _ :: _, _, [], _, _, h, _ => h.elim
theorem All2.len : ∀ {Rs : List RV} {vs : List V} {H : Hp}, All2 Rs vs H → vs.length = Rs.length
  | [], [], _, _ => rfl
  | R :: Rs, v :: vs, _, h => congrArg (· + 1) (All2.len h.2)
  | [], _ :: _, _, h => h.elim
  | _ :: _, [], _, h => h.elim
theorem All2.get : ∀ {Rs : List RV} {vs : List V} {H : Hp} {i : Nat} {R : RV}, All2 Rs vs H → Rs[i]? = some R → ∃ v, vs[i]? = some v ∧ R v H
  | R' :: Rs, v :: vs, _, 0, R, h, e => by
    have : R' = R := Option.some.inj e
    subst this
    exact ⟨v, rfl, h.1⟩
  | R' :: Rs, v :: vs, _, i + 1, R, h, e => All2.get (i := i) h.2 e
  | [], _, _, _, _, _, e => by simp at e
  | _ :: _, [], _, _, _, h, _ => h.elim
def LstR (Rs : List RV) : RV := fun v H => ∃ p vs, v = .ref p ∧ H p = some (.lst vs) ∧ All2 Rs vs H
theorem stb_lst {Rs : List RV} (s : StbA Rs) : Stb (LstR Rs) := fun v H H' x h => by
  obtain ⟨p, vs, rfl, h1, h2⟩ := h
  exact ⟨p, vs, rfl, x _ _ h1, h2.ex s x⟩
def EvS (te : TE) (σ : L2.St) (H0 : Hp) (R : RV) : Prop := ∀ H, Ex H0 H → ∀ Q : VK, (∀ v H', Ex H H' → R v H' → Q v H') → te σ H Q
def EvSA (ta : TA) (σ : L2.St) (H0 : Hp) (Rs : List RV) : Prop := ∀ H, Ex H0 H → ∀ Q : List V → Hp → Prop, (∀ vs H', Ex H H' → All2 Rs vs H' → Q vs H') → ta σ H Q
/-- a new list -/
def EvSF (te : TE) (σ : L2.St) (H0 : Hp) (Rs : List RV) : Prop := ∀ H, Ex H0 H → ∀ Q : VK, (∀ p vs H', Ex H H' → H p = none → p ≠ sysModules → H' p = some (.lst vs) → All2 Rs vs H' → Q (.ref p) H') → te σ H Q
section
variable {te ta tb : TE} {tas : TA} {σ : L2.St} {H0 : Hp} {R S : RV} {Rs Ts : List RV} {K : PySem.W.Frag}
theorem EvS.up {H1 : Hp} (h : EvS te σ H0 R) (x : Ex H0 H1) : EvS te σ H1 R := fun H y => h H (x.trans y)
theorem es_nil : EvSA tNil σ H0 [] := fun H _ Q k => k [] H ex_refl trivial
theorem es_cons (s : Stb R) (ha : EvS ta σ H0 R) (hb : EvSA tas σ H0 Rs) : EvSA (tCons ta tas) σ H0 (R :: Rs) := fun H x Q k =>
  ha H x _ fun v H1 x1 r => hb H1 (x.trans x1) _ fun vs H2 x2 rs => k (v :: vs) H2 (x1.trans x2) ⟨s _ _ _ x2 r, rs⟩
theorem es_var {i : Nat} {v : V} (h : σ[i]? = some (some v)) (s : Stb R) (r : R v H0) : EvS (tVar i) σ H0 R := fun H x Q k => ⟨v, h, k v H ex_refl (s _ _ _ x r)⟩
theorem es_c {v : V} : EvS (tC v) σ H0 (fun u _ => u = v) := fun H x Q k => k v H ex_refl rfl
theorem es_lst (s : StbA Rs) (h : EvSA tas σ H0 Rs) (hl : Rs.length ≤ 1000) : EvS (tLst tas) σ H0 (LstR Rs) := fun H x Q k =>
  h H x _ fun vs H1 x1 rs => ⟨size_small (by rw [rs.len]; omega), fun p hp => k _ _ (x1.trans (Ex.new hp)) ⟨p, vs, rfl, upd_same, rs.ex s (Ex.new hp)⟩⟩
theorem es_cat (s1 : StbA Rs) (s2 : StbA Ts) (ha : EvS ta σ H0 (LstR Rs)) (hb : EvS tb σ H0 (LstR Ts)) (hl : Rs.length + Ts.length ≤ 1000) : EvS (tOp rCat ta tb) σ H0 (LstR (Rs ++ Ts)) := fun H x Q k =>
  ha H x _ fun v1 H1 x1 r1 => hb H1 (x.trans x1) _ fun v2 H2 x2 r2 => by
    obtain ⟨p1, vs1, rfl, g1, a1⟩ := stb_lst s1 _ _ _ x2 r1
    obtain ⟨p2, vs2, rfl, g2, a2⟩ := r2
    exact ⟨p1, p2, vs1, vs2, rfl, rfl, g1, g2, size_small (by rw [a1.len, a2.len]; omega), fun p hp => k _ _ ((x1.trans x2).trans (Ex.new hp)) ⟨p, _, rfl, upd_same, (a1.ex s1 (Ex.new hp)).app (a2.ex s2 (Ex.new hp))⟩⟩
theorem none_of' {H H' : Hp} {a : Addr} (x : Ex H H') (h : H' a = none) : H a = none := by
  cases e : H a with
  | none => rfl
  | some o => rw [x a o e] at h; cases h
theorem es_catN (s1 : StbA Rs) (s2 : StbA Ts) (ha : EvS ta σ H0 (LstR Rs)) (hb : EvS tb σ H0 (LstR Ts)) (hl : Rs.length + Ts.length ≤ 1000) : EvSF (tOp rCatN ta tb) σ H0 (Rs ++ Ts) := fun H x Q k =>
  ha H x _ fun v1 H1 x1 r1 => hb H1 (x.trans x1) _ fun v2 H2 x2 r2 => by
    obtain ⟨p1, vs1, rfl, g1, a1⟩ := stb_lst s1 _ _ _ x2 r1
    obtain ⟨p2, vs2, rfl, g2, a2⟩ := r2
    exact ⟨p1, p2, vs1, vs2, rfl, rfl, g1, g2, size_small (by rw [a1.len, a2.len]; omega), fun p hp hsm => k _ _ _ ((x1.trans x2).trans (Ex.new hp)) (none_of' (x1.trans x2) hp) hsm upd_same ((a1.ex s1 (Ex.new hp)).app (a2.ex s2 (Ex.new hp)))⟩
/-! own errors -/
def ErrR (C : Addr) (fs : List (Str × V)) : RV := fun v H => ∃ a, v = .ref a ∧ ErrAt C fs H a
theorem stb_err {C : Addr} {fs : List (Str × V)} : Stb (ErrR C fs) := fun v H H' x h => by
  obtain ⟨a, rfl, h⟩ := h
  exact ⟨a, rfl, h.ex x⟩
def IsV (u : V) : RV := fun v _ => v = u
theorem stb_is {u : V} : Stb (IsV u) := fun _ _ _ _ h => h
theorem es_mk0 {C : Addr} : EvS (tMkV0 C) σ H0 (ErrR C []) := fun H x Q k a H2 n y e => k _ _ y ⟨a, rfl, e⟩
theorem es_mk1 {C : Addr} {f : Str} {i : Nat} {v : V} (h : σ[i]? = some (some v)) : EvS (tMkV C [f] (tCons (tVar i) tNil)) σ H0 (ErrR C [(f, v)]) := fun H x Q k =>
  ⟨v, h, rfl, (show 1 ≤ 1000 by decide), fun a H2 n y e => k _ _ y ⟨a, rfl, e⟩⟩
theorem es_mk2 {C : Addr} {f g : Str} {i j : Nat} {v u : V} (h : σ[i]? = some (some v)) (h2 : σ[j]? = some (some u)) : EvS (tMkV C [f, g] (tCons (tVar i) (tCons (tVar j) tNil))) σ H0 (ErrR C [(g, u), (f, v)]) := fun H x Q k =>
  ⟨v, h, u, h2, rfl, (show 2 ≤ 1000 by decide), fun a H2 n y e => k _ _ y ⟨a, rfl, e⟩⟩
theorem es_mkB {C : Addr} {f g : Str} {i j : Nat} {v u : V} (h : σ[i]? = some (some v)) (h2 : σ[j]? = some (some u)) : EvS (tMkV2 C f g (tCons (tVar j) (tCons (tVar i) tNil))) σ H0 (ErrR C [(g, u), (f, v)]) := fun H x Q k =>
  ⟨u, h2, v, h, u, v, rfl, fun a H2 n y e => k _ _ y ⟨a, rfl, e⟩⟩
theorem es_gf {C : Addr} {fs : List (Str × V)} {n : Str} {v : V} (h : EvS te σ H0 (ErrR C fs)) (hl : fs.lookup n = some v) : EvS (tGf C n te) σ H0 (IsV v) := fun H x Q k =>
  h H x _ fun u H1 x1 r => by
    obtain ⟨a, rfl, r⟩ := r
    exact ⟨a, fs, v, rfl, r, hl, k v H1 x1 rfl⟩
theorem es_isv {C D : Addr} {fs : List (Str × V)} {b : Bool} (h : EvS te σ H0 (ErrR C fs)) (T : ExcC K C) (e : PySem.W.kitOne K (.ref C) (.ref D) = some b) : EvS (tCB (rIsV K) (tCons te (tCons (tC (.ref D)) tNil))) σ H0 (IsV (.bl b)) := fun H x Q k =>
  h H x _ fun u H1 x1 r => by
    obtain ⟨a, rfl, r⟩ := r
    exact ⟨a, C, fs, .ref D, .ref D, b, rfl, r, T, fun u hu => by cases hu; rfl, e, k _ _ x1 rfl⟩
end
/-! ### the same, in the layer over data -/
def EvX (W : Wd) (H0 : Hp) (te : TE) (ρ : List (Option Sl)) (v : V) : Prop := ∀ τ l σ H, St W H0 ρ τ l σ H → ∀ Q : VK, (∀ H', St W H0 ρ τ l σ H' → Q v H') → te σ H Q
/-- the error at a stands, apart from what changes -/
def ErrM (M : Addr → Prop) (C : Addr) (fs : List (Str × V)) (H : Hp) (a : Addr) : Prop := ¬ M a ∧ ((fs = [] ∧ H a = some (exo a C none)) ∨ ∃ dx, ¬ M dx ∧ H a = some (exo a C (some dx)) ∧ H dx = some (exd dx fs))
theorem ErrM.at {M : Addr → Prop} {C : Addr} {fs : List (Str × V)} {H : Hp} {a : Addr} (h : ErrM M C fs H a) : ErrAt C fs H a := by
  obtain ⟨_, h | ⟨dx, _, h1, h2⟩⟩ := h
  · exact .inl h
  · exact .inr ⟨dx, h1, h2⟩
section
variable {W : Wd} {H0 H : Hp} {ρ : List (Option Sl)} {τ : List (V × PyData)} {l : List (Addr × List PyData)} {σ : L2.St} {te ta tb : TE} {K : PySem.W.Frag}
theorem ErrM.st {C : Addr} {fs : List (Str × V)} {a : Addr} (h : ErrM W.N C fs H0 a) (S : St W H0 ρ τ l σ H) : ErrM W.N C fs H a := by
  obtain ⟨n, h | ⟨dx, m, h1, h2⟩⟩ := h
  · exact ⟨n, .inl ⟨h.1, S.off _ _ h.2 n⟩⟩
  · exact ⟨n, .inr ⟨dx, m, S.off _ _ h1 n, S.off _ _ h2 m⟩⟩
theorem Rg.st {v : V} {e : PyData} (h : Rg W.N H0 v e) (S : St W H0 ρ τ l σ H) : Rg W.N H v e := Rg.to (fun a o e n => ⟨S.off a o e n, n⟩) _ _ h
theorem evx_ix {i : Nat} {p : Addr} {vs : List V} {x : V} {ti : TE} {k : Nat} (hr : ρ[i]? = some (some (.raw (.ref p)))) (hp : H0 p = some (.lst vs)) (np : ¬ W.N p) (hx : vs[k]? = some x) (hi : EvP W H0 ti ρ (· = .int (k : Nat))) : EvX W H0 (tOp (rIxL K) (tVar i) ti) ρ x := fun τ l σ H S Q c =>
  ⟨_, S.raw hr, hi _ _ _ H S _ fun v e H1 S1 pe => by
    subst pe
    have hv : v = .int (k : Nat) := by
      obtain ⟨N, n3, n5, n4, q⟩ := S1.ext
      have := n5 _ List.mem_cons_self
      cases this; rfl
    subst hv
    exact ⟨p, vs, _, x, rfl, rfl, .inl (.inl (S1.off _ _ hp np)), atI_nat hx, c H1 S1.pop⟩⟩
theorem St.push {v : V} {e : PyData} (S : St W H0 ρ τ l σ H) (h : ∀ N, Rg N H v e) : St W H0 ρ ((v, e) :: τ) l σ H := by
  obtain ⟨N, n3, n5, n4, q⟩ := S.ext
  exact q H _ ex_refl fun p hp => by
    rcases List.mem_cons.mp hp with rfl | hp
    · exact h N
    · exact n5 p hp
theorem ev_gf {C a : Addr} {fs : List (Str × V)} {n : Str} {x : V} {e : PyData} (h : EvX W H0 te ρ (.ref a)) (he : ErrM W.N C fs H0 a) (hl : fs.lookup n = some x) (hx : Rg W.N H0 x e) : EvP W H0 (tGf C n te) ρ (· = e) := fun τ l σ H S Q c =>
  h τ l σ H S _ fun H1 S1 => ⟨a, fs, x, rfl, (he.st S1).at, hl, c x e H1 (S1.base_rg hx) rfl⟩
theorem ev_isv {C a : Addr} {fs : List (Str × V)} {cv : Value} {c : V} {b : Bool} (h : EvX W H0 te ρ (.ref a)) (he : ErrM W.N C fs H0 a) (T : ExcC K C) (hc : ∀ u, RelV c u → u = cv) (e : PySem.W.kitOne K (.ref C) cv = some b) : EvP W H0 (tCB (rIsV K) (tCons te (tCons (tC c) tNil))) ρ (· = .bool b) := fun τ l σ H S Q k =>
  h τ l σ H S _ fun H1 S1 => ⟨a, C, fs, c, cv, b, rfl, (he.st S1).at, T, hc, e, k (.bl b) (.bool b) H1 (S1.push fun _ => .bl b) rfl⟩
end
end DL
namespace DL
open PySem PySem.Spec PyProof.Rows L2 Evl TB
theorem stba_nil : StbA [] := fun _ h => nomatch h
theorem stba_cons {R : RV} {Rs : List RV} (h : Stb R) (hs : StbA Rs) : StbA (R :: Rs) := fun T ht => by
  rcases List.mem_cons.mp ht with rfl | ht
  · exact h
  · exact hs T ht
theorem stba_app {Rs Ts : List RV} (h : StbA Rs) (hs : StbA Ts) : StbA (Rs ++ Ts) := fun T ht => by
  rcases List.mem_append.mp ht with ht | ht
  · exact h T ht
  · exact hs T ht
theorem all_is : ∀ {us vs : List V} {H : Hp}, All2 (us.map IsV) vs H → vs = us
  | [], [], _, _ => rfl
  | u :: us, v :: vs, _, h => by
    have h1 : v = u := h.1
    rw [h1, all_is (us := us) h.2]
  | [], _ :: _, _, h => h.elim
  | _ :: _, [], _, h => h.elim
theorem nodup_inj {l : List Addr} {i j : Nat} (h : l.Nodup) (hi : i < l.length) (hj : j < l.length) (e : l.getD i 0 = l.getD j 0) : i = j := by
  rw [List.getD_eq_getElem?_getD, List.getD_eq_getElem?_getD, List.getElem?_eq_getElem hi, List.getElem?_eq_getElem hj] at e
  have e : l[i] = l[j] := e
  have p := List.pairwise_iff_getElem.mp h
  refine Classical.byContradiction fun z => ?_
  by_cases q : i < j
  · exact p i j hi hj q e
  · exact p j i hj hi (by omega) e.symm
theorem getD_mem {l : List Addr} {i : Nat} {a : Addr} (hi : i < l.length) (e : l.getD i 0 = a) : a ∈ l := by
  rw [List.getD_eq_getElem?_getD, List.getElem?_eq_getElem hi] at e
  have e : l[i] = a := e
  rw [← e]
  exact List.getElem_mem hi
end DL
set_option Elab.async false
set_option linter.all false
set_option maxRecDepth 100000
namespace K01
open PySem PySem.Spec PyProof.Rows L2 Evl TB
def topS (i : Nat) : Stmt := PySem.Challenge.pw_twobricks_k01_errors_and_bounds.main.body.getD i (.Pass ⟨0, 0, 0, 0⟩)
abbrev s__law_deck : Stmt := topS 31
abbrev n__law_deck : List Str := ["_law_script", "_law_cells", "_law_cell"]
abbrev p__law_deck : List Str := ["_law_script"]
theorem sc__law_deck : FnScope n__law_deck p__law_deck (defScope s__law_deck) := ⟨rfl, rfl, rfl, by decide +kernel, rfl, by decide +kernel, by decide +kernel⟩

abbrev s__law_draw : Stmt := topS 32
abbrev n__law_draw : List Str := ["_law_deck_here", "_law_many", "_law_rest", "_law_cell", "_law_mixed"]
abbrev p__law_draw : List Str := ["_law_deck_here", "_law_many"]
theorem sc__law_draw : FnScope n__law_draw p__law_draw (defScope s__law_draw) := ⟨rfl, rfl, rfl, by decide +kernel, rfl, by decide +kernel, by decide +kernel⟩

abbrev s__law_one : Stmt := topS 33
abbrev n__law_one : List Str := ["_law_deck_here", "_law_items"]
abbrev p__law_one : List Str := ["_law_deck_here", "_law_items"]
theorem sc__law_one : FnScope n__law_one p__law_one (defScope s__law_one) := ⟨rfl, rfl, rfl, by decide +kernel, rfl, by decide +kernel, by decide +kernel⟩

abbrev s__law_odd : Stmt := topS 34
abbrev n__law_odd : List Str := ["_law_deck_here", "_law_some"]
abbrev p__law_odd : List Str := ["_law_deck_here"]
theorem sc__law_odd : FnScope n__law_odd p__law_odd (defScope s__law_odd) := ⟨rfl, rfl, rfl, by decide +kernel, rfl, by decide +kernel, by decide +kernel⟩

abbrev s__law_made : Stmt := topS 35
abbrev n__law_made : List Str := ["_law_one_here", "_law_two", "_law_found"]
abbrev p__law_made : List Str := ["_law_one_here", "_law_two"]
theorem sc__law_made : FnScope n__law_made p__law_made (defScope s__law_made) := ⟨rfl, rfl, rfl, by decide +kernel, rfl, by decide +kernel, by decide +kernel⟩

abbrev s__law_classes : Stmt := topS 36
abbrev n__law_classes : List Str := ["_law_error", "_law_found"]
abbrev p__law_classes : List Str := ["_law_error"]
theorem sc__law_classes : FnScope n__law_classes p__law_classes (defScope s__law_classes) := ⟨rfl, rfl, rfl, by decide +kernel, rfl, by decide +kernel, by decide +kernel⟩

abbrev s__law_fields : Stmt := topS 37
abbrev n__law_fields : List Str := ["_law_one_here", "_law_two", "_law_found"]
abbrev p__law_fields : List Str := ["_law_one_here", "_law_two"]
theorem sc__law_fields : FnScope n__law_fields p__law_fields (defScope s__law_fields) := ⟨rfl, rfl, rfl, by decide +kernel, rfl, by decide +kernel, by decide +kernel⟩

abbrev s_law : Stmt := topS 38
abbrev n_law : List Str := ["_law_script", "_law_deck_here", "_law_told", "_law_turn", "_law_one_here", "_law_two", "_law_errors", "_law_k", "_law_kept", "_law_own"]
abbrev p_law : List Str := ["_law_script"]
theorem sc_law : FnScope n_law p_law (defScope s_law) := ⟨rfl, rfl, rfl, by decide +kernel, rfl, by decide +kernel, by decide +kernel⟩

structure Txt (mg : Str → Option Value) : Prop where
  n_ValueError : mg "ValueError" = none
  n_abs : mg "abs" = none
  n_int : mg "int" = none
  n_isinstance : mg "isinstance" = none
  n_len : mg "len" = none
  n_range : mg "range" = none
  n_repr : mg "repr" = none
  c_BATCH : ∃ t, mg "BATCH" = some (.int 20 t)
  c_HISTORY : ∃ t, mg "HISTORY" = some (.int 30 t)
  c_MAX_CELLS : ∃ t, mg "MAX_CELLS" = some (.int 400 t)
  c_MAX_DIMS : ∃ t, mg "MAX_DIMS" = some (.int 4 t)
  c_MAX_FEW : ∃ t, mg "MAX_FEW" = some (.int 20 t)
  c_MAX_KINDS : ∃ t, mg "MAX_KINDS" = some (.int 4 t)
  c_MAX_ROWS : ∃ t, mg "MAX_ROWS" = some (.int 1000 t)
  c_MAX_SIDE : ∃ t, mg "MAX_SIDE" = some (.int 1000000000000 t)
abbrev s_ini_BadBox : Stmt := inClass (topS 3) 0
theorem sc_ini_BadBox : FnScope ["self", "error"] ["self", "error"] (defScope s_ini_BadBox) := ⟨rfl, rfl, rfl, by decide +kernel, rfl, by decide +kernel, by decide +kernel⟩
theorem ok_ini_BadBox {P : Program} {w : World} {K : PySem.W.Frag} {mg : Str → Option Value} {base : Heap} {C fI : Addr} {fd : FuncData} (F : Fun K "__init__" "BadBox.__init__" s_ini_BadBox fI fd) (T : OexC K C) (no : PySem.W.findIn K (.ref C) "error" = some none) :
    FnOk P w K mg base CX0 1 fI fd ["self", "error"] (TB.spIn C ["error"]) := by
  refine F.ok sc_ini_BadBox (fun vs H Q E h => ?_) (fun cdv A outer s H vs Q E hr h => ?_)
  · obtain ⟨a, ws, rfl, hl, _⟩ := h
    rw [List.length_cons, hl]; rfl
  obtain ⟨a, ws, rfl, hl, ha, k⟩ := h
  match ws, hl with
  | [v], _ =>
  exact ⟨_, pss_one (ps_ost (pv 0) (pv 1)), ⟨_, rfl, _, rfl, a, C, rfl, T, no, .inl ⟨ha, fun dx h1 h2 => k _ (fun b o hb e => by rw [upd_ne hb, upd_ne (fun z => by rw [z, h1] at e; cases e)]; exact e) (.inr ⟨dx, upd_same, by rw [upd_ne h2, upd_same]; rfl⟩)⟩⟩⟩
abbrev s_ini_BadKinds : Stmt := inClass (topS 4) 0
theorem sc_ini_BadKinds : FnScope ["self", "error"] ["self", "error"] (defScope s_ini_BadKinds) := ⟨rfl, rfl, rfl, by decide +kernel, rfl, by decide +kernel, by decide +kernel⟩
theorem ok_ini_BadKinds {P : Program} {w : World} {K : PySem.W.Frag} {mg : Str → Option Value} {base : Heap} {C fI : Addr} {fd : FuncData} (F : Fun K "__init__" "BadKinds.__init__" s_ini_BadKinds fI fd) (T : OexC K C) (no : PySem.W.findIn K (.ref C) "error" = some none) :
    FnOk P w K mg base CX0 1 fI fd ["self", "error"] (TB.spIn C ["error"]) := by
  refine F.ok sc_ini_BadKinds (fun vs H Q E h => ?_) (fun cdv A outer s H vs Q E hr h => ?_)
  · obtain ⟨a, ws, rfl, hl, _⟩ := h
    rw [List.length_cons, hl]; rfl
  obtain ⟨a, ws, rfl, hl, ha, k⟩ := h
  match ws, hl with
  | [v], _ =>
  exact ⟨_, pss_one (ps_ost (pv 0) (pv 1)), ⟨_, rfl, _, rfl, a, C, rfl, T, no, .inl ⟨ha, fun dx h1 h2 => k _ (fun b o hb e => by rw [upd_ne hb, upd_ne (fun z => by rw [z, h1] at e; cases e)]; exact e) (.inr ⟨dx, upd_same, by rw [upd_ne h2, upd_same]; rfl⟩)⟩⟩⟩
abbrev s_ini_BadOrder : Stmt := inClass (topS 5) 0
theorem sc_ini_BadOrder : FnScope ["self", "given"] ["self", "given"] (defScope s_ini_BadOrder) := ⟨rfl, rfl, rfl, by decide +kernel, rfl, by decide +kernel, by decide +kernel⟩
theorem ok_ini_BadOrder {P : Program} {w : World} {K : PySem.W.Frag} {mg : Str → Option Value} {base : Heap} {C fI : Addr} {fd : FuncData} (F : Fun K "__init__" "BadOrder.__init__" s_ini_BadOrder fI fd) (T : OexC K C) (no : PySem.W.findIn K (.ref C) "given" = some none) :
    FnOk P w K mg base CX0 1 fI fd ["self", "given"] (TB.spIn C ["given"]) := by
  refine F.ok sc_ini_BadOrder (fun vs H Q E h => ?_) (fun cdv A outer s H vs Q E hr h => ?_)
  · obtain ⟨a, ws, rfl, hl, _⟩ := h
    rw [List.length_cons, hl]; rfl
  obtain ⟨a, ws, rfl, hl, ha, k⟩ := h
  match ws, hl with
  | [v], _ =>
  exact ⟨_, pss_one (ps_ost (pv 0) (pv 1)), ⟨_, rfl, _, rfl, a, C, rfl, T, no, .inl ⟨ha, fun dx h1 h2 => k _ (fun b o hb e => by rw [upd_ne hb, upd_ne (fun z => by rw [z, h1] at e; cases e)]; exact e) (.inr ⟨dx, upd_same, by rw [upd_ne h2, upd_same]; rfl⟩)⟩⟩⟩
abbrev s_ini_BadPaper : Stmt := inClass (topS 6) 0
theorem sc_ini_BadPaper : FnScope ["self", "given"] ["self", "given"] (defScope s_ini_BadPaper) := ⟨rfl, rfl, rfl, by decide +kernel, rfl, by decide +kernel, by decide +kernel⟩
theorem ok_ini_BadPaper {P : Program} {w : World} {K : PySem.W.Frag} {mg : Str → Option Value} {base : Heap} {C fI : Addr} {fd : FuncData} (F : Fun K "__init__" "BadPaper.__init__" s_ini_BadPaper fI fd) (T : OexC K C) (no : PySem.W.findIn K (.ref C) "given" = some none) :
    FnOk P w K mg base CX0 1 fI fd ["self", "given"] (TB.spIn C ["given"]) := by
  refine F.ok sc_ini_BadPaper (fun vs H Q E h => ?_) (fun cdv A outer s H vs Q E hr h => ?_)
  · obtain ⟨a, ws, rfl, hl, _⟩ := h
    rw [List.length_cons, hl]; rfl
  obtain ⟨a, ws, rfl, hl, ha, k⟩ := h
  match ws, hl with
  | [v], _ =>
  exact ⟨_, pss_one (ps_ost (pv 0) (pv 1)), ⟨_, rfl, _, rfl, a, C, rfl, T, no, .inl ⟨ha, fun dx h1 h2 => k _ (fun b o hb e => by rw [upd_ne hb, upd_ne (fun z => by rw [z, h1] at e; cases e)]; exact e) (.inr ⟨dx, upd_same, by rw [upd_ne h2, upd_same]; rfl⟩)⟩⟩⟩
abbrev s_ini_BadSide : Stmt := inClass (topS 7) 0
theorem sc_ini_BadSide : FnScope ["self", "given"] ["self", "given"] (defScope s_ini_BadSide) := ⟨rfl, rfl, rfl, by decide +kernel, rfl, by decide +kernel, by decide +kernel⟩
theorem ok_ini_BadSide {P : Program} {w : World} {K : PySem.W.Frag} {mg : Str → Option Value} {base : Heap} {C fI : Addr} {fd : FuncData} (F : Fun K "__init__" "BadSide.__init__" s_ini_BadSide fI fd) (T : OexC K C) (no : PySem.W.findIn K (.ref C) "given" = some none) :
    FnOk P w K mg base CX0 1 fI fd ["self", "given"] (TB.spIn C ["given"]) := by
  refine F.ok sc_ini_BadSide (fun vs H Q E h => ?_) (fun cdv A outer s H vs Q E hr h => ?_)
  · obtain ⟨a, ws, rfl, hl, _⟩ := h
    rw [List.length_cons, hl]; rfl
  obtain ⟨a, ws, rfl, hl, ha, k⟩ := h
  match ws, hl with
  | [v], _ =>
  exact ⟨_, pss_one (ps_ost (pv 0) (pv 1)), ⟨_, rfl, _, rfl, a, C, rfl, T, no, .inl ⟨ha, fun dx h1 h2 => k _ (fun b o hb e => by rw [upd_ne hb, upd_ne (fun z => by rw [z, h1] at e; cases e)]; exact e) (.inr ⟨dx, upd_same, by rw [upd_ne h2, upd_same]; rfl⟩)⟩⟩⟩
abbrev s_ini_BadText : Stmt := inClass (topS 8) 0
theorem sc_ini_BadText : FnScope ["self", "place"] ["self", "place"] (defScope s_ini_BadText) := ⟨rfl, rfl, rfl, by decide +kernel, rfl, by decide +kernel, by decide +kernel⟩
theorem ok_ini_BadText {P : Program} {w : World} {K : PySem.W.Frag} {mg : Str → Option Value} {base : Heap} {C fI : Addr} {fd : FuncData} (F : Fun K "__init__" "BadText.__init__" s_ini_BadText fI fd) (T : OexC K C) (no : PySem.W.findIn K (.ref C) "place" = some none) :
    FnOk P w K mg base CX0 1 fI fd ["self", "place"] (TB.spIn C ["place"]) := by
  refine F.ok sc_ini_BadText (fun vs H Q E h => ?_) (fun cdv A outer s H vs Q E hr h => ?_)
  · obtain ⟨a, ws, rfl, hl, _⟩ := h
    rw [List.length_cons, hl]; rfl
  obtain ⟨a, ws, rfl, hl, ha, k⟩ := h
  match ws, hl with
  | [v], _ =>
  exact ⟨_, pss_one (ps_ost (pv 0) (pv 1)), ⟨_, rfl, _, rfl, a, C, rfl, T, no, .inl ⟨ha, fun dx h1 h2 => k _ (fun b o hb e => by rw [upd_ne hb, upd_ne (fun z => by rw [z, h1] at e; cases e)]; exact e) (.inr ⟨dx, upd_same, by rw [upd_ne h2, upd_same]; rfl⟩)⟩⟩⟩
abbrev s_ini_NoAxis : Stmt := inClass (topS 10) 0
theorem sc_ini_NoAxis : FnScope ["self", "given"] ["self", "given"] (defScope s_ini_NoAxis) := ⟨rfl, rfl, rfl, by decide +kernel, rfl, by decide +kernel, by decide +kernel⟩
theorem ok_ini_NoAxis {P : Program} {w : World} {K : PySem.W.Frag} {mg : Str → Option Value} {base : Heap} {C fI : Addr} {fd : FuncData} (F : Fun K "__init__" "NoAxis.__init__" s_ini_NoAxis fI fd) (T : OexC K C) (no : PySem.W.findIn K (.ref C) "given" = some none) :
    FnOk P w K mg base CX0 1 fI fd ["self", "given"] (TB.spIn C ["given"]) := by
  refine F.ok sc_ini_NoAxis (fun vs H Q E h => ?_) (fun cdv A outer s H vs Q E hr h => ?_)
  · obtain ⟨a, ws, rfl, hl, _⟩ := h
    rw [List.length_cons, hl]; rfl
  obtain ⟨a, ws, rfl, hl, ha, k⟩ := h
  match ws, hl with
  | [v], _ =>
  exact ⟨_, pss_one (ps_ost (pv 0) (pv 1)), ⟨_, rfl, _, rfl, a, C, rfl, T, no, .inl ⟨ha, fun dx h1 h2 => k _ (fun b o hb e => by rw [upd_ne hb, upd_ne (fun z => by rw [z, h1] at e; cases e)]; exact e) (.inr ⟨dx, upd_same, by rw [upd_ne h2, upd_same]; rfl⟩)⟩⟩⟩
abbrev s_ini_NoKind : Stmt := inClass (topS 11) 0
theorem sc_ini_NoKind : FnScope ["self", "given"] ["self", "given"] (defScope s_ini_NoKind) := ⟨rfl, rfl, rfl, by decide +kernel, rfl, by decide +kernel, by decide +kernel⟩
theorem ok_ini_NoKind {P : Program} {w : World} {K : PySem.W.Frag} {mg : Str → Option Value} {base : Heap} {C fI : Addr} {fd : FuncData} (F : Fun K "__init__" "NoKind.__init__" s_ini_NoKind fI fd) (T : OexC K C) (no : PySem.W.findIn K (.ref C) "given" = some none) :
    FnOk P w K mg base CX0 1 fI fd ["self", "given"] (TB.spIn C ["given"]) := by
  refine F.ok sc_ini_NoKind (fun vs H Q E h => ?_) (fun cdv A outer s H vs Q E hr h => ?_)
  · obtain ⟨a, ws, rfl, hl, _⟩ := h
    rw [List.length_cons, hl]; rfl
  obtain ⟨a, ws, rfl, hl, ha, k⟩ := h
  match ws, hl with
  | [v], _ =>
  exact ⟨_, pss_one (ps_ost (pv 0) (pv 1)), ⟨_, rfl, _, rfl, a, C, rfl, T, no, .inl ⟨ha, fun dx h1 h2 => k _ (fun b o hb e => by rw [upd_ne hb, upd_ne (fun z => by rw [z, h1] at e; cases e)]; exact e) (.inr ⟨dx, upd_same, by rw [upd_ne h2, upd_same]; rfl⟩)⟩⟩⟩
abbrev s_ini_NoNumber : Stmt := inClass (topS 12) 0
theorem sc_ini_NoNumber : FnScope ["self", "number"] ["self", "number"] (defScope s_ini_NoNumber) := ⟨rfl, rfl, rfl, by decide +kernel, rfl, by decide +kernel, by decide +kernel⟩
theorem ok_ini_NoNumber {P : Program} {w : World} {K : PySem.W.Frag} {mg : Str → Option Value} {base : Heap} {C fI : Addr} {fd : FuncData} (F : Fun K "__init__" "NoNumber.__init__" s_ini_NoNumber fI fd) (T : OexC K C) (no : PySem.W.findIn K (.ref C) "number" = some none) :
    FnOk P w K mg base CX0 1 fI fd ["self", "number"] (TB.spIn C ["number"]) := by
  refine F.ok sc_ini_NoNumber (fun vs H Q E h => ?_) (fun cdv A outer s H vs Q E hr h => ?_)
  · obtain ⟨a, ws, rfl, hl, _⟩ := h
    rw [List.length_cons, hl]; rfl
  obtain ⟨a, ws, rfl, hl, ha, k⟩ := h
  match ws, hl with
  | [v], _ =>
  exact ⟨_, pss_one (ps_ost (pv 0) (pv 1)), ⟨_, rfl, _, rfl, a, C, rfl, T, no, .inl ⟨ha, fun dx h1 h2 => k _ (fun b o hb e => by rw [upd_ne hb, upd_ne (fun z => by rw [z, h1] at e; cases e)]; exact e) (.inr ⟨dx, upd_same, by rw [upd_ne h2, upd_same]; rfl⟩)⟩⟩⟩
abbrev s_ini_NoSeam : Stmt := inClass (topS 13) 0
theorem sc_ini_NoSeam : FnScope ["self", "axis", "at"] ["self", "axis", "at"] (defScope s_ini_NoSeam) := ⟨rfl, rfl, rfl, by decide +kernel, rfl, by decide +kernel, by decide +kernel⟩
theorem ok_ini_NoSeam {P : Program} {w : World} {K : PySem.W.Frag} {mg : Str → Option Value} {base : Heap} {C fI : Addr} {fd : FuncData} (F : Fun K "__init__" "NoSeam.__init__" s_ini_NoSeam fI fd) (T : OexC K C) (no : PySem.W.findIn K (.ref C) "axis" = some none) (no2 : PySem.W.findIn K (.ref C) "at" = some none) :
    FnOk P w K mg base CX0 1 fI fd ["self", "axis", "at"] (TB.spIn C ["axis", "at"]) := by
  refine F.ok sc_ini_NoSeam (fun vs H Q E h => ?_) (fun cdv A outer s H vs Q E hr h => ?_)
  · obtain ⟨a, ws, rfl, hl, _⟩ := h
    rw [List.length_cons, hl]; rfl
  obtain ⟨a, ws, rfl, hl, ha, k⟩ := h
  match ws, hl with
  | [v, u], _ =>
  refine ⟨_, pss_cons (ps_ost (pv 0) (pv 1)) (pss_one (ps_ost (pv 0) (pv 2))), ⟨_, rfl, _, rfl, a, C, rfl, T, no, .inl ⟨ha, fun dx h1 h2 => ?_⟩⟩⟩
  refine ⟨_, rfl, _, rfl, a, C, rfl, T, no2, .inr ⟨dx, [("axis", v)], upd_same, by rw [upd_ne h2, upd_same], (show 1 ≤ 900 by decide), ?_⟩⟩
  refine k _ (fun b o hb e => ?_) (.inr ⟨dx, by rw [upd_ne (Ne.symm h2), upd_same], by rw [upd_same]; rfl⟩)
  have hd : b ≠ dx := fun z => by rw [z, h1] at e; cases e
  rw [upd_ne hd, upd_ne hb, upd_ne hd]
  exact e
abbrev s_ini_NotFilled : Stmt := inClass (topS 15) 0
theorem sc_ini_NotFilled : FnScope ["self", "reason"] ["self", "reason"] (defScope s_ini_NotFilled) := ⟨rfl, rfl, rfl, by decide +kernel, rfl, by decide +kernel, by decide +kernel⟩
theorem ok_ini_NotFilled {P : Program} {w : World} {K : PySem.W.Frag} {mg : Str → Option Value} {base : Heap} {C fI : Addr} {fd : FuncData} (F : Fun K "__init__" "NotFilled.__init__" s_ini_NotFilled fI fd) (T : OexC K C) (no : PySem.W.findIn K (.ref C) "reason" = some none) :
    FnOk P w K mg base CX0 1 fI fd ["self", "reason"] (TB.spIn C ["reason"]) := by
  refine F.ok sc_ini_NotFilled (fun vs H Q E h => ?_) (fun cdv A outer s H vs Q E hr h => ?_)
  · obtain ⟨a, ws, rfl, hl, _⟩ := h
    rw [List.length_cons, hl]; rfl
  obtain ⟨a, ws, rfl, hl, ha, k⟩ := h
  match ws, hl with
  | [v], _ =>
  exact ⟨_, pss_one (ps_ost (pv 0) (pv 1)), ⟨_, rfl, _, rfl, a, C, rfl, T, no, .inl ⟨ha, fun dx h1 h2 => k _ (fun b o hb e => by rw [upd_ne hb, upd_ne (fun z => by rw [z, h1] at e; cases e)]; exact e) (.inr ⟨dx, upd_same, by rw [upd_ne h2, upd_same]; rfl⟩)⟩⟩⟩
abbrev s_ini_NoVersion : Stmt := inClass (topS 14) 0
theorem sc_ini_NoVersion : FnScope ["self", "given"] ["self", "given"] (defScope s_ini_NoVersion) := ⟨rfl, rfl, rfl, by decide +kernel, rfl, by decide +kernel, by decide +kernel⟩
theorem ok_ini_NoVersion {P : Program} {w : World} {K : PySem.W.Frag} {mg : Str → Option Value} {base : Heap} {C fI : Addr} {fd : FuncData} (F : Fun K "__init__" "NoVersion.__init__" s_ini_NoVersion fI fd) (T : OexC K C) (no : PySem.W.findIn K (.ref C) "given" = some none) :
    FnOk P w K mg base CX0 1 fI fd ["self", "given"] (TB.spIn C ["given"]) := by
  refine F.ok sc_ini_NoVersion (fun vs H Q E h => ?_) (fun cdv A outer s H vs Q E hr h => ?_)
  · obtain ⟨a, ws, rfl, hl, _⟩ := h
    rw [List.length_cons, hl]; rfl
  obtain ⟨a, ws, rfl, hl, ha, k⟩ := h
  match ws, hl with
  | [v], _ =>
  exact ⟨_, pss_one (ps_ost (pv 0) (pv 1)), ⟨_, rfl, _, rfl, a, C, rfl, T, no, .inl ⟨ha, fun dx h1 h2 => k _ (fun b o hb e => by rw [upd_ne hb, upd_ne (fun z => by rw [z, h1] at e; cases e)]; exact e) (.inr ⟨dx, upd_same, by rw [upd_ne h2, upd_same]; rfl⟩)⟩⟩⟩
abbrev s_ini_Rejected : Stmt := inClass (topS 17) 0
theorem sc_ini_Rejected : FnScope ["self", "index"] ["self", "index"] (defScope s_ini_Rejected) := ⟨rfl, rfl, rfl, by decide +kernel, rfl, by decide +kernel, by decide +kernel⟩
theorem ok_ini_Rejected {P : Program} {w : World} {K : PySem.W.Frag} {mg : Str → Option Value} {base : Heap} {C fI : Addr} {fd : FuncData} (F : Fun K "__init__" "Rejected.__init__" s_ini_Rejected fI fd) (T : OexC K C) (no : PySem.W.findIn K (.ref C) "index" = some none) :
    FnOk P w K mg base CX0 1 fI fd ["self", "index"] (TB.spIn C ["index"]) := by
  refine F.ok sc_ini_Rejected (fun vs H Q E h => ?_) (fun cdv A outer s H vs Q E hr h => ?_)
  · obtain ⟨a, ws, rfl, hl, _⟩ := h
    rw [List.length_cons, hl]; rfl
  obtain ⟨a, ws, rfl, hl, ha, k⟩ := h
  match ws, hl with
  | [v], _ =>
  exact ⟨_, pss_one (ps_ost (pv 0) (pv 1)), ⟨_, rfl, _, rfl, a, C, rfl, T, no, .inl ⟨ha, fun dx h1 h2 => k _ (fun b o hb e => by rw [upd_ne hb, upd_ne (fun z => by rw [z, h1] at e; cases e)]; exact e) (.inr ⟨dx, upd_same, by rw [upd_ne h2, upd_same]; rfl⟩)⟩⟩⟩
abbrev s_ini_TooLarge : Stmt := inClass (topS 18) 0
theorem sc_ini_TooLarge : FnScope ["self", "axis"] ["self", "axis"] (defScope s_ini_TooLarge) := ⟨rfl, rfl, rfl, by decide +kernel, rfl, by decide +kernel, by decide +kernel⟩
theorem ok_ini_TooLarge {P : Program} {w : World} {K : PySem.W.Frag} {mg : Str → Option Value} {base : Heap} {C fI : Addr} {fd : FuncData} (F : Fun K "__init__" "TooLarge.__init__" s_ini_TooLarge fI fd) (T : OexC K C) (no : PySem.W.findIn K (.ref C) "axis" = some none) :
    FnOk P w K mg base CX0 1 fI fd ["self", "axis"] (TB.spIn C ["axis"]) := by
  refine F.ok sc_ini_TooLarge (fun vs H Q E h => ?_) (fun cdv A outer s H vs Q E hr h => ?_)
  · obtain ⟨a, ws, rfl, hl, _⟩ := h
    rw [List.length_cons, hl]; rfl
  obtain ⟨a, ws, rfl, hl, ha, k⟩ := h
  match ws, hl with
  | [v], _ =>
  exact ⟨_, pss_one (ps_ost (pv 0) (pv 1)), ⟨_, rfl, _, rfl, a, C, rfl, T, no, .inl ⟨ha, fun dx h1 h2 => k _ (fun b o hb e => by rw [upd_ne hb, upd_ne (fun z => by rw [z, h1] at e; cases e)]; exact e) (.inr ⟨dx, upd_same, by rw [upd_ne h2, upd_same]; rfl⟩)⟩⟩⟩
structure Ctx (P : Program) (w : World) (K : PySem.W.Frag) (mg : Str → Option Value) (base : Heap) (CB : Addr) (cl : Nat → Addr) : Prop where
  gB : mg "BrickError" = some (.ref CB)
  g_BadBatch : mg "BadBatch" = some (.ref (cl 0))
  q_BadBatch : PySem.W.excIn K (cl 0) [.type "ValueError", .type "Exception", .type "BaseException", .type "object"] "ValueError.__new__" = true
  k_BadBatch : PySem.W.keepIn K (.ref (cl 0)) = true
  e_BadBox : TB.ErrN P w K mg base "BadBox" ["error"] (cl 1)
  no_BadBox_error : PySem.W.findIn K (.ref (cl 1)) "error" = some none
  e_BadKinds : TB.ErrN P w K mg base "BadKinds" ["error"] (cl 2)
  no_BadKinds_error : PySem.W.findIn K (.ref (cl 2)) "error" = some none
  e_BadOrder : TB.ErrN P w K mg base "BadOrder" ["given"] (cl 3)
  no_BadOrder_given : PySem.W.findIn K (.ref (cl 3)) "given" = some none
  e_BadPaper : TB.ErrN P w K mg base "BadPaper" ["given"] (cl 4)
  no_BadPaper_given : PySem.W.findIn K (.ref (cl 4)) "given" = some none
  e_BadSide : TB.ErrN P w K mg base "BadSide" ["given"] (cl 5)
  no_BadSide_given : PySem.W.findIn K (.ref (cl 5)) "given" = some none
  e_BadText : TB.ErrN P w K mg base "BadText" ["place"] (cl 6)
  no_BadText_place : PySem.W.findIn K (.ref (cl 6)) "place" = some none
  g_Busy : mg "Busy" = some (.ref (cl 7))
  q_Busy : PySem.W.excIn K (cl 7) [.type "ValueError", .type "Exception", .type "BaseException", .type "object"] "ValueError.__new__" = true
  k_Busy : PySem.W.keepIn K (.ref (cl 7)) = true
  e_NoAxis : TB.ErrN P w K mg base "NoAxis" ["given"] (cl 8)
  no_NoAxis_given : PySem.W.findIn K (.ref (cl 8)) "given" = some none
  e_NoKind : TB.ErrN P w K mg base "NoKind" ["given"] (cl 9)
  no_NoKind_given : PySem.W.findIn K (.ref (cl 9)) "given" = some none
  e_NoNumber : TB.ErrN P w K mg base "NoNumber" ["number"] (cl 10)
  no_NoNumber_number : PySem.W.findIn K (.ref (cl 10)) "number" = some none
  e_NoSeam : TB.ErrN P w K mg base "NoSeam" ["axis", "at"] (cl 11)
  no_NoSeam_axis : PySem.W.findIn K (.ref (cl 11)) "axis" = some none
  no_NoSeam_at : PySem.W.findIn K (.ref (cl 11)) "at" = some none
  e_NotFilled : TB.ErrN P w K mg base "NotFilled" ["reason"] (cl 12)
  no_NotFilled_reason : PySem.W.findIn K (.ref (cl 12)) "reason" = some none
  g_NothingToUndo : mg "NothingToUndo" = some (.ref (cl 13))
  q_NothingToUndo : PySem.W.excIn K (cl 13) [.type "ValueError", .type "Exception", .type "BaseException", .type "object"] "ValueError.__new__" = true
  k_NothingToUndo : PySem.W.keepIn K (.ref (cl 13)) = true
  e_NoVersion : TB.ErrN P w K mg base "NoVersion" ["given"] (cl 14)
  no_NoVersion_given : PySem.W.findIn K (.ref (cl 14)) "given" = some none
  e_Rejected : TB.ErrN P w K mg base "Rejected" ["index"] (cl 15)
  no_Rejected_index : PySem.W.findIn K (.ref (cl 15)) "index" = some none
  e_TooLarge : TB.ErrN P w K mg base "TooLarge" ["axis"] (cl 16)
  no_TooLarge_axis : PySem.W.findIn K (.ref (cl 16)) "axis" = some none
  g_TooManyEdits : mg "TooManyEdits" = some (.ref (cl 17))
  q_TooManyEdits : PySem.W.excIn K (cl 17) [.type "ValueError", .type "Exception", .type "BaseException", .type "object"] "ValueError.__new__" = true
  k_TooManyEdits : PySem.W.keepIn K (.ref (cl 17)) = true
  g_Unfit : mg "Unfit" = some (.ref (cl 18))
  q_Unfit : PySem.W.excIn K (cl 18) [.type "ValueError", .type "Exception", .type "BaseException", .type "object"] "ValueError.__new__" = true
  k_Unfit : PySem.W.keepIn K (.ref (cl 18)) = true
  g_UnlikeAxes : mg "UnlikeAxes" = some (.ref (cl 19))
  q_UnlikeAxes : PySem.W.excIn K (cl 19) [.type "ValueError", .type "Exception", .type "BaseException", .type "object"] "ValueError.__new__" = true
  k_UnlikeAxes : PySem.W.keepIn K (.ref (cl 19)) = true
  xc : ∀ i, i < 20 → TB.XCls K CB (cl i)
  inj : ∀ i j, i < 20 → j < 20 → cl i = cl j → i = j
  nb : ∀ i, i < 20 → cl i ≠ CB
  hn : PySem.W.specialIn K (.builtin "object.__class__") "__get__" = some (some (.builtin "getset_descriptor.__get__"))
  ht : PySem.W.takesIn K (.builtin "object.__class__") = some true
  hB : PySem.W.isClsIn K CB = true
  tB : PySem.W.typeIn K (.ref CB) = some (.type "type")
section
variable {P : Program} {w : World} {K : PySem.W.Frag} {mg : Str → Option Value} {base : Heap} {CB : Addr} {cl : Nat → Addr}
theorem Ctx.exc (Z : Ctx P w K mg base CB cl) {i : Nat} (h : i < 20) : ExcC K (cl i) := (Z.xc i h).exc Z.hn Z.ht
theorem Ctx.kit (Z : Ctx P w K mg base CB cl) {i j : Nat} (h : i < 20) (h2 : j < 20) : PySem.W.kitOne K (.ref (cl i)) (.ref (cl j)) = some (decide (i = j)) := by
  rw [(Z.xc i h).kit (Z.xc j h2) (Z.nb j h2)]
  congr 1
  rw [Bool.eq_iff_iff, decide_eq_true_eq, decide_eq_true_eq]
  exact ⟨Z.inj i j h h2, fun e => by rw [e]⟩
end
def fsT (v u : V) : List (List (Str × V)) := [[], [("error", v)], [("error", v)], [("given", v)], [("given", v)], [("given", v)], [("place", v)], [], [("given", v)], [("given", v)], [("number", v)], [("at", u), ("axis", v)], [("reason", v)], [], [("given", v)], [("index", v)], [("axis", v)], [], [], []]
section
variable {P : Program} {w : World} {K : PySem.W.Frag} {mg : Str → Option Value} {base : Heap}
/-! ### the deck -/
theorem shaped_ints (ns : List Int) : SeqAt.shaped (.list (ns.map PyData.int)) = true := by
  have h1 : PyData.canLayAll0 (ns.map PyData.int) = true := by
    induction ns with
    | nil => rfl
    | cons n ns ih => rw [List.map_cons, PyData.canLayAll0, ih]; rfl
  have h2 : PyData.depthAll (ns.map PyData.int) = 0 := by
    induction ns with
    | nil => rfl
    | cons n ns ih => rw [List.map_cons, PyData.depthAll, ih (by rw [List.map_cons, PyData.canLayAll0] at h1; exact (Bool.and_eq_true_iff.mp h1).2)]; rfl
  unfold SeqAt.shaped
  rw [PyData.canLay0, h1, PyData.depth, h2]; rfl
theorem dpAll_ints {K : PySem.W.Frag} {H : Hp} (ns : List Int) : DpAll K H (ns.map V.int) (ns.map PyData.int) := by
  induction ns with
  | nil => exact .nil
  | cons n ns ih => exact .cons (.int n) ih
theorem eqv_nil (ns : List Int) : PyData.eqv (.list (ns.map PyData.int)) (.list []) = ns.isEmpty := by
  cases ns <;> rfl
theorem ok__law_draw (T : Txt mg) {f : Addr} {fd : FuncData} (F : Fun K "_law_draw" "_law_draw" s__law_draw f fd) : FnOk P w K mg base CX0 1 f fd p__law_draw spDraw := by
  refine F.ok sc__law_draw (fun vs H Q E h => ?_) (fun cdv A outer s H vs Q E hr h => ?_)
  · obtain ⟨d, g, l, m, rfl, _⟩ := h
    rfl
  obtain ⟨d, g, l, m, rfl, m0, m1, ⟨gs, ls, c, hd, hg, hl, dg, dl, gl, lpos⟩, k⟩ := h
  refine ⟨_, (pss_cons (ps_if (pt_cmpR (op_neD hr.units) (pe_ix ix_list (pv 0) pe_int (fun _ _ => rfl)) (pe_lst pa_nil) (nomark _))
 (pss_cons (ps_set (i := 2) sc__law_draw.nd rfl (.inl rfl) (pe_ix ix_list (pe_ix ix_list (pv 0) pe_int (fun _ _ => rfl)) pe_int (fun _ _ => rfl)))
 (pss_cons (ps_asg (pe_op op_fdivW (pv 2) (pv 1)) (pg_sub (pe_ix ix_list (pv 0) pe_int (fun _ _ => rfl)) pe_int set_list))
 (pss_cons (ps_if (pt_cmpR op_eq (pe_ix ix_list (pe_ix ix_list (pv 0) pe_int (fun _ _ => rfl)) pe_int (fun _ _ => rfl)) pe_int (nomark _))
 (pss_one (ps_expr (pe_bm PySem.F.plainAttrs_list PySem.F.slot_list_pop PySem.F.type_list_pop mt_popAt (pe_ix ix_list (pv 0) pe_int (fun _ _ => rfl)) (pa_cons pe_int pa_nil)))) pss_nil)
 (pss_one (ps_ret (pe_op op_modN (pe_callTy call_int1 (by rfl) T.n_int (by decide +kernel) (pa_cons (pv 2) pa_nil)) (pv 1))))))) pss_nil)
 (pss_cons (ps_asg (pe_op op_add (pe_ix ix_list (pv 0) pe_int (fun _ _ => rfl)) pe_int) (pg_sub (pv 0) pe_int set_list))
 (pss_cons (ps_set (i := 3) sc__law_draw.nd rfl (.inl rfl) (pe_ix ix_list (pe_ix ix_list (pv 0) pe_int (fun _ _ => rfl)) (pe_op op_modN (pe_callTy call_int1 (by rfl) T.n_int (by decide +kernel) (pa_cons (pe_ix ix_list (pv 0) pe_int (fun _ _ => rfl)) pa_nil)) (pe_callB call_len_seq (by rfl) T.n_len (by decide +kernel) (pa_cons (pe_ix ix_list (pv 0) pe_int (fun _ _ => rfl)) pa_nil))) (fun _ _ => rfl)))
 (pss_cons (ps_set (i := 4) sc__law_draw.nd rfl (.inl rfl) (pe_op op_modN (pe_callTy call_int1 (by rfl) T.n_int (by decide +kernel) (pa_cons (pe_op op_add (pe_op op_modN (pe_callTy call_int1 (by rfl) T.n_int (by decide +kernel) (pa_cons (pv 3) pa_nil)) pe_int) (pe_op op_mul pe_int (pe_ix ix_list (pv 0) pe_int (fun _ _ => rfl)))) pa_nil)) pe_int))
 (pss_cons (ps_set (i := 4) sc__law_draw.nd rfl (.inl rfl) (pe_op op_modN (pe_callTy call_int1 (by rfl) T.n_int (by decide +kernel) (pa_cons (pe_op op_add (pe_op op_mul (pv 4) (pv 4)) (pe_op op_mul pe_int (pe_ix ix_list (pv 0) pe_int (fun _ _ => rfl)))) pa_nil)) pe_int))
 (pss_one (ps_ret (pe_op op_modN (pe_op op_fdivW (pe_op op_modN (pe_callTy call_int1 (by rfl) T.n_int (by decide +kernel) (pa_cons (pe_op op_mul (pv 4) (pv 4)) pa_nil)) pe_int) pe_int) (pv 1))))))))), ?_⟩
  refine ⟨_, rfl, d, _, _, _, rfl, rfl, .inl (.inl hd), rfl, Nat.zero_le _, fun p hp => ?_⟩
  have e0 : Ex H (upd H p (.lst [])) := Ex.new hp
  refine ⟨.list (gs.map PyData.int), .list [], .lst (.inl (.inl (e0 _ _ hg))) (dpAll_ints gs), .lst (.inl (.inl upd_same)) .nil, shaped_ints gs, shaped_ints [], _, rfl, ?_⟩
  rw [eqv_nil]
  generalize hH : upd H p (.lst []) = H1 at e0 ⊢
  have hd1 := e0 _ _ hd
  have hg1 := e0 _ _ hg
  have hl1 := e0 _ _ hl
  have off1 : Off d g H H1 := Off.of e0
  have big : (m.natAbs.log2 < 9000) := by
    have : m.natAbs ≤ 1000000000000 := by omega
    exact Nat.lt_of_le_of_lt (Nat.log2_le_self m.natAbs |> fun _ => (Nat.log2_lt (by omega)).mpr (show m.natAbs < 2 ^ 41 by omega) |> Nat.le_of_lt) (by decide)
  cases gs with
  | cons a gr =>
    refine (if_pos rfl).mpr ?_
    -- rest = deck[0][0]; deck[0][0] = rest // many
    refine ⟨_, rfl, d, _, _, _, rfl, rfl, .inl (.inl hd1), rfl, g, _, _, _, rfl, rfl, .inl (.inl hg1), atI_nat (j := 0) rfl, ?_⟩
    refine ⟨_, rfl, _, rfl, _, _, rfl, rfl, ⟨m0, big⟩, _, rfl, d, _, _, _, rfl, rfl, .inl (.inl hd1), rfl, g, _, _, 0, rfl, rfl, hg1, ixN_zero (by simp), ?_⟩
    generalize hH2 : upd H1 g _ = H2
    have hg2 : H2 g = some (.lst ((a / m :: gr).map V.int)) := by rw [← hH2, upd_same]; rfl
    have hd2 : H2 d = some (.lst [.ref g, .ref l, .int c]) := by rw [← hH2, upd_ne dg]; exact hd1
    have hl2 : H2 l = some (.lst (ls.map V.int)) := by rw [← hH2, upd_ne gl.symm]; exact hl1
    have off2 : Off d g H H2 := off1.trans fun b o e _ n => by rw [← hH2, upd_ne n]; exact e
    -- if deck[0][0] == 0: deck[0].pop(0)
    refine ⟨_, rfl, d, _, _, _, rfl, rfl, .inl (.inl hd2), rfl, g, _, _, _, rfl, rfl, .inl (.inl hg2), atI_nat (j := 0) rfl, rfl, _, rfl, ite2 (fun _ => ?_) (fun _ => ?_)⟩
    · refine ⟨_, rfl, d, _, _, _, rfl, rfl, .inl (.inl hd2), rfl, .inl ⟨rfl, _, .inl (.inl hg2)⟩, g, _, 0, 0, _, rfl, rfl, hg2, by decide, by decide, ?_, rfl, ?_⟩
      · exact (ixN_seq (ixN_zero (by simp))).1
      · generalize hH3 : upd H2 g _ = H3
        have hg3 : H3 g = some (.lst (gr.map V.int)) := by rw [← hH3, upd_same]; rfl
        have hd3 : H3 d = some (.lst [.ref g, .ref l, .int c]) := by rw [← hH3, upd_ne dg]; exact hd2
        have hl3 : H3 l = some (.lst (ls.map V.int)) := by rw [← hH3, upd_ne gl.symm]; exact hl2
        refine ⟨_, rfl, .inl ⟨_, rfl, _, rfl, _, _, rfl, rfl, by omega, ?_⟩⟩
        exact k _ _ (fmod_rng m0).1 (fmod_rng m0).2 ⟨gr, ls, c, hd3, hg3, hl3, dg, dl, gl, lpos⟩ (off2.trans fun b o e _ n => by rw [← hH3, upd_ne n]; exact e)
    · refine ⟨_, rfl, .inl ⟨_, rfl, _, rfl, _, _, rfl, rfl, by omega, ?_⟩⟩
      exact k _ _ (fmod_rng m0).1 (fmod_rng m0).2 ⟨_, ls, c, hd2, hg2, hl2, dg, dl, gl, lpos⟩ off2
  | nil =>
    refine (if_neg (by decide)).mpr ?_
    -- deck[2] = deck[2] + 1
    refine ⟨_, rfl, d, _, _, _, rfl, rfl, .inl (.inl hd1), rfl, _, _, rfl, rfl, _, rfl, d, _, _, 2, rfl, rfl, hd1, rfl, ?_⟩
    generalize hH2 : upd H1 d _ = H2
    have hd2 : H2 d = some (.lst [.ref g, .ref l, .int (c + 1)]) := by rw [← hH2, upd_same]; rfl
    have hg2 : H2 g = some (.lst (([] : List Int).map V.int)) := by rw [← hH2, upd_ne dg.symm]; exact hg1
    have hl2 : H2 l = some (.lst (ls.map V.int)) := by rw [← hH2, upd_ne dl.symm]; exact hl1
    have off2 : Off d g H H2 := off1.trans fun b o e n _ => by rw [← hH2, upd_ne n]; exact e
    have hD : Deck H2 d g l := ⟨[], ls, c + 1, hd2, hg2, hl2, dg, dl, gl, lpos⟩
    have lp : (0 : Int) < ((ls.map V.int).length : Int) := by rw [List.length_map]; omega
    obtain ⟨i0, i1⟩ := fmod_rng (a := c + 1) lp
    obtain ⟨j, hj⟩ : ∃ j : Nat, (c + 1).fmod ((ls.map V.int).length : Int) = (j : Int) := ⟨_, (Int.toNat_of_nonneg i0).symm⟩
    have jl : j < ls.length := by rw [hj, List.length_map] at i1; omega
    have at_ : atI (ls.map V.int) ((c + 1).fmod ((ls.map V.int).length : Int)) = some (.int ls[j]) := by
      rw [hj]
      refine atI_nat ?_
      rw [List.getElem?_map, List.getElem?_eq_getElem jl]
      rfl
    -- cell = deck[1][int(deck[2]) % len(deck[1])]
    refine ⟨_, rfl, d, _, _, _, rfl, rfl, .inl (.inl hd2), rfl, _, rfl, d, _, _, _, rfl, rfl, .inl (.inl hd2), rfl, .inl ⟨_, rfl, ?_⟩⟩
    refine ⟨_, rfl, d, _, _, _, rfl, rfl, .inl (.inl hd2), rfl, l, _, rfl, .inl (.inl (.inl hl2)), _, _, rfl, rfl, by omega, l, _, _, _, rfl, rfl, .inl (.inl hl2), at_, ?_⟩
    generalize ls[j] = cell
    -- the first mix
    refine ⟨_, rfl, .inl ⟨_, rfl, _, _, rfl, rfl, (show (4294966477 : Int) ≠ 0 by decide), _, rfl, d, _, _, _, rfl, rfl, .inl (.inl hd2), rfl, _, _, rfl, rfl, .inl ⟨by decide, by decide⟩, _, _, rfl, rfl, .inl ⟨_, rfl, _, _, rfl, rfl, (show (4294966477 : Int) ≠ 0 by decide), ?_⟩⟩⟩
    refine ⟨_, rfl, _, rfl, _, _, rfl, rfl, .inl (fmod_small (by decide) (by decide)), _, rfl, d, _, _, _, rfl, rfl, .inl (.inl hd2), rfl, _, _, rfl, rfl, .inl ⟨by decide, by decide⟩, _, _, rfl, rfl, .inl ⟨_, rfl, _, _, rfl, rfl, (show (4294966427 : Int) ≠ 0 by decide), ?_⟩⟩
    refine ⟨_, rfl, _, rfl, _, _, rfl, rfl, .inl (fmod_small (by decide) (by decide)), .inl ⟨_, rfl, _, _, rfl, rfl, (show (4294966373 : Int) ≠ 0 by decide), _, _, rfl, rfl, ⟨by decide, by decide⟩, _, rfl, _, _, rfl, rfl, by omega, ?_⟩⟩
    exact k _ _ (fmod_rng m0).1 (fmod_rng m0).2 hD off2
theorem ok__law_one (T : Txt mg) {f : Addr} {fd : FuncData} (F : Fun K "_law_one" "_law_one" s__law_one f fd) (h__law_draw : Keeps P w K mg base 1 "_law_draw" p__law_draw spDraw) : FnOk P w K mg base CX0 2 f fd p__law_one spOne := by
  refine F.ok sc__law_one (fun vs H Q E h => ?_) (fun cdv A outer s H vs Q E hr h => ?_)
  · obtain ⟨d, g, l, p, xs, rfl, _⟩ := h
    rfl
  obtain ⟨d, g, l, p, xs, rfl, D, hp, pd, pg, x0, x1, k⟩ := h
  refine ⟨_, (pss_one (ps_ret (pe_ix ix_list (pv 1) (TB.pe_own h__law_draw (hr.mono (by decide)) (by rfl) (pa_cons (pv 0) (pa_cons (pe_callB call_len_seq (by rfl) T.n_len (by decide +kernel) (pa_cons (pv 1) pa_nil)) pa_nil))) (fun _ _ => rfl)))), ?_⟩
  refine ⟨_, rfl, _, rfl, _, rfl, p, xs, rfl, .inl (.inl (.inl hp)), d, g, l, _, rfl, by omega, by omega, D, fun r H1 r0 r1 D1 o1 => ?_⟩
  obtain ⟨j, rfl⟩ : ∃ j : Nat, r = (j : Int) := ⟨_, (Int.toNat_of_nonneg r0).symm⟩
  have jl : j < xs.length := by omega
  exact ⟨p, xs, _, xs[j], rfl, rfl, .inl (.inl (o1 _ _ hp pd pg)), atI_nat (List.getElem?_eq_getElem jl), k j _ _ (List.getElem?_eq_getElem jl) D1 o1⟩
theorem cut63 {ns : List V} (h : ns.length ≤ 63) : cutV ns none (some 63) = ns := by
  unfold cutV
  rw [HT.sIx_none, show HT.sIx ns.length ns.length (some 63) = min 63 ns.length from HT.sIx_nat _ _ 63]
  rw [Nat.min_eq_right h, List.drop_zero, Nat.sub_zero, List.take_length]
def absI (n : Int) : Int := if n < 0 then -n else n
theorem ok__law_deck (T : Txt mg) {f : Addr} {fd : FuncData} (F : Fun K "_law_deck" "_law_deck" s__law_deck f fd) : FnOk P w K mg base CX0 1 f fd p__law_deck (spDeck K) := by
  refine F.ok sc__law_deck (fun vs H Q E h => ?_) (fun cdv A outer s H vs Q E hr h => ?_)
  · obtain ⟨a, ns, rfl, _⟩ := h
    rfl
  obtain ⟨a, ns, rfl, hS, hn, k⟩ := h
  refine ⟨_, (pss_cons (ps_setLc (i := 1) (own := [("_law_cell", 2)]) (g := gName 2) rfl sc__law_deck.nd rfl rfl (sw_true rfl rfl rfl (by decide +kernel)) (pi_list (pe_slice sl_list (pv 0) po_none (po_some pe_int))) (blkOk_by (N := n__law_deck) (sc := defScope s__law_deck) (by decide +kernel)) (fun _ _ _ _ _ => pg_name (i := 2) sc__law_deck.nd rfl (.inl rfl)) (fun _ _ _ _ _ => pts_nil) (fun _ _ _ _ _ => (pe_callB call_abs (by rfl) T.n_abs (by decide +kernel) (pa_cons (pv 2) pa_nil))))
 (pss_one (ps_ret (pe_lst (pa_cons (pe_lc (own := [("_law_cell", 2)]) (g := gName 2) rfl sc__law_deck.nd (pi_list (pv 1)) (blkOk_by (N := n__law_deck) (sc := defScope s__law_deck) (by decide +kernel)) (fun _ _ _ _ _ => pg_name (i := 2) sc__law_deck.nd rfl (.inl rfl)) (fun _ _ _ _ _ => (pts_one (pt_cmpR op_ge (pv 2) (pe_op op_pow pe_int pe_int) (nomark _)))) (fun _ _ _ _ _ => (pv 2))) (pa_cons (pe_op op_cat (pv 1) (pe_lst (pa_cons (pe_op op_add pe_int (pe_callB call_len_seq (by rfl) T.n_len (by decide +kernel) (pa_cons (pv 1) pa_nil))) pa_nil))) (pa_cons pe_int pa_nil))))))), ?_⟩
  refine ⟨.ref a, rfl, 63, rfl, a, _, rfl, hS, fun p hp => ⟨p, rfl, ⟨_, .inl (.inl upd_same)⟩, fun D hD => ?_⟩⟩
  rw [cut63 (by rw [List.length_map]; exact hn)] at hD ⊢
  have e1 : Ex H (upd H p (.lst (ns.map V.int))) := Ex.new hp
  have pD : p ≠ D := ne_of_none upd_same hD
  refine lc_list (K := K) (a := p) (xs := ns.map V.int) (fun i H' => Ex H H' ∧ H' p = some (.lst (ns.map V.int)) ∧ H' D = some (.lst (((ns.map absI).take i).map V.int)))
    ⟨e1.trans (Ex.new hD), by rw [upd_ne pD]; exact upd_same, upd_same⟩ (fun i H' _ h => .inl (.inl h.2.1)) (fun i x H' hx h => ?_) (fun H' h => ?_)
  · obtain ⟨e, h1, h2⟩ := h
    rw [List.getElem?_map] at hx
    obtain ⟨n, hn1, rfl⟩ := Option.map_eq_some_iff.mp hx
    have il : i < ns.length := (List.getElem?_eq_some_iff.mp hn1).1
    refine ⟨rfl, _, rfl, n, rfl, _, h2, size_small' (by rw [List.length_map, List.length_take]; omega), e.mut (fresh_back e1 hD), by rw [upd_ne pD]; exact h1, ?_⟩
    rw [upd_same, List.take_add_one, List.getElem?_map, hn1, List.map_append]
    rfl
  obtain ⟨e, h1, h2⟩ := h
  rw [List.length_map, List.take_of_length_le (by rw [List.length_map]; omega)] at h2
  generalize hms : ns.map absI = ms at h2
  have ml : ms.length ≤ 63 := by rw [← hms, List.length_map]; exact hn
  -- the list of the great ones
  refine ⟨.ref D, rfl, D, rfl, ⟨_, .inl (.inl h2)⟩, fun B hB => ?_⟩
  have DB : D ≠ B := ne_of_none h2 hB
  refine lc_list (K := K) (a := D) (xs := ms.map V.int) (fun i H2 => Ex H' H2 ∧ H2 D = some (.lst (ms.map V.int)) ∧ ∃ gs : List Int, gs.length ≤ i ∧ H2 B = some (.lst (gs.map V.int)))
    ⟨Ex.new hB, by rw [upd_ne DB]; exact h2, [], Nat.le_refl _, upd_same⟩ (fun i H2 _ h => .inl (.inl h.2.1)) (fun i x H2 hx h => ?_) (fun H2 h => ?_)
  · obtain ⟨e2, g1, gs, gl, g2⟩ := h
    rw [List.getElem?_map] at hx
    obtain ⟨n, hn1, rfl⟩ := Option.map_eq_some_iff.mp hx
    have il : i < ms.length := (List.getElem?_eq_some_iff.mp hn1).1
    refine ⟨rfl, _, rfl, _, _, rfl, rfl, ⟨by decide, by decide, by decide⟩, _, _, rfl, rfl, _, rfl, ?_⟩
    refine ite2 (fun _ => ?_) (fun _ => ?_)
    · refine ⟨_, rfl, _, g2, size_small' (by rw [List.length_map]; omega), e2.mut hB, by rw [upd_ne DB]; exact g1, gs ++ [n], by rw [List.length_append]; exact Nat.succ_le_succ gl, ?_⟩
      rw [upd_same, List.map_append]
      rfl
    · exact ⟨e2, g1, gs, by omega, g2⟩
  obtain ⟨e2, g1, gs, gl, g2⟩ := h
  rw [List.length_map] at gl
  -- cells + [11228 + len(cells)]
  refine ⟨_, rfl, _, rfl, D, _, rfl, .inl (.inl (.inl g1)), _, _, rfl, rfl, (show 1 ≤ sizeLine by decide), fun c hc => ?_⟩
  have Dc : D ≠ c := ne_of_none g1 hc
  refine ⟨D, c, _, _, rfl, rfl, by rw [upd_ne Dc]; exact g1, upd_same, size_small (by simp; omega), fun L hL => ?_⟩
  have cL : c ≠ L := ne_of_none upd_same hL
  have BD : B ≠ D := DB.symm
  have hBc : B ≠ c := ne_of_none g2 hc
  have hBL : B ≠ L := ne_of_none (by rw [upd_ne hBc]; exact g2) hL
  refine ⟨(show 3 ≤ sizeLine by decide), fun d hd => ?_⟩
  have dL : d ≠ L := fun q => by rw [q, upd_same] at hd; cases hd
  have dB : d ≠ B := fun q => by rw [q, upd_ne hBL, upd_ne hBc, g2] at hd; cases hd
  have ec := Ex.new (o := .lst [.int (11228 + ((ms.map V.int).length : Int))]) hc
  have eL := ec.trans (Ex.new (o := .lst (ms.map V.int ++ [.int (11228 + ((ms.map V.int).length : Int))])) hL)
  refine k d B L _ ((e.trans e2).trans (eL.trans (Ex.new hd))) ?_ (fresh_back e hB) ?_
  · exact fresh_back ((e.trans e2).trans eL) hd
  · refine ⟨gs, ms ++ [11228 + ((ms.map V.int).length : Int)], 0, upd_same, ?_, ?_, dB, dL, hBL, by simp⟩
    · rw [upd_ne dB.symm, upd_ne hBL, upd_ne hBc]; exact g2
    · rw [upd_ne dL.symm, upd_same, List.map_append]
      rfl
end
end K01
set_option Elab.async false
set_option linter.all false
set_option maxRecDepth 100000
namespace K01
open PySem PySem.Spec PyProof.Rows L2 Evl TB DL
section
variable {P : Program} {w : World} {K : PySem.W.Frag} {mg : Str → Option Value} {base : Heap}
set_option maxHeartbeats 400000 in
theorem ok__law_odd (T : Txt mg) {f : Addr} {fd : FuncData} (F : Fun K "_law_odd" "_law_odd" s__law_odd f fd) (h__law_one' : Keeps P w K mg base 2 "_law_one" p__law_one spOne) : FnOk P w K mg base CX0 3 f fd p__law_odd (SpW nonA oddF) := by
  have h__law_one := DL.Keeps.imp h__law_one' fun _ _ _ _ => one_imp
  refine F.ok sc__law_odd (fun vs H Q E h => ?_) (fun cdv A outer s H vs Q E hr h => ?_)
  · obtain ⟨d, g, l, N, es, vs', rfl, _, _, _, _, _, r, rfl, _⟩ := h
    rw [List.length_cons, r.len]; rfl
  obtain ⟨d, g, l, N, es, vs', rfl, ok, nd, ng, nl, D, r, rfl, q⟩ := h
  cases r
  refine ⟨_, (pss_cons (ps_set (i := 1) sc__law_odd.nd rfl (.inl rfl) (pe_lst (pa_cons pe_non (pa_cons pe_bl (pa_cons pe_bl (pa_cons pe_int (pa_cons pe_int (pa_cons pe_int (pa_cons (pe_un un_neg pe_int) (pa_cons (pe_op op_pow pe_int pe_int) (pa_cons pe_str (pa_cons pe_str (pa_cons pe_str (pa_cons pe_str (pa_cons (pe_tup pa_nil) (pa_cons (pe_lst pa_nil) (pa_cons pe_dnewK (pa_cons (pe_tup (pa_cons pe_int pa_nil)) (pa_cons (pe_tup (pa_cons pe_int pa_nil)) (pa_cons (pe_tup (pa_cons pe_int (pa_cons pe_int pa_nil))) (pa_cons (pe_tup (pa_cons pe_int (pa_cons pe_int pa_nil))) pa_nil)))))))))))))))))))))
 (pss_cons (ps_set (i := 1) sc__law_odd.nd rfl (.inl rfl) (pe_op op_cat (pv 1) (pe_lst (pa_cons (pe_tup (pa_cons pe_bl pa_nil)) (pa_cons (pe_tup (pa_cons pe_int (pa_cons (pe_tup (pa_cons pe_int pa_nil)) pa_nil))) (pa_cons (pe_tup (pa_cons pe_int (pa_cons (pe_tup (pa_cons pe_int (pa_cons pe_int pa_nil))) pa_nil))) (pa_cons (pe_tup (pa_cons pe_int (pa_cons (pe_tup (pa_cons pe_int (pa_cons pe_int pa_nil))) pa_nil))) (pa_cons (pe_tup (pa_cons pe_int (pa_cons (pe_tup (pa_cons pe_int (pa_cons pe_int pa_nil))) (pa_cons pe_int pa_nil)))) (pa_cons (pe_tup (pa_cons (pe_tup (pa_cons pe_int (pa_cons pe_int pa_nil))) (pa_cons pe_int pa_nil))) (pa_cons (pe_tup (pa_cons (pe_tup (pa_cons pe_int pa_nil)) (pa_cons pe_int pa_nil))) (pa_cons (pe_tup (pa_cons pe_str (pa_cons pe_int pa_nil))) pa_nil)))))))))))
 (pss_one (ps_ret (TB.pe_own h__law_one (hr.mono (by decide)) (by rfl) (pa_cons (pv 0) (pa_cons (pe_op op_cat (pv 1) (pe_lst (pa_cons (pe_tup (pa_cons pe_non pa_nil)) (pa_cons (pe_tup (pa_cons (pe_un un_neg pe_int) pa_nil)) (pa_cons (pe_tup (pa_cons pe_int (pa_cons (pe_tup (pa_cons (pe_un un_neg pe_int) pa_nil)) pa_nil))) (pa_cons (pe_tup (pa_cons pe_int (pa_cons (pe_tup (pa_cons pe_bl (pa_cons pe_int pa_nil))) pa_nil))) (pa_cons (pe_tup (pa_cons pe_int (pa_cons pe_int pa_nil))) (pa_cons (pe_tup (pa_cons (pe_tup (pa_cons pe_int (pa_cons pe_int pa_nil))) (pa_cons (pe_tup (pa_cons pe_int (pa_cons pe_int pa_nil))) pa_nil))) (pa_cons (pe_tup (pa_cons (pe_tup (pa_cons pe_int pa_nil)) (pa_cons (pe_tup (pa_cons pe_int pa_nil)) pa_nil))) pa_nil))))))))) pa_nil))))))), ?_⟩
  have S := St.startW (k := 1) ok nd ng nl D (.nil (N := N) (H := H))
  have E1 := fun ρ => ((ev_lst' (eva_more ev_non (eva_more (ev_bl (b := true)) (eva_more (ev_bl (b := false)) (eva_more (ev_int (i := 0)) (eva_more (ev_int (i := 1)) (eva_more (ev_int (i := 2)) (eva_more (ev_neg (ev_int (i := 1))) (eva_more (ev_pow (i := 10) (j := 30) ⟨by decide, by decide, by decide⟩) (eva_more (ev_str (x := "")) (eva_more (ev_str (x := "a")) (eva_more (ev_str (x := "0")) (eva_more (ev_str (x := "2x3")) (eva_more (ev_tup' eva_nil (show 0 ≤ 100000 by decide)) (eva_more (ev_lst' eva_nil (show 0 ≤ 100000 by decide)) (eva_more ev_dict0 (eva_more (ev_tup' (eva_more (ev_int (i := 0)) eva_nil) (show 1 ≤ 100000 by decide)) (eva_more (ev_tup' (eva_more (ev_int (i := 1)) eva_nil) (show 1 ≤ 100000 by decide)) (eva_more (ev_tup' (eva_more (ev_int (i := 0)) (eva_more (ev_int (i := 0)) eva_nil)) (show 2 ≤ 100000 by decide)) (eva_more (ev_tup' (eva_more (ev_int (i := 1)) (eva_more (ev_int (i := 1)) eva_nil)) (show 2 ≤ 100000 by decide)) eva_nil))))))))))))))))))) (show 19 ≤ 100000 by decide)) : EvP (WD d g l N H) H _ ρ _)
  refine d_asg ?_
  refine (E1 _) [] [] _ H S _ fun v1 e1 H1 S1 p1 => ?_
  have S2 := S1.set (i := 1)
  rw [p1] at S2
  clear p1 S1 E1
  have E2 : EvP (WD d g l N H) H _ S2.rho _ := (ev_catL (ev_dat (i := 1) rfl) (ev_lst' (eva_more (ev_tup' (eva_more (ev_bl (b := true)) eva_nil) (show 1 ≤ 100000 by decide)) (eva_more (ev_tup' (eva_more (ev_int (i := 0)) (eva_more (ev_tup' (eva_more (ev_int (i := 0)) eva_nil) (show 1 ≤ 100000 by decide)) eva_nil)) (show 2 ≤ 100000 by decide)) (eva_more (ev_tup' (eva_more (ev_int (i := 0)) (eva_more (ev_tup' (eva_more (ev_int (i := 0)) (eva_more (ev_int (i := 0)) eva_nil)) (show 2 ≤ 100000 by decide)) eva_nil)) (show 2 ≤ 100000 by decide)) (eva_more (ev_tup' (eva_more (ev_int (i := 1)) (eva_more (ev_tup' (eva_more (ev_int (i := 0)) (eva_more (ev_int (i := 0)) eva_nil)) (show 2 ≤ 100000 by decide)) eva_nil)) (show 2 ≤ 100000 by decide)) (eva_more (ev_tup' (eva_more (ev_int (i := 0)) (eva_more (ev_tup' (eva_more (ev_int (i := 0)) (eva_more (ev_int (i := 0)) eva_nil)) (show 2 ≤ 100000 by decide)) (eva_more (ev_int (i := 1)) eva_nil))) (show 3 ≤ 100000 by decide)) (eva_more (ev_tup' (eva_more (ev_tup' (eva_more (ev_int (i := 0)) (eva_more (ev_int (i := 0)) eva_nil)) (show 2 ≤ 100000 by decide)) (eva_more (ev_int (i := 1)) eva_nil)) (show 2 ≤ 100000 by decide)) (eva_more (ev_tup' (eva_more (ev_tup' (eva_more (ev_int (i := 0)) eva_nil) (show 1 ≤ 100000 by decide)) (eva_more (ev_int (i := 1)) eva_nil)) (show 2 ≤ 100000 by decide)) (eva_more (ev_tup' (eva_more (ev_str (x := "step")) (eva_more (ev_int (i := 0)) eva_nil)) (show 2 ≤ 100000 by decide)) eva_nil)))))))) (show 8 ≤ 100000 by decide)) (Nat.le_of_ble_eq_true rfl))
  refine d_asg ?_
  refine E2 [] [] _ H1 S2 _ fun v2 e2 H2 S3 p2 => ?_
  have S4 := S3.set (i := 1)
  rw [p2] at S4
  clear p2 S3 E2
  have E3 : EvP (WD d g l N H) H _ S4.rho _ := ev_one (d := d) (g := g) (l := l) (N := N) (B := H) (j := 0) rfl (ev_catL (ev_dat (i := 1) rfl) (ev_lst' (eva_more (ev_tup' (eva_more ev_non eva_nil) (show 1 ≤ 100000 by decide)) (eva_more (ev_tup' (eva_more (ev_neg (ev_int (i := 1))) eva_nil) (show 1 ≤ 100000 by decide)) (eva_more (ev_tup' (eva_more (ev_int (i := 0)) (eva_more (ev_tup' (eva_more (ev_neg (ev_int (i := 1))) eva_nil) (show 1 ≤ 100000 by decide)) eva_nil)) (show 2 ≤ 100000 by decide)) (eva_more (ev_tup' (eva_more (ev_int (i := 0)) (eva_more (ev_tup' (eva_more (ev_bl (b := true)) (eva_more (ev_int (i := 0)) eva_nil)) (show 2 ≤ 100000 by decide)) eva_nil)) (show 2 ≤ 100000 by decide)) (eva_more (ev_tup' (eva_more (ev_int (i := 2)) (eva_more (ev_int (i := 1)) eva_nil)) (show 2 ≤ 100000 by decide)) (eva_more (ev_tup' (eva_more (ev_tup' (eva_more (ev_int (i := 2)) (eva_more (ev_int (i := 1)) eva_nil)) (show 2 ≤ 100000 by decide)) (eva_more (ev_tup' (eva_more (ev_int (i := 1)) (eva_more (ev_int (i := 2)) eva_nil)) (show 2 ≤ 100000 by decide)) eva_nil)) (show 2 ≤ 100000 by decide)) (eva_more (ev_tup' (eva_more (ev_tup' (eva_more (ev_int (i := 2)) eva_nil) (show 1 ≤ 100000 by decide)) (eva_more (ev_tup' (eva_more (ev_int (i := 3)) eva_nil) (show 1 ≤ 100000 by decide)) eva_nil)) (show 2 ≤ 100000 by decide)) eva_nil))))))) (show 7 ≤ 100000 by decide)) (Nat.le_of_ble_eq_true rfl)) fun e h => ⟨_, h, Nat.le_of_ble_eq_true rfl, Nat.le_of_ble_eq_true rfl⟩
  refine d_ret ?_
  refine E3 [] [] _ H2 S4 _ fun v e H' S' p => ?_
  obtain ⟨D', o', r'⟩ := S'.endW
  refine q v e H' D' o' r' ?_
  obtain ⟨ds, hds, he⟩ := p
  have hl := PyData.list.inj hds
  rw [hl] at he
  exact gd_of (by decide +kernel) he
end
end K01
set_option Elab.async false
set_option linter.all false
set_option maxRecDepth 100000
namespace K01
open PySem PySem.Spec PyProof.Rows L2 Evl TB DL
section
variable {P : Program} {w : World} {K : PySem.W.Frag} {mg : Str → Option Value} {base : Heap} {CB : Addr} {cl : Nat → Addr}
/-! ### errors of all classes -/
def madeR (cl : Nat → Addr) (v u : V) : List RV := [ErrR (cl 0) [], ErrR (cl 1) [("error", v)], ErrR (cl 2) [("error", v)], ErrR (cl 3) [("given", v)], ErrR (cl 4) [("given", v)], ErrR (cl 5) [("given", v)], ErrR (cl 6) [("place", v)], ErrR (cl 7) [], ErrR (cl 8) [("given", v)], ErrR (cl 9) [("given", v)], ErrR (cl 10) [("number", v)], ErrR (cl 11) [("at", u), ("axis", v)], ErrR (cl 12) [("reason", v)], ErrR (cl 13) [], ErrR (cl 14) [("given", v)], ErrR (cl 15) [("index", v)], ErrR (cl 16) [("axis", v)], ErrR (cl 17) [], ErrR (cl 18) [], ErrR (cl 19) []]
theorem madeR_at {cl : Nat → Addr} {v u : V} {i : Nat} (h : i < 20) : (madeR cl v u)[i]? = some (ErrR (cl i) ((fsT v u).getD i [])) := match i, h with | 0, _ => rfl | 1, _ => rfl | 2, _ => rfl | 3, _ => rfl | 4, _ => rfl | 5, _ => rfl | 6, _ => rfl | 7, _ => rfl | 8, _ => rfl | 9, _ => rfl | 10, _ => rfl | 11, _ => rfl | 12, _ => rfl | 13, _ => rfl | 14, _ => rfl | 15, _ => rfl | 16, _ => rfl | 17, _ => rfl | 18, _ => rfl | 19, _ => rfl | i + 20, h => absurd h (by omega)
def spMade (cl : Nat → Addr) : Sp := fun vs H Q _ => ∃ v u, vs = [v, u] ∧ ∀ p es H', Ex H H' → H p = none → H' p = some (.lst es) → All2 (madeR cl v u) es H' → Q (.ref p) H'
theorem ok__law_made (T : Txt mg) {f : Addr} {fd : FuncData} (F : Fun K "_law_made" "_law_made" s__law_made f fd) (Z : Ctx P w K mg base CB cl) : FnOk P w K mg base CX0 3 f fd p__law_made (spMade cl) := by
  refine F.ok sc__law_made (fun vs H Q E h => ?_) (fun cdv A outer s H vs Q E hr h => ?_)
  · obtain ⟨v, u, rfl, _⟩ := h
    rfl
  obtain ⟨v, u, rfl, k⟩ := h
  refine ⟨_, (pss_cons (ps_set (i := 2) sc__law_made.nd rfl (.inl rfl) (pe_lst (pa_cons (TB.pe_mkV0 PySem.F.excBase_ValueError Z.q_BadBatch Z.g_BadBatch Z.k_BadBatch (by rfl)) (pa_cons (TB.pe_mkV Z.e_BadBox (hr.mono (by decide)) (by rfl) (pa_cons (pv 0) pa_nil)) (pa_cons (TB.pe_mkV Z.e_BadKinds (hr.mono (by decide)) (by rfl) (pa_cons (pv 0) pa_nil)) (pa_cons (TB.pe_mkV Z.e_BadOrder (hr.mono (by decide)) (by rfl) (pa_cons (pv 0) pa_nil)) (pa_cons (TB.pe_mkV Z.e_BadPaper (hr.mono (by decide)) (by rfl) (pa_cons (pv 0) pa_nil)) (pa_cons (TB.pe_mkV Z.e_BadSide (hr.mono (by decide)) (by rfl) (pa_cons (pv 0) pa_nil)) (pa_cons (TB.pe_mkV Z.e_BadText (hr.mono (by decide)) (by rfl) (pa_cons (pv 0) pa_nil)) (pa_cons (TB.pe_mkV0 PySem.F.excBase_ValueError Z.q_Busy Z.g_Busy Z.k_Busy (by rfl)) pa_nil))))))))))
 (pss_cons (ps_set (i := 2) sc__law_made.nd rfl (.inl rfl) (pe_op op_cat (pv 2) (pe_lst (pa_cons (TB.pe_mkV Z.e_NoAxis (hr.mono (by decide)) (by rfl) (pa_cons (pv 0) pa_nil)) (pa_cons (TB.pe_mkV Z.e_NoKind (hr.mono (by decide)) (by rfl) (pa_cons (pv 0) pa_nil)) (pa_cons (TB.pe_mkV Z.e_NoNumber (hr.mono (by decide)) (by rfl) (pa_cons (pv 0) pa_nil)) (pa_cons (TB.pe_mkV Z.e_NoSeam (hr.mono (by decide)) (by rfl) (pa_cons (pv 0) (pa_cons (pv 1) pa_nil))) (pa_cons (TB.pe_mkV Z.e_NotFilled (hr.mono (by decide)) (by rfl) (pa_cons (pv 0) pa_nil)) (pa_cons (TB.pe_mkV0 PySem.F.excBase_ValueError Z.q_NothingToUndo Z.g_NothingToUndo Z.k_NothingToUndo (by rfl)) pa_nil)))))))))
 (pss_one (ps_ret (pe_op TB.op_catN (pv 2) (pe_lst (pa_cons (TB.pe_mkV Z.e_NoVersion (hr.mono (by decide)) (by rfl) (pa_cons (pv 0) pa_nil)) (pa_cons (TB.pe_mkV Z.e_Rejected (hr.mono (by decide)) (by rfl) (pa_cons (pv 0) pa_nil)) (pa_cons (TB.pe_mkV Z.e_TooLarge (hr.mono (by decide)) (by rfl) (pa_cons (pv 0) pa_nil)) (pa_cons (TB.pe_mkV0 PySem.F.excBase_ValueError Z.q_TooManyEdits Z.g_TooManyEdits Z.k_TooManyEdits (by rfl)) (pa_cons (TB.pe_mkV0 PySem.F.excBase_ValueError Z.q_Unfit Z.g_Unfit Z.k_Unfit (by rfl)) (pa_cons (TB.pe_mkV0 PySem.F.excBase_ValueError Z.q_UnlikeAxes Z.g_UnlikeAxes Z.k_UnlikeAxes (by rfl)) pa_nil)))))))))))), ?_⟩
  have s1 : StbA [ErrR (cl 0) [], ErrR (cl 1) [("error", v)], ErrR (cl 2) [("error", v)], ErrR (cl 3) [("given", v)], ErrR (cl 4) [("given", v)], ErrR (cl 5) [("given", v)], ErrR (cl 6) [("place", v)], ErrR (cl 7) []] := (stba_cons stb_err (stba_cons stb_err (stba_cons stb_err (stba_cons stb_err (stba_cons stb_err (stba_cons stb_err (stba_cons stb_err (stba_cons stb_err stba_nil))))))))
  have s2 : StbA [ErrR (cl 8) [("given", v)], ErrR (cl 9) [("given", v)], ErrR (cl 10) [("number", v)], ErrR (cl 11) [("at", u), ("axis", v)], ErrR (cl 12) [("reason", v)], ErrR (cl 13) []] := (stba_cons stb_err (stba_cons stb_err (stba_cons stb_err (stba_cons stb_err (stba_cons stb_err (stba_cons stb_err stba_nil))))))
  have s3 : StbA [ErrR (cl 14) [("given", v)], ErrR (cl 15) [("index", v)], ErrR (cl 16) [("axis", v)], ErrR (cl 17) [], ErrR (cl 18) [], ErrR (cl 19) []] := (stba_cons stb_err (stba_cons stb_err (stba_cons stb_err (stba_cons stb_err (stba_cons stb_err (stba_cons stb_err stba_nil))))))
  have E1 : EvS _ [some v, some u, none] H (LstR [ErrR (cl 0) [], ErrR (cl 1) [("error", v)], ErrR (cl 2) [("error", v)], ErrR (cl 3) [("given", v)], ErrR (cl 4) [("given", v)], ErrR (cl 5) [("given", v)], ErrR (cl 6) [("place", v)], ErrR (cl 7) []]) := es_lst s1 (es_cons stb_err es_mk0 (es_cons stb_err (es_mk1 (i := 0) rfl) (es_cons stb_err (es_mk1 (i := 0) rfl) (es_cons stb_err (es_mk1 (i := 0) rfl) (es_cons stb_err (es_mk1 (i := 0) rfl) (es_cons stb_err (es_mk1 (i := 0) rfl) (es_cons stb_err (es_mk1 (i := 0) rfl) (es_cons stb_err es_mk0 es_nil)))))))) (show 8 ≤ 1000 by decide)
  refine d_asg ?_
  refine E1 H ex_refl _ fun x H1 x1 r1 => ?_
  have E2 : EvS _ [some v, some u, some x] H1 (LstR ([ErrR (cl 0) [], ErrR (cl 1) [("error", v)], ErrR (cl 2) [("error", v)], ErrR (cl 3) [("given", v)], ErrR (cl 4) [("given", v)], ErrR (cl 5) [("given", v)], ErrR (cl 6) [("place", v)], ErrR (cl 7) []] ++ [ErrR (cl 8) [("given", v)], ErrR (cl 9) [("given", v)], ErrR (cl 10) [("number", v)], ErrR (cl 11) [("at", u), ("axis", v)], ErrR (cl 12) [("reason", v)], ErrR (cl 13) []])) := es_cat (ta := tVar 2) s1 s2 (es_var rfl (stb_lst s1) r1) (es_lst s2 (es_cons stb_err (es_mk1 (i := 0) rfl) (es_cons stb_err (es_mk1 (i := 0) rfl) (es_cons stb_err (es_mk1 (i := 0) rfl) (es_cons stb_err (es_mk2 (i := 0) (j := 1) rfl rfl) (es_cons stb_err (es_mk1 (i := 0) rfl) (es_cons stb_err es_mk0 es_nil)))))) (show 6 ≤ 1000 by decide)) (show 8 + 6 ≤ 1000 by decide)
  refine d_asg ?_
  refine E2 H1 ex_refl _ fun x' H2 x2 r2 => ?_
  have E3 : EvSF _ [some v, some u, some x'] H2 (([ErrR (cl 0) [], ErrR (cl 1) [("error", v)], ErrR (cl 2) [("error", v)], ErrR (cl 3) [("given", v)], ErrR (cl 4) [("given", v)], ErrR (cl 5) [("given", v)], ErrR (cl 6) [("place", v)], ErrR (cl 7) []] ++ [ErrR (cl 8) [("given", v)], ErrR (cl 9) [("given", v)], ErrR (cl 10) [("number", v)], ErrR (cl 11) [("at", u), ("axis", v)], ErrR (cl 12) [("reason", v)], ErrR (cl 13) []]) ++ [ErrR (cl 14) [("given", v)], ErrR (cl 15) [("index", v)], ErrR (cl 16) [("axis", v)], ErrR (cl 17) [], ErrR (cl 18) [], ErrR (cl 19) []]) := es_catN (ta := tVar 2) (stba_app s1 s2) s3 (es_var rfl (stb_lst (stba_app s1 s2)) r2) (es_lst s3 (es_cons stb_err (es_mk1 (i := 0) rfl) (es_cons stb_err (es_mk1 (i := 0) rfl) (es_cons stb_err (es_mk1 (i := 0) rfl) (es_cons stb_err es_mk0 (es_cons stb_err es_mk0 (es_cons stb_err es_mk0 es_nil)))))) (show 6 ≤ 1000 by decide)) (show 14 + 6 ≤ 1000 by decide)
  refine d_ret ?_
  refine E3 H2 ex_refl _ fun p es H3 x3 hp _ hl a => ?_
  exact k p es H3 ((x1.trans x2).trans x3) (none_of' (x1.trans x2) hp) hl a
/-! ### of which classes an error is -/
def spCls (cl : Nat → Addr) : Sp := fun vs H Q _ => ∃ (a : Addr) (i : Nat) (fs : List (Str × V)), vs = [.ref a] ∧ i < 20 ∧ ErrAt (cl i) fs H a ∧ ∀ p H', Ex H H' → H p = none → H' p = some (.lst ((List.range 20).map fun j => .bl (decide (i = j)))) → Q (.ref p) H'
theorem ok__law_classes (T : Txt mg) {f : Addr} {fd : FuncData} (F : Fun K "_law_classes" "_law_classes" s__law_classes f fd) (Z : Ctx P w K mg base CB cl) : FnOk P w K mg base CX0 1 f fd p__law_classes (spCls cl) := by
  refine F.ok sc__law_classes (fun vs H Q E h => ?_) (fun cdv A outer s H vs Q E hr h => ?_)
  · obtain ⟨a, i, fs, rfl, _⟩ := h
    rfl
  obtain ⟨a, i, fs, rfl, hi, ha, k⟩ := h
  refine ⟨_, (pss_cons (ps_set (i := 1) sc__law_classes.nd rfl (.inl rfl) (pe_lst (pa_cons (pe_callB (r := TB.rIsV K) TB.call_isV (by rfl) T.n_isinstance (by decide +kernel) (pa_cons (pv 0) (pa_cons (pe_glob (v := .ref (cl 0)) rfl Z.g_BadBatch rfl) pa_nil))) (pa_cons (pe_callB (r := TB.rIsV K) TB.call_isV (by rfl) T.n_isinstance (by decide +kernel) (pa_cons (pv 0) (pa_cons (pe_glob (v := .ref (cl 1)) rfl Z.e_BadBox.g rfl) pa_nil))) (pa_cons (pe_callB (r := TB.rIsV K) TB.call_isV (by rfl) T.n_isinstance (by decide +kernel) (pa_cons (pv 0) (pa_cons (pe_glob (v := .ref (cl 2)) rfl Z.e_BadKinds.g rfl) pa_nil))) pa_nil)))))
 (pss_cons (ps_set (i := 1) sc__law_classes.nd rfl (.inl rfl) (pe_op op_cat (pv 1) (pe_lst (pa_cons (pe_callB (r := TB.rIsV K) TB.call_isV (by rfl) T.n_isinstance (by decide +kernel) (pa_cons (pv 0) (pa_cons (pe_glob (v := .ref (cl 3)) rfl Z.e_BadOrder.g rfl) pa_nil))) (pa_cons (pe_callB (r := TB.rIsV K) TB.call_isV (by rfl) T.n_isinstance (by decide +kernel) (pa_cons (pv 0) (pa_cons (pe_glob (v := .ref (cl 4)) rfl Z.e_BadPaper.g rfl) pa_nil))) (pa_cons (pe_callB (r := TB.rIsV K) TB.call_isV (by rfl) T.n_isinstance (by decide +kernel) (pa_cons (pv 0) (pa_cons (pe_glob (v := .ref (cl 5)) rfl Z.e_BadSide.g rfl) pa_nil))) pa_nil))))))
 (pss_cons (ps_set (i := 1) sc__law_classes.nd rfl (.inl rfl) (pe_op op_cat (pv 1) (pe_lst (pa_cons (pe_callB (r := TB.rIsV K) TB.call_isV (by rfl) T.n_isinstance (by decide +kernel) (pa_cons (pv 0) (pa_cons (pe_glob (v := .ref (cl 6)) rfl Z.e_BadText.g rfl) pa_nil))) (pa_cons (pe_callB (r := TB.rIsV K) TB.call_isV (by rfl) T.n_isinstance (by decide +kernel) (pa_cons (pv 0) (pa_cons (pe_glob (v := .ref (cl 7)) rfl Z.g_Busy rfl) pa_nil))) (pa_cons (pe_callB (r := TB.rIsV K) TB.call_isV (by rfl) T.n_isinstance (by decide +kernel) (pa_cons (pv 0) (pa_cons (pe_glob (v := .ref (cl 8)) rfl Z.e_NoAxis.g rfl) pa_nil))) pa_nil))))))
 (pss_cons (ps_set (i := 1) sc__law_classes.nd rfl (.inl rfl) (pe_op op_cat (pv 1) (pe_lst (pa_cons (pe_callB (r := TB.rIsV K) TB.call_isV (by rfl) T.n_isinstance (by decide +kernel) (pa_cons (pv 0) (pa_cons (pe_glob (v := .ref (cl 9)) rfl Z.e_NoKind.g rfl) pa_nil))) (pa_cons (pe_callB (r := TB.rIsV K) TB.call_isV (by rfl) T.n_isinstance (by decide +kernel) (pa_cons (pv 0) (pa_cons (pe_glob (v := .ref (cl 10)) rfl Z.e_NoNumber.g rfl) pa_nil))) (pa_cons (pe_callB (r := TB.rIsV K) TB.call_isV (by rfl) T.n_isinstance (by decide +kernel) (pa_cons (pv 0) (pa_cons (pe_glob (v := .ref (cl 11)) rfl Z.e_NoSeam.g rfl) pa_nil))) pa_nil))))))
 (pss_cons (ps_set (i := 1) sc__law_classes.nd rfl (.inl rfl) (pe_op op_cat (pv 1) (pe_lst (pa_cons (pe_callB (r := TB.rIsV K) TB.call_isV (by rfl) T.n_isinstance (by decide +kernel) (pa_cons (pv 0) (pa_cons (pe_glob (v := .ref (cl 12)) rfl Z.e_NotFilled.g rfl) pa_nil))) (pa_cons (pe_callB (r := TB.rIsV K) TB.call_isV (by rfl) T.n_isinstance (by decide +kernel) (pa_cons (pv 0) (pa_cons (pe_glob (v := .ref (cl 13)) rfl Z.g_NothingToUndo rfl) pa_nil))) (pa_cons (pe_callB (r := TB.rIsV K) TB.call_isV (by rfl) T.n_isinstance (by decide +kernel) (pa_cons (pv 0) (pa_cons (pe_glob (v := .ref (cl 14)) rfl Z.e_NoVersion.g rfl) pa_nil))) pa_nil))))))
 (pss_cons (ps_set (i := 1) sc__law_classes.nd rfl (.inl rfl) (pe_op op_cat (pv 1) (pe_lst (pa_cons (pe_callB (r := TB.rIsV K) TB.call_isV (by rfl) T.n_isinstance (by decide +kernel) (pa_cons (pv 0) (pa_cons (pe_glob (v := .ref (cl 15)) rfl Z.e_Rejected.g rfl) pa_nil))) (pa_cons (pe_callB (r := TB.rIsV K) TB.call_isV (by rfl) T.n_isinstance (by decide +kernel) (pa_cons (pv 0) (pa_cons (pe_glob (v := .ref (cl 16)) rfl Z.e_TooLarge.g rfl) pa_nil))) (pa_cons (pe_callB (r := TB.rIsV K) TB.call_isV (by rfl) T.n_isinstance (by decide +kernel) (pa_cons (pv 0) (pa_cons (pe_glob (v := .ref (cl 17)) rfl Z.g_TooManyEdits rfl) pa_nil))) pa_nil))))))
 (pss_one (ps_ret (pe_op TB.op_catN (pv 1) (pe_lst (pa_cons (pe_callB (r := TB.rIsV K) TB.call_isV (by rfl) T.n_isinstance (by decide +kernel) (pa_cons (pv 0) (pa_cons (pe_glob (v := .ref (cl 18)) rfl Z.g_Unfit rfl) pa_nil))) (pa_cons (pe_callB (r := TB.rIsV K) TB.call_isV (by rfl) T.n_isinstance (by decide +kernel) (pa_cons (pv 0) (pa_cons (pe_glob (v := .ref (cl 19)) rfl Z.g_UnlikeAxes rfl) pa_nil))) pa_nil)))))))))))), ?_⟩
  have ev : ∀ {x : Option V} {G : Hp} (j : Nat), j < 20 → Ex H G → EvS (tCB (rIsV K) (tCons (tVar 0) (tCons (tC (.ref (cl j))) tNil))) [some (.ref a), x] G (IsV (.bl (decide (i = j)))) := fun j hj x => es_isv (es_var (R := ErrR (cl i) fs) rfl stb_err ⟨a, rfl, ha.ex x⟩) (Z.exc hi) (Z.kit hi hj)
  have s0 : StbA [IsV (.bl (decide (i = 0))), IsV (.bl (decide (i = 1))), IsV (.bl (decide (i = 2)))] := (stba_cons stb_is (stba_cons stb_is (stba_cons stb_is stba_nil)))
  have s1 : StbA [IsV (.bl (decide (i = 3))), IsV (.bl (decide (i = 4))), IsV (.bl (decide (i = 5)))] := (stba_cons stb_is (stba_cons stb_is (stba_cons stb_is stba_nil)))
  have s2 : StbA [IsV (.bl (decide (i = 6))), IsV (.bl (decide (i = 7))), IsV (.bl (decide (i = 8)))] := (stba_cons stb_is (stba_cons stb_is (stba_cons stb_is stba_nil)))
  have s3 : StbA [IsV (.bl (decide (i = 9))), IsV (.bl (decide (i = 10))), IsV (.bl (decide (i = 11)))] := (stba_cons stb_is (stba_cons stb_is (stba_cons stb_is stba_nil)))
  have s4 : StbA [IsV (.bl (decide (i = 12))), IsV (.bl (decide (i = 13))), IsV (.bl (decide (i = 14)))] := (stba_cons stb_is (stba_cons stb_is (stba_cons stb_is stba_nil)))
  have s5 : StbA [IsV (.bl (decide (i = 15))), IsV (.bl (decide (i = 16))), IsV (.bl (decide (i = 17)))] := (stba_cons stb_is (stba_cons stb_is (stba_cons stb_is stba_nil)))
  have s6 : StbA [IsV (.bl (decide (i = 18))), IsV (.bl (decide (i = 19)))] := (stba_cons stb_is (stba_cons stb_is stba_nil))
  have E0 : EvS _ [some (.ref a), none] H (LstR [IsV (.bl (decide (i = 0))), IsV (.bl (decide (i = 1))), IsV (.bl (decide (i = 2)))]) := es_lst s0 (es_cons stb_is (ev 0 (by decide) ex_refl) (es_cons stb_is (ev 1 (by decide) ex_refl) (es_cons stb_is (ev 2 (by decide) ex_refl) es_nil))) (show 3 ≤ 1000 by decide)
  refine d_asg ?_
  refine E0 H ex_refl _ fun y0 H0 x0 r0 => ?_
  have E1 : EvS _ [some (.ref a), some y0] H0 (LstR ([IsV (.bl (decide (i = 0))), IsV (.bl (decide (i = 1))), IsV (.bl (decide (i = 2)))] ++ [IsV (.bl (decide (i = 3))), IsV (.bl (decide (i = 4))), IsV (.bl (decide (i = 5)))])) := es_cat (ta := tVar 1) s0 s1 (es_var rfl (stb_lst s0) r0) (es_lst s1 (es_cons stb_is (ev 3 (by decide) x0) (es_cons stb_is (ev 4 (by decide) x0) (es_cons stb_is (ev 5 (by decide) x0) es_nil))) (show 3 ≤ 1000 by decide)) (show 3 + 3 ≤ 1000 by decide)
  refine d_asg ?_
  refine E1 H0 ex_refl _ fun y1 H1 z1 r1 => ?_
  have x1 := x0.trans z1
  have E2 : EvS _ [some (.ref a), some y1] H1 (LstR (([IsV (.bl (decide (i = 0))), IsV (.bl (decide (i = 1))), IsV (.bl (decide (i = 2)))] ++ [IsV (.bl (decide (i = 3))), IsV (.bl (decide (i = 4))), IsV (.bl (decide (i = 5)))]) ++ [IsV (.bl (decide (i = 6))), IsV (.bl (decide (i = 7))), IsV (.bl (decide (i = 8)))])) := es_cat (ta := tVar 1) (stba_app s0 s1) s2 (es_var rfl (stb_lst (stba_app s0 s1)) r1) (es_lst s2 (es_cons stb_is (ev 6 (by decide) x1) (es_cons stb_is (ev 7 (by decide) x1) (es_cons stb_is (ev 8 (by decide) x1) es_nil))) (show 3 ≤ 1000 by decide)) (show 6 + 3 ≤ 1000 by decide)
  refine d_asg ?_
  refine E2 H1 ex_refl _ fun y2 H2 z2 r2 => ?_
  have x2 := x1.trans z2
  have E3 : EvS _ [some (.ref a), some y2] H2 (LstR ((([IsV (.bl (decide (i = 0))), IsV (.bl (decide (i = 1))), IsV (.bl (decide (i = 2)))] ++ [IsV (.bl (decide (i = 3))), IsV (.bl (decide (i = 4))), IsV (.bl (decide (i = 5)))]) ++ [IsV (.bl (decide (i = 6))), IsV (.bl (decide (i = 7))), IsV (.bl (decide (i = 8)))]) ++ [IsV (.bl (decide (i = 9))), IsV (.bl (decide (i = 10))), IsV (.bl (decide (i = 11)))])) := es_cat (ta := tVar 1) (stba_app (stba_app s0 s1) s2) s3 (es_var rfl (stb_lst (stba_app (stba_app s0 s1) s2)) r2) (es_lst s3 (es_cons stb_is (ev 9 (by decide) x2) (es_cons stb_is (ev 10 (by decide) x2) (es_cons stb_is (ev 11 (by decide) x2) es_nil))) (show 3 ≤ 1000 by decide)) (show 9 + 3 ≤ 1000 by decide)
  refine d_asg ?_
  refine E3 H2 ex_refl _ fun y3 H3 z3 r3 => ?_
  have x3 := x2.trans z3
  have E4 : EvS _ [some (.ref a), some y3] H3 (LstR (((([IsV (.bl (decide (i = 0))), IsV (.bl (decide (i = 1))), IsV (.bl (decide (i = 2)))] ++ [IsV (.bl (decide (i = 3))), IsV (.bl (decide (i = 4))), IsV (.bl (decide (i = 5)))]) ++ [IsV (.bl (decide (i = 6))), IsV (.bl (decide (i = 7))), IsV (.bl (decide (i = 8)))]) ++ [IsV (.bl (decide (i = 9))), IsV (.bl (decide (i = 10))), IsV (.bl (decide (i = 11)))]) ++ [IsV (.bl (decide (i = 12))), IsV (.bl (decide (i = 13))), IsV (.bl (decide (i = 14)))])) := es_cat (ta := tVar 1) (stba_app (stba_app (stba_app s0 s1) s2) s3) s4 (es_var rfl (stb_lst (stba_app (stba_app (stba_app s0 s1) s2) s3)) r3) (es_lst s4 (es_cons stb_is (ev 12 (by decide) x3) (es_cons stb_is (ev 13 (by decide) x3) (es_cons stb_is (ev 14 (by decide) x3) es_nil))) (show 3 ≤ 1000 by decide)) (show 12 + 3 ≤ 1000 by decide)
  refine d_asg ?_
  refine E4 H3 ex_refl _ fun y4 H4 z4 r4 => ?_
  have x4 := x3.trans z4
  have E5 : EvS _ [some (.ref a), some y4] H4 (LstR ((((([IsV (.bl (decide (i = 0))), IsV (.bl (decide (i = 1))), IsV (.bl (decide (i = 2)))] ++ [IsV (.bl (decide (i = 3))), IsV (.bl (decide (i = 4))), IsV (.bl (decide (i = 5)))]) ++ [IsV (.bl (decide (i = 6))), IsV (.bl (decide (i = 7))), IsV (.bl (decide (i = 8)))]) ++ [IsV (.bl (decide (i = 9))), IsV (.bl (decide (i = 10))), IsV (.bl (decide (i = 11)))]) ++ [IsV (.bl (decide (i = 12))), IsV (.bl (decide (i = 13))), IsV (.bl (decide (i = 14)))]) ++ [IsV (.bl (decide (i = 15))), IsV (.bl (decide (i = 16))), IsV (.bl (decide (i = 17)))])) := es_cat (ta := tVar 1) (stba_app (stba_app (stba_app (stba_app s0 s1) s2) s3) s4) s5 (es_var rfl (stb_lst (stba_app (stba_app (stba_app (stba_app s0 s1) s2) s3) s4)) r4) (es_lst s5 (es_cons stb_is (ev 15 (by decide) x4) (es_cons stb_is (ev 16 (by decide) x4) (es_cons stb_is (ev 17 (by decide) x4) es_nil))) (show 3 ≤ 1000 by decide)) (show 15 + 3 ≤ 1000 by decide)
  refine d_asg ?_
  refine E5 H4 ex_refl _ fun y5 H5 z5 r5 => ?_
  have x5 := x4.trans z5
  have E6 : EvSF _ [some (.ref a), some y5] H5 (((((([IsV (.bl (decide (i = 0))), IsV (.bl (decide (i = 1))), IsV (.bl (decide (i = 2)))] ++ [IsV (.bl (decide (i = 3))), IsV (.bl (decide (i = 4))), IsV (.bl (decide (i = 5)))]) ++ [IsV (.bl (decide (i = 6))), IsV (.bl (decide (i = 7))), IsV (.bl (decide (i = 8)))]) ++ [IsV (.bl (decide (i = 9))), IsV (.bl (decide (i = 10))), IsV (.bl (decide (i = 11)))]) ++ [IsV (.bl (decide (i = 12))), IsV (.bl (decide (i = 13))), IsV (.bl (decide (i = 14)))]) ++ [IsV (.bl (decide (i = 15))), IsV (.bl (decide (i = 16))), IsV (.bl (decide (i = 17)))]) ++ [IsV (.bl (decide (i = 18))), IsV (.bl (decide (i = 19)))]) := es_catN (ta := tVar 1) (stba_app (stba_app (stba_app (stba_app (stba_app s0 s1) s2) s3) s4) s5) s6 (es_var rfl (stb_lst (stba_app (stba_app (stba_app (stba_app (stba_app s0 s1) s2) s3) s4) s5)) r5) (es_lst s6 (es_cons stb_is (ev 18 (by decide) x5) (es_cons stb_is (ev 19 (by decide) x5) es_nil)) (show 2 ≤ 1000 by decide)) (show 18 + 2 ≤ 1000 by decide)
  refine d_ret ?_
  refine E6 H5 ex_refl _ fun p es H6 x6 hp _ hl a6 => ?_
  have e : es = (List.range 20).map fun j => .bl (decide (i = j)) := all_is (us := (List.range 20).map fun j => .bl (decide (i = j))) a6
  rw [e] at hl
  exact k p H6 (x5.trans x6) (none_of' x5 hp) hl
/-! ### the fields of errors made by name -/
def spFld : Sp := fun vs H Q _ => ∃ v u, vs = [v, u] ∧ ∀ p H', Ex H H' → H p = none → p ≠ sysModules → H' p = some (.lst (List.replicate 14 v)) → Q (.ref p) H'
theorem ok__law_fields (T : Txt mg) {f : Addr} {fd : FuncData} (F : Fun K "_law_fields" "_law_fields" s__law_fields f fd) (Z : Ctx P w K mg base CB cl) : FnOk P w K mg base CX0 3 f fd p__law_fields spFld := by
  refine F.ok sc__law_fields (fun vs H Q E h => ?_) (fun cdv A outer s H vs Q E hr h => ?_)
  · obtain ⟨v, u, rfl, _⟩ := h
    rfl
  obtain ⟨v, u, rfl, k⟩ := h
  refine ⟨_, (pss_cons (ps_set (i := 2) sc__law_fields.nd rfl (.inl rfl) (pe_lst (pa_cons (TB.pe_gf (Z.xc 1 (by decide)).xf Z.no_BadBox_error (TB.pe_mkK Z.e_BadBox (hr.mono (by decide)) (by rfl) (pk_cons (pv 0) pk_nil))) (pa_cons (TB.pe_gf (Z.xc 2 (by decide)).xf Z.no_BadKinds_error (TB.pe_mkK Z.e_BadKinds (hr.mono (by decide)) (by rfl) (pk_cons (pv 0) pk_nil))) (pa_cons (TB.pe_gf (Z.xc 3 (by decide)).xf Z.no_BadOrder_given (TB.pe_mkK Z.e_BadOrder (hr.mono (by decide)) (by rfl) (pk_cons (pv 0) pk_nil))) (pa_cons (TB.pe_gf (Z.xc 4 (by decide)).xf Z.no_BadPaper_given (TB.pe_mkK Z.e_BadPaper (hr.mono (by decide)) (by rfl) (pk_cons (pv 0) pk_nil))) pa_nil))))))
 (pss_cons (ps_set (i := 2) sc__law_fields.nd rfl (.inl rfl) (pe_op op_cat (pv 2) (pe_lst (pa_cons (TB.pe_gf (Z.xc 5 (by decide)).xf Z.no_BadSide_given (TB.pe_mkK Z.e_BadSide (hr.mono (by decide)) (by rfl) (pk_cons (pv 0) pk_nil))) (pa_cons (TB.pe_gf (Z.xc 6 (by decide)).xf Z.no_BadText_place (TB.pe_mkK Z.e_BadText (hr.mono (by decide)) (by rfl) (pk_cons (pv 0) pk_nil))) (pa_cons (TB.pe_gf (Z.xc 8 (by decide)).xf Z.no_NoAxis_given (TB.pe_mkK Z.e_NoAxis (hr.mono (by decide)) (by rfl) (pk_cons (pv 0) pk_nil))) (pa_cons (TB.pe_gf (Z.xc 9 (by decide)).xf Z.no_NoKind_given (TB.pe_mkK Z.e_NoKind (hr.mono (by decide)) (by rfl) (pk_cons (pv 0) pk_nil))) pa_nil)))))))
 (pss_cons (ps_set (i := 2) sc__law_fields.nd rfl (.inl rfl) (pe_op op_cat (pv 2) (pe_lst (pa_cons (TB.pe_gf (Z.xc 10 (by decide)).xf Z.no_NoNumber_number (TB.pe_mkK Z.e_NoNumber (hr.mono (by decide)) (by rfl) (pk_cons (pv 0) pk_nil))) (pa_cons (TB.pe_gf (Z.xc 11 (by decide)).xf Z.no_NoSeam_axis (TB.pe_mkK2 Z.e_NoSeam (hr.mono (by decide)) (by rfl) (pk_cons (pv 1) (pk_cons (pv 0) pk_nil)))) (pa_cons (TB.pe_gf (Z.xc 12 (by decide)).xf Z.no_NotFilled_reason (TB.pe_mkK Z.e_NotFilled (hr.mono (by decide)) (by rfl) (pk_cons (pv 0) pk_nil))) pa_nil))))))
 (pss_one (ps_ret (pe_op TB.op_catN (pv 2) (pe_lst (pa_cons (TB.pe_gf (Z.xc 14 (by decide)).xf Z.no_NoVersion_given (TB.pe_mkK Z.e_NoVersion (hr.mono (by decide)) (by rfl) (pk_cons (pv 0) pk_nil))) (pa_cons (TB.pe_gf (Z.xc 15 (by decide)).xf Z.no_Rejected_index (TB.pe_mkK Z.e_Rejected (hr.mono (by decide)) (by rfl) (pk_cons (pv 0) pk_nil))) (pa_cons (TB.pe_gf (Z.xc 16 (by decide)).xf Z.no_TooLarge_axis (TB.pe_mkK Z.e_TooLarge (hr.mono (by decide)) (by rfl) (pk_cons (pv 0) pk_nil))) pa_nil)))))))))), ?_⟩
  have st : ∀ n : Nat, StbA (List.replicate n (IsV v)) := fun n R hR => by rw [(List.mem_replicate.mp hR).2]; exact stb_is
  have E0 : EvS _ [some v, some u, none] H (LstR (List.replicate 4 (IsV v))) := es_lst (st 4) (es_cons stb_is (es_gf (C := cl 1) (n := "error") (es_mk1 (f := "error") (i := 0) rfl) rfl) (es_cons stb_is (es_gf (C := cl 2) (n := "error") (es_mk1 (f := "error") (i := 0) rfl) rfl) (es_cons stb_is (es_gf (C := cl 3) (n := "given") (es_mk1 (f := "given") (i := 0) rfl) rfl) (es_cons stb_is (es_gf (C := cl 4) (n := "given") (es_mk1 (f := "given") (i := 0) rfl) rfl) es_nil)))) (show 4 ≤ 1000 by decide)
  refine d_asg ?_
  refine E0 H ex_refl _ fun y0 H0 x0 r0 => ?_
  have E1 : EvS _ [some v, some u, some y0] H0 (LstR (List.replicate 4 (IsV v) ++ List.replicate 4 (IsV v))) := es_cat (ta := tVar 2) (st 4) (st 4) (es_var rfl (stb_lst (st 4)) r0) (es_lst (st 4) (es_cons stb_is (es_gf (C := cl 5) (n := "given") (es_mk1 (f := "given") (i := 0) rfl) rfl) (es_cons stb_is (es_gf (C := cl 6) (n := "place") (es_mk1 (f := "place") (i := 0) rfl) rfl) (es_cons stb_is (es_gf (C := cl 8) (n := "given") (es_mk1 (f := "given") (i := 0) rfl) rfl) (es_cons stb_is (es_gf (C := cl 9) (n := "given") (es_mk1 (f := "given") (i := 0) rfl) rfl) es_nil)))) (show 4 ≤ 1000 by decide)) (show 4 + 4 ≤ 1000 by decide)
  refine d_asg ?_
  refine E1 H0 ex_refl _ fun y1 H1 z1 r1 => ?_
  have x1 := x0.trans z1
  have E2 : EvS _ [some v, some u, some y1] H1 (LstR (List.replicate 8 (IsV v) ++ List.replicate 3 (IsV v))) := es_cat (ta := tVar 2) (st 8) (st 3) (es_var rfl (stb_lst (st 8)) r1) (es_lst (st 3) (es_cons stb_is (es_gf (C := cl 10) (n := "number") (es_mk1 (f := "number") (i := 0) rfl) rfl) (es_cons stb_is (es_gf (C := cl 11) (n := "axis") (es_mkB (f := "axis") (g := "at") (i := 0) (j := 1) rfl rfl) rfl) (es_cons stb_is (es_gf (C := cl 12) (n := "reason") (es_mk1 (f := "reason") (i := 0) rfl) rfl) es_nil))) (show 3 ≤ 1000 by decide)) (show 8 + 3 ≤ 1000 by decide)
  refine d_asg ?_
  refine E2 H1 ex_refl _ fun y2 H2 z2 r2 => ?_
  have x2 := x1.trans z2
  have E3 : EvSF _ [some v, some u, some y2] H2 (List.replicate 11 (IsV v) ++ List.replicate 3 (IsV v)) := es_catN (ta := tVar 2) (st 11) (st 3) (es_var rfl (stb_lst (st 11)) r2) (es_lst (st 3) (es_cons stb_is (es_gf (C := cl 14) (n := "given") (es_mk1 (f := "given") (i := 0) rfl) rfl) (es_cons stb_is (es_gf (C := cl 15) (n := "index") (es_mk1 (f := "index") (i := 0) rfl) rfl) (es_cons stb_is (es_gf (C := cl 16) (n := "axis") (es_mk1 (f := "axis") (i := 0) rfl) rfl) es_nil))) (show 3 ≤ 1000 by decide)) (show 11 + 3 ≤ 1000 by decide)
  refine d_ret ?_
  refine E3 H2 ex_refl _ fun p es H3 x3 hp hsm hl a => ?_
  have e : es = List.replicate 14 v := all_is (us := List.replicate 14 v) a
  rw [e] at hl
  exact k p H3 (x2.trans x3) (none_of' x2 hp) hsm hl
end
end K01
set_option Elab.async false
set_option linter.all false
set_option maxRecDepth 100000
namespace K01
open PySem PySem.Spec PyProof.Rows L2 Evl TB DL
section
variable {P : Program} {w : World} {K : PySem.W.Frag} {mg : Str → Option Value} {base : Heap} {CB : Addr} {cl : Nat → Addr}
def spLaw (K : PySem.W.Frag) : Sp := fun vs H Q _ => ∃ (a : Addr) (ns : List Int), vs = [.ref a] ∧ SqL K H a (ns.map V.int) ∧ ns.length ≤ 63 ∧ ∀ H', Q (.bl true) H'
theorem filter_yes {α : Type} (l : List α) : l.filter (fun _ => true) = l := List.filter_eq_self.mpr fun _ _ => rfl
theorem et_yes {W : Wd} {H0 : Hp} {ρ : List (Option Sl)} : EvT W H0 tYes ρ (· = true) := fun τ l σ H S Q k => k true H S rfl
theorem d_par {i j : Nat} {ta : TA} {ts : TS} {D : Ends} {σ : L2.St} {H : Hp} (h : ta σ H fun vs H1 => ∃ v w, vs = [v, w] ∧ ts D ((σ.set i (some v)).set j (some w)) H1) : tSeq (tPar i j ta) ts D σ H := h
theorem errM_of {d g l a C : Addr} {fs : List (Str × V)} {H : Hp} (D : Deck H d g l) (h : ErrAt C fs H a) : ErrM (fun a => a = d ∨ a = g ∨ a = l) C fs H a := by
  obtain ⟨gs, ls, c, q1, q2, q3, _⟩ := D
  have no : ∀ {b : Addr} {φ : Heap → Prop}, H b = some (.ext φ) → ¬ (b = d ∨ b = g ∨ b = l) := fun hb z => by
    rcases z with rfl | rfl | rfl
    · rw [hb] at q1; cases q1
    · rw [hb] at q2; cases q2
    · rw [hb] at q3; cases q3
  rcases h with ⟨h1, h2⟩ | ⟨dx, h1, h2⟩
  · exact ⟨no h2, .inl ⟨h1, h2⟩⟩
  · exact ⟨no h1, .inr ⟨dx, no h2, h1, h2⟩⟩
def bools (i : Nat) : List PyData := (List.range 20).map fun j => .bool (decide (i = j))
theorem shaped_bools {l : List Nat} {f : Nat → Bool} : SeqAt.shaped (.list (l.map fun j => PyData.bool (f j))) = true := by
  have h1 : PyData.canLayAll0 (l.map fun j => PyData.bool (f j)) = true := by
    induction l with
    | nil => rfl
    | cons n ns ih => rw [List.map_cons, PyData.canLayAll0, ih]; rfl
  have h2 : PyData.depthAll (l.map fun j => PyData.bool (f j)) = 0 := by
    clear h1
    induction l with
    | nil => rfl
    | cons n ns ih => rw [List.map_cons, PyData.depthAll, ih]; rfl
  unfold SeqAt.shaped
  rw [PyData.canLay0, h1, PyData.depth, h2]; rfl
theorem rg_bools {N : Addr → Prop} {H : Hp} {f : Nat → Bool} : ∀ l : List Nat, RgAll N H (l.map fun j => V.bl (f j)) (l.map fun j => PyData.bool (f j))
  | [] => .nil
  | _ :: l => .cons (.bl _) (rg_bools l)
theorem rg_rep {N : Addr → Prop} {H : Hp} {v : V} {e : PyData} (r : Rg N H v e) : ∀ n, RgAll N H (List.replicate n v) (List.replicate n e)
  | 0 => .nil
  | n + 1 => .cons r (rg_rep r n)
theorem ok_rep {e : PyData} (h : okD e = true) (n : Nat) : hasLs (List.replicate n e) = false ∨ PyData.hasDictAll (List.replicate n e) = false := by
  unfold okD at h
  have a : e.hasDict = false → PyData.hasDictAll (List.replicate n e) = false := fun h => by
    induction n with
    | zero => rfl
    | succ n ih => rw [List.replicate_succ, PyData.hasDictAll, h, ih]; rfl
  have b : hasL e = false → hasLs (List.replicate n e) = false := fun h => by
    clear a
    induction n with
    | zero => rfl
    | succ n ih => rw [List.replicate_succ, hasLs, h, ih]; rfl
  cases hd : e.hasDict with
  | false => exact .inr (a hd)
  | true =>
    rw [hd] at h
    exact .inl (b (by simpa using h))
theorem fit_rep {e : PyData} (h : Fit 100 3 e) {n : Nat} (hn : n ≤ 20) : Fit 1000000 50 (.list (List.replicate n e)) := (Fit.list (n := 100) (k := 3) fun d hd => by rw [(List.mem_replicate.mp hd).2]; exact h).mono (by rw [List.length_replicate]; omega) (by decide)
section
variable {W : Wd} {H0 : Hp} {ρ : List (Option Sl)} {te ta tb : TE}
theorem ev_cls {i : Nat} {a : Addr} {fs : List (Str × V)} (hi : i < 20) (h : EvX W H0 te ρ (.ref a)) (he : ErrM W.N (cl i) fs H0 a) : EvP W H0 (tCall (spCls cl) [] E0 (tCons te tNil)) ρ (· = .list (bools i)) := fun τ l σ H S Q k =>
  h τ l σ H S _ fun H1 S1 => ⟨a, i, fs, rfl, hi, (he.st S1).at, fun p H2 x hp hl => by
    obtain ⟨N, n3, n5, n4, q⟩ := S1.ext
    refine k _ (.list (bools i)) H2 (q _ _ x fun p' hp' => ?_) rfl
    rcases List.mem_cons.mp hp' with rfl | hp'
    · exact .lst hl (n3.new hp) (rg_bools _)
    · exact (n5 _ hp').ex x⟩
theorem ev_fld {i j : Nat} {one two : PyData} (hi : ρ[i]? = some (some (.dat one))) (hj : ρ[j]? = some (some (.dat two))) : EvN W H0 (tCall spFld [] E0 (tCons (tVar i) (tCons (tVar j) tNil))) ρ (· = List.replicate 14 one) := fun τ l σ H S Q k => by
  obtain ⟨v, h4, S1⟩ := S.dat hi
  obtain ⟨u, h5, S2⟩ := S1.dat hj
  refine ⟨v, h4, u, h5, v, u, rfl, fun p H2 x hp hsm hl => ?_⟩
  obtain ⟨N, n3, n5, n4, q⟩ := S2.ext
  refine k p (List.replicate 14 one) H2 hsm (q _ _ x fun p' hp' => ?_) rfl
  rcases List.mem_cons.mp hp' with rfl | hp'
  · exact .lst hl (n3.new hp) (rg_rep ((n5 (v, one) (List.mem_cons_of_mem _ List.mem_cons_self)).ex x) 14)
  · exact (n5 _ (List.mem_cons_of_mem _ (List.mem_cons_of_mem _ hp'))).ex x
theorem ev_gfB {C : Addr} {i j : Nat} {one two : PyData} (hi : ρ[i]? = some (some (.dat one))) (hj : ρ[j]? = some (some (.dat two))) : EvP W H0 (tGf C "at" (tMkV2 C "axis" "at" (tCons (tVar j) (tCons (tVar i) tNil)))) ρ (· = two) := fun τ l σ H S Q k => by
  obtain ⟨v, h4, S1⟩ := S.dat hi
  obtain ⟨u, h5, S2⟩ := S1.dat hj
  refine ⟨u, h5, v, h4, u, v, rfl, fun a H2 hn x he => ?_⟩
  refine ⟨a, [("at", u), ("axis", v)], u, rfl, he, rfl, ?_⟩
  obtain ⟨N, n3, n5, n4, q⟩ := S2.ext
  refine k u two H2 (q _ _ x fun p' hp' => ?_) rfl
  rcases List.mem_cons.mp hp' with rfl | hp'
  · exact (n5 (u, two) List.mem_cons_self).ex x
  · exact (n5 _ (List.mem_cons_of_mem _ (List.mem_cons_of_mem _ hp'))).ex x
end
def consts : List PyData := [.int 4, .int 1000000000000, .int 4, .int 400, .int 20, .int 1000, .int 30, .int 20]
set_option maxHeartbeats 4000000 in
theorem ok_law (T : Txt mg) {f : Addr} {fd : FuncData} (F : Fun K "law" "law" s_law f fd) (Z : Ctx P w K mg base CB cl)
    (h__law_deck : Keeps P w K mg base 1 "_law_deck" p__law_deck (spDeck K)) (h__law_odd : Keeps P w K mg base 3 "_law_odd" p__law_odd (SpW nonA oddF)) (h__law_made : Keeps P w K mg base 3 "_law_made" p__law_made (spMade cl))
    (h__law_classes : Keeps P w K mg base 1 "_law_classes" p__law_classes (spCls cl)) (h__law_fields : Keeps P w K mg base 3 "_law_fields" p__law_fields spFld) : AtTop P w K mg base f fd "_law_script" (spLaw K) := by
  refine atTop_of F sc_law ⟨rfl, by decide, by decide⟩ (k := 8) (fun cdv s H v Q E hr h => ?_)
  obtain ⟨a, ns, ⟨⟩, hS, hn, k⟩ := h
  refine ⟨_, (pss_cons (ps_set (i := 1) sc_law.nd rfl (.inl rfl) (TB.pe_own h__law_deck (hr.mono (by decide)) (by rfl) (pa_cons (pv 0) pa_nil)))
 (pss_cons (ps_set (i := 2) sc_law.nd rfl (.inl rfl) (pe_lst (pa_cons (TB.pe_con (by rfl) T.c_MAX_DIMS) (pa_cons (TB.pe_con (by rfl) T.c_MAX_SIDE) (pa_cons (TB.pe_con (by rfl) T.c_MAX_KINDS) (pa_cons (TB.pe_con (by rfl) T.c_MAX_CELLS) (pa_cons (TB.pe_con (by rfl) T.c_MAX_FEW) (pa_cons (TB.pe_con (by rfl) T.c_MAX_ROWS) (pa_cons (TB.pe_con (by rfl) T.c_HISTORY) (pa_cons (TB.pe_con (by rfl) T.c_BATCH) pa_nil))))))))))
 (pss_cons (ps_if (pt_cmpR op_ne (pe_callB (DL.call_reprD rfl hr.units) (by rfl) T.n_repr (by decide +kernel) (pa_cons (pv 2) pa_nil)) (pe_callB (DL.call_reprD rfl hr.units) (by rfl) T.n_repr (by decide +kernel) (pa_cons (pe_lst (pa_cons pe_int (pa_cons (pe_op op_pow pe_int pe_int) (pa_cons pe_int (pa_cons pe_int (pa_cons pe_int (pa_cons pe_int (pa_cons pe_int (pa_cons pe_int pa_nil))))))))) pa_nil)) (nomark _))
 (pss_one (ps_ret pe_bl)) pss_nil)
 (pss_cons (ps_for PassesOwn.never rfl (pi_range1 (by rfl) T.n_range (pa_cons pe_int pa_nil)) (pg_name (i := 3) sc_law.nd rfl (.inl rfl))
 (pss_cons (ps_par (i := 4) (j := 5) (by rfl) sc_law.nd rfl rfl (by decide) rfl rfl (pa_cons (TB.pe_own h__law_odd (hr.mono (by decide)) (by rfl) (pa_cons (pv 1) pa_nil)) (pa_cons (TB.pe_own h__law_odd (hr.mono (by decide)) (by rfl) (pa_cons (pv 1) pa_nil)) pa_nil)) (by rfl))
 (pss_cons (ps_set (i := 6) sc_law.nd rfl (.inl rfl) (TB.pe_own h__law_made (hr.mono (by decide)) (by rfl) (pa_cons (pv 4) (pa_cons (pv 5) pa_nil))))
 (pss_cons (ps_for PassesOwn.never rfl (pi_range1 (by rfl) T.n_range (pa_cons pe_int pa_nil)) (pg_name (i := 7) sc_law.nd rfl (.inr rfl))
 (pss_cons (ps_if (pt_cmpR (op_neD hr.units) (TB.pe_own h__law_classes (hr.mono (by decide)) (by rfl) (pa_cons (pe_ix ix_list (pv 6) (pv 7) (fun _ _ => rfl)) pa_nil)) (pe_lc (own := [("_law_own", 9)]) (g := gName 9) rfl sc_law.nd (pi_range1 (by rfl) T.n_range (pa_cons pe_int pa_nil)) (blkOk_by (N := n_law) (sc := defScope s_law) (by decide +kernel)) (fun _ _ _ _ _ => pg_name (i := 9) sc_law.nd rfl (.inl rfl)) (fun _ _ _ _ _ => pts_nil) (fun _ _ _ _ _ => (pe_cmpR op_eq (pv 7) (pv 9) (nomark _)))) (nomark _))
 (pss_one (ps_ret pe_bl)) pss_nil)
 (pss_one (ps_if (PW.pt (pw_or (pt_not (pt_val (pe_callB (r := TB.rIsV K) TB.call_isV (by rfl) T.n_isinstance (by decide +kernel) (pa_cons (pe_ix ix_list (pv 6) (pv 7) (fun _ _ => rfl)) (pa_cons (pe_glob (v := .ref CB) rfl Z.gB rfl) pa_nil))))) (pw_or1 (pt_not (pt_val (pe_callB (r := TB.rIsV K) TB.call_isV (by rfl) T.n_isinstance (by decide +kernel) (pa_cons (pe_ix ix_list (pv 6) (pv 7) (fun _ _ => rfl)) (pa_cons (pe_bltn (v := .ty "ValueError") (u := .type "ValueError") (by rfl) T.n_ValueError (by decide +kernel) rfl) pa_nil))))))))
 (pss_one (ps_ret pe_bl)) pss_nil))))
 (pss_cons (ps_set (i := 8) sc_law.nd rfl (.inl rfl) (pe_lst (pa_cons (TB.pe_gf (Z.xc 1 (by decide)).xf Z.no_BadBox_error (pe_ix ix_list (pv 6) pe_int (fun _ _ => rfl))) (pa_cons (TB.pe_gf (Z.xc 2 (by decide)).xf Z.no_BadKinds_error (pe_ix ix_list (pv 6) pe_int (fun _ _ => rfl))) (pa_cons (TB.pe_gf (Z.xc 3 (by decide)).xf Z.no_BadOrder_given (pe_ix ix_list (pv 6) pe_int (fun _ _ => rfl))) (pa_cons (TB.pe_gf (Z.xc 4 (by decide)).xf Z.no_BadPaper_given (pe_ix ix_list (pv 6) pe_int (fun _ _ => rfl))) (pa_cons (TB.pe_gf (Z.xc 5 (by decide)).xf Z.no_BadSide_given (pe_ix ix_list (pv 6) pe_int (fun _ _ => rfl))) (pa_cons (TB.pe_gf (Z.xc 6 (by decide)).xf Z.no_BadText_place (pe_ix ix_list (pv 6) pe_int (fun _ _ => rfl))) pa_nil))))))))
 (pss_cons (ps_set (i := 8) sc_law.nd rfl (.inl rfl) (pe_op op_cat (pv 8) (pe_lst (pa_cons (TB.pe_gf (Z.xc 8 (by decide)).xf Z.no_NoAxis_given (pe_ix ix_list (pv 6) pe_int (fun _ _ => rfl))) (pa_cons (TB.pe_gf (Z.xc 9 (by decide)).xf Z.no_NoKind_given (pe_ix ix_list (pv 6) pe_int (fun _ _ => rfl))) (pa_cons (TB.pe_gf (Z.xc 10 (by decide)).xf Z.no_NoNumber_number (pe_ix ix_list (pv 6) pe_int (fun _ _ => rfl))) (pa_cons (TB.pe_gf (Z.xc 11 (by decide)).xf Z.no_NoSeam_axis (pe_ix ix_list (pv 6) pe_int (fun _ _ => rfl))) (pa_cons (TB.pe_gf (Z.xc 12 (by decide)).xf Z.no_NotFilled_reason (pe_ix ix_list (pv 6) pe_int (fun _ _ => rfl))) pa_nil))))))))
 (pss_cons (ps_set (i := 8) sc_law.nd rfl (.inl rfl) (pe_op TB.op_catN (pv 8) (pe_lst (pa_cons (TB.pe_gf (Z.xc 14 (by decide)).xf Z.no_NoVersion_given (pe_ix ix_list (pv 6) pe_int (fun _ _ => rfl))) (pa_cons (TB.pe_gf (Z.xc 15 (by decide)).xf Z.no_Rejected_index (pe_ix ix_list (pv 6) pe_int (fun _ _ => rfl))) (pa_cons (TB.pe_gf (Z.xc 16 (by decide)).xf Z.no_TooLarge_axis (pe_ix ix_list (pv 6) pe_int (fun _ _ => rfl))) pa_nil))))))
 (pss_cons (ps_if (PW.pt (pw_or (pt_cmpR op_ne (pe_callB (DL.call_reprN rfl hr.units) (by rfl) T.n_repr (by decide +kernel) (pa_cons (pv 8) pa_nil)) (pe_callB (DL.call_reprN rfl hr.units) (by rfl) T.n_repr (by decide +kernel) (pa_cons (pe_op TB.op_repN (pe_lst (pa_cons (pv 4) pa_nil)) pe_int) pa_nil)) (nomark _)) (pw_or1 (pt_cmpR op_ne (pe_callB (DL.call_reprN rfl hr.units) (by rfl) T.n_repr (by decide +kernel) (pa_cons (TB.pe_own h__law_fields (hr.mono (by decide)) (by rfl) (pa_cons (pv 4) (pa_cons (pv 5) pa_nil))) pa_nil)) (pe_callB (DL.call_reprN rfl hr.units) (by rfl) T.n_repr (by decide +kernel) (pa_cons (pe_op TB.op_repN (pe_lst (pa_cons (pv 4) pa_nil)) pe_int) pa_nil)) (nomark _)))))
 (pss_one (ps_ret pe_bl)) pss_nil)
 (pss_one (ps_if (pt_cmpR op_ne (pe_callB (DL.call_reprN rfl hr.units) (by rfl) T.n_repr (by decide +kernel) (pa_cons (TB.pe_lstN (pa_cons (TB.pe_gf (Z.xc 11 (by decide)).xf Z.no_NoSeam_at (pe_ix ix_list (pv 6) pe_int (fun _ _ => rfl))) (pa_cons (TB.pe_gf (Z.xc 11 (by decide)).xf Z.no_NoSeam_at (TB.pe_mkK2 Z.e_NoSeam (hr.mono (by decide)) (by rfl) (pk_cons (pv 5) (pk_cons (pv 4) pk_nil)))) pa_nil))) pa_nil)) (pe_callB (DL.call_reprN rfl hr.units) (by rfl) T.n_repr (by decide +kernel) (pa_cons (TB.pe_lstN (pa_cons (pv 5) (pa_cons (pv 5) pa_nil))) pa_nil)) (nomark _))
 (pss_one (ps_ret pe_bl)) pss_nil))))))))))
 (pss_one (ps_ret pe_bl)))))), ?_⟩
  refine ⟨_, rfl, a, ns, rfl, hS, hn, fun d g l H1 e1 hd hg D1 => ?_⟩
  have S0 : St (WL d g l H1) H1 [none, some (.raw (.ref d)), none, none, none, none, none, none, none, none] [] [] [some (.ref a), some (.ref d), none, none, none, none, none, none, none, none] H1 :=
    St.deck0 D1 rfl fun i s h => by
      match i, h with
      | 0, h => cases h
      | 1, h => cases h; exact ⟨_, rfl, rfl⟩
      | 2, h => cases h
      | 3, h => cases h
      | 4, h => cases h
      | 5, h => cases h
      | 6, h => cases h
      | 7, h => cases h
      | 8, h => cases h
      | 9, h => cases h
      | i + 10, h => simp at h
  have EC : EvP (WL d g l H1) H1 _ S0.rho (· = .list consts) := ev_lst' (ds := consts) (eva_more (ev_int (i := 4)) (eva_more (ev_int (i := 1000000000000)) (eva_more (ev_int (i := 4)) (eva_more (ev_int (i := 400)) (eva_more (ev_int (i := 20)) (eva_more (ev_int (i := 1000)) (eva_more (ev_int (i := 30)) (eva_one (ev_int (i := 20)))))))))) (show 8 ≤ 100000 by decide)
  refine g_name ?_
  refine d_nx ?_
  refine d_asg ?_
  refine EC [] [] _ H1 S0 _ fun x e H2 S1' p => ?_
  subst p
  have S1 : St (WL d g l H1) H1 [none, some (.raw (.ref d)), some (.dat (.list consts)), none, none, none, none, none, none, none] [] [] _ H2 := S1'.set (i := 2)
  clear S1' EC S0
  have gc : Gd 200 1 (.list consts) := gd_of (ds := [.list consts]) (by decide +kernel) List.mem_cons_self
  have ED : EvP (WL d g l H1) H1 _ S1.rho (· = .list consts) := ev_lst' (ds := consts) (eva_more (ev_int (i := 4)) (eva_more ((ev_pow (i := 10) (j := 12) ⟨by decide, by decide, by decide +kernel⟩).imp fun e h => show e = .int 1000000000000 from h) (eva_more (ev_int (i := 4)) (eva_more (ev_int (i := 400)) (eva_more (ev_int (i := 20)) (eva_more (ev_int (i := 1000)) (eva_more (ev_int (i := 30)) (eva_one (ev_int (i := 20)))))))))) (show 8 ≤ 100000 by decide)
  have T0 : EvT (WL d g l H1) H1 _ S1.rho (· = !decide ((PyData.list consts).shown = (PyData.list consts).shown)) := et_of (ev_op' (ev_repr (ev_dat (i := 2) rfl) gc (by decide) (by decide)) (ev_repr ED gc (by decide) (by decide)) opd_neS)
  rw [decide_eq_true rfl] at T0
  refine d_if ?_
  refine T0 [] [] _ H2 S1 _ fun b H3 S2 hb => ?_
  subst hb
  refine (if_neg Bool.false_ne_true).mpr ?_
  refine d_next ?_
  refine d_seq ?_
  have SL : St (WL d g l H1) H1 [none, some (.raw (.ref d)), none, none, none, none, none, none, none, none] [] [] _ H3 := S2.less rfl fun i s h => by
    match i, h with
    | 0, h => cases h
    | 1, h => exact h
    | 2, h => cases h
    | 3, h => cases h
    | 4, h => cases h
    | 5, h => cases h
    | 6, h => cases h
    | 7, h => cases h
    | 8, h => cases h
    | 9, h => cases h
    | i + 10, h => simp at h
  clear T0 ED S1 S2
  refine ⟨6, rfl, by decide, by decide, for_range (lo := 0) (n := 6) (fun i σ H' => ∃ G, St (WL d g l H1) G [none, some (.raw (.ref d)), none, none, none, none, none, none, none, none] [] [] σ H') ⟨H1, SL⟩ (fun i σ H2 hi Sa => ?_) (fun σ H' _ => k _)⟩
  obtain ⟨G0, Sa⟩ := Sa
  refine g_name ?_
  have S := Sa.clr (i := 3) (o := some (.int (0 + (i : Int))))
  -- one, two
  have EO : EvA (WL d g l H1) G0 _ S.rho (fun es => ∃ o t : PyData, es = [o, t] ∧ Gd 100 3 o ∧ Gd 100 3 t) := eva_cons (PA := fun es => ∃ t : PyData, es = [t] ∧ Gd 100 3 t) (ev_callW (A := nonA) (F := oddF) (i := 1) rfl eva_nil fun es h => h)
    (eva_cons (ev_callW (A := nonA) (F := oddF) (i := 1) rfl eva_nil fun es h => h) eva_nil fun e es h1 h2 => ⟨e, by rw [h2], h1.choose_spec.2⟩) fun e es h1 h2 => by
      obtain ⟨t, rfl, ht⟩ := h2
      exact ⟨e, t, rfl, h1.choose_spec.2, ht⟩
  refine d_par ?_
  refine EO [] [] _ H2 S _ fun vs es0 H3 S3' le p0 => ?_
  obtain ⟨one, two, rfl, g1, g2⟩ := p0
  match vs, le, S3' with
  | [w1, w2], _, S3' =>
  refine ⟨w1, w2, rfl, ?_⟩
  have S3 : St (WL d g l H1) G0 [none, some (.raw (.ref d)), none, none, some (.dat one), some (.dat two), none, none, none, none] [] [] _ H3 := (S3'.set (i := 4)).set (i := 5)

  -- errors
  obtain ⟨v, hv, S4'⟩ := S3.dat (i := 4) rfl
  obtain ⟨u, hu, S5'⟩ := S4'.dat (i := 5) rfl
  refine d_asg ?_
  refine ⟨v, hv, u, hu, v, u, rfl, fun p es H4 x4 hp hl ha => ?_⟩
  have D3 : Deck H3 d g l := S5'.inv.2.2.2.2.1
  have np : ¬ (WL d g l H1).N p := fun z => Deck.tr D3 p z hp
  obtain ⟨N5, n53, n55, n54, q5⟩ := S5'.ext
  have S6' := q5 H4 [(u, two), (v, one)] x4 (fun p hp => (n55 p hp).ex x4)
  have S6c := (S6'.clr (i := 6) (o := some (.ref p))).raws (i := 6) (v := .ref p) (List.getElem?_set_self (by rw [← S6'.len]; exact (show 6 < 10 by decide))) (show 6 < 10 by decide)
  have S7' : St (WL d g l H1) G0 [none, some (.raw (.ref d)), none, none, some (.dat one), some (.dat two), some (.raw (.ref p)), none, none, none] [(u, two), (v, one)] [] _ H4 := S6c
  have S7 := S7'.rebase
  have D4 : Deck H4 d g l := S7.inv.2.2.2.2.1
  have r1 : Rg (WL d g l H1).N H4 v one := by
    obtain ⟨N, n1, n2, n3, n4, n5, n6⟩ := S7.ex
    exact (n5 (v, one) (List.mem_cons_of_mem _ List.mem_cons_self)).sub n1
  have r2 : Rg (WL d g l H1).N H4 u two := by
    obtain ⟨N, n1, n2, n3, n4, n5, n6⟩ := S7.ex
    exact (n5 (u, two) List.mem_cons_self).sub n1
  have er : ∀ k, k < 20 → ∃ a, es[k]? = some (.ref a) ∧ ErrM (WL d g l H1).N (cl k) ((fsT v u).getD k []) H4 a := fun k hk => by
    obtain ⟨x, h1, a, rfl, h2⟩ := ha.get (madeR_at hk)
    exact ⟨a, h1, errM_of D4 h2⟩
  have S8 := S7.nil
  -- for k
  refine d_seq ?_
  refine ⟨20, rfl, by decide, by decide, for_range (lo := 0) (n := 20) (fun i σ H' => St (WL d g l H1) H4 [none, some (.raw (.ref d)), none, none, some (.dat one), some (.dat two), some (.raw (.ref p)), none, none, none] [] [] σ H') S8 (fun j σ5 H5 hj Sb => ?_) (fun σ5 H5 Sb => ?_)⟩
  · refine g_name ?_
    have S9 : St (WL d g l H1) H4 [none, some (.raw (.ref d)), none, none, some (.dat one), some (.dat two), some (.raw (.ref p)), some (.dat (.int (j : Nat))), none, none] [] [] _ H5 := (Sb.push (v := .int (0 + (j : Int))) (e := .int (j : Nat)) fun N => by rw [Int.zero_add]; exact .int _).set (i := 7)
    obtain ⟨aj, hj1, hj2⟩ := er j hj
    have ex := evx_ix (W := WL d g l H1) (K := K) (H0 := H4) (ρ := [none, some (.raw (.ref d)), none, none, some (.dat one), some (.dat two), some (.raw (.ref p)), some (.dat (.int (j : Nat))), none, none]) (i := 6) (ti := tVar 7) rfl hl np hj1 (ev_dat (i := 7) rfl)
    have E1 := ev_cls hj ex hj2
    have E2 : EvP (WL d g l H1) H4 (tLc (iRng1 (tCons (tC (.int 20)) tNil)) (gName 9) tYes (tOp rEq (tVar 7) (tVar 9)) [9]) S9.rho (· = .list (bools j)) := (ev_lcRf (n := 20) (i := 9) (b := fun _ => true) (f := fun m => .bool (decide (j = m))) (by decide) (by decide) rfl (ev_int (i := 20)) (fun m hm => et_yes) fun m hm _ => ev_op' (ev_dat (i := 7) rfl) (ev_dat (i := 9) rfl) (opd_eqI.imp fun e h => by
      rw [h]
      congr 1
      rw [Bool.eq_iff_iff, decide_eq_true_eq, decide_eq_true_eq]
      omega)).imp fun e h => by rw [h, K01.filter_yes]; rfl
    have t1 : EvT (WL d g l H1) H4 _ S9.rho (· = !PyData.eqv (.list (bools j)) (.list (bools j))) := et_of (ev_op' E1 E2 (opd_neD (K := K) shaped_bools shaped_bools))
    have eb : PyData.eqv (.list (bools j)) (.list (bools j)) = true := SeqAt.eqv_refl _ (Bool.and_eq_true_iff.mp (shaped_bools (l := List.range 20) (f := fun m => decide (j = m)))).1
    rw [eb] at t1
    refine d_if ?_
    refine t1 [] [] _ H5 S9 _ fun b H6 S10 hb => ?_
    subst hb
    refine (if_neg Bool.false_ne_true).mpr ?_
    refine d_next ?_
    have t2 : EvT (WL d g l H1) H4 _ S10.rho (· = !true) := et_not (et_b (ev_isv (K := K) (c := .ref CB) (cv := .ref CB) ex hj2 (Z.exc hj) (fun u hu => by cases hu; rfl) ((Z.xc j hj).kb Z.hB Z.tB)))
    have t3 : EvT (WL d g l H1) H4 _ S10.rho (· = !true) := et_not (et_b (ev_isv (K := K) (c := .ty "ValueError") (cv := .type "ValueError") ex hj2 (Z.exc hj) (fun u hu => by cases hu; rfl) ((Z.xc j hj).kv)))
    refine d_ifl ?_
    refine (et_or t2 fun _ => t3) [] [] _ H6 S10 _ fun b H7 S11 hb => ?_
    subst hb
    refine (if_neg Bool.false_ne_true).mpr ?_
    exact S11.less (ρ' := [none, some (.raw (.ref d)), none, none, some (.dat one), some (.dat two), some (.raw (.ref p)), none, none, none]) rfl fun i s h => by
      match i, h with
      | 0, h => cases h
      | 1, h => exact h
      | 2, h => cases h
      | 3, h => cases h
      | 4, h => exact h
      | 5, h => exact h
      | 6, h => exact h
      | 7, h => cases h
      | 8, h => cases h
      | 9, h => cases h
      | i + 10, h => simp at h
  · refine d_nx ?_
    have gf : ∀ {ρ : List (Option Sl)} (m : Nat) (n : Str) {x : V} {e : PyData} (hm : m < 20), ρ[6]? = some (some (Sl.raw (.ref p))) → ((fsT v u).getD m []).lookup n = some x → (x, e) = (v, one) → EvP (WL d g l H1) H4 (tGf (cl m) n (tOp (rIxL K) (tVar 6) (tC (.int (m : Nat))))) ρ (· = e) := fun {ρ} m n {x e} hm h6 hx he => by
      obtain ⟨am, hm1, hm2⟩ := er m hm
      cases he
      exact ev_gf (evx_ix (K := K) (i := 6) h6 hl np hm1 (ev_int (i := (m : Nat)))) hm2 hx r1
    have K1 : EvP (WL d g l H1) H4 _ Sb.rho (· = .list (List.replicate 6 one)) := ev_lst' (ds := List.replicate 6 one) (eva_more (gf 1 "error" (by decide) rfl rfl rfl) (eva_more (gf 2 "error" (by decide) rfl rfl rfl) (eva_more (gf 3 "given" (by decide) rfl rfl rfl) (eva_more (gf 4 "given" (by decide) rfl rfl rfl) (eva_more (gf 5 "given" (by decide) rfl rfl rfl) (eva_one (gf 6 "place" (by decide) rfl rfl rfl))))))) (show 6 ≤ 100000 by decide)
    refine d_asg ?_
    refine K1 [] [] _ H5 Sb _ fun x e H6 Sc' pe => ?_
    subst pe
    have Sc : St (WL d g l H1) H4 [none, some (.raw (.ref d)), none, none, some (.dat one), some (.dat two), some (.raw (.ref p)), none, some (.dat (.list (List.replicate 6 one))), none] [] [] _ H6 := Sc'.set (i := 8)
    have K2 : EvP (WL d g l H1) H4 _ Sc.rho (· = .list (List.replicate 11 one)) := ev_catL (ds := List.replicate 6 one) (es := List.replicate 5 one) (ev_dat (i := 8) rfl) (ev_lst' (ds := List.replicate 5 one) (eva_more (gf 8 "given" (by decide) rfl rfl rfl) (eva_more (gf 9 "given" (by decide) rfl rfl rfl) (eva_more (gf 10 "number" (by decide) rfl rfl rfl) (eva_more (gf 11 "axis" (by decide) rfl rfl rfl) (eva_one (gf 12 "reason" (by decide) rfl rfl rfl)))))) (show 5 ≤ 100000 by decide)) (show 6 + 5 ≤ 100000 by decide)
    refine d_asg ?_
    refine K2 [] [] _ H6 Sc _ fun x e H7 Sd' pe => ?_
    subst pe
    have Sd : St (WL d g l H1) H4 [none, some (.raw (.ref d)), none, none, some (.dat one), some (.dat two), some (.raw (.ref p)), none, some (.dat (.list (List.replicate 11 one))), none] [] [] _ H7 := Sd'.set (i := 8)
    have K3 : EvN (WL d g l H1) H4 _ Sd.rho (· = List.replicate 14 one) := ev_catN (ds := List.replicate 11 one) (es := List.replicate 3 one) (ev_dat (i := 8) rfl) (ev_lst' (ds := List.replicate 3 one) (eva_more (gf 14 "given" (by decide) rfl rfl rfl) (eva_more (gf 15 "index" (by decide) rfl rfl rfl) (eva_one (gf 16 "axis" (by decide) rfl rfl rfl)))) (show 3 ≤ 100000 by decide)) (show 11 + 3 ≤ 100000 by decide)
    refine d_asg ?_
    refine K3 [] [] _ H7 Sd _ fun p8 es8 H8 hsm Se' pe => ?_
    subst pe
    have Se0 := (Se'.clr (i := 8) (o := some (.ref p8))).raws (i := 8) (v := .ref p8) (List.getElem?_set_self (by rw [← Se'.len]; exact (show 8 < 10 by decide))) (show 8 < 10 by decide)
    have Se1 : St (WL d g l H1) H4 [none, some (.raw (.ref d)), none, none, some (.dat one), some (.dat two), some (.raw (.ref p)), none, some (.raw (.ref p8)), none] [(.ref p8, .list (List.replicate 14 one))] [] _ H8 := Se0
    have Se2 := Se1.rebase
    have r8 : Rg (WL d g l H1).N H8 (.ref p8) (.list (List.replicate 14 one)) := by
      obtain ⟨N, n1, n2, n3, n4, n5, n6⟩ := Se2.ex
      exact (n5 _ List.mem_cons_self).sub n1
    have hl8 : H8 p = some (.lst es) := Se1.off _ _ hl np
    obtain ⟨a11, b11, c11⟩ := er 11 (by decide)
    have c11' := c11.st Se1
    have r2' := r2.st Se1
    have Se := Se2.nil
    have o1 := ok_rep g1.1 14
    have f1 := fit_rep g1.2 (n := 14) (by decide)
    have R1 : EvP (WL d g l H1) H8 _ Se.rho (· = .str (PyData.list (List.replicate 14 one)).shown) := ev_reprN (ev_rawN (i := 8) rfl hsm r8) o1 f1
    have R2 : EvP (WL d g l H1) H8 _ Se.rho (· = .str (PyData.list (List.replicate 14 one)).shown) := ev_reprN (ev_repN (ds := [one]) (k := 14) (ev_lst' (eva_one (ev_dat (i := 4) rfl)) (show 1 ≤ 100000 by decide)) (ev_int (i := 14)) (show 1 * 14 ≤ 100000 by decide) (by decide)) o1 f1
    have R3 : EvP (WL d g l H1) H8 _ Se.rho (· = .str (PyData.list (List.replicate 14 one)).shown) := ev_reprN (ev_fld (i := 4) (j := 5) rfl rfl) o1 f1
    have t1 : EvT (WL d g l H1) H8 _ Se.rho (· = !decide ((PyData.list (List.replicate 14 one)).shown = (PyData.list (List.replicate 14 one)).shown)) := et_of (ev_op' R1 R2 opd_neS)
    have t2 : EvT (WL d g l H1) H8 _ Se.rho (· = !decide ((PyData.list (List.replicate 14 one)).shown = (PyData.list (List.replicate 14 one)).shown)) := et_of (ev_op' R3 R2 opd_neS)
    rw [decide_eq_true rfl] at t1 t2
    refine d_if ?_
    refine (et_or t1 fun _ => t2) [] [] _ H8 Se _ fun b H9 Sf hb => ?_
    subst hb
    refine (if_neg Bool.false_ne_true).mpr ?_
    refine d_next ?_
    have o2 := ok_rep g2.1 2
    have f2 := fit_rep g2.2 (n := 2) (by decide)
    have Q1 : EvP (WL d g l H1) H8 _ Sf.rho (· = .str (PyData.list (List.replicate 2 two)).shown) := ev_reprN (ev_lstN (ds := List.replicate 2 two) (eva_more (ev_gf (n := "at") (evx_ix (K := K) (i := 6) (k := 11) rfl hl8 np b11 (ev_int (i := 11))) c11' rfl r2') (eva_one (ev_gfB (C := cl 11) (i := 4) (j := 5) rfl rfl))) (show 2 ≤ 100000 by decide)) o2 f2
    have Q2 : EvP (WL d g l H1) H8 _ Sf.rho (· = .str (PyData.list (List.replicate 2 two)).shown) := ev_reprN (ev_lstN (ds := List.replicate 2 two) (eva_more (ev_dat (i := 5) rfl) (eva_one (ev_dat (i := 5) rfl))) (show 2 ≤ 100000 by decide)) o2 f2
    have t3 : EvT (WL d g l H1) H8 _ Sf.rho (· = !decide ((PyData.list (List.replicate 2 two)).shown = (PyData.list (List.replicate 2 two)).shown)) := et_of (ev_op' Q1 Q2 opd_neS)
    rw [decide_eq_true rfl] at t3
    refine d_ifl ?_
    refine t3 [] [] _ H9 Sf _ fun b H10 Sg hb => ?_
    subst hb
    refine (if_neg Bool.false_ne_true).mpr ?_
    refine ⟨H8, Sg.less (ρ' := [none, some (.raw (.ref d)), none, none, none, none, none, none, none, none]) rfl fun i s h => ?_⟩
    match i, h with
    | 0, h => cases h
    | 1, h => exact h
    | 2, h => cases h
    | 3, h => cases h
    | 4, h => cases h
    | 5, h => cases h
    | 6, h => cases h
    | 7, h => cases h
    | 8, h => cases h
    | 9, h => cases h
    | i + 10, h => simp at h
theorem sp_start {H : Hp} {a : Addr} {ns : List Int} (hl : ns.length ≤ 63) (hS : SqL K H a (ns.map V.int)) : spLaw K [.ref a] H (fun v _ => v = .bl true) fun _ _ _ => False := ⟨a, ns, rfl, hS, hl, fun _ => rfl⟩
end
end K01
set_option Elab.async false
set_option linter.all false
set_option maxRecDepth 100000
namespace K01
open PySem PySem.Spec PyProof.Rows L2 Evl TB DL
set_option maxHeartbeats 4000000 in
theorem all_mk {l : PySem.W.OpenLaw} {w : World} {K : PySem.W.Frag} {h : Heap} {mg : Str → Option Value} {fa f1 f2 f3 f4 f5 f6 f7 f8 : Addr} (X : K.In h) (G : h.Ns mainGlobals mg) (hfa : mg "law" = some (.ref fa))
    {od1 an1 od2 an2 od3 an3 od4 an4 od5 an5 od6 an6 od7 an7 od8 an8 : Option Addr} {sl1 sl2 sl3 sl4 sl5 sl6 sl7 sl8 : Array (Option Value)} {oc1 kV1 dc1 pm1 cd1 ct1 oc2 kV2 dc2 pm2 cd2 ct2 oc3 kV3 dc3 pm3 cd3 ct3 oc4 kV4 dc4 pm4 cd4 ct4 oc5 kV5 dc5 pm5 cd5 ct5 oc6 kV6 dc6 pm6 cd6 ct6 oc7 kV7 dc7 pm7 cd7 ct7 oc8 kV8 dc8 pm8 cd8 ct8 : Value} {tBATCH tHISTORY tMAX_CELLS tMAX_DIMS tMAX_FEW tMAX_KINDS tMAX_ROWS tMAX_SIDE : Tok}
    (a1 : PySem.W.nsIn K mainGlobals "_law_deck" = some (some (.ref f1))) (l1 : K.lookup f1 = some ⟨oc1, od1, .func (PySem.W.fnOf "_law_deck" "_law_deck" (defArgs s__law_deck) (defBody s__law_deck) (defScope s__law_deck) .none kV1 dc1 pm1 an1 cd1 ct1), sl1⟩) (c1 : PySem.W.codeIn K cd1 "_law_deck" = true) (k1 : PySem.W.keepIn K (.ref f1) = true)
    (a2 : PySem.W.nsIn K mainGlobals "_law_draw" = some (some (.ref f2))) (l2 : K.lookup f2 = some ⟨oc2, od2, .func (PySem.W.fnOf "_law_draw" "_law_draw" (defArgs s__law_draw) (defBody s__law_draw) (defScope s__law_draw) .none kV2 dc2 pm2 an2 cd2 ct2), sl2⟩) (c2 : PySem.W.codeIn K cd2 "_law_draw" = true) (k2 : PySem.W.keepIn K (.ref f2) = true)
    (a3 : PySem.W.nsIn K mainGlobals "_law_one" = some (some (.ref f3))) (l3 : K.lookup f3 = some ⟨oc3, od3, .func (PySem.W.fnOf "_law_one" "_law_one" (defArgs s__law_one) (defBody s__law_one) (defScope s__law_one) .none kV3 dc3 pm3 an3 cd3 ct3), sl3⟩) (c3 : PySem.W.codeIn K cd3 "_law_one" = true) (k3 : PySem.W.keepIn K (.ref f3) = true)
    (a4 : PySem.W.nsIn K mainGlobals "_law_odd" = some (some (.ref f4))) (l4 : K.lookup f4 = some ⟨oc4, od4, .func (PySem.W.fnOf "_law_odd" "_law_odd" (defArgs s__law_odd) (defBody s__law_odd) (defScope s__law_odd) .none kV4 dc4 pm4 an4 cd4 ct4), sl4⟩) (c4 : PySem.W.codeIn K cd4 "_law_odd" = true) (k4 : PySem.W.keepIn K (.ref f4) = true)
    (a5 : PySem.W.nsIn K mainGlobals "_law_made" = some (some (.ref f5))) (l5 : K.lookup f5 = some ⟨oc5, od5, .func (PySem.W.fnOf "_law_made" "_law_made" (defArgs s__law_made) (defBody s__law_made) (defScope s__law_made) .none kV5 dc5 pm5 an5 cd5 ct5), sl5⟩) (c5 : PySem.W.codeIn K cd5 "_law_made" = true) (k5 : PySem.W.keepIn K (.ref f5) = true)
    (a6 : PySem.W.nsIn K mainGlobals "_law_classes" = some (some (.ref f6))) (l6 : K.lookup f6 = some ⟨oc6, od6, .func (PySem.W.fnOf "_law_classes" "_law_classes" (defArgs s__law_classes) (defBody s__law_classes) (defScope s__law_classes) .none kV6 dc6 pm6 an6 cd6 ct6), sl6⟩) (c6 : PySem.W.codeIn K cd6 "_law_classes" = true) (k6 : PySem.W.keepIn K (.ref f6) = true)
    (a7 : PySem.W.nsIn K mainGlobals "_law_fields" = some (some (.ref f7))) (l7 : K.lookup f7 = some ⟨oc7, od7, .func (PySem.W.fnOf "_law_fields" "_law_fields" (defArgs s__law_fields) (defBody s__law_fields) (defScope s__law_fields) .none kV7 dc7 pm7 an7 cd7 ct7), sl7⟩) (c7 : PySem.W.codeIn K cd7 "_law_fields" = true) (k7 : PySem.W.keepIn K (.ref f7) = true)
    (a8 : PySem.W.nsIn K mainGlobals "law" = some (some (.ref f8))) (l8 : K.lookup f8 = some ⟨oc8, od8, .func (PySem.W.fnOf "law" "law" (defArgs s_law) (defBody s_law) (defScope s_law) .none kV8 dc8 pm8 an8 cd8 ct8), sl8⟩) (c8 : PySem.W.codeIn K cd8 "law" = true) (k8 : PySem.W.keepIn K (.ref f8) = true)
    (z_ValueError : PySem.W.nsIn K mainGlobals "ValueError" = some none)
    (z_abs : PySem.W.nsIn K mainGlobals "abs" = some none)
    (z_int : PySem.W.nsIn K mainGlobals "int" = some none)
    (z_isinstance : PySem.W.nsIn K mainGlobals "isinstance" = some none)
    (z_len : PySem.W.nsIn K mainGlobals "len" = some none)
    (z_range : PySem.W.nsIn K mainGlobals "range" = some none)
    (z_repr : PySem.W.nsIn K mainGlobals "repr" = some none)
    (v_BATCH : PySem.W.nsIn K mainGlobals "BATCH" = some (some (.int 20 tBATCH)))
    (v_HISTORY : PySem.W.nsIn K mainGlobals "HISTORY" = some (some (.int 30 tHISTORY)))
    (v_MAX_CELLS : PySem.W.nsIn K mainGlobals "MAX_CELLS" = some (some (.int 400 tMAX_CELLS)))
    (v_MAX_DIMS : PySem.W.nsIn K mainGlobals "MAX_DIMS" = some (some (.int 4 tMAX_DIMS)))
    (v_MAX_FEW : PySem.W.nsIn K mainGlobals "MAX_FEW" = some (some (.int 20 tMAX_FEW)))
    (v_MAX_KINDS : PySem.W.nsIn K mainGlobals "MAX_KINDS" = some (some (.int 4 tMAX_KINDS)))
    (v_MAX_ROWS : PySem.W.nsIn K mainGlobals "MAX_ROWS" = some (some (.int 1000 tMAX_ROWS)))
    (v_MAX_SIDE : PySem.W.nsIn K mainGlobals "MAX_SIDE" = some (some (.int 1000000000000 tMAX_SIDE)))
    {CBr : Addr} (aCBr : PySem.W.nsIn K mainGlobals "BrickError" = some (some (.ref CBr))) (hBr : PySem.W.isClsIn K CBr = true) (tBr : PySem.W.typeIn K (.ref CBr) = some (.type "type"))
    {CBadBatch : Addr} {nmBadBatch qBadBatch : Str} {NBadBatch : Addr} {bsBadBatch subBadBatch : List Value} {snBadBatch : List Str} {abBadBatch : Bool} {colBadBatch : Option Bool} {ddBadBatch : Option Addr} {m0BadBatch m1BadBatch m2BadBatch m3BadBatch m5BadBatch : Option Value}
    (aCBadBatch : PySem.W.nsIn K mainGlobals "BadBatch" = some (some (.ref CBadBatch)))
    (xLBadBatch : K.lookup CBadBatch = some (excClassObj nmBadBatch qBadBatch CBadBatch NBadBatch bsBadBatch [.ref CBr, .type "ValueError", .type "Exception", .type "BaseException", .type "object"] true snBadBatch subBadBatch abBadBatch colBadBatch ddBadBatch m0BadBatch m1BadBatch m2BadBatch m3BadBatch m5BadBatch "ValueError.__new__"))
    (tyBadBatch : PySem.W.typeIn K (.ref CBadBatch) = some (.type "type"))
    (gaBadBatch : PySem.W.findIn K (.ref CBadBatch) "__getattribute__" = some (some (.builtin "BaseException.__getattribute__")))
    (gtBadBatch : PySem.W.findIn K (.ref CBadBatch) "__getattr__" = some none)
    (caBadBatch : PySem.W.findIn K (.ref CBadBatch) "__class__" = some (some (.builtin "object.__class__")))
    (kCBadBatch : PySem.W.keepIn K (.ref CBadBatch) = true)
    (xqBadBatch : PySem.W.excIn K CBadBatch [.type "ValueError", .type "Exception", .type "BaseException", .type "object"] "ValueError.__new__" = true)
    {CBadBox IBadBox : Addr} {nmBadBox qBadBox : Str} {NBadBox : Addr} {bsBadBox subBadBox : List Value} {snBadBox : List Str} {abBadBox : Bool} {colBadBox : Option Bool} {ddBadBox odBadBox anBadBox : Option Addr} {m0BadBox m1BadBox m2BadBox m3BadBox m5BadBox : Option Value} {slBadBox : Array (Option Value)} {ocBadBox kVBadBox dcBadBox pmBadBox cdBadBox ctBadBox : Value}
    (aCBadBox : PySem.W.nsIn K mainGlobals "BadBox" = some (some (.ref CBadBox)))
    (xLBadBox : K.lookup CBadBox = some (excClassObj nmBadBox qBadBox CBadBox NBadBox bsBadBox [.ref CBr, .type "ValueError", .type "Exception", .type "BaseException", .type "object"] true snBadBox subBadBox abBadBox colBadBox ddBadBox m0BadBox m1BadBox m2BadBox m3BadBox m5BadBox "ValueError.__new__"))
    (tyBadBox : PySem.W.typeIn K (.ref CBadBox) = some (.type "type"))
    (gaBadBox : PySem.W.findIn K (.ref CBadBox) "__getattribute__" = some (some (.builtin "BaseException.__getattribute__")))
    (gtBadBox : PySem.W.findIn K (.ref CBadBox) "__getattr__" = some none)
    (caBadBox : PySem.W.findIn K (.ref CBadBox) "__class__" = some (some (.builtin "object.__class__")))
    (kCBadBox : PySem.W.keepIn K (.ref CBadBox) = true)
    (saBadBox : PySem.W.findIn K (.ref CBadBox) "__setattr__" = some (some (.builtin "object.__setattr__")))
    (iABadBox : PySem.W.findIn K (.ref CBadBox) "__init__" = some (some (.ref IBadBox)))
    (tABadBox : PySem.W.typeIn K (.ref IBadBox) = some (.type "function"))
    (lABadBox : K.lookup IBadBox = some ⟨ocBadBox, odBadBox, .func (PySem.W.fnOf "__init__" "BadBox.__init__" (defArgs s_ini_BadBox) (defBody s_ini_BadBox) (defScope s_ini_BadBox) .none kVBadBox dcBadBox pmBadBox anBadBox cdBadBox ctBadBox), slBadBox⟩)
    (cABadBox : PySem.W.codeIn K cdBadBox "BadBox.__init__" = true)
    (kABadBox : PySem.W.keepIn K (.ref IBadBox) = true)
    (nf_error_BadBox : PySem.W.findIn K (.ref CBadBox) "error" = some none)
    {CBadKinds IBadKinds : Addr} {nmBadKinds qBadKinds : Str} {NBadKinds : Addr} {bsBadKinds subBadKinds : List Value} {snBadKinds : List Str} {abBadKinds : Bool} {colBadKinds : Option Bool} {ddBadKinds odBadKinds anBadKinds : Option Addr} {m0BadKinds m1BadKinds m2BadKinds m3BadKinds m5BadKinds : Option Value} {slBadKinds : Array (Option Value)} {ocBadKinds kVBadKinds dcBadKinds pmBadKinds cdBadKinds ctBadKinds : Value}
    (aCBadKinds : PySem.W.nsIn K mainGlobals "BadKinds" = some (some (.ref CBadKinds)))
    (xLBadKinds : K.lookup CBadKinds = some (excClassObj nmBadKinds qBadKinds CBadKinds NBadKinds bsBadKinds [.ref CBr, .type "ValueError", .type "Exception", .type "BaseException", .type "object"] true snBadKinds subBadKinds abBadKinds colBadKinds ddBadKinds m0BadKinds m1BadKinds m2BadKinds m3BadKinds m5BadKinds "ValueError.__new__"))
    (tyBadKinds : PySem.W.typeIn K (.ref CBadKinds) = some (.type "type"))
    (gaBadKinds : PySem.W.findIn K (.ref CBadKinds) "__getattribute__" = some (some (.builtin "BaseException.__getattribute__")))
    (gtBadKinds : PySem.W.findIn K (.ref CBadKinds) "__getattr__" = some none)
    (caBadKinds : PySem.W.findIn K (.ref CBadKinds) "__class__" = some (some (.builtin "object.__class__")))
    (kCBadKinds : PySem.W.keepIn K (.ref CBadKinds) = true)
    (saBadKinds : PySem.W.findIn K (.ref CBadKinds) "__setattr__" = some (some (.builtin "object.__setattr__")))
    (iABadKinds : PySem.W.findIn K (.ref CBadKinds) "__init__" = some (some (.ref IBadKinds)))
    (tABadKinds : PySem.W.typeIn K (.ref IBadKinds) = some (.type "function"))
    (lABadKinds : K.lookup IBadKinds = some ⟨ocBadKinds, odBadKinds, .func (PySem.W.fnOf "__init__" "BadKinds.__init__" (defArgs s_ini_BadKinds) (defBody s_ini_BadKinds) (defScope s_ini_BadKinds) .none kVBadKinds dcBadKinds pmBadKinds anBadKinds cdBadKinds ctBadKinds), slBadKinds⟩)
    (cABadKinds : PySem.W.codeIn K cdBadKinds "BadKinds.__init__" = true)
    (kABadKinds : PySem.W.keepIn K (.ref IBadKinds) = true)
    (nf_error_BadKinds : PySem.W.findIn K (.ref CBadKinds) "error" = some none)
    {CBadOrder IBadOrder : Addr} {nmBadOrder qBadOrder : Str} {NBadOrder : Addr} {bsBadOrder subBadOrder : List Value} {snBadOrder : List Str} {abBadOrder : Bool} {colBadOrder : Option Bool} {ddBadOrder odBadOrder anBadOrder : Option Addr} {m0BadOrder m1BadOrder m2BadOrder m3BadOrder m5BadOrder : Option Value} {slBadOrder : Array (Option Value)} {ocBadOrder kVBadOrder dcBadOrder pmBadOrder cdBadOrder ctBadOrder : Value}
    (aCBadOrder : PySem.W.nsIn K mainGlobals "BadOrder" = some (some (.ref CBadOrder)))
    (xLBadOrder : K.lookup CBadOrder = some (excClassObj nmBadOrder qBadOrder CBadOrder NBadOrder bsBadOrder [.ref CBr, .type "ValueError", .type "Exception", .type "BaseException", .type "object"] true snBadOrder subBadOrder abBadOrder colBadOrder ddBadOrder m0BadOrder m1BadOrder m2BadOrder m3BadOrder m5BadOrder "ValueError.__new__"))
    (tyBadOrder : PySem.W.typeIn K (.ref CBadOrder) = some (.type "type"))
    (gaBadOrder : PySem.W.findIn K (.ref CBadOrder) "__getattribute__" = some (some (.builtin "BaseException.__getattribute__")))
    (gtBadOrder : PySem.W.findIn K (.ref CBadOrder) "__getattr__" = some none)
    (caBadOrder : PySem.W.findIn K (.ref CBadOrder) "__class__" = some (some (.builtin "object.__class__")))
    (kCBadOrder : PySem.W.keepIn K (.ref CBadOrder) = true)
    (saBadOrder : PySem.W.findIn K (.ref CBadOrder) "__setattr__" = some (some (.builtin "object.__setattr__")))
    (iABadOrder : PySem.W.findIn K (.ref CBadOrder) "__init__" = some (some (.ref IBadOrder)))
    (tABadOrder : PySem.W.typeIn K (.ref IBadOrder) = some (.type "function"))
    (lABadOrder : K.lookup IBadOrder = some ⟨ocBadOrder, odBadOrder, .func (PySem.W.fnOf "__init__" "BadOrder.__init__" (defArgs s_ini_BadOrder) (defBody s_ini_BadOrder) (defScope s_ini_BadOrder) .none kVBadOrder dcBadOrder pmBadOrder anBadOrder cdBadOrder ctBadOrder), slBadOrder⟩)
    (cABadOrder : PySem.W.codeIn K cdBadOrder "BadOrder.__init__" = true)
    (kABadOrder : PySem.W.keepIn K (.ref IBadOrder) = true)
    (nf_given_BadOrder : PySem.W.findIn K (.ref CBadOrder) "given" = some none)
    {CBadPaper IBadPaper : Addr} {nmBadPaper qBadPaper : Str} {NBadPaper : Addr} {bsBadPaper subBadPaper : List Value} {snBadPaper : List Str} {abBadPaper : Bool} {colBadPaper : Option Bool} {ddBadPaper odBadPaper anBadPaper : Option Addr} {m0BadPaper m1BadPaper m2BadPaper m3BadPaper m5BadPaper : Option Value} {slBadPaper : Array (Option Value)} {ocBadPaper kVBadPaper dcBadPaper pmBadPaper cdBadPaper ctBadPaper : Value}
    (aCBadPaper : PySem.W.nsIn K mainGlobals "BadPaper" = some (some (.ref CBadPaper)))
    (xLBadPaper : K.lookup CBadPaper = some (excClassObj nmBadPaper qBadPaper CBadPaper NBadPaper bsBadPaper [.ref CBr, .type "ValueError", .type "Exception", .type "BaseException", .type "object"] true snBadPaper subBadPaper abBadPaper colBadPaper ddBadPaper m0BadPaper m1BadPaper m2BadPaper m3BadPaper m5BadPaper "ValueError.__new__"))
    (tyBadPaper : PySem.W.typeIn K (.ref CBadPaper) = some (.type "type"))
    (gaBadPaper : PySem.W.findIn K (.ref CBadPaper) "__getattribute__" = some (some (.builtin "BaseException.__getattribute__")))
    (gtBadPaper : PySem.W.findIn K (.ref CBadPaper) "__getattr__" = some none)
    (caBadPaper : PySem.W.findIn K (.ref CBadPaper) "__class__" = some (some (.builtin "object.__class__")))
    (kCBadPaper : PySem.W.keepIn K (.ref CBadPaper) = true)
    (saBadPaper : PySem.W.findIn K (.ref CBadPaper) "__setattr__" = some (some (.builtin "object.__setattr__")))
    (iABadPaper : PySem.W.findIn K (.ref CBadPaper) "__init__" = some (some (.ref IBadPaper)))
    (tABadPaper : PySem.W.typeIn K (.ref IBadPaper) = some (.type "function"))
    (lABadPaper : K.lookup IBadPaper = some ⟨ocBadPaper, odBadPaper, .func (PySem.W.fnOf "__init__" "BadPaper.__init__" (defArgs s_ini_BadPaper) (defBody s_ini_BadPaper) (defScope s_ini_BadPaper) .none kVBadPaper dcBadPaper pmBadPaper anBadPaper cdBadPaper ctBadPaper), slBadPaper⟩)
    (cABadPaper : PySem.W.codeIn K cdBadPaper "BadPaper.__init__" = true)
    (kABadPaper : PySem.W.keepIn K (.ref IBadPaper) = true)
    (nf_given_BadPaper : PySem.W.findIn K (.ref CBadPaper) "given" = some none)
    {CBadSide IBadSide : Addr} {nmBadSide qBadSide : Str} {NBadSide : Addr} {bsBadSide subBadSide : List Value} {snBadSide : List Str} {abBadSide : Bool} {colBadSide : Option Bool} {ddBadSide odBadSide anBadSide : Option Addr} {m0BadSide m1BadSide m2BadSide m3BadSide m5BadSide : Option Value} {slBadSide : Array (Option Value)} {ocBadSide kVBadSide dcBadSide pmBadSide cdBadSide ctBadSide : Value}
    (aCBadSide : PySem.W.nsIn K mainGlobals "BadSide" = some (some (.ref CBadSide)))
    (xLBadSide : K.lookup CBadSide = some (excClassObj nmBadSide qBadSide CBadSide NBadSide bsBadSide [.ref CBr, .type "ValueError", .type "Exception", .type "BaseException", .type "object"] true snBadSide subBadSide abBadSide colBadSide ddBadSide m0BadSide m1BadSide m2BadSide m3BadSide m5BadSide "ValueError.__new__"))
    (tyBadSide : PySem.W.typeIn K (.ref CBadSide) = some (.type "type"))
    (gaBadSide : PySem.W.findIn K (.ref CBadSide) "__getattribute__" = some (some (.builtin "BaseException.__getattribute__")))
    (gtBadSide : PySem.W.findIn K (.ref CBadSide) "__getattr__" = some none)
    (caBadSide : PySem.W.findIn K (.ref CBadSide) "__class__" = some (some (.builtin "object.__class__")))
    (kCBadSide : PySem.W.keepIn K (.ref CBadSide) = true)
    (saBadSide : PySem.W.findIn K (.ref CBadSide) "__setattr__" = some (some (.builtin "object.__setattr__")))
    (iABadSide : PySem.W.findIn K (.ref CBadSide) "__init__" = some (some (.ref IBadSide)))
    (tABadSide : PySem.W.typeIn K (.ref IBadSide) = some (.type "function"))
    (lABadSide : K.lookup IBadSide = some ⟨ocBadSide, odBadSide, .func (PySem.W.fnOf "__init__" "BadSide.__init__" (defArgs s_ini_BadSide) (defBody s_ini_BadSide) (defScope s_ini_BadSide) .none kVBadSide dcBadSide pmBadSide anBadSide cdBadSide ctBadSide), slBadSide⟩)
    (cABadSide : PySem.W.codeIn K cdBadSide "BadSide.__init__" = true)
    (kABadSide : PySem.W.keepIn K (.ref IBadSide) = true)
    (nf_given_BadSide : PySem.W.findIn K (.ref CBadSide) "given" = some none)
    {CBadText IBadText : Addr} {nmBadText qBadText : Str} {NBadText : Addr} {bsBadText subBadText : List Value} {snBadText : List Str} {abBadText : Bool} {colBadText : Option Bool} {ddBadText odBadText anBadText : Option Addr} {m0BadText m1BadText m2BadText m3BadText m5BadText : Option Value} {slBadText : Array (Option Value)} {ocBadText kVBadText dcBadText pmBadText cdBadText ctBadText : Value}
    (aCBadText : PySem.W.nsIn K mainGlobals "BadText" = some (some (.ref CBadText)))
    (xLBadText : K.lookup CBadText = some (excClassObj nmBadText qBadText CBadText NBadText bsBadText [.ref CBr, .type "ValueError", .type "Exception", .type "BaseException", .type "object"] true snBadText subBadText abBadText colBadText ddBadText m0BadText m1BadText m2BadText m3BadText m5BadText "ValueError.__new__"))
    (tyBadText : PySem.W.typeIn K (.ref CBadText) = some (.type "type"))
    (gaBadText : PySem.W.findIn K (.ref CBadText) "__getattribute__" = some (some (.builtin "BaseException.__getattribute__")))
    (gtBadText : PySem.W.findIn K (.ref CBadText) "__getattr__" = some none)
    (caBadText : PySem.W.findIn K (.ref CBadText) "__class__" = some (some (.builtin "object.__class__")))
    (kCBadText : PySem.W.keepIn K (.ref CBadText) = true)
    (saBadText : PySem.W.findIn K (.ref CBadText) "__setattr__" = some (some (.builtin "object.__setattr__")))
    (iABadText : PySem.W.findIn K (.ref CBadText) "__init__" = some (some (.ref IBadText)))
    (tABadText : PySem.W.typeIn K (.ref IBadText) = some (.type "function"))
    (lABadText : K.lookup IBadText = some ⟨ocBadText, odBadText, .func (PySem.W.fnOf "__init__" "BadText.__init__" (defArgs s_ini_BadText) (defBody s_ini_BadText) (defScope s_ini_BadText) .none kVBadText dcBadText pmBadText anBadText cdBadText ctBadText), slBadText⟩)
    (cABadText : PySem.W.codeIn K cdBadText "BadText.__init__" = true)
    (kABadText : PySem.W.keepIn K (.ref IBadText) = true)
    (nf_place_BadText : PySem.W.findIn K (.ref CBadText) "place" = some none)
    {CBusy : Addr} {nmBusy qBusy : Str} {NBusy : Addr} {bsBusy subBusy : List Value} {snBusy : List Str} {abBusy : Bool} {colBusy : Option Bool} {ddBusy : Option Addr} {m0Busy m1Busy m2Busy m3Busy m5Busy : Option Value}
    (aCBusy : PySem.W.nsIn K mainGlobals "Busy" = some (some (.ref CBusy)))
    (xLBusy : K.lookup CBusy = some (excClassObj nmBusy qBusy CBusy NBusy bsBusy [.ref CBr, .type "ValueError", .type "Exception", .type "BaseException", .type "object"] true snBusy subBusy abBusy colBusy ddBusy m0Busy m1Busy m2Busy m3Busy m5Busy "ValueError.__new__"))
    (tyBusy : PySem.W.typeIn K (.ref CBusy) = some (.type "type"))
    (gaBusy : PySem.W.findIn K (.ref CBusy) "__getattribute__" = some (some (.builtin "BaseException.__getattribute__")))
    (gtBusy : PySem.W.findIn K (.ref CBusy) "__getattr__" = some none)
    (caBusy : PySem.W.findIn K (.ref CBusy) "__class__" = some (some (.builtin "object.__class__")))
    (kCBusy : PySem.W.keepIn K (.ref CBusy) = true)
    (xqBusy : PySem.W.excIn K CBusy [.type "ValueError", .type "Exception", .type "BaseException", .type "object"] "ValueError.__new__" = true)
    {CNoAxis INoAxis : Addr} {nmNoAxis qNoAxis : Str} {NNoAxis : Addr} {bsNoAxis subNoAxis : List Value} {snNoAxis : List Str} {abNoAxis : Bool} {colNoAxis : Option Bool} {ddNoAxis odNoAxis anNoAxis : Option Addr} {m0NoAxis m1NoAxis m2NoAxis m3NoAxis m5NoAxis : Option Value} {slNoAxis : Array (Option Value)} {ocNoAxis kVNoAxis dcNoAxis pmNoAxis cdNoAxis ctNoAxis : Value}
    (aCNoAxis : PySem.W.nsIn K mainGlobals "NoAxis" = some (some (.ref CNoAxis)))
    (xLNoAxis : K.lookup CNoAxis = some (excClassObj nmNoAxis qNoAxis CNoAxis NNoAxis bsNoAxis [.ref CBr, .type "ValueError", .type "Exception", .type "BaseException", .type "object"] true snNoAxis subNoAxis abNoAxis colNoAxis ddNoAxis m0NoAxis m1NoAxis m2NoAxis m3NoAxis m5NoAxis "ValueError.__new__"))
    (tyNoAxis : PySem.W.typeIn K (.ref CNoAxis) = some (.type "type"))
    (gaNoAxis : PySem.W.findIn K (.ref CNoAxis) "__getattribute__" = some (some (.builtin "BaseException.__getattribute__")))
    (gtNoAxis : PySem.W.findIn K (.ref CNoAxis) "__getattr__" = some none)
    (caNoAxis : PySem.W.findIn K (.ref CNoAxis) "__class__" = some (some (.builtin "object.__class__")))
    (kCNoAxis : PySem.W.keepIn K (.ref CNoAxis) = true)
    (saNoAxis : PySem.W.findIn K (.ref CNoAxis) "__setattr__" = some (some (.builtin "object.__setattr__")))
    (iANoAxis : PySem.W.findIn K (.ref CNoAxis) "__init__" = some (some (.ref INoAxis)))
    (tANoAxis : PySem.W.typeIn K (.ref INoAxis) = some (.type "function"))
    (lANoAxis : K.lookup INoAxis = some ⟨ocNoAxis, odNoAxis, .func (PySem.W.fnOf "__init__" "NoAxis.__init__" (defArgs s_ini_NoAxis) (defBody s_ini_NoAxis) (defScope s_ini_NoAxis) .none kVNoAxis dcNoAxis pmNoAxis anNoAxis cdNoAxis ctNoAxis), slNoAxis⟩)
    (cANoAxis : PySem.W.codeIn K cdNoAxis "NoAxis.__init__" = true)
    (kANoAxis : PySem.W.keepIn K (.ref INoAxis) = true)
    (nf_given_NoAxis : PySem.W.findIn K (.ref CNoAxis) "given" = some none)
    {CNoKind INoKind : Addr} {nmNoKind qNoKind : Str} {NNoKind : Addr} {bsNoKind subNoKind : List Value} {snNoKind : List Str} {abNoKind : Bool} {colNoKind : Option Bool} {ddNoKind odNoKind anNoKind : Option Addr} {m0NoKind m1NoKind m2NoKind m3NoKind m5NoKind : Option Value} {slNoKind : Array (Option Value)} {ocNoKind kVNoKind dcNoKind pmNoKind cdNoKind ctNoKind : Value}
    (aCNoKind : PySem.W.nsIn K mainGlobals "NoKind" = some (some (.ref CNoKind)))
    (xLNoKind : K.lookup CNoKind = some (excClassObj nmNoKind qNoKind CNoKind NNoKind bsNoKind [.ref CBr, .type "ValueError", .type "Exception", .type "BaseException", .type "object"] true snNoKind subNoKind abNoKind colNoKind ddNoKind m0NoKind m1NoKind m2NoKind m3NoKind m5NoKind "ValueError.__new__"))
    (tyNoKind : PySem.W.typeIn K (.ref CNoKind) = some (.type "type"))
    (gaNoKind : PySem.W.findIn K (.ref CNoKind) "__getattribute__" = some (some (.builtin "BaseException.__getattribute__")))
    (gtNoKind : PySem.W.findIn K (.ref CNoKind) "__getattr__" = some none)
    (caNoKind : PySem.W.findIn K (.ref CNoKind) "__class__" = some (some (.builtin "object.__class__")))
    (kCNoKind : PySem.W.keepIn K (.ref CNoKind) = true)
    (saNoKind : PySem.W.findIn K (.ref CNoKind) "__setattr__" = some (some (.builtin "object.__setattr__")))
    (iANoKind : PySem.W.findIn K (.ref CNoKind) "__init__" = some (some (.ref INoKind)))
    (tANoKind : PySem.W.typeIn K (.ref INoKind) = some (.type "function"))
    (lANoKind : K.lookup INoKind = some ⟨ocNoKind, odNoKind, .func (PySem.W.fnOf "__init__" "NoKind.__init__" (defArgs s_ini_NoKind) (defBody s_ini_NoKind) (defScope s_ini_NoKind) .none kVNoKind dcNoKind pmNoKind anNoKind cdNoKind ctNoKind), slNoKind⟩)
    (cANoKind : PySem.W.codeIn K cdNoKind "NoKind.__init__" = true)
    (kANoKind : PySem.W.keepIn K (.ref INoKind) = true)
    (nf_given_NoKind : PySem.W.findIn K (.ref CNoKind) "given" = some none)
    {CNoNumber INoNumber : Addr} {nmNoNumber qNoNumber : Str} {NNoNumber : Addr} {bsNoNumber subNoNumber : List Value} {snNoNumber : List Str} {abNoNumber : Bool} {colNoNumber : Option Bool} {ddNoNumber odNoNumber anNoNumber : Option Addr} {m0NoNumber m1NoNumber m2NoNumber m3NoNumber m5NoNumber : Option Value} {slNoNumber : Array (Option Value)} {ocNoNumber kVNoNumber dcNoNumber pmNoNumber cdNoNumber ctNoNumber : Value}
    (aCNoNumber : PySem.W.nsIn K mainGlobals "NoNumber" = some (some (.ref CNoNumber)))
    (xLNoNumber : K.lookup CNoNumber = some (excClassObj nmNoNumber qNoNumber CNoNumber NNoNumber bsNoNumber [.ref CBr, .type "ValueError", .type "Exception", .type "BaseException", .type "object"] true snNoNumber subNoNumber abNoNumber colNoNumber ddNoNumber m0NoNumber m1NoNumber m2NoNumber m3NoNumber m5NoNumber "ValueError.__new__"))
    (tyNoNumber : PySem.W.typeIn K (.ref CNoNumber) = some (.type "type"))
    (gaNoNumber : PySem.W.findIn K (.ref CNoNumber) "__getattribute__" = some (some (.builtin "BaseException.__getattribute__")))
    (gtNoNumber : PySem.W.findIn K (.ref CNoNumber) "__getattr__" = some none)
    (caNoNumber : PySem.W.findIn K (.ref CNoNumber) "__class__" = some (some (.builtin "object.__class__")))
    (kCNoNumber : PySem.W.keepIn K (.ref CNoNumber) = true)
    (saNoNumber : PySem.W.findIn K (.ref CNoNumber) "__setattr__" = some (some (.builtin "object.__setattr__")))
    (iANoNumber : PySem.W.findIn K (.ref CNoNumber) "__init__" = some (some (.ref INoNumber)))
    (tANoNumber : PySem.W.typeIn K (.ref INoNumber) = some (.type "function"))
    (lANoNumber : K.lookup INoNumber = some ⟨ocNoNumber, odNoNumber, .func (PySem.W.fnOf "__init__" "NoNumber.__init__" (defArgs s_ini_NoNumber) (defBody s_ini_NoNumber) (defScope s_ini_NoNumber) .none kVNoNumber dcNoNumber pmNoNumber anNoNumber cdNoNumber ctNoNumber), slNoNumber⟩)
    (cANoNumber : PySem.W.codeIn K cdNoNumber "NoNumber.__init__" = true)
    (kANoNumber : PySem.W.keepIn K (.ref INoNumber) = true)
    (nf_number_NoNumber : PySem.W.findIn K (.ref CNoNumber) "number" = some none)
    {CNoSeam INoSeam : Addr} {nmNoSeam qNoSeam : Str} {NNoSeam : Addr} {bsNoSeam subNoSeam : List Value} {snNoSeam : List Str} {abNoSeam : Bool} {colNoSeam : Option Bool} {ddNoSeam odNoSeam anNoSeam : Option Addr} {m0NoSeam m1NoSeam m2NoSeam m3NoSeam m5NoSeam : Option Value} {slNoSeam : Array (Option Value)} {ocNoSeam kVNoSeam dcNoSeam pmNoSeam cdNoSeam ctNoSeam : Value}
    (aCNoSeam : PySem.W.nsIn K mainGlobals "NoSeam" = some (some (.ref CNoSeam)))
    (xLNoSeam : K.lookup CNoSeam = some (excClassObj nmNoSeam qNoSeam CNoSeam NNoSeam bsNoSeam [.ref CBr, .type "ValueError", .type "Exception", .type "BaseException", .type "object"] true snNoSeam subNoSeam abNoSeam colNoSeam ddNoSeam m0NoSeam m1NoSeam m2NoSeam m3NoSeam m5NoSeam "ValueError.__new__"))
    (tyNoSeam : PySem.W.typeIn K (.ref CNoSeam) = some (.type "type"))
    (gaNoSeam : PySem.W.findIn K (.ref CNoSeam) "__getattribute__" = some (some (.builtin "BaseException.__getattribute__")))
    (gtNoSeam : PySem.W.findIn K (.ref CNoSeam) "__getattr__" = some none)
    (caNoSeam : PySem.W.findIn K (.ref CNoSeam) "__class__" = some (some (.builtin "object.__class__")))
    (kCNoSeam : PySem.W.keepIn K (.ref CNoSeam) = true)
    (saNoSeam : PySem.W.findIn K (.ref CNoSeam) "__setattr__" = some (some (.builtin "object.__setattr__")))
    (iANoSeam : PySem.W.findIn K (.ref CNoSeam) "__init__" = some (some (.ref INoSeam)))
    (tANoSeam : PySem.W.typeIn K (.ref INoSeam) = some (.type "function"))
    (lANoSeam : K.lookup INoSeam = some ⟨ocNoSeam, odNoSeam, .func (PySem.W.fnOf "__init__" "NoSeam.__init__" (defArgs s_ini_NoSeam) (defBody s_ini_NoSeam) (defScope s_ini_NoSeam) .none kVNoSeam dcNoSeam pmNoSeam anNoSeam cdNoSeam ctNoSeam), slNoSeam⟩)
    (cANoSeam : PySem.W.codeIn K cdNoSeam "NoSeam.__init__" = true)
    (kANoSeam : PySem.W.keepIn K (.ref INoSeam) = true)
    (nf_axis_NoSeam : PySem.W.findIn K (.ref CNoSeam) "axis" = some none)
    (nf_at_NoSeam : PySem.W.findIn K (.ref CNoSeam) "at" = some none)
    {CNotFilled INotFilled : Addr} {nmNotFilled qNotFilled : Str} {NNotFilled : Addr} {bsNotFilled subNotFilled : List Value} {snNotFilled : List Str} {abNotFilled : Bool} {colNotFilled : Option Bool} {ddNotFilled odNotFilled anNotFilled : Option Addr} {m0NotFilled m1NotFilled m2NotFilled m3NotFilled m5NotFilled : Option Value} {slNotFilled : Array (Option Value)} {ocNotFilled kVNotFilled dcNotFilled pmNotFilled cdNotFilled ctNotFilled : Value}
    (aCNotFilled : PySem.W.nsIn K mainGlobals "NotFilled" = some (some (.ref CNotFilled)))
    (xLNotFilled : K.lookup CNotFilled = some (excClassObj nmNotFilled qNotFilled CNotFilled NNotFilled bsNotFilled [.ref CBr, .type "ValueError", .type "Exception", .type "BaseException", .type "object"] true snNotFilled subNotFilled abNotFilled colNotFilled ddNotFilled m0NotFilled m1NotFilled m2NotFilled m3NotFilled m5NotFilled "ValueError.__new__"))
    (tyNotFilled : PySem.W.typeIn K (.ref CNotFilled) = some (.type "type"))
    (gaNotFilled : PySem.W.findIn K (.ref CNotFilled) "__getattribute__" = some (some (.builtin "BaseException.__getattribute__")))
    (gtNotFilled : PySem.W.findIn K (.ref CNotFilled) "__getattr__" = some none)
    (caNotFilled : PySem.W.findIn K (.ref CNotFilled) "__class__" = some (some (.builtin "object.__class__")))
    (kCNotFilled : PySem.W.keepIn K (.ref CNotFilled) = true)
    (saNotFilled : PySem.W.findIn K (.ref CNotFilled) "__setattr__" = some (some (.builtin "object.__setattr__")))
    (iANotFilled : PySem.W.findIn K (.ref CNotFilled) "__init__" = some (some (.ref INotFilled)))
    (tANotFilled : PySem.W.typeIn K (.ref INotFilled) = some (.type "function"))
    (lANotFilled : K.lookup INotFilled = some ⟨ocNotFilled, odNotFilled, .func (PySem.W.fnOf "__init__" "NotFilled.__init__" (defArgs s_ini_NotFilled) (defBody s_ini_NotFilled) (defScope s_ini_NotFilled) .none kVNotFilled dcNotFilled pmNotFilled anNotFilled cdNotFilled ctNotFilled), slNotFilled⟩)
    (cANotFilled : PySem.W.codeIn K cdNotFilled "NotFilled.__init__" = true)
    (kANotFilled : PySem.W.keepIn K (.ref INotFilled) = true)
    (nf_reason_NotFilled : PySem.W.findIn K (.ref CNotFilled) "reason" = some none)
    {CNothingToUndo : Addr} {nmNothingToUndo qNothingToUndo : Str} {NNothingToUndo : Addr} {bsNothingToUndo subNothingToUndo : List Value} {snNothingToUndo : List Str} {abNothingToUndo : Bool} {colNothingToUndo : Option Bool} {ddNothingToUndo : Option Addr} {m0NothingToUndo m1NothingToUndo m2NothingToUndo m3NothingToUndo m5NothingToUndo : Option Value}
    (aCNothingToUndo : PySem.W.nsIn K mainGlobals "NothingToUndo" = some (some (.ref CNothingToUndo)))
    (xLNothingToUndo : K.lookup CNothingToUndo = some (excClassObj nmNothingToUndo qNothingToUndo CNothingToUndo NNothingToUndo bsNothingToUndo [.ref CBr, .type "ValueError", .type "Exception", .type "BaseException", .type "object"] true snNothingToUndo subNothingToUndo abNothingToUndo colNothingToUndo ddNothingToUndo m0NothingToUndo m1NothingToUndo m2NothingToUndo m3NothingToUndo m5NothingToUndo "ValueError.__new__"))
    (tyNothingToUndo : PySem.W.typeIn K (.ref CNothingToUndo) = some (.type "type"))
    (gaNothingToUndo : PySem.W.findIn K (.ref CNothingToUndo) "__getattribute__" = some (some (.builtin "BaseException.__getattribute__")))
    (gtNothingToUndo : PySem.W.findIn K (.ref CNothingToUndo) "__getattr__" = some none)
    (caNothingToUndo : PySem.W.findIn K (.ref CNothingToUndo) "__class__" = some (some (.builtin "object.__class__")))
    (kCNothingToUndo : PySem.W.keepIn K (.ref CNothingToUndo) = true)
    (xqNothingToUndo : PySem.W.excIn K CNothingToUndo [.type "ValueError", .type "Exception", .type "BaseException", .type "object"] "ValueError.__new__" = true)
    {CNoVersion INoVersion : Addr} {nmNoVersion qNoVersion : Str} {NNoVersion : Addr} {bsNoVersion subNoVersion : List Value} {snNoVersion : List Str} {abNoVersion : Bool} {colNoVersion : Option Bool} {ddNoVersion odNoVersion anNoVersion : Option Addr} {m0NoVersion m1NoVersion m2NoVersion m3NoVersion m5NoVersion : Option Value} {slNoVersion : Array (Option Value)} {ocNoVersion kVNoVersion dcNoVersion pmNoVersion cdNoVersion ctNoVersion : Value}
    (aCNoVersion : PySem.W.nsIn K mainGlobals "NoVersion" = some (some (.ref CNoVersion)))
    (xLNoVersion : K.lookup CNoVersion = some (excClassObj nmNoVersion qNoVersion CNoVersion NNoVersion bsNoVersion [.ref CBr, .type "ValueError", .type "Exception", .type "BaseException", .type "object"] true snNoVersion subNoVersion abNoVersion colNoVersion ddNoVersion m0NoVersion m1NoVersion m2NoVersion m3NoVersion m5NoVersion "ValueError.__new__"))
    (tyNoVersion : PySem.W.typeIn K (.ref CNoVersion) = some (.type "type"))
    (gaNoVersion : PySem.W.findIn K (.ref CNoVersion) "__getattribute__" = some (some (.builtin "BaseException.__getattribute__")))
    (gtNoVersion : PySem.W.findIn K (.ref CNoVersion) "__getattr__" = some none)
    (caNoVersion : PySem.W.findIn K (.ref CNoVersion) "__class__" = some (some (.builtin "object.__class__")))
    (kCNoVersion : PySem.W.keepIn K (.ref CNoVersion) = true)
    (saNoVersion : PySem.W.findIn K (.ref CNoVersion) "__setattr__" = some (some (.builtin "object.__setattr__")))
    (iANoVersion : PySem.W.findIn K (.ref CNoVersion) "__init__" = some (some (.ref INoVersion)))
    (tANoVersion : PySem.W.typeIn K (.ref INoVersion) = some (.type "function"))
    (lANoVersion : K.lookup INoVersion = some ⟨ocNoVersion, odNoVersion, .func (PySem.W.fnOf "__init__" "NoVersion.__init__" (defArgs s_ini_NoVersion) (defBody s_ini_NoVersion) (defScope s_ini_NoVersion) .none kVNoVersion dcNoVersion pmNoVersion anNoVersion cdNoVersion ctNoVersion), slNoVersion⟩)
    (cANoVersion : PySem.W.codeIn K cdNoVersion "NoVersion.__init__" = true)
    (kANoVersion : PySem.W.keepIn K (.ref INoVersion) = true)
    (nf_given_NoVersion : PySem.W.findIn K (.ref CNoVersion) "given" = some none)
    {CRejected IRejected : Addr} {nmRejected qRejected : Str} {NRejected : Addr} {bsRejected subRejected : List Value} {snRejected : List Str} {abRejected : Bool} {colRejected : Option Bool} {ddRejected odRejected anRejected : Option Addr} {m0Rejected m1Rejected m2Rejected m3Rejected m5Rejected : Option Value} {slRejected : Array (Option Value)} {ocRejected kVRejected dcRejected pmRejected cdRejected ctRejected : Value}
    (aCRejected : PySem.W.nsIn K mainGlobals "Rejected" = some (some (.ref CRejected)))
    (xLRejected : K.lookup CRejected = some (excClassObj nmRejected qRejected CRejected NRejected bsRejected [.ref CBr, .type "ValueError", .type "Exception", .type "BaseException", .type "object"] true snRejected subRejected abRejected colRejected ddRejected m0Rejected m1Rejected m2Rejected m3Rejected m5Rejected "ValueError.__new__"))
    (tyRejected : PySem.W.typeIn K (.ref CRejected) = some (.type "type"))
    (gaRejected : PySem.W.findIn K (.ref CRejected) "__getattribute__" = some (some (.builtin "BaseException.__getattribute__")))
    (gtRejected : PySem.W.findIn K (.ref CRejected) "__getattr__" = some none)
    (caRejected : PySem.W.findIn K (.ref CRejected) "__class__" = some (some (.builtin "object.__class__")))
    (kCRejected : PySem.W.keepIn K (.ref CRejected) = true)
    (saRejected : PySem.W.findIn K (.ref CRejected) "__setattr__" = some (some (.builtin "object.__setattr__")))
    (iARejected : PySem.W.findIn K (.ref CRejected) "__init__" = some (some (.ref IRejected)))
    (tARejected : PySem.W.typeIn K (.ref IRejected) = some (.type "function"))
    (lARejected : K.lookup IRejected = some ⟨ocRejected, odRejected, .func (PySem.W.fnOf "__init__" "Rejected.__init__" (defArgs s_ini_Rejected) (defBody s_ini_Rejected) (defScope s_ini_Rejected) .none kVRejected dcRejected pmRejected anRejected cdRejected ctRejected), slRejected⟩)
    (cARejected : PySem.W.codeIn K cdRejected "Rejected.__init__" = true)
    (kARejected : PySem.W.keepIn K (.ref IRejected) = true)
    (nf_index_Rejected : PySem.W.findIn K (.ref CRejected) "index" = some none)
    {CTooLarge ITooLarge : Addr} {nmTooLarge qTooLarge : Str} {NTooLarge : Addr} {bsTooLarge subTooLarge : List Value} {snTooLarge : List Str} {abTooLarge : Bool} {colTooLarge : Option Bool} {ddTooLarge odTooLarge anTooLarge : Option Addr} {m0TooLarge m1TooLarge m2TooLarge m3TooLarge m5TooLarge : Option Value} {slTooLarge : Array (Option Value)} {ocTooLarge kVTooLarge dcTooLarge pmTooLarge cdTooLarge ctTooLarge : Value}
    (aCTooLarge : PySem.W.nsIn K mainGlobals "TooLarge" = some (some (.ref CTooLarge)))
    (xLTooLarge : K.lookup CTooLarge = some (excClassObj nmTooLarge qTooLarge CTooLarge NTooLarge bsTooLarge [.ref CBr, .type "ValueError", .type "Exception", .type "BaseException", .type "object"] true snTooLarge subTooLarge abTooLarge colTooLarge ddTooLarge m0TooLarge m1TooLarge m2TooLarge m3TooLarge m5TooLarge "ValueError.__new__"))
    (tyTooLarge : PySem.W.typeIn K (.ref CTooLarge) = some (.type "type"))
    (gaTooLarge : PySem.W.findIn K (.ref CTooLarge) "__getattribute__" = some (some (.builtin "BaseException.__getattribute__")))
    (gtTooLarge : PySem.W.findIn K (.ref CTooLarge) "__getattr__" = some none)
    (caTooLarge : PySem.W.findIn K (.ref CTooLarge) "__class__" = some (some (.builtin "object.__class__")))
    (kCTooLarge : PySem.W.keepIn K (.ref CTooLarge) = true)
    (saTooLarge : PySem.W.findIn K (.ref CTooLarge) "__setattr__" = some (some (.builtin "object.__setattr__")))
    (iATooLarge : PySem.W.findIn K (.ref CTooLarge) "__init__" = some (some (.ref ITooLarge)))
    (tATooLarge : PySem.W.typeIn K (.ref ITooLarge) = some (.type "function"))
    (lATooLarge : K.lookup ITooLarge = some ⟨ocTooLarge, odTooLarge, .func (PySem.W.fnOf "__init__" "TooLarge.__init__" (defArgs s_ini_TooLarge) (defBody s_ini_TooLarge) (defScope s_ini_TooLarge) .none kVTooLarge dcTooLarge pmTooLarge anTooLarge cdTooLarge ctTooLarge), slTooLarge⟩)
    (cATooLarge : PySem.W.codeIn K cdTooLarge "TooLarge.__init__" = true)
    (kATooLarge : PySem.W.keepIn K (.ref ITooLarge) = true)
    (nf_axis_TooLarge : PySem.W.findIn K (.ref CTooLarge) "axis" = some none)
    {CTooManyEdits : Addr} {nmTooManyEdits qTooManyEdits : Str} {NTooManyEdits : Addr} {bsTooManyEdits subTooManyEdits : List Value} {snTooManyEdits : List Str} {abTooManyEdits : Bool} {colTooManyEdits : Option Bool} {ddTooManyEdits : Option Addr} {m0TooManyEdits m1TooManyEdits m2TooManyEdits m3TooManyEdits m5TooManyEdits : Option Value}
    (aCTooManyEdits : PySem.W.nsIn K mainGlobals "TooManyEdits" = some (some (.ref CTooManyEdits)))
    (xLTooManyEdits : K.lookup CTooManyEdits = some (excClassObj nmTooManyEdits qTooManyEdits CTooManyEdits NTooManyEdits bsTooManyEdits [.ref CBr, .type "ValueError", .type "Exception", .type "BaseException", .type "object"] true snTooManyEdits subTooManyEdits abTooManyEdits colTooManyEdits ddTooManyEdits m0TooManyEdits m1TooManyEdits m2TooManyEdits m3TooManyEdits m5TooManyEdits "ValueError.__new__"))
    (tyTooManyEdits : PySem.W.typeIn K (.ref CTooManyEdits) = some (.type "type"))
    (gaTooManyEdits : PySem.W.findIn K (.ref CTooManyEdits) "__getattribute__" = some (some (.builtin "BaseException.__getattribute__")))
    (gtTooManyEdits : PySem.W.findIn K (.ref CTooManyEdits) "__getattr__" = some none)
    (caTooManyEdits : PySem.W.findIn K (.ref CTooManyEdits) "__class__" = some (some (.builtin "object.__class__")))
    (kCTooManyEdits : PySem.W.keepIn K (.ref CTooManyEdits) = true)
    (xqTooManyEdits : PySem.W.excIn K CTooManyEdits [.type "ValueError", .type "Exception", .type "BaseException", .type "object"] "ValueError.__new__" = true)
    {CUnfit : Addr} {nmUnfit qUnfit : Str} {NUnfit : Addr} {bsUnfit subUnfit : List Value} {snUnfit : List Str} {abUnfit : Bool} {colUnfit : Option Bool} {ddUnfit : Option Addr} {m0Unfit m1Unfit m2Unfit m3Unfit m5Unfit : Option Value}
    (aCUnfit : PySem.W.nsIn K mainGlobals "Unfit" = some (some (.ref CUnfit)))
    (xLUnfit : K.lookup CUnfit = some (excClassObj nmUnfit qUnfit CUnfit NUnfit bsUnfit [.ref CBr, .type "ValueError", .type "Exception", .type "BaseException", .type "object"] true snUnfit subUnfit abUnfit colUnfit ddUnfit m0Unfit m1Unfit m2Unfit m3Unfit m5Unfit "ValueError.__new__"))
    (tyUnfit : PySem.W.typeIn K (.ref CUnfit) = some (.type "type"))
    (gaUnfit : PySem.W.findIn K (.ref CUnfit) "__getattribute__" = some (some (.builtin "BaseException.__getattribute__")))
    (gtUnfit : PySem.W.findIn K (.ref CUnfit) "__getattr__" = some none)
    (caUnfit : PySem.W.findIn K (.ref CUnfit) "__class__" = some (some (.builtin "object.__class__")))
    (kCUnfit : PySem.W.keepIn K (.ref CUnfit) = true)
    (xqUnfit : PySem.W.excIn K CUnfit [.type "ValueError", .type "Exception", .type "BaseException", .type "object"] "ValueError.__new__" = true)
    {CUnlikeAxes : Addr} {nmUnlikeAxes qUnlikeAxes : Str} {NUnlikeAxes : Addr} {bsUnlikeAxes subUnlikeAxes : List Value} {snUnlikeAxes : List Str} {abUnlikeAxes : Bool} {colUnlikeAxes : Option Bool} {ddUnlikeAxes : Option Addr} {m0UnlikeAxes m1UnlikeAxes m2UnlikeAxes m3UnlikeAxes m5UnlikeAxes : Option Value}
    (aCUnlikeAxes : PySem.W.nsIn K mainGlobals "UnlikeAxes" = some (some (.ref CUnlikeAxes)))
    (xLUnlikeAxes : K.lookup CUnlikeAxes = some (excClassObj nmUnlikeAxes qUnlikeAxes CUnlikeAxes NUnlikeAxes bsUnlikeAxes [.ref CBr, .type "ValueError", .type "Exception", .type "BaseException", .type "object"] true snUnlikeAxes subUnlikeAxes abUnlikeAxes colUnlikeAxes ddUnlikeAxes m0UnlikeAxes m1UnlikeAxes m2UnlikeAxes m3UnlikeAxes m5UnlikeAxes "ValueError.__new__"))
    (tyUnlikeAxes : PySem.W.typeIn K (.ref CUnlikeAxes) = some (.type "type"))
    (gaUnlikeAxes : PySem.W.findIn K (.ref CUnlikeAxes) "__getattribute__" = some (some (.builtin "BaseException.__getattribute__")))
    (gtUnlikeAxes : PySem.W.findIn K (.ref CUnlikeAxes) "__getattr__" = some none)
    (caUnlikeAxes : PySem.W.findIn K (.ref CUnlikeAxes) "__class__" = some (some (.builtin "object.__class__")))
    (kCUnlikeAxes : PySem.W.keepIn K (.ref CUnlikeAxes) = true)
    (xqUnlikeAxes : PySem.W.excIn K CUnlikeAxes [.type "ValueError", .type "Exception", .type "BaseException", .type "object"] "ValueError.__new__" = true)
    (hnX : PySem.W.specialIn K (.builtin "object.__class__") "__get__" = some (some (.builtin "getset_descriptor.__get__"))) (htX : PySem.W.takesIn K (.builtin "object.__class__") = some true)
    (ndX : (CBr :: [CBadBatch, CBadBox, CBadKinds, CBadOrder, CBadPaper, CBadSide, CBadText, CBusy, CNoAxis, CNoKind, CNoNumber, CNoSeam, CNotFilled, CNothingToUndo, CNoVersion, CRejected, CTooLarge, CTooManyEdits, CUnfit, CUnlikeAxes]).Nodup)
    : ∃ fd : FuncData, (∀ (s : Shared) (v : Value), BindsTo s fd ⟨[v], []⟩ [("_law_script", v)]) ∧ ∀ base : Heap, K.In base → base.Ns mainGlobals mg → TB.AtTop l.prog w K mg base fa fd "_law_script" (spLaw K) := by
  have e := hfa.symm.trans (PySem.W.mg_of X G a8)
  cases e
  have T : Txt mg := ⟨PySem.W.mg_none_of X G z_ValueError, PySem.W.mg_none_of X G z_abs, PySem.W.mg_none_of X G z_int, PySem.W.mg_none_of X G z_isinstance, PySem.W.mg_none_of X G z_len, PySem.W.mg_none_of X G z_range, PySem.W.mg_none_of X G z_repr, ⟨_, PySem.W.mg_of X G v_BATCH⟩, ⟨_, PySem.W.mg_of X G v_HISTORY⟩, ⟨_, PySem.W.mg_of X G v_MAX_CELLS⟩, ⟨_, PySem.W.mg_of X G v_MAX_DIMS⟩, ⟨_, PySem.W.mg_of X G v_MAX_FEW⟩, ⟨_, PySem.W.mg_of X G v_MAX_KINDS⟩, ⟨_, PySem.W.mg_of X G v_MAX_ROWS⟩, ⟨_, PySem.W.mg_of X G v_MAX_SIDE⟩⟩
  have F1 := fun_mk (st := s__law_deck) l1 c1 k1
  have F2 := fun_mk (st := s__law_draw) l2 c2 k2
  have F3 := fun_mk (st := s__law_one) l3 c3 k3
  have F4 := fun_mk (st := s__law_odd) l4 c4 k4
  have F5 := fun_mk (st := s__law_made) l5 c5 k5
  have F6 := fun_mk (st := s__law_classes) l6 c6 k6
  have F7 := fun_mk (st := s__law_fields) l7 c7 k7
  have F8 := fun_mk (st := s_law) l8 c8 k8
  refine ⟨PySem.W.fnOf "law" "law" (defArgs s_law) (defBody s_law) (defScope s_law) .none kV8 dc8 pm8 an8 cd8 ct8, fun s v => .of_eq rfl, fun base _ _ => ?_⟩
  have X_BadBatch : TB.XCls K CBr CBadBatch := ⟨⟨_, _, _, _, _, _, _, _, _, _, _, _, _, _, xLBadBatch⟩, tyBadBatch, gaBadBatch, gtBadBatch, caBadBatch⟩
  have X_BadBox : TB.XCls K CBr CBadBox := ⟨⟨_, _, _, _, _, _, _, _, _, _, _, _, _, _, xLBadBox⟩, tyBadBox, gaBadBox, gtBadBox, caBadBox⟩
  have FIBadBox := fun_mk (st := s_ini_BadBox) lABadBox cABadBox kABadBox
  have OBadBox : OexC K CBadBox := ⟨⟨_, _, _, _, _, _, _, _, _, _, _, _, _, _, _, xLBadBox, rfl⟩, saBadBox, X_BadBox.sub, tyBadBox, kCBadBox⟩
  have E_BadBox : TB.ErrN l.prog w K mg base "BadBox" ["error"] CBadBox := ⟨PySem.W.mg_of X G aCBadBox, OBadBox, _, _, _, iABadBox, tABadBox, FIBadBox.binds (ps := ["self", "error"]) fun _ _ _ _ _ _ us hl => match us, hl with | [_, _], _ => rfl, rfl, ok_ini_BadBox FIBadBox OBadBox nf_error_BadBox, (fun f hf => by cases hf; exact fun s a u => .of_eq rfl), (fun f g hf => nomatch hf)⟩
  have X_BadKinds : TB.XCls K CBr CBadKinds := ⟨⟨_, _, _, _, _, _, _, _, _, _, _, _, _, _, xLBadKinds⟩, tyBadKinds, gaBadKinds, gtBadKinds, caBadKinds⟩
  have FIBadKinds := fun_mk (st := s_ini_BadKinds) lABadKinds cABadKinds kABadKinds
  have OBadKinds : OexC K CBadKinds := ⟨⟨_, _, _, _, _, _, _, _, _, _, _, _, _, _, _, xLBadKinds, rfl⟩, saBadKinds, X_BadKinds.sub, tyBadKinds, kCBadKinds⟩
  have E_BadKinds : TB.ErrN l.prog w K mg base "BadKinds" ["error"] CBadKinds := ⟨PySem.W.mg_of X G aCBadKinds, OBadKinds, _, _, _, iABadKinds, tABadKinds, FIBadKinds.binds (ps := ["self", "error"]) fun _ _ _ _ _ _ us hl => match us, hl with | [_, _], _ => rfl, rfl, ok_ini_BadKinds FIBadKinds OBadKinds nf_error_BadKinds, (fun f hf => by cases hf; exact fun s a u => .of_eq rfl), (fun f g hf => nomatch hf)⟩
  have X_BadOrder : TB.XCls K CBr CBadOrder := ⟨⟨_, _, _, _, _, _, _, _, _, _, _, _, _, _, xLBadOrder⟩, tyBadOrder, gaBadOrder, gtBadOrder, caBadOrder⟩
  have FIBadOrder := fun_mk (st := s_ini_BadOrder) lABadOrder cABadOrder kABadOrder
  have OBadOrder : OexC K CBadOrder := ⟨⟨_, _, _, _, _, _, _, _, _, _, _, _, _, _, _, xLBadOrder, rfl⟩, saBadOrder, X_BadOrder.sub, tyBadOrder, kCBadOrder⟩
  have E_BadOrder : TB.ErrN l.prog w K mg base "BadOrder" ["given"] CBadOrder := ⟨PySem.W.mg_of X G aCBadOrder, OBadOrder, _, _, _, iABadOrder, tABadOrder, FIBadOrder.binds (ps := ["self", "given"]) fun _ _ _ _ _ _ us hl => match us, hl with | [_, _], _ => rfl, rfl, ok_ini_BadOrder FIBadOrder OBadOrder nf_given_BadOrder, (fun f hf => by cases hf; exact fun s a u => .of_eq rfl), (fun f g hf => nomatch hf)⟩
  have X_BadPaper : TB.XCls K CBr CBadPaper := ⟨⟨_, _, _, _, _, _, _, _, _, _, _, _, _, _, xLBadPaper⟩, tyBadPaper, gaBadPaper, gtBadPaper, caBadPaper⟩
  have FIBadPaper := fun_mk (st := s_ini_BadPaper) lABadPaper cABadPaper kABadPaper
  have OBadPaper : OexC K CBadPaper := ⟨⟨_, _, _, _, _, _, _, _, _, _, _, _, _, _, _, xLBadPaper, rfl⟩, saBadPaper, X_BadPaper.sub, tyBadPaper, kCBadPaper⟩
  have E_BadPaper : TB.ErrN l.prog w K mg base "BadPaper" ["given"] CBadPaper := ⟨PySem.W.mg_of X G aCBadPaper, OBadPaper, _, _, _, iABadPaper, tABadPaper, FIBadPaper.binds (ps := ["self", "given"]) fun _ _ _ _ _ _ us hl => match us, hl with | [_, _], _ => rfl, rfl, ok_ini_BadPaper FIBadPaper OBadPaper nf_given_BadPaper, (fun f hf => by cases hf; exact fun s a u => .of_eq rfl), (fun f g hf => nomatch hf)⟩
  have X_BadSide : TB.XCls K CBr CBadSide := ⟨⟨_, _, _, _, _, _, _, _, _, _, _, _, _, _, xLBadSide⟩, tyBadSide, gaBadSide, gtBadSide, caBadSide⟩
  have FIBadSide := fun_mk (st := s_ini_BadSide) lABadSide cABadSide kABadSide
  have OBadSide : OexC K CBadSide := ⟨⟨_, _, _, _, _, _, _, _, _, _, _, _, _, _, _, xLBadSide, rfl⟩, saBadSide, X_BadSide.sub, tyBadSide, kCBadSide⟩
  have E_BadSide : TB.ErrN l.prog w K mg base "BadSide" ["given"] CBadSide := ⟨PySem.W.mg_of X G aCBadSide, OBadSide, _, _, _, iABadSide, tABadSide, FIBadSide.binds (ps := ["self", "given"]) fun _ _ _ _ _ _ us hl => match us, hl with | [_, _], _ => rfl, rfl, ok_ini_BadSide FIBadSide OBadSide nf_given_BadSide, (fun f hf => by cases hf; exact fun s a u => .of_eq rfl), (fun f g hf => nomatch hf)⟩
  have X_BadText : TB.XCls K CBr CBadText := ⟨⟨_, _, _, _, _, _, _, _, _, _, _, _, _, _, xLBadText⟩, tyBadText, gaBadText, gtBadText, caBadText⟩
  have FIBadText := fun_mk (st := s_ini_BadText) lABadText cABadText kABadText
  have OBadText : OexC K CBadText := ⟨⟨_, _, _, _, _, _, _, _, _, _, _, _, _, _, _, xLBadText, rfl⟩, saBadText, X_BadText.sub, tyBadText, kCBadText⟩
  have E_BadText : TB.ErrN l.prog w K mg base "BadText" ["place"] CBadText := ⟨PySem.W.mg_of X G aCBadText, OBadText, _, _, _, iABadText, tABadText, FIBadText.binds (ps := ["self", "place"]) fun _ _ _ _ _ _ us hl => match us, hl with | [_, _], _ => rfl, rfl, ok_ini_BadText FIBadText OBadText nf_place_BadText, (fun f hf => by cases hf; exact fun s a u => .of_eq rfl), (fun f g hf => nomatch hf)⟩
  have X_Busy : TB.XCls K CBr CBusy := ⟨⟨_, _, _, _, _, _, _, _, _, _, _, _, _, _, xLBusy⟩, tyBusy, gaBusy, gtBusy, caBusy⟩
  have X_NoAxis : TB.XCls K CBr CNoAxis := ⟨⟨_, _, _, _, _, _, _, _, _, _, _, _, _, _, xLNoAxis⟩, tyNoAxis, gaNoAxis, gtNoAxis, caNoAxis⟩
  have FINoAxis := fun_mk (st := s_ini_NoAxis) lANoAxis cANoAxis kANoAxis
  have ONoAxis : OexC K CNoAxis := ⟨⟨_, _, _, _, _, _, _, _, _, _, _, _, _, _, _, xLNoAxis, rfl⟩, saNoAxis, X_NoAxis.sub, tyNoAxis, kCNoAxis⟩
  have E_NoAxis : TB.ErrN l.prog w K mg base "NoAxis" ["given"] CNoAxis := ⟨PySem.W.mg_of X G aCNoAxis, ONoAxis, _, _, _, iANoAxis, tANoAxis, FINoAxis.binds (ps := ["self", "given"]) fun _ _ _ _ _ _ us hl => match us, hl with | [_, _], _ => rfl, rfl, ok_ini_NoAxis FINoAxis ONoAxis nf_given_NoAxis, (fun f hf => by cases hf; exact fun s a u => .of_eq rfl), (fun f g hf => nomatch hf)⟩
  have X_NoKind : TB.XCls K CBr CNoKind := ⟨⟨_, _, _, _, _, _, _, _, _, _, _, _, _, _, xLNoKind⟩, tyNoKind, gaNoKind, gtNoKind, caNoKind⟩
  have FINoKind := fun_mk (st := s_ini_NoKind) lANoKind cANoKind kANoKind
  have ONoKind : OexC K CNoKind := ⟨⟨_, _, _, _, _, _, _, _, _, _, _, _, _, _, _, xLNoKind, rfl⟩, saNoKind, X_NoKind.sub, tyNoKind, kCNoKind⟩
  have E_NoKind : TB.ErrN l.prog w K mg base "NoKind" ["given"] CNoKind := ⟨PySem.W.mg_of X G aCNoKind, ONoKind, _, _, _, iANoKind, tANoKind, FINoKind.binds (ps := ["self", "given"]) fun _ _ _ _ _ _ us hl => match us, hl with | [_, _], _ => rfl, rfl, ok_ini_NoKind FINoKind ONoKind nf_given_NoKind, (fun f hf => by cases hf; exact fun s a u => .of_eq rfl), (fun f g hf => nomatch hf)⟩
  have X_NoNumber : TB.XCls K CBr CNoNumber := ⟨⟨_, _, _, _, _, _, _, _, _, _, _, _, _, _, xLNoNumber⟩, tyNoNumber, gaNoNumber, gtNoNumber, caNoNumber⟩
  have FINoNumber := fun_mk (st := s_ini_NoNumber) lANoNumber cANoNumber kANoNumber
  have ONoNumber : OexC K CNoNumber := ⟨⟨_, _, _, _, _, _, _, _, _, _, _, _, _, _, _, xLNoNumber, rfl⟩, saNoNumber, X_NoNumber.sub, tyNoNumber, kCNoNumber⟩
  have E_NoNumber : TB.ErrN l.prog w K mg base "NoNumber" ["number"] CNoNumber := ⟨PySem.W.mg_of X G aCNoNumber, ONoNumber, _, _, _, iANoNumber, tANoNumber, FINoNumber.binds (ps := ["self", "number"]) fun _ _ _ _ _ _ us hl => match us, hl with | [_, _], _ => rfl, rfl, ok_ini_NoNumber FINoNumber ONoNumber nf_number_NoNumber, (fun f hf => by cases hf; exact fun s a u => .of_eq rfl), (fun f g hf => nomatch hf)⟩
  have X_NoSeam : TB.XCls K CBr CNoSeam := ⟨⟨_, _, _, _, _, _, _, _, _, _, _, _, _, _, xLNoSeam⟩, tyNoSeam, gaNoSeam, gtNoSeam, caNoSeam⟩
  have FINoSeam := fun_mk (st := s_ini_NoSeam) lANoSeam cANoSeam kANoSeam
  have ONoSeam : OexC K CNoSeam := ⟨⟨_, _, _, _, _, _, _, _, _, _, _, _, _, _, _, xLNoSeam, rfl⟩, saNoSeam, X_NoSeam.sub, tyNoSeam, kCNoSeam⟩
  have E_NoSeam : TB.ErrN l.prog w K mg base "NoSeam" ["axis", "at"] CNoSeam := ⟨PySem.W.mg_of X G aCNoSeam, ONoSeam, _, _, _, iANoSeam, tANoSeam, FINoSeam.binds (ps := ["self", "axis", "at"]) fun _ _ _ _ _ _ us hl => match us, hl with | [_, _, _], _ => rfl, rfl, ok_ini_NoSeam FINoSeam ONoSeam nf_axis_NoSeam nf_at_NoSeam, (fun f hf => nomatch hf), (fun f g hf => by cases hf; exact fun s a u v => .of_eq rfl)⟩
  have X_NotFilled : TB.XCls K CBr CNotFilled := ⟨⟨_, _, _, _, _, _, _, _, _, _, _, _, _, _, xLNotFilled⟩, tyNotFilled, gaNotFilled, gtNotFilled, caNotFilled⟩
  have FINotFilled := fun_mk (st := s_ini_NotFilled) lANotFilled cANotFilled kANotFilled
  have ONotFilled : OexC K CNotFilled := ⟨⟨_, _, _, _, _, _, _, _, _, _, _, _, _, _, _, xLNotFilled, rfl⟩, saNotFilled, X_NotFilled.sub, tyNotFilled, kCNotFilled⟩
  have E_NotFilled : TB.ErrN l.prog w K mg base "NotFilled" ["reason"] CNotFilled := ⟨PySem.W.mg_of X G aCNotFilled, ONotFilled, _, _, _, iANotFilled, tANotFilled, FINotFilled.binds (ps := ["self", "reason"]) fun _ _ _ _ _ _ us hl => match us, hl with | [_, _], _ => rfl, rfl, ok_ini_NotFilled FINotFilled ONotFilled nf_reason_NotFilled, (fun f hf => by cases hf; exact fun s a u => .of_eq rfl), (fun f g hf => nomatch hf)⟩
  have X_NothingToUndo : TB.XCls K CBr CNothingToUndo := ⟨⟨_, _, _, _, _, _, _, _, _, _, _, _, _, _, xLNothingToUndo⟩, tyNothingToUndo, gaNothingToUndo, gtNothingToUndo, caNothingToUndo⟩
  have X_NoVersion : TB.XCls K CBr CNoVersion := ⟨⟨_, _, _, _, _, _, _, _, _, _, _, _, _, _, xLNoVersion⟩, tyNoVersion, gaNoVersion, gtNoVersion, caNoVersion⟩
  have FINoVersion := fun_mk (st := s_ini_NoVersion) lANoVersion cANoVersion kANoVersion
  have ONoVersion : OexC K CNoVersion := ⟨⟨_, _, _, _, _, _, _, _, _, _, _, _, _, _, _, xLNoVersion, rfl⟩, saNoVersion, X_NoVersion.sub, tyNoVersion, kCNoVersion⟩
  have E_NoVersion : TB.ErrN l.prog w K mg base "NoVersion" ["given"] CNoVersion := ⟨PySem.W.mg_of X G aCNoVersion, ONoVersion, _, _, _, iANoVersion, tANoVersion, FINoVersion.binds (ps := ["self", "given"]) fun _ _ _ _ _ _ us hl => match us, hl with | [_, _], _ => rfl, rfl, ok_ini_NoVersion FINoVersion ONoVersion nf_given_NoVersion, (fun f hf => by cases hf; exact fun s a u => .of_eq rfl), (fun f g hf => nomatch hf)⟩
  have X_Rejected : TB.XCls K CBr CRejected := ⟨⟨_, _, _, _, _, _, _, _, _, _, _, _, _, _, xLRejected⟩, tyRejected, gaRejected, gtRejected, caRejected⟩
  have FIRejected := fun_mk (st := s_ini_Rejected) lARejected cARejected kARejected
  have ORejected : OexC K CRejected := ⟨⟨_, _, _, _, _, _, _, _, _, _, _, _, _, _, _, xLRejected, rfl⟩, saRejected, X_Rejected.sub, tyRejected, kCRejected⟩
  have E_Rejected : TB.ErrN l.prog w K mg base "Rejected" ["index"] CRejected := ⟨PySem.W.mg_of X G aCRejected, ORejected, _, _, _, iARejected, tARejected, FIRejected.binds (ps := ["self", "index"]) fun _ _ _ _ _ _ us hl => match us, hl with | [_, _], _ => rfl, rfl, ok_ini_Rejected FIRejected ORejected nf_index_Rejected, (fun f hf => by cases hf; exact fun s a u => .of_eq rfl), (fun f g hf => nomatch hf)⟩
  have X_TooLarge : TB.XCls K CBr CTooLarge := ⟨⟨_, _, _, _, _, _, _, _, _, _, _, _, _, _, xLTooLarge⟩, tyTooLarge, gaTooLarge, gtTooLarge, caTooLarge⟩
  have FITooLarge := fun_mk (st := s_ini_TooLarge) lATooLarge cATooLarge kATooLarge
  have OTooLarge : OexC K CTooLarge := ⟨⟨_, _, _, _, _, _, _, _, _, _, _, _, _, _, _, xLTooLarge, rfl⟩, saTooLarge, X_TooLarge.sub, tyTooLarge, kCTooLarge⟩
  have E_TooLarge : TB.ErrN l.prog w K mg base "TooLarge" ["axis"] CTooLarge := ⟨PySem.W.mg_of X G aCTooLarge, OTooLarge, _, _, _, iATooLarge, tATooLarge, FITooLarge.binds (ps := ["self", "axis"]) fun _ _ _ _ _ _ us hl => match us, hl with | [_, _], _ => rfl, rfl, ok_ini_TooLarge FITooLarge OTooLarge nf_axis_TooLarge, (fun f hf => by cases hf; exact fun s a u => .of_eq rfl), (fun f g hf => nomatch hf)⟩
  have X_TooManyEdits : TB.XCls K CBr CTooManyEdits := ⟨⟨_, _, _, _, _, _, _, _, _, _, _, _, _, _, xLTooManyEdits⟩, tyTooManyEdits, gaTooManyEdits, gtTooManyEdits, caTooManyEdits⟩
  have X_Unfit : TB.XCls K CBr CUnfit := ⟨⟨_, _, _, _, _, _, _, _, _, _, _, _, _, _, xLUnfit⟩, tyUnfit, gaUnfit, gtUnfit, caUnfit⟩
  have X_UnlikeAxes : TB.XCls K CBr CUnlikeAxes := ⟨⟨_, _, _, _, _, _, _, _, _, _, _, _, _, _, xLUnlikeAxes⟩, tyUnlikeAxes, gaUnlikeAxes, gtUnlikeAxes, caUnlikeAxes⟩
  obtain ⟨cl, hcl⟩ : ∃ cl : Nat → Addr, cl = fun i => ([CBadBatch, CBadBox, CBadKinds, CBadOrder, CBadPaper, CBadSide, CBadText, CBusy, CNoAxis, CNoKind, CNoNumber, CNoSeam, CNotFilled, CNothingToUndo, CNoVersion, CRejected, CTooLarge, CTooManyEdits, CUnfit, CUnlikeAxes] : List Addr).getD i 0 := ⟨_, rfl⟩
  have Z : Ctx l.prog w K mg base CBr cl := by
    subst hcl
    exact ⟨PySem.W.mg_of X G aCBr, PySem.W.mg_of X G aCBadBatch, xqBadBatch, kCBadBatch, E_BadBox, nf_error_BadBox, E_BadKinds, nf_error_BadKinds, E_BadOrder, nf_given_BadOrder, E_BadPaper, nf_given_BadPaper, E_BadSide, nf_given_BadSide, E_BadText, nf_place_BadText, PySem.W.mg_of X G aCBusy, xqBusy, kCBusy, E_NoAxis, nf_given_NoAxis, E_NoKind, nf_given_NoKind, E_NoNumber, nf_number_NoNumber, E_NoSeam, nf_axis_NoSeam, nf_at_NoSeam, E_NotFilled, nf_reason_NotFilled, PySem.W.mg_of X G aCNothingToUndo, xqNothingToUndo, kCNothingToUndo, E_NoVersion, nf_given_NoVersion, E_Rejected, nf_index_Rejected, E_TooLarge, nf_axis_TooLarge, PySem.W.mg_of X G aCTooManyEdits, xqTooManyEdits, kCTooManyEdits, PySem.W.mg_of X G aCUnfit, xqUnfit, kCUnfit, PySem.W.mg_of X G aCUnlikeAxes, xqUnlikeAxes, kCUnlikeAxes,
      fun i hi => match i, hi with | 0, _ => X_BadBatch | 1, _ => X_BadBox | 2, _ => X_BadKinds | 3, _ => X_BadOrder | 4, _ => X_BadPaper | 5, _ => X_BadSide | 6, _ => X_BadText | 7, _ => X_Busy | 8, _ => X_NoAxis | 9, _ => X_NoKind | 10, _ => X_NoNumber | 11, _ => X_NoSeam | 12, _ => X_NotFilled | 13, _ => X_NothingToUndo | 14, _ => X_NoVersion | 15, _ => X_Rejected | 16, _ => X_TooLarge | 17, _ => X_TooManyEdits | 18, _ => X_Unfit | 19, _ => X_UnlikeAxes | i + 20, h => absurd h (by omega),
      fun i j hi hj e => DL.nodup_inj (List.nodup_cons.mp ndX).2 hi hj e, fun i hi e => (List.nodup_cons.mp ndX).1 (DL.getD_mem (l := [CBadBatch, CBadBox, CBadKinds, CBadOrder, CBadPaper, CBadSide, CBadText, CBusy, CNoAxis, CNoKind, CNoNumber, CNoSeam, CNotFilled, CNothingToUndo, CNoVersion, CRejected, CTooLarge, CTooManyEdits, CUnfit, CUnlikeAxes]) hi e), hnX, htX, hBr, tBr⟩
  have h__law_deck := TB.keeps_of (F := F1) (PySem.W.mg_of X G a1) (F1.binds (ps := p__law_deck) fun _ _ _ _ _ _ us hl => match us, hl with | [_], _ => rfl) (ok__law_deck (P := l.prog) (w := w) (base := base) T F1 )
  have h__law_draw := TB.keeps_of (F := F2) (PySem.W.mg_of X G a2) (F2.binds (ps := p__law_draw) fun _ _ _ _ _ _ us hl => match us, hl with | [_, _], _ => rfl) (ok__law_draw (P := l.prog) (w := w) (base := base) T F2 )
  have h__law_one := TB.keeps_of (F := F3) (PySem.W.mg_of X G a3) (F3.binds (ps := p__law_one) fun _ _ _ _ _ _ us hl => match us, hl with | [_, _], _ => rfl) (ok__law_one (P := l.prog) (w := w) (base := base) T F3 h__law_draw)
  have h__law_odd := TB.keeps_of (F := F4) (PySem.W.mg_of X G a4) (F4.binds (ps := p__law_odd) fun _ _ _ _ _ _ us hl => match us, hl with | [_], _ => rfl) (ok__law_odd (P := l.prog) (w := w) (base := base) T F4 h__law_one)
  have h__law_made := TB.keeps_of (F := F5) (PySem.W.mg_of X G a5) (F5.binds (ps := p__law_made) fun _ _ _ _ _ _ us hl => match us, hl with | [_, _], _ => rfl) (ok__law_made (P := l.prog) (w := w) (base := base) T F5 Z )
  have h__law_classes := TB.keeps_of (F := F6) (PySem.W.mg_of X G a6) (F6.binds (ps := p__law_classes) fun _ _ _ _ _ _ us hl => match us, hl with | [_], _ => rfl) (ok__law_classes (P := l.prog) (w := w) (base := base) T F6 Z )
  have h__law_fields := TB.keeps_of (F := F7) (PySem.W.mg_of X G a7) (F7.binds (ps := p__law_fields) fun _ _ _ _ _ _ us hl => match us, hl with | [_, _], _ => rfl) (ok__law_fields (P := l.prog) (w := w) (base := base) T F7 Z )
  exact ok_law T F8 Z h__law_deck h__law_odd h__law_made h__law_classes h__law_fields

end K01
set_option Elab.async false
set_option linter.all false
set_option maxRecDepth 100000
open PySem PySem.W PyProof.Rows
set_option maxHeartbeats 0 in
theorem PySem.Challenge.cw_twobricks_k01_errors_and_bounds_holds : PySem.Challenge.rw_twobricks_k01_errors_and_bounds.Holds := by
  w_on; o_law; k_head; (case hw => w_witness2)
  k_fill
  refine TB.walk_top (l := PySem.Challenge.rw_twobricks_k01_errors_and_bounds) (n := 63) (x := "_law_script") (sp := fun w => K01.spLaw _) rfl (by decide) rfl (fun w h Y => PySem.W.kIn_of Y) ?F (fun _ _ a ns hl _ _ hS => K01.sp_start hl hS)
  case F =>
    intro w mg fa h KX G hmg
    refine' K01.all_mk KX G hmg ?a1 ?l1 ?c1 ?k1 ?a2 ?l2 ?c2 ?k2 ?a3 ?l3 ?c3 ?k3 ?a4 ?l4 ?c4 ?k4 ?a5 ?l5 ?c5 ?k5 ?a6 ?l6 ?c6 ?k6 ?a7 ?l7 ?c7 ?k7 ?a8 ?l8 ?c8 ?k8 ?z_ValueError ?z_abs ?z_int ?z_isinstance ?z_len ?z_range ?z_repr ?v_BATCH ?v_HISTORY ?v_MAX_CELLS ?v_MAX_DIMS ?v_MAX_FEW ?v_MAX_KINDS ?v_MAX_ROWS ?v_MAX_SIDE ?aCBr ?hBr ?tBr ?aCBadBatch ?xLBadBatch ?tyBadBatch ?gaBadBatch ?gtBadBatch ?caBadBatch ?kCBadBatch ?xqBadBatch ?aCBadBox ?xLBadBox ?tyBadBox ?gaBadBox ?gtBadBox ?caBadBox ?kCBadBox ?saBadBox ?iABadBox ?tABadBox ?lABadBox ?cABadBox ?kABadBox ?nf_error_BadBox ?aCBadKinds ?xLBadKinds ?tyBadKinds ?gaBadKinds ?gtBadKinds ?caBadKinds ?kCBadKinds ?saBadKinds ?iABadKinds ?tABadKinds ?lABadKinds ?cABadKinds ?kABadKinds ?nf_error_BadKinds ?aCBadOrder ?xLBadOrder ?tyBadOrder ?gaBadOrder ?gtBadOrder ?caBadOrder ?kCBadOrder ?saBadOrder ?iABadOrder ?tABadOrder ?lABadOrder ?cABadOrder ?kABadOrder ?nf_given_BadOrder ?aCBadPaper ?xLBadPaper ?tyBadPaper ?gaBadPaper ?gtBadPaper ?caBadPaper ?kCBadPaper ?saBadPaper ?iABadPaper ?tABadPaper ?lABadPaper ?cABadPaper ?kABadPaper ?nf_given_BadPaper ?aCBadSide ?xLBadSide ?tyBadSide ?gaBadSide ?gtBadSide ?caBadSide ?kCBadSide ?saBadSide ?iABadSide ?tABadSide ?lABadSide ?cABadSide ?kABadSide ?nf_given_BadSide ?aCBadText ?xLBadText ?tyBadText ?gaBadText ?gtBadText ?caBadText ?kCBadText ?saBadText ?iABadText ?tABadText ?lABadText ?cABadText ?kABadText ?nf_place_BadText ?aCBusy ?xLBusy ?tyBusy ?gaBusy ?gtBusy ?caBusy ?kCBusy ?xqBusy ?aCNoAxis ?xLNoAxis ?tyNoAxis ?gaNoAxis ?gtNoAxis ?caNoAxis ?kCNoAxis ?saNoAxis ?iANoAxis ?tANoAxis ?lANoAxis ?cANoAxis ?kANoAxis ?nf_given_NoAxis ?aCNoKind ?xLNoKind ?tyNoKind ?gaNoKind ?gtNoKind ?caNoKind ?kCNoKind ?saNoKind ?iANoKind ?tANoKind ?lANoKind ?cANoKind ?kANoKind ?nf_given_NoKind ?aCNoNumber ?xLNoNumber ?tyNoNumber ?gaNoNumber ?gtNoNumber ?caNoNumber ?kCNoNumber ?saNoNumber ?iANoNumber ?tANoNumber ?lANoNumber ?cANoNumber ?kANoNumber ?nf_number_NoNumber ?aCNoSeam ?xLNoSeam ?tyNoSeam ?gaNoSeam ?gtNoSeam ?caNoSeam ?kCNoSeam ?saNoSeam ?iANoSeam ?tANoSeam ?lANoSeam ?cANoSeam ?kANoSeam ?nf_axis_NoSeam ?nf_at_NoSeam ?aCNotFilled ?xLNotFilled ?tyNotFilled ?gaNotFilled ?gtNotFilled ?caNotFilled ?kCNotFilled ?saNotFilled ?iANotFilled ?tANotFilled ?lANotFilled ?cANotFilled ?kANotFilled ?nf_reason_NotFilled ?aCNothingToUndo ?xLNothingToUndo ?tyNothingToUndo ?gaNothingToUndo ?gtNothingToUndo ?caNothingToUndo ?kCNothingToUndo ?xqNothingToUndo ?aCNoVersion ?xLNoVersion ?tyNoVersion ?gaNoVersion ?gtNoVersion ?caNoVersion ?kCNoVersion ?saNoVersion ?iANoVersion ?tANoVersion ?lANoVersion ?cANoVersion ?kANoVersion ?nf_given_NoVersion ?aCRejected ?xLRejected ?tyRejected ?gaRejected ?gtRejected ?caRejected ?kCRejected ?saRejected ?iARejected ?tARejected ?lARejected ?cARejected ?kARejected ?nf_index_Rejected ?aCTooLarge ?xLTooLarge ?tyTooLarge ?gaTooLarge ?gtTooLarge ?caTooLarge ?kCTooLarge ?saTooLarge ?iATooLarge ?tATooLarge ?lATooLarge ?cATooLarge ?kATooLarge ?nf_axis_TooLarge ?aCTooManyEdits ?xLTooManyEdits ?tyTooManyEdits ?gaTooManyEdits ?gtTooManyEdits ?caTooManyEdits ?kCTooManyEdits ?xqTooManyEdits ?aCUnfit ?xLUnfit ?tyUnfit ?gaUnfit ?gtUnfit ?caUnfit ?kCUnfit ?xqUnfit ?aCUnlikeAxes ?xLUnlikeAxes ?tyUnlikeAxes ?gaUnlikeAxes ?gtUnlikeAxes ?caUnlikeAxes ?kCUnlikeAxes ?xqUnlikeAxes ?hnX ?htX ?ndX
    (case a1 => k_is)
    (case l1 => k_is)
    (case c1 => k_is)
    (case k1 => k_is)
    (case a2 => k_is)
    (case l2 => k_is)
    (case c2 => k_is)
    (case k2 => k_is)
    (case a3 => k_is)
    (case l3 => k_is)
    (case c3 => k_is)
    (case k3 => k_is)
    (case a4 => k_is)
    (case l4 => k_is)
    (case c4 => k_is)
    (case k4 => k_is)
    (case a5 => k_is)
    (case l5 => k_is)
    (case c5 => k_is)
    (case k5 => k_is)
    (case a6 => k_is)
    (case l6 => k_is)
    (case c6 => k_is)
    (case k6 => k_is)
    (case a7 => k_is)
    (case l7 => k_is)
    (case c7 => k_is)
    (case k7 => k_is)
    (case a8 => k_is)
    (case l8 => k_is)
    (case c8 => k_is)
    (case k8 => k_is)
    (case z_ValueError => k_is)
    (case z_abs => k_is)
    (case z_int => k_is)
    (case z_isinstance => k_is)
    (case z_len => k_is)
    (case z_range => k_is)
    (case z_repr => k_is)
    (case v_BATCH => k_is)
    (case v_HISTORY => k_is)
    (case v_MAX_CELLS => k_is)
    (case v_MAX_DIMS => k_is)
    (case v_MAX_FEW => k_is)
    (case v_MAX_KINDS => k_is)
    (case v_MAX_ROWS => k_is)
    (case v_MAX_SIDE => k_is)
    (case aCBr => k_is)
    (case hBr => k_is)
    (case tBr => k_is)
    (case aCBadBatch => k_is)
    (case xLBadBatch => k_is)
    (case tyBadBatch => k_is)
    (case gaBadBatch => k_is)
    (case gtBadBatch => k_is)
    (case caBadBatch => k_is)
    (case kCBadBatch => k_is)
    (case xqBadBatch => k_exc)
    (case aCBadBox => k_is)
    (case xLBadBox => k_is)
    (case tyBadBox => k_is)
    (case gaBadBox => k_is)
    (case gtBadBox => k_is)
    (case caBadBox => k_is)
    (case kCBadBox => k_is)
    (case saBadBox => k_is)
    (case iABadBox => k_is)
    (case tABadBox => k_is)
    (case lABadBox => k_is)
    (case cABadBox => k_is)
    (case kABadBox => k_is)
    (case nf_error_BadBox => k_is)
    (case aCBadKinds => k_is)
    (case xLBadKinds => k_is)
    (case tyBadKinds => k_is)
    (case gaBadKinds => k_is)
    (case gtBadKinds => k_is)
    (case caBadKinds => k_is)
    (case kCBadKinds => k_is)
    (case saBadKinds => k_is)
    (case iABadKinds => k_is)
    (case tABadKinds => k_is)
    (case lABadKinds => k_is)
    (case cABadKinds => k_is)
    (case kABadKinds => k_is)
    (case nf_error_BadKinds => k_is)
    (case aCBadOrder => k_is)
    (case xLBadOrder => k_is)
    (case tyBadOrder => k_is)
    (case gaBadOrder => k_is)
    (case gtBadOrder => k_is)
    (case caBadOrder => k_is)
    (case kCBadOrder => k_is)
    (case saBadOrder => k_is)
    (case iABadOrder => k_is)
    (case tABadOrder => k_is)
    (case lABadOrder => k_is)
    (case cABadOrder => k_is)
    (case kABadOrder => k_is)
    (case nf_given_BadOrder => k_is)
    (case aCBadPaper => k_is)
    (case xLBadPaper => k_is)
    (case tyBadPaper => k_is)
    (case gaBadPaper => k_is)
    (case gtBadPaper => k_is)
    (case caBadPaper => k_is)
    (case kCBadPaper => k_is)
    (case saBadPaper => k_is)
    (case iABadPaper => k_is)
    (case tABadPaper => k_is)
    (case lABadPaper => k_is)
    (case cABadPaper => k_is)
    (case kABadPaper => k_is)
    (case nf_given_BadPaper => k_is)
    (case aCBadSide => k_is)
    (case xLBadSide => k_is)
    (case tyBadSide => k_is)
    (case gaBadSide => k_is)
    (case gtBadSide => k_is)
    (case caBadSide => k_is)
    (case kCBadSide => k_is)
    (case saBadSide => k_is)
    (case iABadSide => k_is)
    (case tABadSide => k_is)
    (case lABadSide => k_is)
    (case cABadSide => k_is)
    (case kABadSide => k_is)
    (case nf_given_BadSide => k_is)
    (case aCBadText => k_is)
    (case xLBadText => k_is)
    (case tyBadText => k_is)
    (case gaBadText => k_is)
    (case gtBadText => k_is)
    (case caBadText => k_is)
    (case kCBadText => k_is)
    (case saBadText => k_is)
    (case iABadText => k_is)
    (case tABadText => k_is)
    (case lABadText => k_is)
    (case cABadText => k_is)
    (case kABadText => k_is)
    (case nf_place_BadText => k_is)
    (case aCBusy => k_is)
    (case xLBusy => k_is)
    (case tyBusy => k_is)
    (case gaBusy => k_is)
    (case gtBusy => k_is)
    (case caBusy => k_is)
    (case kCBusy => k_is)
    (case xqBusy => k_exc)
    (case aCNoAxis => k_is)
    (case xLNoAxis => k_is)
    (case tyNoAxis => k_is)
    (case gaNoAxis => k_is)
    (case gtNoAxis => k_is)
    (case caNoAxis => k_is)
    (case kCNoAxis => k_is)
    (case saNoAxis => k_is)
    (case iANoAxis => k_is)
    (case tANoAxis => k_is)
    (case lANoAxis => k_is)
    (case cANoAxis => k_is)
    (case kANoAxis => k_is)
    (case nf_given_NoAxis => k_is)
    (case aCNoKind => k_is)
    (case xLNoKind => k_is)
    (case tyNoKind => k_is)
    (case gaNoKind => k_is)
    (case gtNoKind => k_is)
    (case caNoKind => k_is)
    (case kCNoKind => k_is)
    (case saNoKind => k_is)
    (case iANoKind => k_is)
    (case tANoKind => k_is)
    (case lANoKind => k_is)
    (case cANoKind => k_is)
    (case kANoKind => k_is)
    (case nf_given_NoKind => k_is)
    (case aCNoNumber => k_is)
    (case xLNoNumber => k_is)
    (case tyNoNumber => k_is)
    (case gaNoNumber => k_is)
    (case gtNoNumber => k_is)
    (case caNoNumber => k_is)
    (case kCNoNumber => k_is)
    (case saNoNumber => k_is)
    (case iANoNumber => k_is)
    (case tANoNumber => k_is)
    (case lANoNumber => k_is)
    (case cANoNumber => k_is)
    (case kANoNumber => k_is)
    (case nf_number_NoNumber => k_is)
    (case aCNoSeam => k_is)
    (case xLNoSeam => k_is)
    (case tyNoSeam => k_is)
    (case gaNoSeam => k_is)
    (case gtNoSeam => k_is)
    (case caNoSeam => k_is)
    (case kCNoSeam => k_is)
    (case saNoSeam => k_is)
    (case iANoSeam => k_is)
    (case tANoSeam => k_is)
    (case lANoSeam => k_is)
    (case cANoSeam => k_is)
    (case kANoSeam => k_is)
    (case nf_axis_NoSeam => k_is)
    (case nf_at_NoSeam => k_is)
    (case aCNotFilled => k_is)
    (case xLNotFilled => k_is)
    (case tyNotFilled => k_is)
    (case gaNotFilled => k_is)
    (case gtNotFilled => k_is)
    (case caNotFilled => k_is)
    (case kCNotFilled => k_is)
    (case saNotFilled => k_is)
    (case iANotFilled => k_is)
    (case tANotFilled => k_is)
    (case lANotFilled => k_is)
    (case cANotFilled => k_is)
    (case kANotFilled => k_is)
    (case nf_reason_NotFilled => k_is)
    (case aCNothingToUndo => k_is)
    (case xLNothingToUndo => k_is)
    (case tyNothingToUndo => k_is)
    (case gaNothingToUndo => k_is)
    (case gtNothingToUndo => k_is)
    (case caNothingToUndo => k_is)
    (case kCNothingToUndo => k_is)
    (case xqNothingToUndo => k_exc)
    (case aCNoVersion => k_is)
    (case xLNoVersion => k_is)
    (case tyNoVersion => k_is)
    (case gaNoVersion => k_is)
    (case gtNoVersion => k_is)
    (case caNoVersion => k_is)
    (case kCNoVersion => k_is)
    (case saNoVersion => k_is)
    (case iANoVersion => k_is)
    (case tANoVersion => k_is)
    (case lANoVersion => k_is)
    (case cANoVersion => k_is)
    (case kANoVersion => k_is)
    (case nf_given_NoVersion => k_is)
    (case aCRejected => k_is)
    (case xLRejected => k_is)
    (case tyRejected => k_is)
    (case gaRejected => k_is)
    (case gtRejected => k_is)
    (case caRejected => k_is)
    (case kCRejected => k_is)
    (case saRejected => k_is)
    (case iARejected => k_is)
    (case tARejected => k_is)
    (case lARejected => k_is)
    (case cARejected => k_is)
    (case kARejected => k_is)
    (case nf_index_Rejected => k_is)
    (case aCTooLarge => k_is)
    (case xLTooLarge => k_is)
    (case tyTooLarge => k_is)
    (case gaTooLarge => k_is)
    (case gtTooLarge => k_is)
    (case caTooLarge => k_is)
    (case kCTooLarge => k_is)
    (case saTooLarge => k_is)
    (case iATooLarge => k_is)
    (case tATooLarge => k_is)
    (case lATooLarge => k_is)
    (case cATooLarge => k_is)
    (case kATooLarge => k_is)
    (case nf_axis_TooLarge => k_is)
    (case aCTooManyEdits => k_is)
    (case xLTooManyEdits => k_is)
    (case tyTooManyEdits => k_is)
    (case gaTooManyEdits => k_is)
    (case gtTooManyEdits => k_is)
    (case caTooManyEdits => k_is)
    (case kCTooManyEdits => k_is)
    (case xqTooManyEdits => k_exc)
    (case aCUnfit => k_is)
    (case xLUnfit => k_is)
    (case tyUnfit => k_is)
    (case gaUnfit => k_is)
    (case gtUnfit => k_is)
    (case caUnfit => k_is)
    (case kCUnfit => k_is)
    (case xqUnfit => k_exc)
    (case aCUnlikeAxes => k_is)
    (case xLUnlikeAxes => k_is)
    (case tyUnlikeAxes => k_is)
    (case gaUnlikeAxes => k_is)
    (case gtUnlikeAxes => k_is)
    (case caUnlikeAxes => k_is)
    (case kCUnlikeAxes => k_is)
    (case xqUnlikeAxes => k_exc)
    (case hnX => k_is)
    (case htX => k_is)
    (case ndX => decide)
