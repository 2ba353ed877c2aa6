import PyProof.Rows.All
import Wide.All
import OpenK.AllK
import Wide.FinOn
import HandS.ForMost
import HandS.Wide
import HandS.EndBits
import HandS.TupAny
import HandS.Style
import HandS.IsInst
import HandS.Evl
import PyProof.ReprRoads
import KE.KIntText
import KE.GoesMore
import HandS.Zip
import HandS.Steps
import HandS.ExcInit
import HandS.ExcField
import HandS.WordsExc
import HandS.Walk
import HandS.TupMul
import HandS.Gcd
import PySem.Challenge.RW_twobricks_k30_placed_bricks
set_option Elab.async false
set_option linter.all false
set_option maxRecDepth 100000
/-! The base of the law proofs of Twobricks: repr of data, the end of a row whose law asks repr (its guards told). -/
namespace TB
open PySem PySem.Spec PyProof.Rows L2
/-! ### data in the abstract heap, dicts of nothing among them -/
mutual
inductive Rp (K : PySem.W.Frag) (H : Hp) : V → PyData → Prop
  | non : Rp K H .non .none
  | bl (b : Bool) : Rp K H (.bl b) (.bool b)
  | int (i : Int) : Rp K H (.int i) (.int i)
  | str (x : Str) : Rp K H (.str x) (.str x)
  | lst {a : Addr} {xs : List V} {ds : List PyData} : SqL K H a xs → RpAll K H xs ds → Rp K H (.ref a) (.list ds)
  | tup {a : Addr} {xs : List V} {ds : List PyData} : SqT K H a xs → RpAll K H xs ds → Rp K H (.ref a) (.tuple ds)
inductive RpAll (K : PySem.W.Frag) (H : Hp) : List V → List PyData → Prop
  | nil : RpAll K H [] []
  | cons {v : V} {vs : List V} {d : PyData} {ds : List PyData} : Rp K H v d → RpAll K H vs ds → RpAll K H (v :: vs) (d :: ds)
end
section
variable {X : Cx} {pins : List (Addr × Obj)} {σ : L2.St} {H : Hp} {s : Shared}
mutual
theorem Rp.reads (J : Inv X pins σ H s) : ∀ (e : PyData) (z : V) (y : Value), Rp X.K H z e → RelV z y → (∃ as, Reads s.heap y e as) ∧ e.hasDict = false
  | .none, _, _, q, r => by
    cases q; cases r
    exact ⟨⟨_, Reads.none⟩, rfl⟩
  | .bool c, _, _, q, r => by
    cases q; cases r
    exact ⟨⟨_, Reads.bool c⟩, rfl⟩
  | .int j, _, _, q, r => by
    cases q
    obtain ⟨tk, rfl⟩ := r
    exact ⟨⟨_, Reads.int j tk⟩, rfl⟩
  | .str y, _, _, q, r => by
    cases q
    obtain ⟨tk, rfl⟩ := r
    exact ⟨⟨_, Reads.str y tk⟩, rfl⟩
  | .list es, _, _, q, r => by
    cases q with
    | lst hq hz =>
      cases r
      obtain ⟨iq, rz, ⟨oq, nq, hoq, hcq, _, hdq⟩, _⟩ := J.list hq
      obtain ⟨⟨as, hr⟩, hn⟩ := Rp.readsAll J es _ iq hz rz
      exact ⟨⟨_, Reads.list hoq hcq hdq hr⟩, hn⟩
  | .tuple es, _, _, q, r => by
    cases q with
    | tup hq hz =>
      cases r
      obtain ⟨iq, rz, ⟨oq, hoq, hcq, nq, hdq⟩, _⟩ := J.tuple hq
      obtain ⟨⟨as, hr⟩, hn⟩ := Rp.readsAll J es _ iq hz rz
      exact ⟨⟨_, Reads.tuple hoq hcq hdq hr⟩, hn⟩
  | .dict _, _, _, q, _ => by cases q
theorem Rp.readsAll (J : Inv X pins σ H s) : ∀ (es : List PyData) (zs : List V) (ys : List Value), RpAll X.K H zs es → Vals zs ys → (∃ as, ReadsAll s.heap ys es as) ∧ PyData.hasDictAll es = false
  | [], _, _, q, r => by
    cases q; cases r
    exact ⟨⟨_, ReadsAll.nil⟩, rfl⟩
  | e :: es, _, _, q, r => by
    cases q with
    | cons q1 q2 =>
      cases r with
      | cons r1 r2 =>
        obtain ⟨⟨as, g1⟩, n1⟩ := Rp.reads J e _ _ q1 r1
        obtain ⟨⟨bs, g2⟩, n2⟩ := Rp.readsAll J es _ _ q2 r2
        exact ⟨⟨_, ReadsAll.cons g1 g2⟩, by rw [PyData.hasDictAll, n1, n2]; rfl⟩
end
end
def rRep (K : PySem.W.Frag) : List V → Hp → VK → Prop := fun xs H Q =>
  ∃ z e, xs = [z] ∧ Rp K H z e ∧ e.showable = true ∧ e.depth < 60 ∧ e.shown.length ≤ sizeLine ∧ Q (.str e.shown) H
theorem call_repr {X : Cx} (hg : X.A.guards = some []) (hu : X.A.units + 64 < cLine) : CallR X (.builtin "repr") (rRep X.K) := by
  intro pins s σ H xs us Q J r h
  obtain ⟨z, e, rfl, hz, hs, hd, hl, q⟩ := h
  obtain ⟨u, rfl, ru⟩ := vals1 r
  obtain ⟨⟨as, hr⟩, hn⟩ := Rp.reads J e z u hz ru
  cases hz with
  | non =>
    cases ru
    exact PySem.P.repr_of_none ⟨.str _, H, J.tok _, ⟨_, rfl⟩, q⟩
  | bl b =>
    cases ru
    exact PySem.P.repr_of_bool ⟨.str _, H, J.tok _, ⟨_, rfl⟩, by cases b <;> exact q⟩
  | int i =>
    obtain ⟨t, rfl⟩ := ru
    exact PySem.P.repr_of_int (of_decide_eq_true hs) ⟨.str _, H, J.tok _, ⟨_, rfl⟩, q⟩
  | str x =>
    obtain ⟨t, rfl⟩ := ru
    exact PySem.P.repr_of_str (hsz := hl) ⟨.str _, H, J.tok _, ⟨_, rfl⟩, q⟩
  | lst h1 h2 =>
    cases ru
    exact repr_of_reads' hr hs (fun hx => by rw [hn] at hx; cases hx) hg (by omega) (fun b o e => e) (fun h' u tk hk => ⟨.str _, H, J.kept hk, ⟨_, rfl⟩, q⟩) hl
  | tup h1 h2 =>
    cases ru
    exact repr_of_reads' hr hs (fun hx => by rw [hn] at hx; cases hx) hg (by omega) (fun b o e => e) (fun h' u tk hk => ⟨.str _, H, J.kept hk, ⟨_, rfl⟩, q⟩) hl
/-! ### a def that is called from the row's own caller, its guards known -/
/-- what the def at fa does, called by the row's caller -/
def AtTop (P : Program) (w : World) (K : PySem.W.Frag) (mg : Str → Option Value) (base : Heap) (fa : Addr) (fd : FuncData) (x : Str) (sp : Sp) : Prop :=
  ∀ (s : Shared) (H : Hp) (u : Value) (v : V) (Q : VK) (E : XK), Env0 P w K mg base callerA [] s H → BindsTo s fd ⟨[u], []⟩ [(x, u)] → RelV v u → sp [v] H Q E →
    codeAny (model P w) callerA (.call (.ref fa) ⟨[u], []⟩) (CR CX0 [] P w H s Q E) s
theorem atTop_of {P : Program} {w : World} {K : PySem.W.Frag} {mg : Str → Option Value} {base : Heap} {k : Nat} {x qual : Str} {st : Stmt} {f : Addr} {fd : FuncData} {N : List Str} {arg : Str} {sp : Sp}
    (F : Fun K x qual st f fd) (S : FnScope N [arg] (defScope st)) (hrm : Room (k + 1) callerA)
    (hbody : ∀ (cdv : Value) (s : Shared) (H : Hp) (v : V) (Q : VK) (E : XK), Room k (callerA.deeper (envOfC qual (defScope st) s.heap.objs.size f cdv)) → sp [v] H Q E →
      ∃ t, PSs (cxOf CX0 P w K mg base N qual (defScope st) f cdv callerA [] s H E).nox (defBody st) t ∧ t { nx := fun _ H' => Q .non H', rt := Q } (start N [v]) H) :
    AtTop P w K mg base f fd arg sp := by
  intro s H u v Q E e0 hb rv hsp
  obtain ⟨oc, od, kV, doc, pm, an, cdv, ct, osl, rfl, lk, hcd⟩ := F.ex
  have kin : K.In s.heap := e0.mod.kin.keeps fun b o q => (e0.bs b o q).1
  have nolim : s.heap.NoLimit := e0.mod.nolimit.keeps fun b o q => (e0.bs b o q).1
  have kinds : ∀ y ∈ [arg].zip [u], (defScope st).names.lookup y.1 = some .local ∨ ((defScope st).names.lookup y.1 = some .cell ∧ ((cellsFrom (s.heap.objs.size + 1) (defScope st).names []).lookup y.1).isSome = true) := fun ⟨m, z⟩ hy => by
    rcases S.par m (List.of_mem_zip hy).1 with c | c
    · exact .inl c
    · exact .inr ⟨c, PySem.W.cellsFrom_some _ _ _ (.inl c)⟩
  refine codeAny_call_function hrm.depth (kin _ _ lk) rfl S.co S.gen rfl (PySem.W.codeRec_of kin hcd) (hb _ _ _ _ ?_)
  refine wpAny_newFunctionEnv_cells S.kind kinds fun env henv s1 hin => ?_
  subst henv
  refine ⟨nolim.keeps hin.toInCall.keep, codeAny_func ?_⟩
  obtain ⟨t, ht, hq⟩ := hbody cdv s H v Q E (hrm.deeper _) hsp
  have J := inv_start (CX := CX0) (E := E) S hrm.hd e0 (vs := [v]) rfl (.cons rv .nil) hin
  refine wpAny_mono (ht.nox.run [] s1 (start N [v]) H _ J hq) (fun fl s' hs => ?_) fun _ _ hs => hs
  have done : ∀ {τ : L2.St} {H' : Hp} {z : V} {y : Value}, Inv (cxOf CX0 P w K mg base N qual (defScope st) f cdv callerA [] s H E) [] τ H' s' → RelV z y → Q z H' → CE [] P w H s Q y s' :=
    fun {τ H' z y} I r q => ⟨z, H', I.os, I.bare, I.base, I.hok, r, q⟩
  cases fl with
  | ret y =>
    obtain ⟨z, τ, H', I, r, q⟩ := hs
    exact done I r q
  | next =>
    obtain ⟨τ, H', I, q⟩ := hs
    exact done (z := V.non) (y := Value.none) I rfl q
  | brk =>
    obtain ⟨_, _, _, q⟩ := hs
    exact q.elim
  | cont =>
    obtain ⟨_, _, _, q⟩ := hs
    exact q.elim
theorem law_top {P : Program} {w : World} {K : PySem.W.Frag} {mg mb : Str → Option Value} {fa a : Addr} {fd : FuncData} {x : Str} {sp : Sp} {s₁ : Shared} {vs : List Value} {ns : List Int}
    (kin : K.In s₁.heap) (gn : s₁.heap.Ns mainGlobals mg) (bn : s₁.heap.Ns builtinsNs mb) (bnb : ∀ y : Str, y ≠ "__name__" → mb y = bootBuiltins y) (nolim : s₁.heap.NoLimit) (gens : s₁.gens = #[])
    (ho : s₁.heap.get? a = some { cls := .type "list", data := .seq vs.toArray }) (hi : IntsAre vs ns) (hl : ns.length ≤ sizeLine)
    (F : ∀ base : Heap, K.In base → base.Ns mainGlobals mg → AtTop P w K mg base fa fd x sp) (hb : ∀ (s : Shared) (u : Value), BindsTo s fd ⟨[u], []⟩ [(x, u)])
    (hsp : ∀ H : Hp, Only H → SqL K H a (ns.map V.int) → sp [.ref a] H (fun v _ => v = .bl true) fun _ _ _ => False) :
    codeAny (model P w) callerA (.call (.ref fa) ⟨[.ref a], []⟩) (fun r s' => r = .ok (.ret (.bool true)) ∧ OldK s₁.heap s'.heap ∧ s'.os = s₁.os ∧ AllBare s'.gens) s₁ := by
  have rv := vals_ints hi
  have main : ∀ H : Hp, Only H → SqL K H a (ns.map V.int) → HOk P w H s₁.heap → (∀ b, H b ≠ none → b = a) → (H a ≠ none → K.lookup a = none) →
      codeAny (model P w) callerA (.call (.ref fa) ⟨[.ref a], []⟩) (fun r s' => r = .ok (.ret (.bool true)) ∧ OldK s₁.heap s'.heap ∧ s'.os = s₁.os ∧ AllBare s'.gens) s₁ := by
    intro H only hS hok onlyA noK
    have notA : ∀ {b : Addr} {o : Obj} {es : Array DictEntry} {n : Nat}, s₁.heap.get? b = some o → o.data = .dict es n → H b = none := fun {b o es n} e d => by
      cases q : H b with
      | none => rfl
      | some u =>
        have eb : b = a := onlyA b (by rw [q]; simp)
        subst eb
        rw [ho] at e
        cases e
        exact nomatch d
    have keepNs : ∀ {b : Addr} {m : Str → Option Value}, s₁.heap.Ns b m → (hidT s₁.heap H).Ns b m := fun {b m} ⟨o, es, n, e, d, r⟩ => ⟨o, es, n, hidT_get e (notA e d), d, r⟩
    have kinT : K.In (hidT s₁.heap H) := fun b o e => hidT_get (kin b o e) (by
      cases q : H b with
      | none => rfl
      | some u =>
        have eb : b = a := onlyA b (by rw [q]; simp)
        subst eb
        rw [noK (by rw [q]; simp)] at e
        cases e)
    have hM : Mod K mg (hidT s₁.heap H) := ⟨kinT, keepNs gn, ⟨mb, keepNs bn, bnb⟩, let ⟨mc, c1, c2⟩ := nolim; ⟨mc, keepNs c1, c2⟩⟩
    have e0 : Env0 P w K mg (hidT s₁.heap H) callerA [] s₁ H := ⟨rfl, hM, fun b o e => of_hidT e, Nat.le_of_eq (hidT_size _ _), trivial, fun b hb => (by cases hb), hok, .of_eq gens⟩
    refine codeAny_mono (F _ kinT (keepNs gn) s₁ H (.ref a) (.ref a) _ _ e0 (hb s₁ (.ref a)) rfl (hsp H only hS)) fun r s' h => ?_
    cases r with
    | error e => exact False.elim h
    | ok fl =>
      cases fl with
      | next => exact h.elim
      | brk => exact h.elim
      | cont => exact h.elim
      | ret u =>
        obtain ⟨v, H', os, bare, un, hok', r', q⟩ := h
        have q' : v = .bl true := q
        subst q'
        cases r'
        refine ⟨rfl, OldK.of_keep fun b o e => ?_, os, bare⟩
        cases q : H b with
        | none => exact un.keep b o e q (fun z => by cases z) (fun z => by cases z)
        | some u =>
          rcases only b with z | ⟨ob, xs, z⟩
          · rw [q] at z; cases z
          · obtain ⟨e1, _⟩ := hok b _ z
            obtain ⟨e2, _⟩ := hok' b _ (un.frzs b ob _ z)
            rw [e] at e1
            cases e1
            exact e2
  cases hk : K.lookup a with
  | some o =>
    have e := kin a o hk
    rw [ho] at e
    cases e
    exact main (fun _ => none) (fun _ => .inl rfl) (.inr ⟨_, vs.toArray, _, hk, rfl, rfl, rfl, by rw [List.size_toArray, hi.length]; exact hl, by simpa using rv⟩) (fun b u z => nomatch z) (fun b z => (z rfl).elim) fun z => (z rfl).elim
  | none =>
    refine main (fun b => if b = a then some (.frz { cls := .type "list", data := .seq vs.toArray } (.lst (ns.map V.int))) else none) (fun b => ?_) (.inl (.inr ⟨{ cls := .type "list", data := .seq vs.toArray }, if_pos rfl⟩)) (fun b u z => ?_) (fun b z => ?_) fun _ => hk
    · by_cases eb : b = a
      · exact .inr ⟨_, _, if_pos eb⟩
      · exact .inl (if_neg eb)
    · by_cases eb : b = a
      · have z' := (if_pos eb).symm.trans z
        cases z'
        subst eb
        exact ⟨ho, by rw [List.length_map]; exact hl, vs, _, rv, ho⟩
      · exact nomatch (if_neg eb).symm.trans z
    · by_cases eb : b = a
      · exact eb
      · exact (z (if_neg eb)).elim
/-- the goal behind the head, from the law's promise at its caller; the script's bits told -/
theorem walk_top {l : PySem.W.OpenLaw} {n : Nat} {q : Program} {loose : List Str} {XP : (Str → Option Value) → Heap → Prop} {YP : World → Heap → Prop} {d : DefRec} {K : Params → PySem.W.Frag} {sp : World → Sp} {x : Str}
    (hn : l.most = some n) (hn2 : n ≤ sizeLine) (hdf : d.params.defaults = [])
    (hY : ∀ (w : World) (h : Heap), YP w h → (K w.params).In h)
    (F : ∀ (w : World) (mg : Str → Option Value) (fa : Addr) (h : Heap), (K w.params).In h → h.Ns mainGlobals mg → mg d.name = some (.ref fa) →
      ∃ fd : FuncData, (∀ (s : Shared) (u : Value), BindsTo s fd ⟨[u], []⟩ [(x, u)]) ∧ ∀ base : Heap, (K w.params).In base → base.Ns mainGlobals mg → AtTop l.prog w (K w.params) mg base fa fd x (sp w))
    (hsp : ∀ (w : World) (H : Hp) (a : Addr) (ns : List Int), ns.length ≤ n → (∀ z ∈ ns, Builtin.Int.intBits z ≤ 1048576) → Only H → SqL (K w.params) H a (ns.map V.int) → sp w [.ref a] H (fun v _ => v = .bl true) fun _ _ _ => False) :
    PySem.W.WalkO q loose XP YP l.row.toRowW d [] (fun f vs => PySem.call f vs) := by
  refine Att.attach_callB hn hdf fun w s₀ s₁ mg mb fa o pm cd doc a vs ns G Y _ _ _ hmg hobj hints hlen hbits hg => ?_
  have kin := hY w _ Y
  obtain ⟨fd, hb, hF⟩ := F w mg fa _ kin G.T.g hmg
  exact law_top kin G.T.g G.T.b G.T.builtins G.T.nolimit hg hobj hints (Nat.le_trans hlen hn2) hF hb fun H hO hS => hsp w H a ns hlen hbits hO hS
end TB
namespace TB
open PySem PySem.Spec PyProof.Rows L2 Evl
/-! ### a def that keeps a promise, called by its name -/
def Keeps (P : Program) (w : World) (K : PySem.W.Frag) (mg : Str → Option Value) (base : Heap) (k : Nat) (x : Str) (ps : List Str) (sp : Sp) : Prop :=
  ∃ (f : Addr) (fd : FuncData), mg x = some (.ref f) ∧ PySem.W.keepIn K (.ref f) = true ∧ Binds K fd ps [] ∧ FnOk P w K mg base CX0 k f fd ps sp
theorem keeps_of {P : Program} {w : World} {K : PySem.W.Frag} {mg : Str → Option Value} {base : Heap} {k : Nat} {x q : Str} {st : Stmt} {f : Addr} {fd : FuncData} {ps : List Str} {sp : Sp}
    (F : Fun K x q st f fd) {y : Str} (g : mg y = some (.ref f)) (b : Binds K fd ps []) (G : FnOk P w K mg base CX0 k f fd ps sp) : Keeps P w K mg base k y ps sp := ⟨f, fd, g, F.kp, b, G⟩
theorem pe_own {X : Cx} {k : Nat} {x : Str} {ps : List Str} {sp : Sp} {e : Expr} {es : List Expr} {t : TA} {p pos : Pos}
    (h : Keeps X.prog X.w X.K X.mg X.base k x ps sp) (hr : Room k X.A) (hg : Gl X x) (ha : PA X (e :: es) t) (hdb : (x == ("__debug__" : Str)) = false := by decide)
    (he : starEach (e :: es) X.env = (false, eval e X.env) :: starEach es X.env := by rfl) (hpl : (backTo pos (starEach es X.env)).any (·.1) = false := by rfl) :
    PE X (.Call (.Name x p) (e :: es) [] pos) (tCall sp [] E0 t) := by
  obtain ⟨f, fd, g, kp, b, G⟩ := h
  exact pe_call G hr hg g kp b .nil pass0 ha hdb he hpl
theorem pe_con {X : Cx} {x : Str} {i : Int} {pos : Pos} (hg : Gl X x) (h : ∃ t, X.mg x = some (.int i t)) (hdb : (x == ("__debug__" : Str)) = false := by decide) : PE X (.Name x pos) (tC (.int i)) := by
  obtain ⟨t, h⟩ := h
  exact pe_glob hg h ⟨t, rfl⟩ hdb
/-! ### the deck of drawn numbers -/
/-- at d stands the deck: the great numbers at g, all numbers at l, a count -/
def Deck (H : Hp) (d g l : Addr) : Prop := ∃ (gs ls : List Int) (c : Int),
  H d = some (.lst [.ref g, .ref l, .int c]) ∧ H g = some (.lst (gs.map V.int)) ∧ H l = some (.lst (ls.map V.int)) ∧ d ≠ g ∧ d ≠ l ∧ g ≠ l ∧ 0 < ls.length
/-- all but the deck's two changing lists stands as before -/
def Off (d g : Addr) (H H' : Hp) : Prop := ∀ a o, H a = some o → a ≠ d → a ≠ g → H' a = some o
theorem Off.refl {d g : Addr} {H : Hp} : Off d g H H := fun _ _ e _ _ => e
theorem Off.trans {d g : Addr} {H H1 H2 : Hp} (a : Off d g H H1) (b : Off d g H1 H2) : Off d g H H2 := fun x o e n m => b x o (a x o e n m) n m
theorem Off.of {d g : Addr} {H H' : Hp} (e : Ex H H') : Off d g H H' := fun a o h _ _ => e a o h
theorem Deck.ex {H H' : Hp} {d g l : Addr} (e : Ex H H') (h : Deck H d g l) : Deck H' d g l := by
  obtain ⟨gs, ls, c, h1, h2, h3, r⟩ := h
  exact ⟨gs, ls, c, e _ _ h1, e _ _ h2, e _ _ h3, r⟩
theorem Deck.ne {H : Hp} {d g l a : Addr} (h : Deck H d g l) (n : H a = none) : a ≠ d ∧ a ≠ g := by
  obtain ⟨gs, ls, c, h1, h2, h3, r⟩ := h
  exact ⟨fun q => (by rw [q, h1] at n; cases n), fun q => (by rw [q, h2] at n; cases n)⟩
/-- a tuple is none of the deck's lists -/
theorem Off.tup {d g l a : Addr} {H H' : Hp} {xs : List V} (e : Off d g H H') (D : Deck H d g l) (h : H a = some (.tup xs)) : H' a = some (.tup xs) := by
  obtain ⟨gs, ls, c, h1, h2, h3, r⟩ := D
  exact e a _ h (fun q => by rw [q, h1] at h; cases h) fun q => by rw [q, h2] at h; cases h
theorem Off.sqT {K : PySem.W.Frag} {d g l a : Addr} {H H' : Hp} {xs : List V} (e : Off d g H H') (D : Deck H d g l) (h : SqT K H a xs) : SqT K H' a xs := by
  obtain ⟨gs, ls, c, h1, h2, h3, r⟩ := D
  rcases h with (h | ⟨o, h⟩) | h
  · exact .inl (.inl (e a _ h (fun q => by rw [q, h1] at h; cases h) fun q => by rw [q, h2] at h; cases h))
  · exact .inl (.inr ⟨o, e a _ h (fun q => by rw [q, h1] at h; cases h) (fun q => by rw [q, h2] at h; cases h)⟩)
  · exact .inr h
def spDeck (K : PySem.W.Frag) : Sp := fun vs H Q _ => ∃ (a : Addr) (ns : List Int), vs = [.ref a] ∧ SqL K H a (ns.map V.int) ∧ ns.length ≤ 63 ∧
  ∀ d g l H', Ex H H' → H d = none → H g = none → Deck H' d g l → Q (.ref d) H'
def spDraw : Sp := fun vs H Q _ => ∃ (d g l : Addr) (m : Int), vs = [.ref d, .int m] ∧ 0 < m ∧ m ≤ 1000000000000 ∧ Deck H d g l ∧
  ∀ r H', 0 ≤ r → r < m → Deck H' d g l → Off d g H H' → Q (.int r) H'
def spOne : Sp := fun vs H Q _ => ∃ (d g l p : Addr) (xs : List V), vs = [.ref d, .ref p] ∧ Deck H d g l ∧ H p = some (.lst xs) ∧ p ≠ d ∧ p ≠ g ∧ 0 < xs.length ∧ xs.length ≤ 100000 ∧
  ∀ (i : Nat) (v : V) H', xs[i]? = some v → Deck H' d g l → Off d g H H' → Q v H'
theorem fmod_rng {a m : Int} (h : 0 < m) : 0 ≤ a.fmod m ∧ a.fmod m < m := ⟨Int.fmod_nonneg_of_pos a h, Int.fmod_lt_of_pos a h⟩
theorem fmod_small {a m : Int} (h : 0 < m) (h2 : m ≤ 2 ^ 64) : -(2 ^ 64) < a.fmod m ∧ a.fmod m < 2 ^ 64 := by
  have := fmod_rng (a := a) h
  omega
theorem ixN_zero {n : Nat} (h : 0 < n) : ixN n 0 = some 0 := by
  unfold ixN
  rw [if_pos (by omega), if_pos (by omega)]
  rfl
theorem size_small {n : Nat} (h : n ≤ 100000) : n ≤ sizeLine := Nat.le_trans h (by decide)
theorem size_small' {n : Nat} (h : n ≤ 100000) : n < sizeLine := Nat.lt_of_le_of_lt h (by decide)
end TB

namespace TB
open PySem PySem.Spec PyProof.Rows L2 Evl
/-! ### data kept -/
mutual
def flatD : PyData → Bool
  | .none | .bool _ | .int _ | .str _ => true
  | .list _ => false
  | .tuple ds => flatDs ds
  | .dict _ => false
def flatDs : List PyData → Bool
  | [] => true
  | d :: ds => flatD d && flatDs ds
end
section
variable {K : PySem.W.Frag} {H H' : Hp}
mutual
theorem Rp.ex (x : Ex H H') : ∀ (e : PyData) (z : V), Rp K H z e → Rp K H' z e
  | .none, _, q => by cases q; exact .non
  | .bool c, _, q => by cases q; exact .bl c
  | .int j, _, q => by cases q; exact .int j
  | .str y, _, q => by cases q; exact .str y
  | .list es, _, q => by
    cases q with
    | lst hq hz => exact .lst (ex_l x hq) (RpAll.ex x es _ hz)
  | .tuple es, _, q => by
    cases q with
    | tup hq hz => exact .tup (ex_t x hq) (RpAll.ex x es _ hz)
  | .dict _, _, q => by cases q
theorem RpAll.ex (x : Ex H H') : ∀ (es : List PyData) (zs : List V), RpAll K H zs es → RpAll K H' zs es
  | [], _, q => by cases q; exact .nil
  | e :: es, _, q => by
    cases q with
    | cons q1 q2 => exact .cons (Rp.ex x e _ q1) (RpAll.ex x es _ q2)
end
mutual
/-- what holds no lists stays when numbers are drawn -/
theorem Rp.off {d g l : Addr} (D : Deck H d g l) (x : Off d g H H') : ∀ (e : PyData) (z : V), flatD e = true → Rp K H z e → Rp K H' z e
  | .none, _, _, q => by cases q; exact .non
  | .bool c, _, _, q => by cases q; exact .bl c
  | .int j, _, _, q => by cases q; exact .int j
  | .str y, _, _, q => by cases q; exact .str y
  | .list es, _, f, q => by rw [flatD] at f; cases f
  | .tuple es, _, f, q => by
    rw [flatD] at f
    cases q with
    | tup hq hz => exact .tup (x.sqT D hq) (RpAll.off D x es _ f hz)
  | .dict _, _, _, q => by cases q
theorem RpAll.off {d g l : Addr} (D : Deck H d g l) (x : Off d g H H') : ∀ (es : List PyData) (zs : List V), flatDs es = true → RpAll K H zs es → RpAll K H' zs es
  | [], _, _, q => by cases q; exact .nil
  | e :: es, _, f, q => by
    rw [flatDs, Bool.and_eq_true] at f
    cases q with
    | cons q1 q2 => exact .cons (Rp.off D x e _ f.1 q1) (RpAll.off D x es _ f.2 q2)
end
theorem RpAll.len : ∀ {zs : List V} {es : List PyData}, RpAll K H zs es → zs.length = es.length
  | _, _, .nil => rfl
  | _, _, .cons _ t => congrArg (· + 1) t.len
theorem RpAll.get : ∀ {zs : List V} {es : List PyData} {i : Nat} {z : V}, RpAll K H zs es → zs[i]? = some z → ∃ e, es[i]? = some e ∧ Rp K H z e
  | _, _, _, _, .nil, h => by simp at h
  | _, _, 0, z, .cons q _, h => by simp at h; subst h; exact ⟨_, rfl, q⟩
  | _, _, i + 1, z, .cons _ t, h => by
    obtain ⟨e, h1, h2⟩ := RpAll.get (i := i) t (by simpa using h)
    exact ⟨e, by simpa using h1, h2⟩
theorem RpAll.get' : ∀ {zs : List V} {es : List PyData} {i : Nat} {e : PyData}, RpAll K H zs es → es[i]? = some e → ∃ z, zs[i]? = some z ∧ Rp K H z e
  | _, _, _, _, .nil, h => by simp at h
  | _, _, 0, e, .cons q _, h => by simp at h; subst h; exact ⟨_, rfl, q⟩
  | _, _, i + 1, e, .cons _ t, h => by
    obtain ⟨z, h1, h2⟩ := RpAll.get' (i := i) t (by simpa using h)
    exact ⟨z, by simpa using h1, h2⟩
theorem RpAll.append : ∀ {zs ys : List V} {es fs : List PyData}, RpAll K H zs es → RpAll K H ys fs → RpAll K H (zs ++ ys) (es ++ fs)
  | _, _, _, _, .nil, s => s
  | _, _, _, _, .cons q t, s => .cons q (t.append s)
theorem rpInts : ∀ ns : List Int, RpAll K H (ns.map V.int) (ns.map PyData.int)
  | [] => .nil
  | n :: ns => .cons (.int n) (rpInts ns)
theorem rpInts_inv : ∀ {ns : List Int} {zs : List V}, RpAll K H zs (ns.map PyData.int) → zs = ns.map V.int
  | [], _, h => by cases h; rfl
  | n :: ns, _, h => by
    cases h with
    | cons q t => cases q; rw [rpInts_inv t]; rfl
/-- sides as data, kinds as data -/
def tupI (ns : List Int) : PyData := .tuple (ns.map PyData.int)
def tupK (nss : List (List Int)) : PyData := .tuple (nss.map tupI)
theorem flat_ints : ∀ ns : List Int, flatDs (ns.map PyData.int) = true
  | [] => rfl
  | n :: ns => by rw [List.map_cons, flatDs, flat_ints ns]; rfl
theorem flat_tupI (ns : List Int) : flatD (tupI ns) = true := by unfold tupI; rw [flatD]; exact flat_ints ns
theorem flat_tupK (nss : List (List Int)) : flatD (tupK nss) = true := by
  unfold tupK
  rw [flatD]
  induction nss with
  | nil => rfl
  | cons n ns ih => rw [List.map_cons, flatDs, flat_tupI, ih]; rfl
theorem rp_tupI {a : Addr} {ns : List Int} (h : SqT K H a (ns.map V.int)) : Rp K H (.ref a) (tupI ns) := .tup h (rpInts ns)
theorem tupI_inv {z : V} {ns : List Int} (h : Rp K H z (tupI ns)) : ∃ a, z = .ref a ∧ SqT K H a (ns.map V.int) := by
  unfold tupI at h
  cases h with
  | tup hs ha => rw [rpInts_inv ha] at hs; exact ⟨_, rfl, hs⟩
theorem tupK_inv {z : V} {nss : List (List Int)} (h : Rp K H z (tupK nss)) : ∃ a xs, z = .ref a ∧ SqT K H a xs ∧ RpAll K H xs (nss.map tupI) := by
  unfold tupK at h
  cases h with
  | tup hs ha => exact ⟨_, _, rfl, hs, ha⟩
theorem sum_le {α : Type} (f : α → Nat) (k : Nat) : ∀ l : List α, (∀ x ∈ l, f x ≤ k) → (l.map f).sum ≤ l.length * k
  | [], _ => Nat.zero_le _
  | x :: l, h => by
    have h1 := h x List.mem_cons_self
    have h2 := sum_le f k l fun y hy => h y (List.mem_cons_of_mem _ hy)
    rw [List.map_cons, List.sum_cons, List.length_cons, Nat.succ_mul]
    omega
end
end TB

namespace TB
open PySem PySem.Spec PyProof.Rows L2 Evl
section
variable {K : PySem.W.Frag} {H : Hp}
mutual
/-- what holds no lists stays when a list changes -/
theorem Rp.mut {L : Addr} {xs : List V} {o : HO} (hL : H L = some (.lst xs)) : ∀ (e : PyData) (z : V), flatD e = true → Rp K H z e → Rp K (upd H L o) z e
  | .none, _, _, q => by cases q; exact .non
  | .bool c, _, _, q => by cases q; exact .bl c
  | .int j, _, _, q => by cases q; exact .int j
  | .str y, _, _, q => by cases q; exact .str y
  | .list es, _, f, q => by rw [flatD] at f; cases f
  | .tuple es, _, f, q => by
    rw [flatD] at f
    cases q with
    | tup hq hz =>
      refine .tup ?_ (rpAll_flat_mut hL es _ f hz)
      rcases hq with (h | ⟨ob, h⟩) | h
      · exact .inl (.inl (by rw [upd_ne (ne_of h hL (by intro z; cases z))]; exact h))
      · exact .inl (.inr ⟨ob, by rw [upd_ne (ne_of h hL (by intro z; cases z))]; exact h⟩)
      · exact .inr h
  | .dict _, _, _, q => by cases q
theorem rpAll_flat_mut {L : Addr} {xs : List V} {o : HO} (hL : H L = some (.lst xs)) : ∀ (es : List PyData) (zs : List V), flatDs es = true → RpAll K H zs es → RpAll K (upd H L o) zs es
  | [], _, _, q => by cases q; exact .nil
  | e :: es, _, f, q => by
    rw [flatDs, Bool.and_eq_true] at f
    cases q with
    | cons q1 q2 => exact .cons (Rp.mut hL e _ f.1 q1) (rpAll_flat_mut hL es _ f.2 q2)
end
theorem flats_tupI : ∀ nss : List (List Int), flatDs (nss.map tupI) = true
  | [] => rfl
  | n :: ns => by rw [List.map_cons, flatDs, flat_tupI, flats_tupI ns]; rfl
end
end TB

namespace TB
open PySem PySem.Spec PyProof.Rows L2 Evl
section
variable {K : PySem.W.Frag} {H : Hp}
theorem cut_take {xs : List V} {k : Nat} : cutV xs none (some (k : Int)) = xs.take k := by
  unfold cutV
  rw [HT.sIx_none, HT.sIx_nat, List.drop_zero, Nat.sub_zero]
  rcases Nat.le_total k xs.length with h | h
  · rw [Nat.min_eq_left h]
  · rw [Nat.min_eq_right h, List.take_of_length_le (Nat.le_refl _), List.take_of_length_le h]
theorem RpAll.take : ∀ {zs : List V} {es : List PyData} (k : Nat), RpAll K H zs es → RpAll K H (zs.take k) (es.take k)
  | _, _, 0, _ => .nil
  | _, _, _ + 1, .nil => .nil
  | _, _, k + 1, .cons q t => .cons q (RpAll.take k t)
theorem RpAll.mem : ∀ {zs : List V} {es : List PyData} {z : V}, RpAll K H zs es → z ∈ zs → ∃ e ∈ es, Rp K H z e
  | _, _, _, .nil, h => by cases h
  | _, _, z, .cons q t, h => by
    rcases List.mem_cons.mp h with h | h
    · subst h; exact ⟨_, List.mem_cons_self, q⟩
    · obtain ⟨e, h1, h2⟩ := t.mem h
      exact ⟨e, List.mem_cons_of_mem _ h1, h2⟩
/-- t[:k] of a tuple of data: the same one, or a new one -/
theorem slA_take {z : V} {ds : List PyData} {k : Nat} {Q : VK} (hz : Rp K H z (.tuple ds)) (q : ∀ v H', Ex H H' → Rp K H' v (.tuple (ds.take k)) → Q v H') : rSlA K z none (some (k : Int)) H Q := by
  cases hz with
  | tup hs ha =>
    rename_i a xs
    refine ⟨a, xs, rfl, hs, fun h => ?_, fun _ p hp => ?_⟩
    · rw [HT.sIx_nat] at h
      have e : ds.take k = ds := List.take_of_length_le (by rw [← ha.len]; have := h.2; omega)
      exact q _ _ (fun _ _ e => e) (by rw [e]; exact .tup hs ha)
    · refine q _ _ (Ex.new hp) (.tup (.inl (.inl upd_same)) ?_)
      rw [cut_take]
      exact RpAll.ex (Ex.new hp) _ _ (ha.take k)
theorem ex_refl : Ex H H := fun _ _ e => e
/-- a list of data, made anew -/
theorem rp_new {p : Addr} {zs : List V} {ds : List PyData} (hp : H p = none) (h : RpAll K H zs ds) : Rp K (upd H p (.lst zs)) (.ref p) (.list ds) := .lst (.inl (.inl upd_same)) (RpAll.ex (Ex.new hp) _ _ h)
theorem rp_newT {p : Addr} {zs : List V} {ds : List PyData} (hp : H p = none) (h : RpAll K H zs ds) : Rp K (upd H p (.tup zs)) (.ref p) (.tuple ds) := .tup (.inl (.inl upd_same)) (RpAll.ex (Ex.new hp) _ _ h)
end
end TB

namespace TB
open PySem PySem.Spec PyProof.Rows L2
/-! readings by name, for a comprehension's block -/
abbrev rLenQ (K : PySem.W.Frag) : List V → Hp → VK → Prop := fun xs H Q => ∃ p ys, xs = [.ref p] ∧ (SqL K H p ys ∨ SqT K H p ys) ∧ Q (.int ys.length) H
abbrev rTupQ (K : PySem.W.Frag) : List V → Hp → VK → Prop := fun xs H Q => ∃ p ys, xs = [.ref p] ∧ ((SqL K H p ys ∧ ∀ l, H l = none → Q (.ref l) (upd H l (.tup ys))) ∨ (SqT K H p ys ∧ Q (.ref p) H))
abbrev rListQ (K : PySem.W.Frag) : List V → Hp → VK → Prop := fun xs H Q => ∃ p ys, xs = [.ref p] ∧ (SqL K H p ys ∨ SqT K H p ys) ∧ ∀ l, H l = none → Q (.ref l) (upd H l (.lst ys))
end TB
set_option Elab.async false
set_option linter.all false
set_option maxRecDepth 100000
/-! Texts of sides and kinds: plain mathematics. -/
namespace TB
open PySem PySem.Spec PyProof.Rows L2
abbrev cs (z : Str) : List Nat := z.cps.toList
theorem cs_app (a b : Str) : cs (a ++ b) = cs a ++ cs b := by show (a ++ b).cps.toList = _; rw [Str.cps_append, Array.toList_append]
theorem cs_len (z : Str) : (cs z).length = z.length := Array.length_toList
theorem cs_ext {a b : Str} (h : cs a = cs b) : a = b := by
  cases a; cases b
  have : ∀ {x y : Array Nat}, x.toList = y.toList → x = y := fun {x y} e => by cases x; cases y; simpa using e
  exact congrArg Str.mk (this h)
/-! ### digits -/
def digs (n : Nat) : List Nat := (Nat.toDigits 10 n).map Char.toNat
theorem digitChar_code : ∀ d : Nat, d < 10 → (Nat.digitChar d).toNat = 48 + d := by decide
theorem digs_lt {n : Nat} (h : n < 10) : digs n = [48 + n] := by
  unfold digs
  rw [Nat.toDigits_of_lt_base h, List.map_singleton, digitChar_code n h]
theorem digs_ge {n : Nat} (h : 10 ≤ n) : digs n = digs (n / 10) ++ [48 + n % 10] := by
  have hm : n % 10 < 10 := Nat.mod_lt n (by decide)
  have t : Nat.toDigits 10 (n / 10) ++ Nat.toDigits 10 (n % 10) = Nat.toDigits 10 (10 * (n / 10) + n % 10) := Nat.toDigits_append_toDigits (by decide) (by omega) hm
  rw [Nat.div_add_mod] at t
  unfold digs
  rw [← t, List.map_append, Nat.toDigits_of_lt_base hm, List.map_singleton, digitChar_code _ hm]
theorem digs_mem : ∀ (n c : Nat), c ∈ digs n → 48 ≤ c ∧ c ≤ 57 := by
  intro n
  induction n using Nat.strongRecOn with
  | _ n ih =>
    intro c hc
    by_cases h : n < 10
    · rw [digs_lt h, List.mem_singleton] at hc; omega
    · rw [digs_ge (by omega), List.mem_append] at hc
      rcases hc with hc | hc
      · exact ih _ (by omega) c hc
      · rw [List.mem_singleton] at hc; omega
theorem digs_ne (n : Nat) : digs n ≠ [] := by
  by_cases h : n < 10
  · rw [digs_lt h]; simp
  · rw [digs_ge (by omega)]; simp
theorem digs_len {n : Nat} (h : n ≤ 1000000000000) : (digs n).length ≤ 13 := by
  unfold digs
  rw [List.length_map]
  exact digits10_le (by decide) (by omega)
def numS (n : Int) : Str := Str.ofString (toString n)
theorem cs_num {n : Int} (h : 0 ≤ n) : cs (numS n) = digs n.toNat := by
  obtain ⟨m, rfl⟩ := Int.eq_ofNat_of_zero_le h
  exact PySem.W.KIN.signs_num m
/-! ### reading numbers -/
def MS : Int := 1000000000000
def scan : List Nat → Int → Nat → Int × Nat
  | [], a, p => (a, p)
  | c :: r, a, p => if 48 ≤ c ∧ c ≤ 57 ∧ 1 ≤ a * 10 + ((c : Int) - 48) ∧ a * 10 + ((c : Int) - 48) ≤ MS then scan r (a * 10 + ((c : Int) - 48)) (p + 1) else (a, p)
def NoDigit (r : List Nat) : Prop := ∀ c t, r = c :: t → ¬ (48 ≤ c ∧ c ≤ 57)
theorem scan_stop {r : List Nat} {a : Int} {p : Nat} (h : NoDigit r) : scan r a p = (a, p) := by
  cases r with
  | nil => rfl
  | cons c t =>
    have := h c t rfl
    unfold scan
    rw [if_neg (fun q => this ⟨q.1, q.2.1⟩)]
theorem scan_digs : ∀ (n : Nat), 1 ≤ n → (n : Int) ≤ MS → ∀ (r : List Nat) (p : Nat), scan (digs n ++ r) 0 p = scan r n (p + (digs n).length) := by
  intro n
  induction n using Nat.strongRecOn with
  | _ n ih =>
    intro h1 h2 r p
    have hms : MS = 1000000000000 := rfl
    by_cases h : n < 10
    · rw [digs_lt h]
      show scan ((48 + n) :: r) 0 p = _
      rw [scan, if_pos (by refine ⟨?_, ?_, ?_, ?_⟩ <;> omega)]
      congr 1
      omega
    · rw [digs_ge (by omega), List.append_assoc, ih (n / 10) (by omega) (by omega) (by omega)]
      show scan ((48 + n % 10) :: r) _ _ = _
      rw [scan, if_pos (by refine ⟨?_, ?_, ?_, ?_⟩ <;> omega), List.length_append]
      congr 1
      omega
theorem scan_rng : ∀ (l : List Nat) (a : Int) (p : Nat), 0 ≤ a → a ≤ MS → 0 ≤ (scan l a p).1 ∧ (scan l a p).1 ≤ MS ∧ p ≤ (scan l a p).2 ∧ (scan l a p).2 ≤ p + l.length
  | [], a, p, h1, h2 => ⟨h1, h2, Nat.le_refl _, Nat.le_refl _⟩
  | c :: r, a, p, h1, h2 => by
    unfold scan
    by_cases h : 48 ≤ c ∧ c ≤ 57 ∧ 1 ≤ a * 10 + ((c : Int) - 48) ∧ a * 10 + ((c : Int) - 48) ≤ MS
    · rw [if_pos h]
      have := scan_rng r (a * 10 + ((c : Int) - 48)) (p + 1) (by omega) h.2.2.2
      rw [List.length_cons]
      omega
    · rw [if_neg h]
      exact ⟨h1, h2, Nat.le_refl _, Nat.le_add_right _ _⟩
/-- the sides whose text begins at p, at most k of them; a wrong sign's place -/
def sidesL (c : List Nat) : Nat → List Int → Nat → Except Nat (List Int × Nat)
  | 0, _, p => .error p
  | k + 1, acc, p =>
    let r := scan (c.drop p) 0 p
    if r.1 = 0 then .error r.2
    else if k = 0 ∨ r.2 = c.length ∨ c[r.2]? ≠ some 120 then .ok (acc ++ [r.1], r.2)
    else sidesL c k (acc ++ [r.1]) (r.2 + 1)
/-- the same, least of them at least -/
def sidesAt (c : List Nat) (p least most : Nat) : Except Nat (List Int × Nat) :=
  match sidesL c most [] p with
  | .ok (ns, q) => if ns.length < least then .error q else .ok (ns, q)
  | .error q => .error q
def parseS (c : List Nat) : Except Nat (List Int) :=
  match sidesAt c 0 1 4 with
  | .ok (ns, q) => if q < c.length then .error q else .ok ns
  | .error q => .error q
def kindsL (c : List Nat) (n : Nat) : Nat → List (List Int) → Nat → Except Nat (List (List Int))
  | k, acc, p =>
    if p < c.length then
      if c[p]? ≠ some 32 then .error p
      else match k with
        | 0 => .error p
        | k + 1 => match sidesAt c (p + 1) n n with
          | .ok (ns, q) => kindsL c n k (acc ++ [ns]) q
          | .error q => .error q
    else .ok acc
def parseK (c : List Nat) : Except Nat (List (List Int)) :=
  match sidesAt c 0 1 4 with
  | .ok (ns, q) => kindsL c ns.length 3 [ns] q
  | .error q => .error q
/-! ### the texts -/
def gl (sep : List Nat) : List (List Nat) → List Nat
  | [] => []
  | [x] => x
  | x :: r => x ++ sep ++ gl sep r
theorem cs_join (sep : Str) : ∀ ys : List Str, cs (Txt.join sep ys) = gl (cs sep) (ys.map cs) := by
  intro ys
  show cs (Builtin.Str.glued sep ys) = _
  rw [StrLaws.glued_eq_join]
  induction ys with
  | nil => rfl
  | cons x r ih =>
    cases r with
    | nil => rfl
    | cons y r =>
      show cs (x ++ sep ++ Str.join sep (y :: r)) = cs x ++ cs sep ++ gl (cs sep) ((y :: r).map cs)
      rw [cs_app, cs_app, ih]
def sideT (ns : List Int) : Str := Txt.join "x" (ns.map numS)
def kindT (nss : List (List Int)) : Str := Txt.join " " (nss.map sideT)
def sideC (ns : List Int) : List Nat := gl [120] (ns.map fun n => digs n.toNat)
def kindC (nss : List (List Int)) : List Nat := gl [32] (nss.map sideC)
def SideOk (ns : List Int) : Prop := 1 ≤ ns.length ∧ ns.length ≤ 4 ∧ ∀ n ∈ ns, 1 ≤ n ∧ n ≤ MS
theorem cs_side {ns : List Int} (h : ∀ n ∈ ns, 1 ≤ n ∧ n ≤ MS) : cs (sideT ns) = sideC ns := by
  unfold sideT sideC
  rw [cs_join, List.map_map]
  have : cs ("x" : Str) = [120] := by decide +kernel
  rw [this]
  congr 1
  refine List.map_congr_left fun n hn => ?_
  exact cs_num (by have := (h n hn).1; omega)
theorem cs_kind {nss : List (List Int)} (h : ∀ ns ∈ nss, ∀ n ∈ ns, 1 ≤ n ∧ n ≤ MS) : cs (kindT nss) = kindC nss := by
  unfold kindT kindC
  rw [cs_join, List.map_map]
  have : cs (" " : Str) = [32] := by decide +kernel
  rw [this]
  congr 1
  exact List.map_congr_left fun ns hn => cs_side (h ns hn)
/-- what may stand behind sides that are at an end -/
def Behind (r : List Nat) : Prop := ∀ c t, r = c :: t → c = 32
theorem sidesL_text : ∀ (ns : List Int) (k : Nat) (acc : List Int) (pre r : List Nat), 1 ≤ ns.length → ns.length ≤ k → (∀ n ∈ ns, 1 ≤ n ∧ n ≤ MS) → Behind r →
    sidesL (pre ++ (sideC ns ++ r)) k acc pre.length = .ok (acc ++ ns, (pre ++ sideC ns).length)
  | [], _, _, _, _, h, _, _, _ => by simp at h
  | n :: ns, 0, _, _, _, _, h, _, _ => by simp at h
  | n :: ns, k + 1, acc, pre, r, h1, h2, h3, h4 => by
    have hn := h3 n List.mem_cons_self
    have hN : ((n.toNat : Nat) : Int) = n := Int.toNat_of_nonneg (by omega)
    have nr : NoDigit r := fun c t e q => by have := h4 c t e; omega
    unfold sidesL
    rw [List.drop_left]
    cases ns with
    | nil =>
      have e : sideC [n] = digs n.toNat := rfl
      rw [e, scan_digs _ (by omega) (by rw [hN]; exact hn.2), scan_stop nr, hN]
      dsimp only
      rw [if_neg (by omega), if_pos, List.length_append]
      by_cases hk : k = 0
      · exact .inl hk
      · right
        cases r with
        | nil => left; simp
        | cons c t =>
          right
          have hc := h4 c t rfl
          rw [← List.append_assoc, ← List.length_append, List.getElem?_append_right (Nat.le_refl _), Nat.sub_self, hc]
          simp
    | cons m ns =>
      have e : sideC (n :: m :: ns) = digs n.toNat ++ [120] ++ sideC (m :: ns) := rfl
      have nx : NoDigit ([120] ++ (sideC (m :: ns) ++ r)) := fun c t e q => by
        have e2 : 120 = c := (List.cons.inj e).1
        omega
      rw [e, List.append_assoc, List.append_assoc, List.append_assoc, scan_digs _ (by omega) (by rw [hN]; exact hn.2), scan_stop nx, hN]
      dsimp only
      rw [if_neg (by omega), if_neg]
      · have ih := sidesL_text (m :: ns) k (acc ++ [n]) (pre ++ digs n.toNat ++ [120]) r (by simp) (by simp at h2 ⊢; omega) (fun x hx => h3 x (List.mem_cons_of_mem _ hx)) h4
        have e1 : pre ++ digs n.toNat ++ [120] ++ (sideC (m :: ns) ++ r) = pre ++ (digs n.toNat ++ ([120] ++ (sideC (m :: ns) ++ r))) := by simp
        rw [e1] at ih
        have e2 : (pre ++ digs n.toNat ++ [120]).length = pre.length + (digs n.toNat).length + 1 := by simp; omega
        rw [e2] at ih
        rw [ih]
        congr 2
        · simp
        · simp
      · intro q
        rcases q with q | q | q
        · simp at h2; omega
        · simp at q
        · apply q
          rw [← List.append_assoc, ← List.length_append, List.getElem?_append_right (Nat.le_refl _), Nat.sub_self]
          rfl
theorem sidesAt_text {ns : List Int} {k l : Nat} (pre r : List Nat) (h1 : 1 ≤ ns.length) (h2 : ns.length ≤ k) (hl : l ≤ ns.length) (h3 : ∀ n ∈ ns, 1 ≤ n ∧ n ≤ MS) (h4 : Behind r) :
    sidesAt (pre ++ (sideC ns ++ r)) pre.length l k = .ok (ns, (pre ++ sideC ns).length) := by
  unfold sidesAt
  rw [sidesL_text ns k [] pre r h1 h2 h3 h4]
  dsimp only
  rw [List.nil_append, if_neg (by omega)]
theorem parseS_text {ns : List Int} (h : SideOk ns) : parseS (sideC ns) = .ok ns := by
  have e := sidesAt_text (l := 1) (k := 4) [] [] h.1 h.2.1 h.1 h.2.2 (fun c t e => nomatch e)
  simp only [List.nil_append, List.append_nil, List.length_nil] at e
  unfold parseS
  rw [e]
  dsimp only
  rw [if_neg (Nat.lt_irrefl _)]
theorem kindsL_text : ∀ (nss : List (List Int)) (n k : Nat) (acc : List (List Int)) (pre : List Nat), nss.length ≤ k → 1 ≤ n → (∀ ns ∈ nss, ns.length = n ∧ ∀ m ∈ ns, 1 ≤ m ∧ m ≤ MS) →
    kindsL (pre ++ (nss.map fun ns => 32 :: sideC ns).flatten) n k acc pre.length = .ok (acc ++ nss)
  | [], n, k, acc, pre, _, _, _ => by
    unfold kindsL
    rw [if_neg (by simp)]
    simp
  | ns :: nss, n, 0, acc, pre, h, _, _ => by simp at h
  | ns :: nss, n, k + 1, acc, pre, h, h1, h2 => by
    have hn := h2 ns List.mem_cons_self
    unfold kindsL
    rw [if_pos (by simp)]
    have g : (pre ++ (List.map (fun ns => 32 :: sideC ns) (ns :: nss)).flatten)[pre.length]? = some 32 := by
      rw [List.getElem?_append_right (Nat.le_refl _), Nat.sub_self]
      rfl
    rw [if_neg (by rw [g]; simp)]
    dsimp only
    have bh : Behind (List.map (fun ns => 32 :: sideC ns) nss).flatten := fun c t e => by
      cases nss with
      | nil => exact nomatch e
      | cons a b =>
        have : 32 = c := (List.cons.inj e).1
        exact this.symm
    have e := sidesAt_text (ns := ns) (l := n) (k := n) (pre ++ [32]) (List.map (fun ns => 32 :: sideC ns) nss).flatten (by omega) (by omega) (by omega) hn.2 bh
    have e1 : pre ++ [32] ++ (sideC ns ++ (List.map (fun ns => 32 :: sideC ns) nss).flatten) = pre ++ (List.map (fun ns => 32 :: sideC ns) (ns :: nss)).flatten := by simp
    have e2 : (pre ++ [32]).length = pre.length + 1 := by simp
    rw [e1, e2] at e
    rw [e]
    dsimp only
    have ih := kindsL_text nss n k (acc ++ [ns]) (pre ++ [32] ++ sideC ns) (by simp at h; omega) h1 fun x hx => h2 x (List.mem_cons_of_mem _ hx)
    have e3 : pre ++ [32] ++ sideC ns ++ (List.map (fun ns => 32 :: sideC ns) nss).flatten = pre ++ (List.map (fun ns => 32 :: sideC ns) (ns :: nss)).flatten := by simp
    rw [e3] at ih
    rw [ih]
    simp
theorem kindC_cons (ns : List Int) : ∀ nss : List (List Int), kindC (ns :: nss) = sideC ns ++ (nss.map fun ns => 32 :: sideC ns).flatten
  | [] => by simp [kindC, gl]
  | m :: nss => by
    show sideC ns ++ [32] ++ kindC (m :: nss) = _
    rw [kindC_cons m nss]
    simp
def KindOk (nss : List (List Int)) (n : Nat) : Prop := 1 ≤ n ∧ n ≤ 4 ∧ 1 ≤ nss.length ∧ nss.length ≤ 4 ∧ ∀ ns ∈ nss, ns.length = n ∧ ∀ m ∈ ns, 1 ≤ m ∧ m ≤ MS
theorem parseK_text {nss : List (List Int)} {n : Nat} (h : KindOk nss n) : parseK (kindC nss) = .ok nss := by
  obtain ⟨h1, h2, h3, h4, h5⟩ := h
  cases nss with
  | nil => simp at h3
  | cons ns nss =>
    have hn := h5 ns List.mem_cons_self
    have bh : Behind (List.map (fun ns => 32 :: sideC ns) nss).flatten := fun c t e => by
      cases nss with
      | nil => exact nomatch e
      | cons a b =>
        have : 32 = c := (List.cons.inj e).1
        exact this.symm
    have e := sidesAt_text (ns := ns) (l := 1) (k := 4) [] (List.map (fun ns => 32 :: sideC ns) nss).flatten (by omega) (by omega) (by omega) hn.2 bh
    simp only [List.nil_append, List.length_nil] at e
    unfold parseK
    rw [kindC_cons, e]
    dsimp only
    have k := kindsL_text nss ns.length 3 [ns] (sideC ns) (by simp at h4; omega) (by omega) fun x hx => by
      have := h5 x (List.mem_cons_of_mem _ hx)
      exact ⟨by omega, this.2⟩
    rw [k]
    rfl
/-! ### sizes -/
theorem gl_len (sep : List Nat) : ∀ (l : List (List Nat)) (k : Nat), (∀ x ∈ l, x.length ≤ k) → (gl sep l).length ≤ l.length * (k + sep.length)
  | [], _, _ => Nat.zero_le _
  | [x], k, h => by
    have := h x List.mem_cons_self
    show x.length ≤ 1 * _
    omega
  | x :: y :: r, k, h => by
    have h1 := h x List.mem_cons_self
    have h2 := gl_len sep (y :: r) k fun z hz => h z (List.mem_cons_of_mem _ hz)
    show (x ++ sep ++ gl sep (y :: r)).length ≤ (r.length + 1 + 1) * _
    rw [List.length_append, List.length_append, Nat.succ_mul]
    have : (y :: r).length = r.length + 1 := rfl
    rw [this] at h2
    omega
theorem sideC_len {ns : List Int} (h : ns.length ≤ 4) (h2 : ∀ n ∈ ns, 1 ≤ n ∧ n ≤ MS) : (sideC ns).length ≤ 56 := by
  have hms : MS = 1000000000000 := rfl
  have := gl_len [120] (ns.map fun n => digs n.toNat) 13 fun x hx => by
    obtain ⟨n, hn, rfl⟩ := List.mem_map.mp hx
    have := h2 n hn
    exact digs_len (by omega)
  rw [List.length_map] at this
  show (gl [120] _).length ≤ 56
  have e : ([120] : List Nat).length = 1 := rfl
  rw [e] at this
  omega
theorem kindC_len {nss : List (List Int)} (h : nss.length ≤ 4) (h2 : ∀ ns ∈ nss, ns.length ≤ 4 ∧ ∀ n ∈ ns, 1 ≤ n ∧ n ≤ MS) : (kindC nss).length ≤ 228 := by
  have := gl_len [32] (nss.map sideC) 56 fun x hx => by
    obtain ⟨ns, hn, rfl⟩ := List.mem_map.mp hx
    exact sideC_len (h2 ns hn).1 (h2 ns hn).2
  rw [List.length_map] at this
  show (gl [32] _).length ≤ 228
  have e : ([32] : List Nat).length = 1 := rfl
  rw [e] at this
  omega
/-! ### a sign among the digits -/
theorem find_digit (c : Nat) : Txt.find ("0123456789" : Str) ⟨#[c]⟩ = if 48 ≤ c ∧ c ≤ 57 then (c : Int) - 48 else -1 := by
  by_cases h : 48 ≤ c ∧ c ≤ 57
  · rw [if_pos h]
    obtain ⟨h1, h2⟩ := h
    have : c = 48 ∨ c = 49 ∨ c = 50 ∨ c = 51 ∨ c = 52 ∨ c = 53 ∨ c = 54 ∨ c = 55 ∨ c = 56 ∨ c = 57 := by omega
    rcases this with rfl | rfl | rfl | rfl | rfl | rfl | rfl | rfl | rfl | rfl <;> decide +kernel
  · rw [if_neg h]
    have e := StrLaws.found_one ("0123456789" : Str) c
    have e2 : decide (c ∈ ("0123456789" : Str).cps.toList) = false := by
      have : ("0123456789" : Str).cps.toList = [48, 49, 50, 51, 52, 53, 54, 55, 56, 57] := by decide +kernel
      rw [this]
      refine decide_eq_false ?_
      simp only [List.mem_cons, List.not_mem_nil, or_false]
      omega
    rw [e2] at e
    unfold Txt.find
    cases ho : Builtin.Str.occurrences ("0123456789" : Str) ⟨#[c]⟩ 0 ("0123456789" : Str).length 1 with
    | nil => rfl
    | cons a b => rw [ho] at e; cases e
/-! ### what repr asks of data: their texts are not too long -/
structure Fit (n k : Nat) (d : PyData) : Prop where
  sh : d.showable = true
  len : d.shown.length ≤ n
  dp : d.depth ≤ k
theorem Fit.mono {n m k j : Nat} {d : PyData} (h : Fit n k d) (h1 : n ≤ m) (h2 : k ≤ j) : Fit m j d := ⟨h.sh, Nat.le_trans h.len h1, Nat.le_trans h.dp h2⟩
theorem fit_all {n k : Nat} : ∀ ds : List PyData, (∀ d ∈ ds, Fit n k d) → PyData.showableAll ds = true ∧ PyData.depthAll ds ≤ k ∧ ((PyData.shownAll ds).map (·.length)).sum ≤ ds.length * n ∧ (PyData.shownAll ds).length = ds.length
  | [], _ => ⟨rfl, Nat.zero_le _, Nat.zero_le _, rfl⟩
  | d :: ds, h => by
    obtain ⟨a, b, c, e⟩ := fit_all ds fun x hx => h x (List.mem_cons_of_mem _ hx)
    have f := h d List.mem_cons_self
    refine ⟨by rw [PyData.showableAll, f.sh, a]; rfl, by rw [PyData.depthAll]; have := f.dp; omega, ?_, by rw [PyData.shownAll, List.length_cons, e]; rfl⟩
    rw [PyData.shownAll, List.map_cons, List.sum_cons, List.length_cons, Nat.succ_mul]
    have := f.len
    omega
theorem Fit.list {n k : Nat} {ds : List PyData} (h : ∀ d ∈ ds, Fit n k d) : Fit (ds.length * n + 2 * ds.length + 3) (k + 1) (.list ds) := by
  obtain ⟨a, b, c, e⟩ := fit_all ds h
  refine ⟨by rw [PyData.showable]; exact a, ?_, by rw [PyData.depth]; omega⟩
  have := listText_len_le (PyData.shownAll ds)
  rw [PyData.shown]
  omega
theorem Fit.tuple {n k : Nat} {ds : List PyData} (h : ∀ d ∈ ds, Fit n k d) : Fit (ds.length * n + 2 * ds.length + 3) (k + 1) (.tuple ds) := by
  obtain ⟨a, b, c, e⟩ := fit_all ds h
  refine ⟨by rw [PyData.showable]; exact a, ?_, by rw [PyData.depth]; omega⟩
  have := tupleText_len_le (PyData.shownAll ds)
  rw [PyData.shown]
  omega
theorem fit_int {i : Int} (h : 0 ≤ i) (h2 : i ≤ MS) : Fit 13 0 (.int i) := by
  have hms : MS = 1000000000000 := rfl
  refine ⟨?_, ?_, Nat.le_refl _⟩
  · rw [PyData.showable]
    refine decide_eq_true ?_
    by_cases h0 : i.natAbs = 0
    · rw [h0]; decide
    · exact Nat.lt_of_lt_of_le ((Nat.log2_lt h0).mpr (show i.natAbs < 2 ^ 41 by omega)) (by decide)
  · show (numS i).length ≤ 13
    rw [← cs_len, cs_num h]
    exact digs_len (by omega)
theorem fit_str {x : Str} {n : Nat} (h : x.length ≤ n) (hc : ∀ c ∈ cs x, c < 16 ^ 8) : Fit (10 * n + 2) 0 (.str x) := by
  refine ⟨rfl, ?_, Nat.le_refl _⟩
  have := StrLaws.reprText_len x hc
  rw [PyData.shown]
  omega
theorem gl_mem {sep : List Nat} {c : Nat} : ∀ {l : List (List Nat)}, c ∈ gl sep l → c ∈ sep ∨ ∃ x ∈ l, c ∈ x
  | [], h => by cases h
  | [x], h => .inr ⟨x, List.mem_cons_self, h⟩
  | x :: y :: r, h => by
    have h' : c ∈ x ++ sep ++ gl sep (y :: r) := h
    rcases List.mem_append.mp h' with h1 | h1
    · rcases List.mem_append.mp h1 with h2 | h2
      · exact .inr ⟨x, List.mem_cons_self, h2⟩
      · exact .inl h2
    · rcases gl_mem h1 with h2 | ⟨z, hz, h2⟩
      · exact .inl h2
      · exact .inr ⟨z, List.mem_cons_of_mem _ hz, h2⟩
theorem side_code {ns : List Int} {c : Nat} (h : c ∈ sideC ns) : c < 1000 := by
  rcases gl_mem h with h | ⟨x, hx, h⟩
  · rw [List.mem_singleton.mp h]; decide
  · obtain ⟨n, _, rfl⟩ := List.mem_map.mp hx
    have := digs_mem _ _ h
    omega
theorem kind_code {nss : List (List Int)} {c : Nat} (h : c ∈ kindC nss) : c < 1000 := by
  rcases gl_mem h with h | ⟨x, hx, h⟩
  · rw [List.mem_singleton.mp h]; decide
  · obtain ⟨n, _, rfl⟩ := List.mem_map.mp hx
    exact side_code h
theorem fit_side {ns : List Int} (h : ns.length ≤ 4) (h2 : ∀ n ∈ ns, 1 ≤ n ∧ n ≤ MS) : Fit 3000 0 (.str (sideT ns)) := by
  refine (fit_str (n := 56) ?_ fun c hc => ?_).mono (by decide) (Nat.le_refl _)
  · rw [← cs_len, cs_side h2]; exact sideC_len h h2
  · rw [cs_side h2] at hc
    exact Nat.lt_of_lt_of_le (side_code hc) (by decide)
theorem fit_kind {nss : List (List Int)} (h : nss.length ≤ 4) (h2 : ∀ ns ∈ nss, ns.length ≤ 4 ∧ ∀ n ∈ ns, 1 ≤ n ∧ n ≤ MS) : Fit 3000 0 (.str (kindT nss)) := by
  have e := cs_kind fun ns hn => (h2 ns hn).2
  refine (fit_str (n := 228) ?_ fun c hc => ?_).mono (by decide) (Nat.le_refl _)
  · rw [← cs_len, e]; exact kindC_len h h2
  · rw [e] at hc
    exact Nat.lt_of_lt_of_le (kind_code hc) (by decide)
theorem fit_tupI {ns : List Int} (h : ns.length ≤ 4) (h2 : ∀ n ∈ ns, 1 ≤ n ∧ n ≤ MS) : Fit 100 1 (tupI ns) := by
  have := Fit.tuple (n := 13) (k := 0) (ds := ns.map PyData.int) fun d hd => by
    obtain ⟨n, hn, rfl⟩ := List.mem_map.mp hd
    have := h2 n hn
    exact fit_int (by omega) this.2
  rw [List.length_map] at this
  exact this.mono (by omega) (Nat.le_refl _)
theorem fit_tupK {nss : List (List Int)} (h : nss.length ≤ 4) (h2 : ∀ ns ∈ nss, ns.length ≤ 4 ∧ ∀ n ∈ ns, 1 ≤ n ∧ n ≤ MS) : Fit 3000 2 (tupK nss) := by
  have := Fit.tuple (n := 100) (k := 1) (ds := nss.map tupI) fun d hd => by
    obtain ⟨ns, hn, rfl⟩ := List.mem_map.mp hd
    exact fit_tupI (h2 ns hn).1 (h2 ns hn).2
  rw [List.length_map] at this
  exact this.mono (by omega) (Nat.le_refl _)
theorem sizeLine_big {n : Nat} (h : n ≤ 100000) : n ≤ sizeLine := Nat.le_trans h (by decide)
end TB
set_option Elab.async false
set_option linter.all false
set_option maxRecDepth 100000
/-! A layer over data: what an expression evaluates to, said of data (PyData), the heap's bookkeeping hidden in one state St. -/
namespace DL
open PySem PySem.Spec PyProof.Rows L2 Evl TB
mutual
/-- v stands for the data e, none of its objects at an address of N -/
inductive Rg (N : Addr → Prop) (H : Hp) : V → PyData → Prop
  | non : Rg N H .non .none
  | bl (b : Bool) : Rg N H (.bl b) (.bool b)
  | int (i : Int) : Rg N H (.int i) (.int i)
  | str (x : Str) : Rg N H (.str x) (.str x)
  | lst {a : Addr} {xs : List V} {ds : List PyData} : H a = some (.lst xs) → ¬ N a → RgAll N H xs ds → Rg N H (.ref a) (.list ds)
  | tup {a : Addr} {xs : List V} {ds : List PyData} : H a = some (.tup xs) → ¬ N a → RgAll N H xs ds → Rg N H (.ref a) (.tuple ds)
  | dic {a : Addr} : H a = some (.dK []) → ¬ N a → Rg N H (.ref a) (.dict [])
inductive RgAll (N : Addr → Prop) (H : Hp) : List V → List PyData → Prop
  | nil : RgAll N H [] []
  | cons {v : V} {vs : List V} {d : PyData} {ds : List PyData} : Rg N H v d → RgAll N H vs ds → RgAll N H (v :: vs) (d :: ds)
end
mutual
def hasL : PyData → Bool
  | .none | .bool _ | .int _ | .str _ => false
  | .list _ => true
  | .tuple ds => hasLs ds
  | .dict _ => false
def hasLs : List PyData → Bool
  | [] => false
  | d :: ds => hasL d || hasLs ds
end
/-- not both a list and a dict in it -/
def okD (e : PyData) : Bool := !(e.hasDict) || !(hasL e)
section
variable {N M : Addr → Prop} {H H' : Hp}
mutual
theorem Rg.to (x : ∀ a o, H a = some o → ¬ N a → H' a = some o ∧ ¬ M a) : ∀ (e : PyData) (z : V), Rg N H z e → Rg M H' z e
  | .none, _, q => by cases q; exact .non
  | .bool c, _, q => by cases q; exact .bl c
  | .int j, _, q => by cases q; exact .int j
  | .str y, _, q => by cases q; exact .str y
  | .list es, _, q => by
    cases q with
    | lst h n r => exact .lst (x _ _ h n).1 (x _ _ h n).2 (RgAll.to x es _ r)
  | .tuple es, _, q => by
    cases q with
    | tup h n r => exact .tup (x _ _ h n).1 (x _ _ h n).2 (RgAll.to x es _ r)
  | .dict es, _, q => by
    cases q with
    | dic h n => exact .dic (x _ _ h n).1 (x _ _ h n).2
theorem RgAll.to (x : ∀ a o, H a = some o → ¬ N a → H' a = some o ∧ ¬ M a) : ∀ (es : List PyData) (zs : List V), RgAll N H zs es → RgAll M H' zs es
  | [], _, q => by cases q; exact .nil
  | e :: es, _, q => by
    cases q with
    | cons q1 q2 => exact .cons (Rg.to x e _ q1) (RgAll.to x es _ q2)
end
theorem Rg.ex {v : V} {e : PyData} (x : Ex H H') (r : Rg N H v e) : Rg N H' v e := Rg.to (fun a o h n => ⟨x a o h, n⟩) e v r
theorem RgAll.ex {vs : List V} {es : List PyData} (x : Ex H H') (r : RgAll N H vs es) : RgAll N H' vs es := RgAll.to (fun a o h n => ⟨x a o h, n⟩) es vs r
theorem Rg.sub {v : V} {e : PyData} (x : ∀ a, M a → N a) (r : Rg N H v e) : Rg M H v e := Rg.to (fun a o h n => ⟨h, fun q => n (x a q)⟩) e v r
theorem RgAll.len : ∀ {zs : List V} {es : List PyData}, RgAll N H zs es → zs.length = es.length
  | _, _, .nil => rfl
  | _, _, .cons _ t => congrArg (· + 1) t.len
theorem RgAll.get : ∀ {zs : List V} {es : List PyData} {i : Nat} {z : V}, RgAll N H zs es → zs[i]? = some z → ∃ e, es[i]? = some e ∧ Rg N H z e
  | _, _, _, _, .nil, h => by simp at h
  | _, _, 0, z, .cons q _, h => by simp at h; subst h; exact ⟨_, rfl, q⟩
  | _, _, i + 1, z, .cons _ t, h => by
    obtain ⟨e, h1, h2⟩ := RgAll.get (i := i) t (by simpa using h)
    exact ⟨e, by simpa using h1, h2⟩
theorem RgAll.get' : ∀ {zs : List V} {es : List PyData} {i : Nat} {e : PyData}, RgAll N H zs es → es[i]? = some e → ∃ z, zs[i]? = some z ∧ Rg N H z e
  | _, _, _, _, .nil, h => by simp at h
  | _, _, 0, e, .cons q _, h => by simp at h; subst h; exact ⟨_, rfl, q⟩
  | _, _, i + 1, e, .cons _ t, h => by
    obtain ⟨z, h1, h2⟩ := RgAll.get' (i := i) t (by simpa using h)
    exact ⟨z, by simpa using h1, h2⟩
theorem RgAll.app : ∀ {zs ys : List V} {es fs : List PyData}, RgAll N H zs es → RgAll N H ys fs → RgAll N H (zs ++ ys) (es ++ fs)
  | _, _, _, _, .nil, s => s
  | _, _, _, _, .cons q t, s => .cons q (t.app s)
theorem RgAll.take : ∀ {zs : List V} {es : List PyData} (k : Nat), RgAll N H zs es → RgAll N H (zs.take k) (es.take k)
  | _, _, 0, _ => .nil
  | _, _, _ + 1, .nil => .nil
  | _, _, k + 1, .cons q t => .cons q (RgAll.take k t)
theorem RgAll.drop : ∀ {zs : List V} {es : List PyData} (k : Nat), RgAll N H zs es → RgAll N H (zs.drop k) (es.drop k)
  | _, _, 0, r => r
  | _, _, _ + 1, .nil => .nil
  | _, _, k + 1, .cons _ t => RgAll.drop k t
theorem RgAll.rev : ∀ {zs : List V} {es : List PyData}, RgAll N H zs es → RgAll N H zs.reverse es.reverse
  | _, _, .nil => .nil
  | _, _, .cons q t => by
    rw [List.reverse_cons, List.reverse_cons]
    exact t.rev.app (.cons q .nil)
theorem RgAll.mem : ∀ {zs : List V} {es : List PyData} {z : V}, RgAll N H zs es → z ∈ zs → ∃ e ∈ es, Rg N H z e
  | _, _, _, .nil, h => by cases h
  | _, _, z, .cons q t, h => by
    rcases List.mem_cons.mp h with h | h
    · subst h; exact ⟨_, List.mem_cons_self, q⟩
    · obtain ⟨e, h1, h2⟩ := t.mem h
      exact ⟨e, List.mem_cons_of_mem _ h1, h2⟩
theorem rgInts : ∀ ns : List Int, RgAll N H (ns.map V.int) (ns.map PyData.int)
  | [] => .nil
  | n :: ns => .cons (.int n) (rgInts ns)
theorem rgStrs : ∀ ns : List Str, RgAll N H (ns.map V.str) (ns.map PyData.str)
  | [] => .nil
  | n :: ns => .cons (.str n) (rgStrs ns)
theorem rgInts_inv : ∀ {ns : List Int} {zs : List V}, RgAll N H zs (ns.map PyData.int) → zs = ns.map V.int
  | [], _, h => by cases h; rfl
  | n :: ns, _, h => by
    cases h with
    | cons q t => cases q; rw [rgInts_inv t]; rfl
end
/-! ### repr -/
section
variable {X : Cx} {pins : List (Addr × Obj)} {σ : L2.St} {N : Addr → Prop} {H : Hp} {s : Shared}
mutual
theorem Rg.reads (J : Inv X pins σ H s) : ∀ (e : PyData) (z : V) (y : Value), Rg N H z e → RelV z y → ∃ as, Reads s.heap y e as ∧ (hasL e = false → sysModules ∉ as)
  | .none, _, _, q, r => by cases q; cases r; exact ⟨_, Reads.none, fun _ h => nomatch h⟩
  | .bool c, _, _, q, r => by cases q; cases r; exact ⟨_, Reads.bool c, fun _ h => nomatch h⟩
  | .int j, _, _, q, r => by cases q; obtain ⟨tk, rfl⟩ := r; exact ⟨_, Reads.int j tk, fun _ h => nomatch h⟩
  | .str y, _, _, q, r => by cases q; obtain ⟨tk, rfl⟩ := r; exact ⟨_, Reads.str y tk, fun _ h => nomatch h⟩
  | .list es, _, _, q, r => by
    cases q with
    | lst hq _ hz =>
      cases r
      obtain ⟨iq, rz, ⟨oq, nq, hoq, hcq, _, hdq⟩, _⟩ := J.list (.inl (.inl hq))
      obtain ⟨as, hr, _⟩ := Rg.readsAll J es _ iq hz rz
      exact ⟨_, Reads.list hoq hcq hdq hr, fun h => by rw [hasL] at h; cases h⟩
  | .tuple es, _, _, q, r => by
    cases q with
    | tup hq _ hz =>
      cases r
      obtain ⟨iq, rz, ⟨oq, hoq, hcq, nq, hdq⟩, _⟩ := J.tuple (.inl (.inl hq))
      obtain ⟨as, hr, hn⟩ := Rg.readsAll J es _ iq hz rz
      exact ⟨_, Reads.tuple hoq hcq hdq hr, fun h => hn (by rw [hasL] at h; exact h)⟩
  | .dict es, _, _, q, r => by
    cases q with
    | dic hq _ =>
      cases r
      obtain ⟨_, hne, vs, kv, o, es, ep, ho, ⟨hc, _⟩, hd, _, hp, _⟩ := J.hok _ _ hq
      cases kv
      have e0 : es.toList = [] := by
        cases h : es.toList with
        | nil => rfl
        | cons a b => rw [h] at hp; cases hp
      refine ⟨_, Reads.dict ho hc hd (by rw [e0]; exact .nil) (by rw [e0]; exact .nil), fun _ hm => ?_⟩
      simp only [List.append_nil, List.mem_singleton] at hm
      rw [← hm] at hne
      simp at hne
theorem Rg.readsAll (J : Inv X pins σ H s) : ∀ (es : List PyData) (zs : List V) (ys : List Value), RgAll N H zs es → Vals zs ys → ∃ as, ReadsAll s.heap ys es as ∧ (hasLs es = false → sysModules ∉ as)
  | [], _, _, q, r => by cases q; cases r; exact ⟨_, ReadsAll.nil, fun _ h => nomatch h⟩
  | e :: es, _, _, q, r => by
    cases q with
    | cons q1 q2 =>
      cases r with
      | cons r1 r2 =>
        obtain ⟨as, g1, n1⟩ := Rg.reads J e _ _ q1 r1
        obtain ⟨bs, g2, n2⟩ := Rg.readsAll J es _ _ q2 r2
        refine ⟨_, ReadsAll.cons g1 g2, fun h hm => ?_⟩
        rw [hasLs, Bool.or_eq_false_iff] at h
        rcases List.mem_append.mp hm with hm | hm
        · exact n1 h.1 hm
        · exact n2 h.2 hm
end
end
def rReprD : List V → Hp → VK → Prop := fun xs H Q =>
  ∃ N z e, xs = [z] ∧ Rg N H z e ∧ okD e = true ∧ e.showable = true ∧ e.depth < 60 ∧ e.shown.length ≤ sizeLine ∧ Q (.str e.shown) H
theorem call_reprD {X : Cx} (hg : X.A.guards = some []) (hu : X.A.units + 64 < cLine) : CallR X (.builtin "repr") rReprD := by
  intro pins s σ H xs us Q J r h
  obtain ⟨N, z, e, rfl, hz, hk, hs, hd, hl, q⟩ := h
  obtain ⟨u, rfl, ru⟩ := vals1 r
  obtain ⟨as, hr, hn⟩ := Rg.reads J e z u hz ru
  have hk' : e.hasDict = true → sysModules ∉ as := fun h => by
    unfold okD at hk
    rw [h] at hk
    exact hn (by simpa using hk)
  cases hz with
  | non =>
    cases ru
    exact PySem.P.repr_of_none ⟨.str _, H, J.tok _, ⟨_, rfl⟩, q⟩
  | bl b =>
    cases ru
    exact PySem.P.repr_of_bool ⟨.str _, H, J.tok _, ⟨_, rfl⟩, by cases b <;> exact q⟩
  | int i =>
    obtain ⟨t, rfl⟩ := ru
    exact PySem.P.repr_of_int (of_decide_eq_true hs) ⟨.str _, H, J.tok _, ⟨_, rfl⟩, q⟩
  | str x =>
    obtain ⟨t, rfl⟩ := ru
    exact PySem.P.repr_of_str (hsz := hl) ⟨.str _, H, J.tok _, ⟨_, rfl⟩, q⟩
  | lst h1 h2 =>
    cases ru
    exact repr_of_reads' hr hs hk' hg (by omega) (fun b o e => e) (fun h' u tk hk => ⟨.str _, H, J.kept hk, ⟨_, rfl⟩, q⟩) hl
  | tup h1 h2 =>
    cases ru
    exact repr_of_reads' hr hs hk' hg (by omega) (fun b o e => e) (fun h' u tk hk => ⟨.str _, H, J.kept hk, ⟨_, rfl⟩, q⟩) hl
  | dic h1 h2 =>
    cases ru
    exact repr_of_reads' hr hs hk' hg (by omega) (fun b o e => e) (fun h' u tk hk => ⟨.str _, H, J.kept hk, ⟨_, rfl⟩, q⟩) hl
/-! ### the state -/
def NOk (N : Addr → Prop) (H : Hp) : Prop := ∀ a, N a → H a ≠ none
theorem NOk.ex {N : Addr → Prop} {H H' : Hp} (h : NOk N H) (x : Ex H H') : NOk N H' := fun a n => by
  cases e : H a with
  | none => exact absurd e (h a n)
  | some o => rw [x a o e]; simp
theorem NOk.new {N : Addr → Prop} {H : Hp} {p : Addr} (h : NOk N H) (hp : H p = none) : ¬ N p := fun n => h p n hp
inductive Sl where
  | dat (e : PyData)
  | raw (v : V)
/-- what must stand while a def runs: the objects of N may change, I is what is known of them -/
structure Wd where
  N : Addr → Prop
  I : Hp → Prop
  ok : ∀ H, I H → NOk N H
  stab : ∀ H H', I H → (∀ a, N a → H' a = H a) → I H'
def SlOk (N M : Addr → Prop) (H : Hp) : Sl → Option V → Prop
  | .dat e, o => ∃ v, o = some v ∧ Rg N H v e
  | .raw v, o => o = some v
def Slots (N M : Addr → Prop) (H : Hp) (ρ : List (Option Sl)) (σ : L2.St) : Prop := ρ.length = σ.length ∧ ∀ (i : Nat) (s : Sl), ρ[i]? = some (some s) → ∃ o, σ[i]? = some o ∧ SlOk N M H s o
/-- the lists of one's own that still grow -/
def LocOk (N M : Addr → Prop) (H : Hp) (l : List (Addr × List PyData)) : Prop := (l.map (·.1)).Nodup ∧ ∀ p ∈ l, N p.1 ∧ ¬ M p.1 ∧ ∃ xs, H p.1 = some (.lst xs) ∧ RgAll N H xs p.2
structure St (W : Wd) (H0 : Hp) (ρ : List (Option Sl)) (τ : List (V × PyData)) (l : List (Addr × List PyData)) (σ : L2.St) (H : Hp) : Prop where
  inv : W.I H
  off : ∀ a o, H0 a = some o → ¬ W.N a → H a = some o
  ex : ∃ N : Addr → Prop, (∀ a, W.N a → N a) ∧ (∀ a, N a → ¬ W.N a → H0 a = none) ∧ NOk N H ∧ Slots N W.N H ρ σ ∧ (∀ p ∈ τ, Rg N H p.1 p.2) ∧ LocOk N W.N H l
theorem LocOk.ex {N M : Addr → Prop} {H H' : Hp} {l : List (Addr × List PyData)} (x : Ex H H') (h : LocOk N M H l) : LocOk N M H' l :=
  ⟨h.1, fun p hp => let ⟨a, b, xs, c, d⟩ := h.2 p hp; ⟨a, b, xs, x _ _ c, d.ex x⟩⟩
theorem SlOk.ex {N M : Addr → Prop} {H H' : Hp} {s : Sl} {o : Option V} (x : Ex H H') (h : SlOk N M H s o) : SlOk N M H' s o := by
  cases s with
  | dat e => obtain ⟨v, h1, h2⟩ := h; exact ⟨v, h1, h2.ex x⟩
  | raw v => exact h
theorem Slots.ex {N M : Addr → Prop} {H H' : Hp} {ρ : List (Option Sl)} {σ : L2.St} (x : Ex H H') (h : Slots N M H ρ σ) : Slots N M H' ρ σ :=
  ⟨h.1, fun i s e => let ⟨o, a, b⟩ := h.2 i s e; ⟨o, a, b.ex x⟩⟩
section
variable {W : Wd} {H0 H H' : Hp} {ρ : List (Option Sl)} {τ τ' : List (V × PyData)} {l : List (Addr × List PyData)} {σ : L2.St}
/-- the state at an extension of the heap, with the values that were made -/
theorem St.ext (S : St W H0 ρ τ l σ H) : ∃ N : Addr → Prop, NOk N H ∧ (∀ p ∈ τ, Rg N H p.1 p.2) ∧ (∀ (i : Nat) (s : Sl), ρ[i]? = some (some s) → ∃ o, σ[i]? = some o ∧ SlOk N W.N H s o) ∧
    ∀ H' (τ' : List (V × PyData)), Ex H H' → (∀ p ∈ τ', Rg N H' p.1 p.2) → St W H0 ρ τ' l σ H' := by
  obtain ⟨N, n1, n2, n3, n4, n5, n6⟩ := S.ex
  refine ⟨N, n3, n5, n4.2, fun H' τ' x h => ⟨W.stab H H' S.inv fun a na => ?_, fun a o e n => x _ _ (S.off a o e n), N, n1, n2, n3.ex x, n4.ex x, h, n6.ex x⟩⟩
  cases e : H a with
  | none => exact absurd e (n3 a (n1 a na))
  | some o => exact x a o e
theorem St.mono (S : St W H0 ρ τ l σ H) (h : ∀ p ∈ τ', p ∈ τ) : St W H0 ρ τ' l σ H := by
  obtain ⟨N, n1, n2, n3, n4, n5, n6⟩ := S.ex
  exact ⟨S.inv, S.off, N, n1, n2, n3, n4, fun p hp => n5 p (h p hp), n6⟩
theorem St.pop (S : St W H0 ρ (p :: τ) l σ H) : St W H0 ρ τ l σ H := S.mono fun _ h => List.mem_cons_of_mem _ h
theorem St.len (S : St W H0 ρ τ l σ H) : ρ.length = σ.length := let ⟨_, _, _, _, n4, _⟩ := S.ex; n4.1
/-- the last value goes to a slot -/
theorem St.set {v : V} {e : PyData} {i : Nat} (S : St W H0 ρ ((v, e) :: τ) l σ H) : St W H0 (ρ.set i (some (.dat e))) τ l (σ.set i (some v)) H := by
  obtain ⟨N, n1, n2, n3, n4, n5, n6⟩ := S.ex
  refine ⟨S.inv, S.off, N, n1, n2, n3, ⟨by rw [List.length_set, List.length_set]; exact n4.1, fun j s h => ?_⟩, fun p hp => n5 p (List.mem_cons_of_mem _ hp), n6⟩
  by_cases hj : i = j
  · subst hj
    have il : i < ρ.length := by
      have := (List.getElem?_eq_some_iff.mp h).1
      rw [List.length_set] at this
      exact this
    rw [List.getElem?_set_self il] at h
    cases h
    exact ⟨some v, List.getElem?_set_self (by rw [← n4.1]; exact il), v, rfl, n5 _ List.mem_cons_self⟩
  · rw [List.getElem?_set_ne hj] at h
    obtain ⟨o, h1, h2⟩ := n4.2 j s h
    exact ⟨o, by rw [List.getElem?_set_ne hj]; exact h1, h2⟩
/-- a slot is forgotten -/
theorem St.clr {i : Nat} {o : Option V} (S : St W H0 ρ τ l σ H) : St W H0 (ρ.set i none) τ l (σ.set i o) H := by
  obtain ⟨N, n1, n2, n3, n4, n5, n6⟩ := S.ex
  refine ⟨S.inv, S.off, N, n1, n2, n3, ⟨by rw [List.length_set, List.length_set]; exact n4.1, fun j s h => ?_⟩, n5, n6⟩
  by_cases hj : i = j
  · subst hj
    have il : i < ρ.length := by
      have := (List.getElem?_eq_some_iff.mp h).1
      rw [List.length_set] at this
      exact this
    rw [List.getElem?_set_self il] at h
    cases h
  · rw [List.getElem?_set_ne hj] at h
    obtain ⟨o', h1, h2⟩ := n4.2 j s h
    exact ⟨o', by rw [List.getElem?_set_ne hj]; exact h1, h2⟩
theorem St.dat {i : Nat} {e : PyData} (S : St W H0 ρ τ l σ H) (h : ρ[i]? = some (some (.dat e))) : ∃ v, σ[i]? = some (some v) ∧ St W H0 ρ ((v, e) :: τ) l σ H := by
  obtain ⟨N, n3, n5, n4, k⟩ := S.ext
  obtain ⟨o, h1, v, rfl, h2⟩ := n4 i _ h
  refine ⟨v, h1, k H _ ex_refl fun p hp => ?_⟩
  rcases List.mem_cons.mp hp with rfl | hp
  · exact h2
  · exact n5 p hp
theorem St.raw {i : Nat} {v : V} (S : St W H0 ρ τ l σ H) (h : ρ[i]? = some (some (.raw v))) : σ[i]? = some (some v) := by
  obtain ⟨N, n3, n5, n4, k⟩ := S.ext
  obtain ⟨o, h1, h2⟩ := n4 i _ h
  have h2 : o = some v := h2
  rw [h2] at h1
  exact h1
end
/-! ### expressions -/
def EvP (W : Wd) (H0 : Hp) (te : TE) (ρ : List (Option Sl)) (P : PyData → Prop) : Prop :=
  ∀ τ l σ H, St W H0 ρ τ l σ H → ∀ Q : VK, (∀ v e H', St W H0 ρ ((v, e) :: τ) l σ H' → P e → Q v H') → te σ H Q
def EvA (W : Wd) (H0 : Hp) (ta : TA) (ρ : List (Option Sl)) (P : List PyData → Prop) : Prop :=
  ∀ τ l σ H, St W H0 ρ τ l σ H → ∀ Q : List V → Hp → Prop, (∀ vs es H', St W H0 ρ (vs.zip es ++ τ) l σ H' → vs.length = es.length → P es → Q vs H') → ta σ H Q
def EvT (W : Wd) (H0 : Hp) (tt : TT) (ρ : List (Option Sl)) (P : Bool → Prop) : Prop :=
  ∀ τ l σ H, St W H0 ρ τ l σ H → ∀ Q : Bool → Hp → Prop, (∀ b H', St W H0 ρ τ l σ H' → P b → Q b H') → tt σ H Q
/-- what an operation on values does, said of data -/
def Res (N : Addr → Prop) (H : Hp) (P : PyData → Prop) (k : VK → Prop) : Prop := ∀ Q : VK, (∀ v e H', Ex H H' → Rg N H' v e → P e → Q v H') → k Q
def OpD (r : R2) (e1 e2 : PyData) (P : PyData → Prop) : Prop := ∀ N H v1 v2, NOk N H → Rg N H v1 e1 → Rg N H v2 e2 → Res N H P (r v1 v2 H)
def CaD (r : List V → Hp → VK → Prop) (es : List PyData) (P : PyData → Prop) : Prop := ∀ N H vs, NOk N H → RgAll N H vs es → Res N H P (r vs H)
section
variable {W : Wd} {H0 : Hp} {ρ : List (Option Sl)} {te ta tb : TE} {tas : TA} {P P1 P2 : PyData → Prop}
theorem EvP.imp (h : EvP W H0 te ρ P1) (i : ∀ e, P1 e → P2 e) : EvP W H0 te ρ P2 := fun τ l σ H S Q k => h τ l σ H S Q fun v e H' S' p => k v e H' S' (i e p)
theorem ev_dat {i : Nat} {e : PyData} (h : ρ[i]? = some (some (.dat e))) : EvP W H0 (tVar i) ρ (· = e) := fun τ l σ H S Q k => by
  obtain ⟨v, h1, S'⟩ := S.dat h
  exact ⟨v, h1, k v e H S' rfl⟩
theorem ev_const {v : V} {e : PyData} (h : ∀ N H, Rg N H v e) : EvP W H0 (tC v) ρ (· = e) := fun τ l σ H S Q k => by
  obtain ⟨N, n3, n5, n4, q⟩ := S.ext
  refine k v e H (q H _ ex_refl fun p hp => ?_) rfl
  rcases List.mem_cons.mp hp with rfl | hp
  · exact h _ _
  · exact n5 p hp
theorem ev_int {i : Int} : EvP W H0 (tC (.int i)) ρ (· = .int i) := ev_const fun _ _ => .int i
theorem ev_str {x : Str} : EvP W H0 (tC (.str x)) ρ (· = .str x) := ev_const fun _ _ => .str x
theorem ev_bl {b : Bool} : EvP W H0 (tC (.bl b)) ρ (· = .bool b) := ev_const fun _ _ => .bl b
theorem ev_non : EvP W H0 (tC .non) ρ (· = .none) := ev_const fun _ _ => .non
theorem ev_op {r : R2} (ha : EvP W H0 ta ρ P1) (hb : EvP W H0 tb ρ P2) (hr : ∀ e1 e2, P1 e1 → P2 e2 → OpD r e1 e2 P) : EvP W H0 (tOp r ta tb) ρ P := fun τ l σ H S Q k =>
  ha τ l σ H S _ fun v1 e1 H1 S1 p1 => hb _ l σ H1 S1 _ fun v2 e2 H2 S2 p2 => by
    obtain ⟨N, n3, n5, n4, q⟩ := S2.ext
    refine hr e1 e2 p1 p2 N H2 v1 v2 n3 (n5 _ (List.mem_cons_of_mem _ List.mem_cons_self)) (n5 _ List.mem_cons_self) Q fun v e H' x rg p => k v e H' (q H' _ x fun p hp => ?_) p
    rcases List.mem_cons.mp hp with rfl | hp
    · exact rg
    · exact (n5 p (List.mem_cons_of_mem _ (List.mem_cons_of_mem _ hp))).ex x
theorem eva_nil : EvA W H0 tNil ρ (· = []) := fun τ l σ H S Q k => k [] [] H S rfl rfl
theorem eva_cons {PA PB : List PyData → Prop} (ha : EvP W H0 ta ρ P1) (hb : EvA W H0 tas ρ PA) (h : ∀ e es, P1 e → PA es → PB (e :: es)) : EvA W H0 (tCons ta tas) ρ PB := fun τ l σ H S Q k =>
  ha τ l σ H S _ fun v e H1 S1 p1 => hb _ l σ H1 S1 _ fun vs es H2 S2 le p2 => k (v :: vs) (e :: es) H2 (S2.mono fun p hp => by
    simp only [List.zip_cons_cons, List.cons_append, List.mem_cons, List.mem_append] at hp ⊢
    rcases hp with hp | hp | hp
    · exact .inr (.inl hp)
    · exact .inl hp
    · exact .inr (.inr hp)) (congrArg (· + 1) le) (h e es p1 p2)
theorem zip_all {N : Addr → Prop} {H : Hp} : ∀ {vs : List V} {es : List PyData}, vs.length = es.length → (∀ p ∈ vs.zip es, Rg N H p.1 p.2) → RgAll N H vs es
  | [], [], _, _ => .nil
  | v :: vs, e :: es, l, h => .cons (h (v, e) (by simp)) (zip_all (by simpa using l) fun p hp => h p (by simp [hp]))
/-- a call of a built-in on data -/
theorem ev_cb {r : List V → Hp → VK → Prop} {PA : List PyData → Prop} (ha : EvA W H0 tas ρ PA) (hr : ∀ es, PA es → CaD r es P) : EvP W H0 (tCB r tas) ρ P := fun τ l σ H S Q k =>
  ha τ l σ H S _ fun vs es H1 S1 le pa => by
    obtain ⟨N, n3, n5, n4, q⟩ := S1.ext
    refine hr es pa N H1 vs n3 (zip_all le fun p hp => n5 p (List.mem_append_left _ hp)) Q fun v e H' x rg p => k v e H' (q H' _ x fun p hp => ?_) p
    rcases List.mem_cons.mp hp with rfl | hp
    · exact rg
    · exact (n5 p (List.mem_append_right _ hp)).ex x
theorem ev_tup {PA : List PyData → Prop} (ha : EvA W H0 tas ρ PA) (hs : ∀ es, PA es → es.length ≤ 100000) : EvP W H0 (tTup tas) ρ (fun e => ∃ es, e = .tuple es ∧ PA es) := fun τ l σ H S Q k =>
  ha τ l σ H S _ fun vs es H1 S1 le pa => ⟨size_small (by rw [le]; exact hs es pa), fun p hp => by
    obtain ⟨N, n3, n5, n4, q⟩ := S1.ext
    refine k _ (.tuple es) _ (q _ _ (Ex.new hp) fun p' hp' => ?_) ⟨es, rfl, pa⟩
    rcases List.mem_cons.mp hp' with rfl | hp'
    · exact .tup upd_same (n3.new hp) ((zip_all le fun p hp => n5 p (List.mem_append_left _ hp)).ex (Ex.new hp))
    · exact (n5 _ (List.mem_append_right _ hp')).ex (Ex.new hp)⟩
theorem ev_lst {PA : List PyData → Prop} (ha : EvA W H0 tas ρ PA) (hs : ∀ es, PA es → es.length ≤ 100000) : EvP W H0 (tLst tas) ρ (fun e => ∃ es, e = .list es ∧ PA es) := fun τ l σ H S Q k =>
  ha τ l σ H S _ fun vs es H1 S1 le pa => ⟨size_small (by rw [le]; exact hs es pa), fun p hp => by
    obtain ⟨N, n3, n5, n4, q⟩ := S1.ext
    refine k _ (.list es) _ (q _ _ (Ex.new hp) fun p' hp' => ?_) ⟨es, rfl, pa⟩
    rcases List.mem_cons.mp hp' with rfl | hp'
    · exact .lst upd_same (n3.new hp) ((zip_all le fun p hp => n5 p (List.mem_append_left _ hp)).ex (Ex.new hp))
    · exact (n5 _ (List.mem_append_right _ hp')).ex (Ex.new hp)⟩
end
end DL
set_option Elab.async false
set_option linter.all false
set_option maxRecDepth 100000
/-! t[::-1] of a tuple. -/
namespace DL
open PySem PySem.Spec PyProof.Rows L2 HT
section
variable {prog : Program} {w : World} {A : Around} {E : Value → Shared → Prop} {s : Shared}
theorem rev_places (n : Nat) : Builtin.Slice.slicePlaces ((n : Int) - 1) (-1) (-1) = n := by
  unfold Builtin.Slice.slicePlaces
  rw [if_neg (by decide), show -(-1 : Int) = 1 from rfl, Int.ediv_one]
  split <;> omega
theorem filterMap_all {α β : Type} {f : α → Option β} {g : α → β} : ∀ l : List α, (∀ x ∈ l, f x = some (g x)) → l.filterMap f = l.map g
  | [], _ => rfl
  | x :: l, h => by
    rw [List.filterMap_cons, h x List.mem_cons_self, List.map_cons, filterMap_all l fun y hy => h y (List.mem_cons_of_mem _ hy)]
theorem rev_adjust (n : Nat) : Builtin.Slice.sliceAdjust none none (-1) (n : Int) = ((n : Int) - 1, -1) := by
  unfold Builtin.Slice.sliceAdjust
  simp
theorem rev_pick (xs : Array Value) : ((List.range xs.size).filterMap fun (k : Nat) => xs[(((xs.size : Int) - 1) + (k : Int) * (-1)).toNat]?).toArray = xs.toList.reverse.toArray := by
  congr 1
  apply List.ext_getElem?
  intro i
  have e : (List.range xs.size).filterMap (fun (k : Nat) => xs[(((xs.size : Int) - 1) + (k : Int) * (-1)).toNat]?) = (List.range xs.size).map fun k => xs.toList.reverse[k]! := by
    refine filterMap_all _ fun k hk => ?_
    have hk' : k < xs.size := List.mem_range.mp hk
    have h1 : (((xs.size : Int) - 1) + (k : Int) * (-1)).toNat = xs.size - 1 - k := by omega
    rw [h1]
    have h2 : k < xs.toList.reverse.length := by rw [List.length_reverse, Array.length_toList]; exact hk'
    show xs[xs.size - 1 - k]? = some xs.toList.reverse[k]!
    rw [getElem!_pos xs.toList.reverse k h2, List.getElem_reverse, Array.getElem?_eq_getElem (by omega)]
    simp
  rw [e, List.getElem?_map]
  by_cases hi : i < xs.size
  · rw [List.getElem?_range hi]
    have h2 : i < xs.toList.reverse.length := by rw [List.length_reverse, Array.length_toList]; exact hi
    show some xs.toList.reverse[i]! = xs.toList.reverse[i]?
    rw [getElem!_pos xs.toList.reverse i h2, List.getElem?_eq_getElem h2]
  · have h2 : ¬ i < xs.toList.reverse.length := by rw [List.length_reverse, Array.length_toList]; exact hi
    rw [List.getElem?_eq_none (by rw [List.length_range]; omega), List.getElem?_eq_none (by omega)]
    rfl
theorem rev_applied {c : Addr} {t : Tok} {n : Nat} {Q : Int × Int × Nat → Shared → Prop} (hc : s.heap.IsSliceOf c .none .none (.int (-1) t)) (h : Q ((n : Int) - 1, -1, n) s) :
    wpAny (model prog w) A (Builtin.Slice.sliceApplied (.ref c) (pure (n : Int))) Q E s := by
  obtain ⟨ob, hob, _, hdd⟩ := id hc
  unfold Builtin.Slice.sliceApplied Builtin.Slice.sliceFields
  refine wpAny_bind (wpAny_bind (wpAny_field hob hdd (x := .none) rfl (wpAny_bind (wpAny_field hob hdd (x := .none) rfl (wpAny_bind (wpAny_field hob hdd (x := .int (-1) t) rfl (wpAny_pure ?_)))))))
  refine wpAny_bind (slicePart_int ?_)
  show wpAny _ _ (if ((-1 : Int) == 0) = true then _ else _) _ _ s
  rw [if_neg (by decide)]
  refine wpAny_bind (slicePart_none (wpAny_bind (slicePart_none (wpAny_bind (wpAny_pure ?_)))))
  show wpAny _ _ (match Builtin.Slice.sliceAdjust none none (-1) (n : Int) with | (lo, hi) => pure (lo, (-1 : Int), Builtin.Slice.slicePlaces lo hi (-1))) _ _ s
  rw [rev_adjust n]
  show wpAny _ _ (pure ((n : Int) - 1, (-1 : Int), Builtin.Slice.slicePlaces ((n : Int) - 1) (-1) (-1))) _ _ s
  rw [rev_places]
  exact wpAny_pure h
theorem tuple_rev {b c : Addr} {xs : Array Value} {t : Tok} {Q : Value → Shared → Prop} (hb : IsTup s.heap b xs) (hc : s.heap.IsSliceOf c .none .none (.int (-1) t)) (hz : xs.size ≤ sizeLine)
    (h : Q (.ref s.heap.objs.size) { s with heap := s.heap.push { cls := .type "tuple", data := .seq xs.toList.reverse.toArray } }) : wpAny (model prog w) A (getItem (.ref b) (.ref c)) Q E s := by
  have hsz : sizeOk (.seq xs.toList.reverse.toArray) := by
    show xs.toList.reverse.toArray.size ≤ sizeLine
    rw [List.size_toArray, List.length_reverse, Array.length_toList]
    exact hz
  obtain ⟨ob, hob, hcs, hdd⟩ := id hc
  have hty : s.TypeIs (.ref c) "slice" := ⟨ob, hob, hcs⟩
  unfold getItem
  try with_reducible refine wpAny_holding ?_
  first | refine wpAny_bind (wpAny_pure ?_) | skip
  refine wpAny_bind (wpAny_sequenceKey hb.typeIs (by decide) (wpAny_bind (wpAny_callSpecial?_slot (name := Str.ofString "__getitem__") hb.typeIs PyProof.Rows.slot_tuple_getitem
    (wpAny_call_entry PyProof.Rows.slot_tuple_getitem hb.typeIs entry_tuple_getitem ?_ (args_tuple_getitem _ _)))))
  show wpAny _ _ (Builtin.Tuple.tupleItemsOf (.ref b) >>= _) _ _ s
  refine wpAny_bind (tupleItemsOf_ hb (wpAny_bind (wpAny_typeOf hty ?_)))
  rw [if_pos (by decide)]
  refine wpAny_bind (rev_applied hc ?_)
  have no : ¬ ((((xs.size : Int) - 1) == 0 && (-1 : Int) == 1 && xs.size == xs.size) = true) := by simp
  show wpAny _ _ (if (((xs.size : Int) - 1) == 0 && (-1 : Int) == 1 && xs.size == xs.size) = true then _ else _) _ _ s
  rw [if_neg no, rev_pick]
  first
    | exact wpAny_bind (m := Builtin.Tuple.tupleExact _) (wpAny_newObj_type (wpAny_pure ⟨_, rfl, wpAny_pure h⟩) hsz)
    | exact wpAny_bind (m := Builtin.Tuple.tupleExact _) (wpAny_newObj_type (wpAny_bind (wpAny_pure (wpAny_pure ⟨_, rfl, wpAny_pure h⟩))) hsz)
    | exact wpAny_bind (wpAny_bind (m := Builtin.Tuple.tupleExact _) (wpAny_newObj_type (wpAny_pure (wpAny_pure ⟨_, rfl, wpAny_pure h⟩)) hsz))
    | exact wpAny_bind (wpAny_bind (m := Builtin.Tuple.tupleExact _) (wpAny_newObj_type (wpAny_pure ⟨_, rfl, wpAny_pure h⟩) hsz))
end
def tRevT (K : PySem.W.Frag) (te : TE) : TE := fun σ H Q => te σ H fun x H1 => ∃ a xs, x = .ref a ∧ SqT K H1 a xs ∧ ∀ p, H1 p = none → Q (.ref p) (upd H1 p (.tup xs.reverse))
theorem pe_revT {X : Cx} {e : Expr} {te : TE} {k : Nat} {p1 p2 p3 pos : Pos} (he : PE X e te) : PE X (.Subscript e (.Slice none none (some (.UnaryOp .USub (.Constant (.int 1) k p1) p2)) p3) pos) (tRevT X.K te) := by
  refine ⟨fun pins s σ H Q J h => ?_⟩
  refine Subscript_ (thn (he.run pins s σ H _ J h) fun v s1 ⟨x, H1, J1, r1, q1⟩ => ?_)
  obtain ⟨a, xs, rfl, hx, q⟩ := q1
  cases r1
  have hm : PO X (some (.UnaryOp .USub (.Constant (.int 1) k p1) p2)) (tPart (tUn (rU fun i => .int (-i)) (tC (.int 1)))) := po_some (pe_un un_neg pe_int)
  refine wpAny_Slice (thn (po_none.run pins s1 σ H1 (fun o G => o = none ∧ G = H1) J1 ⟨rfl, rfl⟩) fun vl s2 ⟨l, H2, J2, pl, el, e2⟩ => ?_)
  subst el e2
  refine thn (po_none.run pins s2 σ H2 (fun o G => o = none ∧ G = H2) J2 ⟨rfl, rfl⟩) fun vu s3 ⟨u, H3, J3, pu, eu, e3⟩ => ?_
  subst eu e3
  refine thn (hm.run pins s3 σ H3 (fun o G => o = some (-1) ∧ G = H3) J3 ⟨1, rfl, -1, rfl, rfl, rfl⟩) fun vs s4 ⟨o, H4, J4, ps, eo, e4⟩ => ?_
  subst eo e4
  have J5 : Inv X pins σ H4 { s4 with heap := s4.heap.push { cls := .type "slice", data := .fields #[vl, vu, vs] } } := J4.kept (t' := s4.toks) fun b ob z => Heap.get?_push_of_some _ z
  obtain ⟨its, r, ht, hz⟩ := J5.tuple hx
  have hlen := r.length
  cases pl
  cases pu
  cases ps
  refine tail_any (ops := [.ref a, .ref s4.heap.objs.size]) ht.typeIs (PyProof.Rows.slot_tuple_getitem.lookup) ?_ (by with_unfolding_all rfl)
  refine tuple_rev ht (Heap.IsSliceOf.new _ _ _ _) (by rw [List.size_toArray, ← hlen]; exact hz) ?_
  refine ⟨.ref _, _, J5.laid (t' := s4.toks) (o := .tup xs.reverse) (fun b ob z => Heap.get?_push_of_some _ z) (Nat.le_refl _) ?_, rfl, q _ (J5.hok.fresh (Nat.le_refl _))⟩
  exact ⟨by rw [List.length_reverse]; exact hz, _, r.reverse, IsTup.new _ _⟩
end DL
set_option Elab.async false
set_option linter.all false
set_option maxRecDepth 100000
/-! The layer over data: operations, tests, calls. -/
namespace DL
open PySem PySem.Spec PyProof.Rows L2 Evl TB
section
variable {N : Addr → Prop} {H : Hp} {K : PySem.W.Frag}
/-! ### operations -/
theorem atI_all {zs : List V} {es : List PyData} {i : Int} {e : PyData} (r : RgAll N H zs es) (h : atI es i = some e) : ∃ z, atI zs i = some z ∧ Rg N H z e := by
  unfold atI at h ⊢
  rw [r.len]
  cases hj : ixN es.length i with
  | none => rw [hj] at h; cases h
  | some j =>
    rw [hj] at h
    exact r.get' h
theorem res_rfl {v : V} {e : PyData} {k : VK → Prop} (h : Rg N H v e) (hk : ∀ Q : VK, Q v H → k Q) : Res N H (· = e) k := fun Q q => hk Q (q v e H ex_refl h rfl)
theorem opd_I0 {g : Int → Int → V} {i j : Int} {e : PyData} (h : ∀ N H, Rg N H (g i j) e) : OpD (rI0 g) (.int i) (.int j) (· = e) := fun N H v1 v2 _ r1 r2 => by
  cases r1; cases r2
  exact res_rfl (h N H) fun Q q => ⟨i, j, rfl, rfl, q⟩
theorem opd_I {C : Int → Int → Prop} {g : Int → Int → V} {i j : Int} {e : PyData} (c : C i j) (h : ∀ N H, Rg N H (g i j) e) : OpD (rI C g) (.int i) (.int j) (· = e) := fun N H v1 v2 _ r1 r2 => by
  cases r1; cases r2
  exact res_rfl (h N H) fun Q q => ⟨i, j, rfl, rfl, c, q⟩
theorem opd_eqI {i j : Int} : OpD rEq (.int i) (.int j) (· = .bool (decide (i = j))) := fun N H v1 v2 _ r1 r2 => by
  cases r1; cases r2
  refine res_rfl (.bl _) fun Q q => ⟨rfl, ?_⟩
  have : decide (V.int i = V.int j) = decide (i = j) := by simp
  rw [this]; exact q
theorem opd_neI {i j : Int} : OpD rNe (.int i) (.int j) (· = .bool (!decide (i = j))) := fun N H v1 v2 _ r1 r2 => by
  cases r1; cases r2
  refine res_rfl (.bl _) fun Q q => ⟨rfl, ?_⟩
  have : decide (V.int i = V.int j) = decide (i = j) := by simp
  rw [this]; exact q
theorem opd_neS {x y : Str} : OpD rNe (.str x) (.str y) (· = .bool (!decide (x = y))) := fun N H v1 v2 _ r1 r2 => by
  cases r1; cases r2
  refine res_rfl (.bl _) fun Q q => ⟨rfl, ?_⟩
  have : decide (V.str x = V.str y) = decide (x = y) := by simp
  rw [this]; exact q
theorem opd_ixT {ds : List PyData} {i : Int} {e : PyData} (h : atI ds i = some e) : OpD (rIxT K) (.tuple ds) (.int i) (· = e) := fun N H v1 v2 _ r1 r2 => by
  cases r1 with
  | tup ha _ hr =>
    cases r2
    obtain ⟨z, h1, h2⟩ := atI_all hr h
    exact res_rfl h2 fun Q q => ⟨_, _, i, z, rfl, rfl, .inl (.inl ha), h1, q⟩
theorem opd_ixL {ds : List PyData} {i : Int} {e : PyData} (h : atI ds i = some e) : OpD (rIxL K) (.list ds) (.int i) (· = e) := fun N H v1 v2 _ r1 r2 => by
  cases r1 with
  | lst ha _ hr =>
    cases r2
    obtain ⟨z, h1, h2⟩ := atI_all hr h
    exact res_rfl h2 fun Q q => ⟨_, _, i, z, rfl, rfl, .inl (.inl ha), h1, q⟩
theorem opd_catT {ds es : List PyData} (hl : ds.length + es.length ≤ 100000) : OpD (rCatA K) (.tuple ds) (.tuple es) (· = .tuple (ds ++ es)) := fun N H v1 v2 ok r1 r2 Q q => by
  cases r1 with
  | tup ha na hr =>
    cases r2 with
    | tup hb nb hs =>
      rename_i a xs b ys
      refine ⟨a, b, xs, ys, rfl, rfl, .inl (.inl ha), .inl (.inl hb), size_small (by rw [hr.len, hs.len]; exact hl), fun h => ?_, fun _ h => ?_, fun _ _ p hp => ?_⟩
      · subst h
        cases hr
        exact q _ _ _ ex_refl (.tup hb nb hs) rfl
      · subst h
        cases hs
        exact q _ _ _ ex_refl (.tup ha na hr) (by rw [List.append_nil])
      · exact q _ _ _ (Ex.new hp) (.tup upd_same (ok.new hp) ((hr.app hs).ex (Ex.new hp))) rfl
theorem opd_catL {ds es : List PyData} (hl : ds.length + es.length ≤ 100000) : OpD rCat (.list ds) (.list es) (· = .list (ds ++ es)) := fun N H v1 v2 ok r1 r2 Q q => by
  cases r1 with
  | lst ha na hr =>
    cases r2 with
    | lst hb nb hs =>
      exact ⟨_, _, _, _, rfl, rfl, ha, hb, size_small (by rw [hr.len, hs.len]; exact hl), fun p hp => q _ _ _ (Ex.new hp) (.lst upd_same (ok.new hp) ((hr.app hs).ex (Ex.new hp))) rfl⟩
/-! data without dicts, for == and != -/
mutual
theorem Rg.dp : ∀ (e : PyData) (v : V), Rg N H v e → e.hasDict = false → Dp K H v e
  | .none, _, q, _ => by cases q; exact .non
  | .bool c, _, q, _ => by cases q; exact .bl c
  | .int j, _, q, _ => by cases q; exact .int j
  | .str y, _, q, _ => by cases q; exact .str y
  | .list es, _, q, h => by
    rw [PyData.hasDict] at h
    cases q with
    | lst ha _ r => exact .lst (.inl (.inl ha)) (RgAll.dp es _ r h)
  | .tuple es, _, q, h => by
    rw [PyData.hasDict] at h
    cases q with
    | tup ha _ r => exact .tup (.inl (.inl ha)) (RgAll.dp es _ r h)
  | .dict es, _, q, h => by rw [PyData.hasDict] at h; cases h
theorem RgAll.dp : ∀ (es : List PyData) (vs : List V), RgAll N H vs es → PyData.hasDictAll es = false → DpAll K H vs es
  | [], _, q, _ => by cases q; exact .nil
  | e :: es, _, q, h => by
    rw [PyData.hasDictAll, Bool.or_eq_false_iff] at h
    cases q with
    | cons q1 q2 => exact .cons (Rg.dp e _ q1 h.1) (RgAll.dp es _ q2 h.2)
end
theorem noDict_of {d : PyData} (h : SeqAt.shaped d = true) : d.hasDict = false := PyData.hasDict_of_canLay d (Bool.and_eq_true_iff.mp h).1
theorem opd_neD {d e : PyData} (h1 : SeqAt.shaped d = true) (h2 : SeqAt.shaped e = true) : OpD (rNeD K) d e (· = .bool (!PyData.eqv d e)) := fun N H v1 v2 _ r1 r2 =>
  res_rfl (.bl _) fun Q q => ⟨d, e, r1.dp _ _ (noDict_of h1), r2.dp _ _ (noDict_of h2), h1, h2, q⟩
theorem opd_eqD {d e : PyData} (h1 : SeqAt.shaped d = true) (h2 : SeqAt.shaped e = true) : OpD (rEqD K) d e (· = .bool (PyData.eqv d e)) := fun N H v1 v2 _ r1 r2 =>
  res_rfl (.bl _) fun Q q => ⟨d, e, r1.dp _ _ (noDict_of h1), r2.dp _ _ (noDict_of h2), h1, h2, q⟩
theorem opd_notB {a b : Bool} : OpD rNotB (.bool a) (.bool b) (· = .bool (!decide (a = b))) := fun N H v1 v2 _ r1 r2 => by
  cases r1; cases r2
  exact res_rfl (.bl _) fun Q q => ⟨a, b, rfl, rfl, q⟩
/-! ### built-in calls -/
theorem cad_len {ds : List PyData} : CaD (fun xs H Q => ∃ p ys, xs = [.ref p] ∧ (SqL K H p ys ∨ SqT K H p ys) ∧ Q (.int ys.length) H) [.tuple ds] (· = .int ds.length) := fun N H vs _ r => by
  cases r with
  | cons r1 r2 =>
    cases r2
    cases r1 with
    | tup ha _ hr =>
      refine res_rfl (.int _) fun Q q => ⟨_, _, rfl, .inr (.inl (.inl ha)), ?_⟩
      rw [hr.len]; exact q
theorem cad_lenL {ds : List PyData} : CaD (fun xs H Q => ∃ p ys, xs = [.ref p] ∧ (SqL K H p ys ∨ SqT K H p ys) ∧ Q (.int ys.length) H) [.list ds] (· = .int ds.length) := fun N H vs _ r => by
  cases r with
  | cons r1 r2 =>
    cases r2
    cases r1 with
    | lst ha _ hr =>
      refine res_rfl (.int _) fun Q q => ⟨_, _, rfl, .inl (.inl (.inl ha)), ?_⟩
      rw [hr.len]; exact q
theorem cad_list {ds : List PyData} : CaD (fun xs H Q => ∃ p ys, xs = [.ref p] ∧ (SqL K H p ys ∨ SqT K H p ys) ∧ ∀ l, H l = none → Q (.ref l) (upd H l (.lst ys))) [.tuple ds] (· = .list ds) := fun N H vs ok r Q q => by
  cases r with
  | cons r1 r2 =>
    cases r2
    cases r1 with
    | tup ha _ hr => exact ⟨_, _, rfl, .inr (.inl (.inl ha)), fun p hp => q _ _ _ (Ex.new hp) (.lst upd_same (ok.new hp) (hr.ex (Ex.new hp))) rfl⟩
theorem cad_listL {ds : List PyData} : CaD (fun xs H Q => ∃ p ys, xs = [.ref p] ∧ (SqL K H p ys ∨ SqT K H p ys) ∧ ∀ l, H l = none → Q (.ref l) (upd H l (.lst ys))) [.list ds] (· = .list ds) := fun N H vs ok r Q q => by
  cases r with
  | cons r1 r2 =>
    cases r2
    cases r1 with
    | lst ha _ hr => exact ⟨_, _, rfl, .inl (.inl (.inl ha)), fun p hp => q _ _ _ (Ex.new hp) (.lst upd_same (ok.new hp) (hr.ex (Ex.new hp))) rfl⟩
theorem cad_tuple {ds : List PyData} : CaD (fun xs H Q => ∃ p ys, xs = [.ref p] ∧ ((SqL K H p ys ∧ ∀ l, H l = none → Q (.ref l) (upd H l (.tup ys))) ∨ (SqT K H p ys ∧ Q (.ref p) H))) [.list ds] (· = .tuple ds) := fun N H vs ok r Q q => by
  cases r with
  | cons r1 r2 =>
    cases r2
    cases r1 with
    | lst ha _ hr => exact ⟨_, _, rfl, .inl ⟨.inl (.inl ha), fun p hp => q _ _ _ (Ex.new hp) (.tup upd_same (ok.new hp) (hr.ex (Ex.new hp))) rfl⟩⟩
theorem cad_strI {i : Int} (h : i.natAbs.log2 < 1920) : CaD (fun xs H Q => ∃ i, xs = [.int i] ∧ i.natAbs.log2 < 1920 ∧ Q (.str (toString i)) H) [.int i] (· = .str (numS i)) := fun N H vs _ r => by
  cases r with
  | cons r1 r2 =>
    cases r2; cases r1
    exact res_rfl (.str _) fun Q q => ⟨i, rfl, h, q⟩
theorem cad_boolI {i : Int} : CaD (fun xs H Q => (∃ i, xs = [.int i] ∧ Q (.bl (i != 0)) H) ∨ ∃ k, xs = [.bl k] ∧ Q (.bl k) H) [.int i] (· = .bool (i != 0)) := fun N H vs _ r => by
  cases r with
  | cons r1 r2 =>
    cases r2; cases r1
    exact res_rfl (.bl _) fun Q q => .inl ⟨i, rfl, q⟩
theorem cad_repr {d : PyData} (h1 : okD d = true) (h2 : d.showable = true) (h3 : d.depth < 60) (h4 : d.shown.length ≤ sizeLine) : CaD rReprD [d] (· = .str d.shown) := fun N H vs _ r => by
  cases r with
  | cons r1 r2 =>
    cases r2
    exact res_rfl (.str _) fun Q q => ⟨N, _, d, rfl, r1, h1, h2, h3, h4, q⟩
/-- the name of a value's class -/
def tyN : PyData → String
  | .none => "NoneType" | .bool _ => "bool" | .int _ => "int" | .str _ => "str" | .list _ => "list" | .tuple _ => "tuple" | .dict _ => "dict"
theorem tyX_of {v : V} {e : PyData} (r : Rg N H v e) : TyX K H v (.type (tyN e)) := by
  cases r with
  | non => exact .base .non
  | bl b => exact .base (.bl b)
  | int i => exact .base (.int i)
  | str x => exact .base (.str x)
  | lst h _ _ => exact .base (.lst h)
  | tup h _ _ => exact .base (.tup h)
  | dic h _ => exact .base (.dK h)
def isB (T n : String) : Bool := n == T || (T == "int" && n == "bool")
def isA (T : String) (e : PyData) : Bool := isB T (tyN e)
def tyNames : List String := ["NoneType", "bool", "int", "str", "list", "tuple", "dict"]
theorem tyN_mem (e : PyData) : tyN e ∈ tyNames := by cases e <;> simp [tyN, tyNames]
theorem kit_of {T : String} (h : ∀ n ∈ tyNames, kitB n T = some (isB T n)) (e : PyData) : PySem.W.kitOne K (.type (tyN e)) (.type T) = some (isA T e) := kit_ty (h _ (tyN_mem e))
theorem kit_tuple (e : PyData) : PySem.W.kitOne K (.type (tyN e)) (.type "tuple") = some (isA "tuple" e) := kit_of (by decide +kernel) e
theorem kit_int (e : PyData) : PySem.W.kitOne K (.type (tyN e)) (.type "int") = some (isA "int" e) := kit_of (by decide +kernel) e
theorem kit_bool (e : PyData) : PySem.W.kitOne K (.type (tyN e)) (.type "bool") = some (isA "bool" e) := kit_of (by decide +kernel) e
theorem kit_str (e : PyData) : PySem.W.kitOne K (.type (tyN e)) (.type "str") = some (isA "str" e) := kit_of (by decide +kernel) e
end
section
variable {W : Wd} {H0 : Hp} {ρ : List (Option Sl)} {te ta tb tc : TE} {tas : TA} {P P1 P2 : PyData → Prop} {K : PySem.W.Frag} {tt tu : TT}
theorem ev_isi {T : String} (ha : EvP W H0 te ρ P) (hk : ∀ e, PySem.W.kitOne K (.type (tyN e)) (.type T) = some (isA T e)) : EvP W H0 (tCB (rIsi K) (tCons te (tCons (tC (.ty T)) tNil))) ρ (fun e => ∃ d, P d ∧ e = .bool (isA T d)) := fun τ l σ H S Q k =>
  ha τ l σ H S _ fun v d H1 S1 p => by
    obtain ⟨N, n3, n5, n4, q⟩ := S1.ext
    refine ⟨v, .ty T, .type (tyN d), .type T, isA T d, rfl, .ty T, tyX_of (n5 _ List.mem_cons_self), hk d, k _ (.bool (isA T d)) H1 (q _ _ ex_refl fun p hp => ?_) ⟨d, p, rfl⟩⟩
    rcases List.mem_cons.mp hp with rfl | hp
    · exact .bl _
    · exact n5 _ (List.mem_cons_of_mem _ hp)
/-! ### one operand known -/
theorem ev_op' {r : R2} {d1 d2 e : PyData} (ha : EvP W H0 ta ρ (· = d1)) (hb : EvP W H0 tb ρ (· = d2)) (hr : OpD r d1 d2 (· = e)) : EvP W H0 (tOp r ta tb) ρ (· = e) :=
  ev_op ha hb fun e1 e2 h1 h2 => by rw [h1, h2]; exact hr
theorem eva_one {d : PyData} (ha : EvP W H0 te ρ (· = d)) : EvA W H0 (tCons te tNil) ρ (· = [d]) := eva_cons ha eva_nil fun e es h1 h2 => by rw [h1, h2]
theorem eva_more {d : PyData} {ds : List PyData} (ha : EvP W H0 te ρ (· = d)) (hb : EvA W H0 tas ρ (· = ds)) : EvA W H0 (tCons te tas) ρ (· = d :: ds) := eva_cons ha hb fun e es h1 h2 => by rw [h1, h2]
theorem ev_cb' {r : List V → Hp → VK → Prop} {ds : List PyData} {e : PyData} (ha : EvA W H0 tas ρ (· = ds)) (hr : CaD r ds (· = e)) : EvP W H0 (tCB r tas) ρ (· = e) := ev_cb ha fun es h => by rw [h]; exact hr
theorem ev_tup' {ds : List PyData} (ha : EvA W H0 tas ρ (· = ds)) (hs : ds.length ≤ 100000) : EvP W H0 (tTup tas) ρ (· = .tuple ds) := (ev_tup ha fun es h => by rw [h]; exact hs).imp fun e ⟨es, h1, h2⟩ => by rw [h1, h2]
theorem ev_lst' {ds : List PyData} (ha : EvA W H0 tas ρ (· = ds)) (hs : ds.length ≤ 100000) : EvP W H0 (tLst tas) ρ (· = .list ds) := (ev_lst ha fun es h => by rw [h]; exact hs).imp fun e ⟨es, h1, h2⟩ => by rw [h1, h2]
theorem ev_isi' {T : String} {d : PyData} (ha : EvP W H0 te ρ (· = d)) (hk : ∀ e, PySem.W.kitOne K (.type (tyN e)) (.type T) = some (isA T e)) : EvP W H0 (tCB (rIsi K) (tCons te (tCons (tC (.ty T)) tNil))) ρ (· = .bool (isA T d)) :=
  (ev_isi ha hk).imp fun e ⟨x, h1, h2⟩ => by rw [h2, h1]
theorem ev_and {a : Bool} (ha : EvP W H0 ta ρ (· = .bool a)) (hb : a = true → EvP W H0 tb ρ P) (h0 : a = false → P (.bool false)) : EvP W H0 (tAndV ta tb) ρ P := fun τ l σ H S Q k =>
  ha τ l σ H S _ fun v e H1 S1 p => by
    subst p
    obtain ⟨N, n3, n5, n4, q⟩ := S1.ext
    have hv : v = .bl a := by
      have := n5 _ List.mem_cons_self
      cases this; rfl
    subst hv
    refine ⟨a, rfl, ?_⟩
    cases a with
    | true => exact (if_pos rfl).mpr (hb rfl τ l σ H1 S1.pop Q k)
    | false => exact (if_neg Bool.false_ne_true).mpr (k _ (.bool false) H1 S1 (h0 rfl))
theorem ev_not {a : Bool} (ha : EvP W H0 ta ρ (· = .bool a)) : EvP W H0 (tNotV ta) ρ (· = .bool (!a)) := fun τ l σ H S Q k =>
  ha τ l σ H S _ fun v e H1 S1 p => by
    subst p
    obtain ⟨N, n3, n5, n4, q⟩ := S1.ext
    have hv : v = .bl a := by
      have := n5 _ List.mem_cons_self
      cases this; rfl
    subst hv
    refine ⟨a, rfl, k _ (.bool !a) H1 (q _ _ ex_refl fun p hp => ?_) rfl⟩
    rcases List.mem_cons.mp hp with rfl | hp
    · exact .bl _
    · exact n5 _ (List.mem_cons_of_mem _ hp)
theorem et_of {a : Bool} (ha : EvP W H0 te ρ (· = .bool a)) : EvT W H0 (tTest te) ρ (· = a) := fun τ l σ H S Q k =>
  ha τ l σ H S _ fun v e H1 S1 p => by
    subst p
    obtain ⟨N, n3, n5, n4, q⟩ := S1.ext
    have hv : v = .bl a := by
      have := n5 _ List.mem_cons_self
      cases this; rfl
    exact ⟨a, hv, k a H1 S1.pop rfl⟩
theorem et_b {a : Bool} (ha : EvP W H0 te ρ (· = .bool a)) : EvT W H0 (tB te) ρ (· = a) := et_of ha
theorem et_not {a : Bool} (h : EvT W H0 tt ρ (· = a)) : EvT W H0 (tNot tt) ρ (· = !a) := fun τ l σ H S Q k => h τ l σ H S _ fun b H1 S1 p => k _ H1 S1 (by rw [p])
theorem et_or {a b : Bool} (h1 : EvT W H0 tt ρ (· = a)) (h2 : a = false → EvT W H0 tu ρ (· = b)) : EvT W H0 (tOr tt tu) ρ (· = (a || b)) := fun τ l σ H S Q k => h1 τ l σ H S _ fun c H1 S1 p => by
  subst p
  cases c with
  | true => exact (if_pos rfl).mpr (k true H1 S1 rfl)
  | false => exact (if_neg Bool.false_ne_true).mpr (h2 rfl τ l σ H1 S1 Q fun c' H2 S2 p => k c' H2 S2 (by rw [p]; rfl))
theorem et_and {a b : Bool} (h1 : EvT W H0 tt ρ (· = a)) (h2 : a = true → EvT W H0 tu ρ (· = b)) : EvT W H0 (tAnd tt tu) ρ (· = (a && b)) := fun τ l σ H S Q k => h1 τ l σ H S _ fun c H1 S1 p => by
  subst p
  cases c with
  | true => exact (if_pos rfl).mpr (h2 rfl τ l σ H1 S1 Q fun c' H2 S2 p => k c' H2 S2 (by rw [p]; rfl))
  | false => exact (if_neg Bool.false_ne_true).mpr (k false H1 S1 rfl)
/-- a < b < c of ints -/
theorem ev_chain {g g' : Int → Int → Bool} {i j m : Int} (ha : EvP W H0 ta ρ (· = .int i)) (hb : EvP W H0 tb ρ (· = .int j)) (hc : EvP W H0 tc ρ (· = .int m)) :
    EvP W H0 (tChain (rI0 fun x y => .bl (g x y)) (rI0 fun x y => .bl (g' x y)) ta tb tc) ρ (· = .bool (g i j && g' j m)) := fun τ l σ H S Q k =>
  ha τ l σ H S _ fun v1 e1 H1 S1 p1 => hb _ l σ H1 S1 _ fun v2 e2 H2 S2 p2 => by
    subst p1 p2
    obtain ⟨N, n3, n5, n4, q⟩ := S2.ext
    have h2 := n5 _ List.mem_cons_self
    have h1 := n5 (v1, .int i) (List.mem_cons_of_mem _ List.mem_cons_self)
    cases h1; cases h2
    refine ⟨i, j, rfl, rfl, g i j, rfl, ?_⟩
    cases hg : g i j with
    | true =>
      refine (if_pos rfl).mpr (hc _ l σ H2 S2 _ fun v3 e3 H3 S3 p3 => ?_)
      subst p3
      obtain ⟨N3, m3, m5, m4, q3⟩ := S3.ext
      have h3 := m5 _ List.mem_cons_self
      cases h3
      refine ⟨j, m, rfl, rfl, k _ (.bool (g' j m)) H3 (q3 _ _ ex_refl fun p hp => ?_) (by simp [hg])⟩
      rcases List.mem_cons.mp hp with rfl | hp
      · exact .bl _
      · exact m5 p (List.mem_cons_of_mem _ (List.mem_cons_of_mem _ (List.mem_cons_of_mem _ hp)))
    | false =>
      refine (if_neg Bool.false_ne_true).mpr (k _ (.bool false) H2 (q _ _ ex_refl fun p hp => ?_) (by simp [hg]))
      rcases List.mem_cons.mp hp with rfl | hp
      · exact .bl _
      · exact n5 p (List.mem_cons_of_mem _ (List.mem_cons_of_mem _ hp))
theorem ev_if {a : Bool} (h : EvT W H0 tt ρ (· = a)) (h1 : a = true → EvP W H0 ta ρ P) (h2 : a = false → EvP W H0 tb ρ P) : EvP W H0 (tIf tt ta tb) ρ P := fun τ l σ H S Q k => h τ l σ H S _ fun c H1 S1 p => by
  subst p
  cases c with
  | true => exact (if_pos rfl).mpr (h1 rfl τ l σ H1 S1 Q k)
  | false => exact (if_neg Bool.false_ne_true).mpr (h2 rfl τ l σ H1 S1 Q k)
/-! ### slices -/
def EvO (W : Wd) (H0 : Hp) (to : TO) (ρ : List (Option Sl)) (o : Option Int) : Prop := ∀ τ l σ H, St W H0 ρ τ l σ H → ∀ Q : Option Int → Hp → Prop, (∀ H', St W H0 ρ τ l σ H' → Q o H') → to σ H Q
theorem eo_none : EvO W H0 tNoPart ρ none := fun τ l σ H S Q k => k H S
theorem eo_some {i : Int} (h : EvP W H0 te ρ (· = .int i)) : EvO W H0 (tPart te) ρ (some i) := fun τ l σ H S Q k => h τ l σ H S _ fun v e H1 S1 p => by
  subst p
  obtain ⟨N, n3, n5, n4, q⟩ := S1.ext
  have := n5 _ List.mem_cons_self
  cases this
  exact ⟨i, rfl, k H1 S1.pop⟩
def cutD {α : Type} (ds : List α) (lo hi : Option Int) : List α := (ds.drop (HT.sIx ds.length 0 lo)).take (HT.sIx ds.length ds.length hi - HT.sIx ds.length 0 lo)
theorem ev_slT {tl th : TO} {lo hi : Option Int} {ds : List PyData} (ha : EvP W H0 te ρ (· = .tuple ds)) (hl : EvO W H0 tl ρ lo) (hh : EvO W H0 th ρ hi) : EvP W H0 (tSl (rSlA K) te tl th) ρ (· = .tuple (cutD ds lo hi)) := fun τ l σ H S Q k =>
  ha τ l σ H S _ fun v e H1 S1 p => hl _ l σ H1 S1 _ fun H2 S2 => hh _ l σ H2 S2 _ fun H3 S3 => by
    subst p
    obtain ⟨N, n3, n5, n4, q⟩ := S3.ext
    have hv := n5 _ List.mem_cons_self
    have rest : ∀ p ∈ τ, Rg N H3 p.1 p.2 := fun p hp => n5 p (List.mem_cons_of_mem _ hp)
    cases hv with
    | tup hA hn hr =>
      rename_i a xs
      have ec : RgAll N H3 (cutV xs lo hi) (cutD ds lo hi) := by
        unfold cutV cutD
        rw [hr.len]
        exact (hr.drop _).take _
      refine ⟨a, xs, rfl, .inl (.inl hA), fun hw => ?_, fun _ p hp => ?_⟩
      · have e : cutD ds lo hi = ds := by
          unfold cutD
          rw [hr.len] at hw
          rw [hw.1, hw.2, List.drop_zero, Nat.sub_zero, List.take_length]
        refine k _ (.tuple ds) H3 (q _ _ ex_refl fun p hp => ?_) (by rw [e])
        rcases List.mem_cons.mp hp with rfl | hp
        · exact .tup hA hn hr
        · exact rest p hp
      · refine k _ (.tuple (cutD ds lo hi)) _ (q _ _ (Ex.new hp) fun p' hp' => ?_) rfl
        rcases List.mem_cons.mp hp' with rfl | hp'
        · exact .tup upd_same (n3.new hp) (ec.ex (Ex.new hp))
        · exact (rest p' hp').ex (Ex.new hp)
theorem ev_revT {ds : List PyData} (ha : EvP W H0 te ρ (· = .tuple ds)) : EvP W H0 (tRevT K te) ρ (· = .tuple ds.reverse) := fun τ l σ H S Q k =>
  ha τ l σ H S _ fun v e H3 S3 p => by
    subst p
    obtain ⟨N, n3, n5, n4, q⟩ := S3.ext
    have hv := n5 _ List.mem_cons_self
    cases hv with
    | tup hA hn hr =>
      refine ⟨_, _, rfl, .inl (.inl hA), fun p hp => k _ (.tuple ds.reverse) _ (q _ _ (Ex.new hp) fun p' hp' => ?_) rfl⟩
      rcases List.mem_cons.mp hp' with rfl | hp'
      · exact .tup upd_same (n3.new hp) (hr.rev.ex (Ex.new hp))
      · exact (n5 p' (List.mem_cons_of_mem _ hp')).ex (Ex.new hp)
/-! ### calls of defs -/
/-- a def upon data that changes nothing: where A holds of its arguments, its value is one of F -/
def SpF (A : List PyData → Prop) (F : List PyData → PyData → Prop) : Sp := fun vs H Q _ => ∃ N es, NOk N H ∧ RgAll N H vs es ∧ A es ∧ ∀ v e H', Ex H H' → Rg N H' v e → F es e → Q v H'
theorem ev_callF {A : List PyData → Prop} {F : List PyData → PyData → Prop} {PA : List PyData → Prop} (ha : EvA W H0 tas ρ PA) (hA : ∀ es, PA es → A es) : EvP W H0 (tCall (SpF A F) [] E0 tas) ρ (fun e => ∃ es, PA es ∧ F es e) := fun τ l σ H S Q k =>
  ha τ l σ H S _ fun vs es H1 S1 le pa => by
    obtain ⟨N, n3, n5, n4, q⟩ := S1.ext
    refine ⟨N, es, n3, ?_, hA es pa, fun v e H' x r f => k v e H' (q H' _ x fun p hp => ?_) ⟨es, pa, f⟩⟩
    · rw [List.append_nil]
      exact zip_all le fun p hp => n5 p (List.mem_append_left _ hp)
    · rcases List.mem_cons.mp hp with rfl | hp
      · exact r
      · exact (n5 p (List.mem_append_right _ hp)).ex x
/-- what stands while such a def runs -/
def WF (N : Addr → Prop) (H0 : Hp) : Wd where
  N := N
  I := fun H => NOk N H0 ∧ ∀ a, N a → H a = H0 a
  ok := fun H h a n => by rw [h.2 a n]; exact h.1 a n
  stab := fun H H' h x => ⟨h.1, fun a n => by rw [x a n]; exact h.2 a n⟩
def slotsOf (es : List PyData) (k : Nat) : List (Option Sl) := es.map (fun e => some (.dat e)) ++ List.replicate k none
theorem slots_start {N M : Addr → Prop} {H : Hp} {k : Nat} : ∀ {vs : List V} {es : List PyData}, RgAll N H vs es → Slots N M H (slotsOf es k) (vs.map some ++ List.replicate k none)
  | _, _, .nil => ⟨by simp [slotsOf], fun i s h => by
      have h' : (List.replicate k (none : Option Sl))[i]? = some (some s) := h
      rw [List.getElem?_replicate] at h'
      split at h' <;> cases h'⟩
  | v :: vs, e :: es, .cons r t => by
    obtain ⟨h1, h2⟩ := slots_start (M := M) (k := k) t
    refine ⟨by simpa [slotsOf] using h1, fun i s h => ?_⟩
    cases i with
    | zero =>
      have h' : some (some (Sl.dat e)) = some (some s) := h
      cases h'
      exact ⟨some v, rfl, v, rfl, r⟩
    | succ i => exact h2 i s h
theorem St.startF {N : Addr → Prop} {H : Hp} {vs : List V} {es : List PyData} {k : Nat} (ok : NOk N H) (r : RgAll N H vs es) : St (WF N H) H (slotsOf es k) [] [] (vs.map some ++ List.replicate k none) H :=
  ⟨⟨ok, fun _ _ => rfl⟩, fun _ _ e _ => e, N, fun _ h => h, fun _ h n => absurd h n, ok, slots_start r, (fun _ h => nomatch h), List.nodup_nil, fun _ h => nomatch h⟩
theorem St.endF {N : Addr → Prop} {H H' : Hp} {σ : L2.St} {τ : List (V × PyData)} {v : V} {e : PyData} {l : List (Addr × List PyData)} (S : St (WF N H) H ρ ((v, e) :: τ) l σ H') : Ex H H' ∧ Rg N H' v e := by
  obtain ⟨M, n1, n2, n3, n4, n5, n6⟩ := S.ex
  refine ⟨fun a o h => ?_, (n5 _ List.mem_cons_self).sub n1⟩
  by_cases hn : N a
  · rw [S.inv.2 a hn]; exact h
  · exact S.off a o h hn
end
end DL
set_option Elab.async false
set_option linter.all false
set_option maxRecDepth 100000
/-! The layer over data: local lists, comprehensions, loops, defs that draw. -/
namespace DL
open PySem PySem.Spec PyProof.Rows L2 Evl TB
section
variable {W : Wd} {H0 H H' : Hp} {ρ : List (Option Sl)} {τ τ' : List (V × PyData)} {l : List (Addr × List PyData)} {σ : L2.St}
theorem Rg.fresh {N : Addr → Prop} {H : Hp} {p : Addr} {v : V} {e : PyData} (hp : H p = none) (r : Rg N H v e) : Rg (fun a => N a ∨ a = p) H v e :=
  Rg.to (fun a o h n => ⟨h, fun q => q.elim n fun z => by rw [z, hp] at h; cases h⟩) e v r
theorem RgAll.fresh {N : Addr → Prop} {H : Hp} {p : Addr} {vs : List V} {es : List PyData} (hp : H p = none) (r : RgAll N H vs es) : RgAll (fun a => N a ∨ a = p) H vs es :=
  RgAll.to (fun a o h n => ⟨h, fun q => q.elim n fun z => by rw [z, hp] at h; cases h⟩) es vs r
/-- a new list of one's own -/
theorem St.newL {p : Addr} (S : St W H0 ρ τ l σ H) (hp : H p = none) : St W H0 ρ τ ((p, []) :: l) σ (upd H p (.lst [])) := by
  obtain ⟨N, n1, n2, n3, n4, n5, n6⟩ := S.ex
  have x : Ex H (upd H p (.lst [])) := Ex.new hp
  have hNp : ¬ N p := n3.new hp
  refine ⟨W.stab H _ S.inv fun a na => ?_, fun a o e n => x _ _ (S.off a o e n), fun a => N a ∨ a = p, fun a h => .inl (n1 a h), fun a h n => ?_, fun a h => ?_, ⟨n4.1, fun i s h => ?_⟩, fun q hq => ((n5 q hq).fresh hp).ex x, ?_, fun q hq => ?_⟩
  · rw [upd_ne (fun z => by rw [z] at na; exact hNp (n1 p na))]
  · rcases h with h | h
    · exact n2 a h n
    · subst h
      cases e : H0 a with
      | none => rfl
      | some o => rw [S.off a o e n] at hp; cases hp
  · rcases h with h | h
    · exact n3.ex x a h
    · rw [h, upd_same]; simp
  · obtain ⟨o, h1, h2⟩ := n4.2 i s h
    refine ⟨o, h1, ?_⟩
    cases s with
    | dat e => obtain ⟨v, q1, q2⟩ := h2; exact ⟨v, q1, (q2.fresh hp).ex x⟩
    | raw v => exact h2
  · rw [List.map_cons, List.nodup_cons]
    refine ⟨fun hm => ?_, n6.1⟩
    obtain ⟨q, hq, e⟩ := List.mem_map.mp hm
    have := (n6.2 q hq).1
    rw [e] at this
    exact hNp this
  · rcases List.mem_cons.mp hq with rfl | hq
    · exact ⟨.inr rfl, fun q => hNp (n1 p q), [], upd_same, .nil⟩
    · obtain ⟨a1, a2, xs, a3, a4⟩ := n6.2 q hq
      exact ⟨.inl a1, a2, xs, x _ _ a3, (a4.fresh hp).ex x⟩
theorem Rg.upd {N : Addr → Prop} {H : Hp} {p : Addr} {o : HO} (hp : N p) {v : V} {e : PyData} (r : Rg N H v e) : Rg N (upd H p o) v e :=
  Rg.to (fun a o' h n => ⟨by rw [upd_ne (fun z => by rw [z] at n; exact n hp)]; exact h, n⟩) e v r
theorem RgAll.upd {N : Addr → Prop} {H : Hp} {p : Addr} {o : HO} (hp : N p) {vs : List V} {es : List PyData} (r : RgAll N H vs es) : RgAll N (L2.upd H p o) vs es :=
  RgAll.to (fun a o' h n => ⟨by rw [upd_ne (fun z => by rw [z] at n; exact n hp)]; exact h, n⟩) es vs r
/-- the last value is put behind a list of one's own -/
theorem St.app {p : Addr} {ds : List PyData} {v : V} {e : PyData} (S : St W H0 ρ ((v, e) :: τ) ((p, ds) :: l) σ H) : ∃ xs, H p = some (.lst xs) ∧ xs.length = ds.length ∧ St W H0 ρ τ ((p, ds ++ [e]) :: l) σ (L2.upd H p (.lst (xs ++ [v]))) := by
  obtain ⟨N, n1, n2, n3, n4, n5, n6⟩ := S.ex
  obtain ⟨b1, b2, xs, b3, b4⟩ := n6.2 _ List.mem_cons_self
  refine ⟨xs, b3, b4.len, W.stab H _ S.inv fun a na => ?_, fun a o e n => ?_, N, n1, n2, fun a h => ?_, ⟨n4.1, fun i s h => ?_⟩, fun q hq => (n5 q (List.mem_cons_of_mem _ hq)).upd b1, n6.1, fun q hq => ?_⟩
  · rw [upd_ne (fun z => by rw [z] at na; exact b2 na)]
  · rw [upd_ne (fun z => ?_)]
    · exact S.off a o e n
    · have := n2 p b1 b2
      rw [z, this] at e; cases e
  · by_cases z : a = p
    · rw [z, upd_same]; simp
    · rw [upd_ne z]; exact n3 a h
  · obtain ⟨o, h1, h2⟩ := n4.2 i s h
    refine ⟨o, h1, ?_⟩
    cases s with
    | dat e => obtain ⟨v, q1, q2⟩ := h2; exact ⟨v, q1, q2.upd b1⟩
    | raw v => exact h2
  · rcases List.mem_cons.mp hq with rfl | hq
    · exact ⟨b1, b2, _, upd_same, (b4.app (.cons (n5 _ List.mem_cons_self) .nil)).upd b1⟩
    · obtain ⟨a1, a2, ys, a3, a4⟩ := n6.2 q (List.mem_cons_of_mem _ hq)
      have nd := n6.1
      rw [List.map_cons, List.nodup_cons] at nd
      have hne : q.1 ≠ p := fun z => nd.1 (List.mem_map.mpr ⟨q, hq, z⟩)
      exact ⟨a1, a2, ys, by rw [upd_ne hne]; exact a3, a4.upd b1⟩
/-- a list of one's own is data from now on -/
theorem St.frz {p : Addr} {ds : List PyData} (S : St W H0 ρ τ ((p, ds) :: l) σ H) : St W H0 ρ ((.ref p, .list ds) :: τ) l σ H := by
  obtain ⟨N, n1, n2, n3, n4, n5, n6⟩ := S.ex
  obtain ⟨b1, b2, xs, b3, b4⟩ := n6.2 _ List.mem_cons_self
  have sub : ∀ a, (N a ∧ a ≠ p) → N a := fun a h => h.1
  have nd := n6.1
  rw [List.map_cons, List.nodup_cons] at nd
  refine ⟨S.inv, S.off, fun a => N a ∧ a ≠ p, fun a h => ⟨n1 a h, fun z => b2 (z ▸ h)⟩, fun a h n => n2 a h.1 n, fun a h => n3 a h.1, ⟨n4.1, fun i s h => ?_⟩, fun q hq => ?_, nd.2, fun q hq => ?_⟩
  · obtain ⟨o, h1, h2⟩ := n4.2 i s h
    refine ⟨o, h1, ?_⟩
    cases s with
    | dat e => obtain ⟨v, q1, q2⟩ := h2; exact ⟨v, q1, q2.sub sub⟩
    | raw v => exact h2
  · rcases List.mem_cons.mp hq with rfl | hq
    · exact .lst b3 (fun z => z.2 rfl) (RgAll.to (fun a o h n => ⟨h, fun z => n z.1⟩) _ _ b4)
    · exact (n5 q hq).sub sub
  · obtain ⟨a1, a2, ys, a3, a4⟩ := n6.2 q (List.mem_cons_of_mem _ hq)
    exact ⟨⟨a1, fun z => nd.1 (List.mem_map.mpr ⟨q, hq, z⟩)⟩, a2, ys, a3, RgAll.to (fun a o h n => ⟨h, fun z => n z.1⟩) _ _ a4⟩
theorem St.raws {i : Nat} {v : V} (S : St W H0 ρ τ l σ H) (hσ : σ[i]? = some (some v)) (hi : i < ρ.length) : St W H0 (ρ.set i (some (.raw v))) τ l σ H := by
  obtain ⟨N, n1, n2, n3, n4, n5, n6⟩ := S.ex
  refine ⟨S.inv, S.off, N, n1, n2, n3, ⟨by rw [List.length_set]; exact n4.1, fun j s h => ?_⟩, n5, n6⟩
  by_cases hj : i = j
  · subst hj
    rw [List.getElem?_set_self hi] at h
    cases h
    exact ⟨_, hσ, rfl⟩
  · rw [List.getElem?_set_ne hj] at h
    exact n4.2 j s h
/-- fewer slots known -/
theorem St.less {ρ' : List (Option Sl)} (S : St W H0 ρ τ l σ H) (hl : ρ'.length = ρ.length) (h : ∀ (i : Nat) (s : Sl), ρ'[i]? = some (some s) → ρ[i]? = some (some s)) : St W H0 ρ' τ l σ H := by
  obtain ⟨N, n1, n2, n3, n4, n5, n6⟩ := S.ex
  exact ⟨S.inv, S.off, N, n1, n2, n3, ⟨by rw [hl]; exact n4.1, fun i s e => n4.2 i s (h i s e)⟩, n5, n6⟩
def wipeR (ρ : List (Option Sl)) : List Nat → List (Option Sl)
  | [] => ρ
  | v :: vs => (wipeR ρ vs).set v none
theorem St.wipe (S : St W H0 ρ τ l σ H) : ∀ vs, St W H0 (wipeR ρ vs) τ l (L2.wipe σ vs) H
  | [] => S
  | v :: vs => (S.wipe vs).clr
theorem wipe_id {i : Nat} {o : Option V} : (L2.wipe ((L2.wipe σ [i]).set i o) [i]) = L2.wipe σ [i] := by
  show ((σ.set i none).set i o).set i none = σ.set i none
  rw [List.set_set, List.set_set]
end
section
variable {W : Wd} {H0 : Hp} {ρ : List (Option Sl)} {te ta tb tn : TE} {tas : TA} {P P1 P2 : PyData → Prop} {K : PySem.W.Frag} {tt : TT}
/-- behind a block: the outer slots again -/
theorem St.re {τ : List (V × PyData)} {l : List (Addr × List PyData)} {σ σ' : L2.St} {H : Hp} {i : Nat} {x : Option Sl} (S : St W H0 (ρ.set i x) τ l σ' H) (hi : ρ[i]? = some none) (hσ : ∀ j, j ≠ i → σ'[j]? = σ[j]?) (hl : ρ.length = σ.length) : St W H0 ρ τ l σ H := by
  obtain ⟨N, n1, n2, n3, n4, n5, n6⟩ := S.ex
  refine ⟨S.inv, S.off, N, n1, n2, n3, ⟨hl, fun j s h => ?_⟩, n5, n6⟩
  have hj : j ≠ i := fun z => by rw [z, hi] at h; cases h
  obtain ⟨o, h1, h2⟩ := n4.2 j s (by rw [List.getElem?_set_ne hj.symm]; exact h)
  exact ⟨o, by rw [← hσ j hj]; exact h1, h2⟩
theorem wipe_set_ne {σ : L2.St} {i j : Nat} {o : Option V} (h : j ≠ i) : ((L2.wipe σ [i]).set i o)[j]? = σ[j]? := by
  show ((σ.set i none).set i o)[j]? = σ[j]?
  rw [List.set_set, List.getElem?_set_ne h.symm]
/-- [e for x in range(n)] -/
theorem ev_lcR {n : Int} {i : Nat} (hn0 : 0 ≤ n) (hn : n ≤ 1000) (hi : ρ[i]? = some none) (ha : EvP W H0 tn ρ (· = .int n))
    (he : ∀ j : Nat, (j : Int) < n → EvP W H0 te (ρ.set i (some (.dat (.int j)))) P) :
    EvP W H0 (tLc (iRng1 (tCons tn tNil)) (gName i) tYes te [i]) ρ (fun e => ∃ ds : List PyData, e = .list ds ∧ (ds.length : Int) = n ∧ ∀ d ∈ ds, P d) := fun τ l σ H S Q k =>
  ha τ l σ H S _ fun v e H1 S1 p => by
    subst p
    obtain ⟨N, n3, n5, n4, q⟩ := S1.ext
    have hv := n5 _ List.mem_cons_self
    cases hv
    refine ⟨n, rfl, by omega, by omega, fun D hD => ?_⟩
    -- the outer slots stand beside the block's
    refine lc_range (lo := 0) (n := n.toNat) (fun j H' => ∃ ds : List PyData, ds.length = j ∧ (∀ d ∈ ds, P d) ∧ St W H0 ρ τ ((D, ds) :: l) σ H') ?_ (fun j H' hj h => ?_) (fun H' h => ?_)
    · exact ⟨[], rfl, (fun d h => nomatch h), (S1.pop).newL hD⟩
    · obtain ⟨ds, hl, hd, S2⟩ := h
      have S3 : St W H0 (ρ.set i (some (.dat (.int j)))) τ ((D, ds) :: l) ((L2.wipe σ [i]).set i (some (.int (0 + (j : Int))))) H' := by
        have a := (S2.wipe [i])
        obtain ⟨N', m3, m5, m4, q'⟩ := a.ext
        have b := q' H' (((.int (0 + (j : Int)), .int (0 + (j : Int))) : V × PyData) :: τ) ex_refl fun p hp => by
          rcases List.mem_cons.mp hp with rfl | hp
          · exact .int _
          · exact m5 p hp
        have c := b.set (i := i)
        have e1 : (wipeR ρ [i]).set i (some (Sl.dat (.int (0 + (j : Int))))) = ρ.set i (some (.dat (.int j))) := by
          show (ρ.set i none).set i _ = _
          rw [List.set_set, Int.zero_add]
        rw [e1] at c
        exact c
      refine ⟨wipe_id, he j (by omega) τ _ _ H' S3 _ fun y e H4 S4 pe => ?_⟩
      have S5 := S4.re hi (fun j hj => wipe_set_ne hj) S.len
      obtain ⟨xs, x1, x2, S6⟩ := S5.app
      exact ⟨xs, x1, size_small' (by rw [x2]; omega), ds ++ [e], by rw [List.length_append, hl]; rfl, fun d h => by
        rcases List.mem_append.mp h with h | h
        · exact hd d h
        · rw [List.mem_singleton.mp h]; exact pe, S6⟩
    · obtain ⟨ds, hl, hd, S2⟩ := h
      exact k _ _ H' S2.frz ⟨ds, rfl, by omega, hd⟩
/-- a value's list, held fast: it is the same in every state over the new base -/
theorem St.baseL {τ : List (V × PyData)} {l : List (Addr × List PyData)} {σ : L2.St} {H : Hp} {v : V} {ds : List PyData} (S : St W H0 ρ ((v, .list ds) :: τ) l σ H) :
    ∃ a xs, v = .ref a ∧ H a = some (.lst xs) ∧ xs.length = ds.length ∧ ¬ W.N a ∧ (∀ b o, H0 b = some o → ¬ W.N b → upd H0 a (.lst xs) b = some o) ∧ (∀ b, upd H0 a (.lst xs) b = none → H0 b = none) ∧ St W (upd H0 a (.lst xs)) ρ ((v, .list ds) :: τ) l σ H := by
  obtain ⟨N, n1, n2, n3, n4, n5, n6⟩ := S.ex
  have hv := n5 _ List.mem_cons_self
  cases hv with
  | lst hA hn hr =>
    rename_i a xs
    refine ⟨a, xs, rfl, hA, hr.len, fun h => hn (n1 a h), fun b o e nb => ?_, fun b e => ?_, S.inv, fun b o e nb => ?_, N, n1, fun b h nb => ?_, n3, n4, n5, n6⟩
    · by_cases z : b = a
      · subst z
        have := S.off b o e nb
        rw [this] at hA
        cases hA
        exact upd_same
      · rw [upd_ne z]; exact e
    · by_cases z : b = a
      · rw [z, upd_same] at e; cases e
      · rw [upd_ne z] at e; exact e
    · by_cases z : b = a
      · rw [z, upd_same] at e; cases e; rw [z]; exact hA
      · rw [upd_ne z] at e; exact S.off b o e nb
    · rw [upd_ne (fun z => by rw [z] at h; exact hn h)]
      exact n2 b h nb
theorem St.baseT {τ : List (V × PyData)} {l : List (Addr × List PyData)} {σ : L2.St} {H : Hp} {v : V} {ds : List PyData} (S : St W H0 ρ ((v, .tuple ds) :: τ) l σ H) :
    ∃ a xs, v = .ref a ∧ H a = some (.tup xs) ∧ xs.length = ds.length ∧ ¬ W.N a ∧ (∀ b o, H0 b = some o → ¬ W.N b → upd H0 a (.tup xs) b = some o) ∧ (∀ b, upd H0 a (.tup xs) b = none → H0 b = none) ∧ St W (upd H0 a (.tup xs)) ρ ((v, .tuple ds) :: τ) l σ H := by
  obtain ⟨N, n1, n2, n3, n4, n5, n6⟩ := S.ex
  have hv := n5 _ List.mem_cons_self
  cases hv with
  | tup hA hn hr =>
    rename_i a xs
    refine ⟨a, xs, rfl, hA, hr.len, fun h => hn (n1 a h), fun b o e nb => ?_, fun b e => ?_, S.inv, fun b o e nb => ?_, N, n1, fun b h nb => ?_, n3, n4, n5, n6⟩
    · by_cases z : b = a
      · subst z
        have := S.off b o e nb
        rw [this] at hA
        cases hA
        exact upd_same
      · rw [upd_ne z]; exact e
    · by_cases z : b = a
      · rw [z, upd_same] at e; cases e
      · rw [upd_ne z] at e; exact e
    · by_cases z : b = a
      · rw [z, upd_same] at e; cases e; rw [z]; exact hA
      · rw [upd_ne z] at e; exact S.off b o e nb
    · rw [upd_ne (fun z => by rw [z] at h; exact hn h)]
      exact n2 b h nb
/-- back to the base ahead -/
theorem St.unbase {G : Hp} {τ : List (V × PyData)} {l : List (Addr × List PyData)} {σ : L2.St} {H : Hp} (h1 : ∀ b o, H0 b = some o → ¬ W.N b → G b = some o) (h2 : ∀ b, G b = none → H0 b = none) (S : St W G ρ τ l σ H) : St W H0 ρ τ l σ H := by
  obtain ⟨N, n1, n2, n3, n4, n5, n6⟩ := S.ex
  exact ⟨S.inv, fun b o e n => S.off b o (h1 b o e n) n, N, n1, fun b h n => h2 b (n2 b h n), n3, n4, n5, n6⟩
/-- an item of a list held fast, as the block's own name -/
theorem St.item {τ : List (V × PyData)} {l : List (Addr × List PyData)} {σ : L2.St} {H : Hp} {a : Addr} {xs : List V} {ds : List PyData} {c : PyData} {j : Nat} {x : V} (S : St W H0 ρ ((.ref a, c) :: τ) l σ H)
    (hc : ∀ N, Rg N H (.ref a) c → RgAll N H xs ds) (hx : xs[j]? = some x) : ∃ d, ds[j]? = some d ∧ St W H0 ρ ((x, d) :: (.ref a, c) :: τ) l σ H := by
  obtain ⟨N, n1, n2, n3, n4, n5, n6⟩ := S.ex
  obtain ⟨d, h1, h2⟩ := (hc N (n5 _ List.mem_cons_self)).get hx
  exact ⟨d, h1, S.inv, S.off, N, n1, n2, n3, n4, fun p hp => by
    rcases List.mem_cons.mp hp with rfl | hp
    · exact h2
    · exact n5 p hp, n6⟩
def Rel2 (R : PyData → PyData → Prop) (ds es : List PyData) : Prop := es.length = ds.length ∧ ∀ (i : Nat) (d e : PyData), ds[i]? = some d → es[i]? = some e → R d e
theorem Rel2.snoc {R : PyData → PyData → Prop} {ds es : List PyData} {j : Nat} {d e : PyData} (h : Rel2 R (ds.take j) es) (hd : ds[j]? = some d) (r : R d e) : Rel2 R (ds.take (j + 1)) (es ++ [e]) := by
  have jl : j < ds.length := (List.getElem?_eq_some_iff.mp hd).1
  have tl : (ds.take j).length = j := by rw [List.length_take]; omega
  have el : es.length = j := by rw [h.1, tl]
  refine ⟨by rw [List.length_append, List.length_take, el]; simp; omega, fun i x y hx hy => ?_⟩
  have il : i < j + 1 := by
    have := (List.getElem?_eq_some_iff.mp hy).1
    rw [List.length_append, el] at this
    exact this
  by_cases z : i < j
  · rw [List.getElem?_append_left (by omega)] at hy
    refine h.2 i x y ?_ hy
    rw [List.getElem?_take_of_lt z]
    rw [List.getElem?_take_of_lt il] at hx
    exact hx
  · have : i = j := by omega
    subst this
    rw [List.getElem?_append_right (by omega), el, Nat.sub_self] at hy
    rw [List.getElem?_take_of_lt il, hd] at hx
    cases hx
    have hy' : some e = some y := hy
    cases hy'
    exact r
/-- [e for x in t], t a tuple -/
theorem ev_lcT {i : Nat} {ds : List PyData} {R : PyData → PyData → Prop} (hl : ds.length ≤ 1000) (hi : ρ[i]? = some none) (ha : EvP W H0 ta ρ (· = .tuple ds))
    (he : ∀ G d, d ∈ ds → EvP W G te (ρ.set i (some (.dat d))) (R d)) :
    EvP W H0 (tLc (iTup K ta) (gName i) tYes te [i]) ρ (fun e => ∃ es : List PyData, e = .list es ∧ Rel2 R ds es) := fun τ l σ H S Q k =>
  ha τ l σ H S _ fun v e H1 S1 p => by
    subst p
    obtain ⟨a, xs, rfl, hA, hlen, hna, u1, u2, B⟩ := S1.baseT
    refine ⟨a, rfl, ⟨xs, .inl (.inl hA)⟩, fun D hD => ?_⟩
    have keep : ∀ {τ' l' σ' H'}, St W (upd H0 a (.tup xs)) ρ τ' l' σ' H' → H' a = some (.tup xs) := fun S => S.off a _ upd_same hna
    refine lc_tup (K := K) (a := a) (xs := xs) (fun j H' => ∃ es : List PyData, Rel2 R (ds.take j) es ∧ St W (upd H0 a (.tup xs)) ρ ((.ref a, .tuple ds) :: τ) ((D, es) :: l) σ H') ?_ (fun j H' _ h => ?_) (fun j x H' hx h => ?_) (fun H' h => ?_)
    · exact ⟨[], ⟨by simp, fun _ _ _ _ h => by simp at h⟩, B.newL hD⟩
    · obtain ⟨es, _, S2⟩ := h
      exact .inl (.inl (keep S2))
    · obtain ⟨es, hr, S2⟩ := h
      have hAk := keep S2
      obtain ⟨d, hd, S3⟩ := S2.item (xs := xs) (ds := ds) (fun N r => by
        cases r with
        | tup q1 q2 q3 => rw [hAk] at q1; cases q1; exact q3) hx
      have S4 := (S3.wipe [i]).set (i := i)
      have e1 : (wipeR ρ [i]).set i (some (Sl.dat d)) = ρ.set i (some (.dat d)) := by
        show (ρ.set i none).set i _ = _
        rw [List.set_set]
      rw [e1] at S4
      refine ⟨wipe_id, he _ d (List.mem_of_getElem? hd) _ _ _ H' S4 _ fun y e H4 S5 pe => ?_⟩
      have S6 := S5.re hi (fun j hj => wipe_set_ne hj) S.len
      obtain ⟨ys, x1, x2, S7⟩ := S6.app
      have el : es.length ≤ 1000 := by rw [hr.1, List.length_take]; omega
      exact ⟨ys, x1, size_small' (by rw [x2]; omega), es ++ [e], hr.snoc hd pe, S7⟩
    · obtain ⟨es, hr, S2⟩ := h
      rw [hlen, List.take_length] at hr
      exact k _ _ H' (((S2.unbase u1 u2).frz).mono fun p hp => by
        rcases List.mem_cons.mp hp with rfl | hp
        · exact List.mem_cons_self
        · exact List.mem_cons_of_mem _ (List.mem_cons_of_mem _ hp)) ⟨es, rfl, hr⟩
/-- [e for x in range(n) if t], known -/
theorem ev_lcRf {n : Int} {i : Nat} {b : Nat → Bool} {f : Nat → PyData} (hn0 : 0 ≤ n) (hn : n ≤ 1000) (hi : ρ[i]? = some none) (ha : EvP W H0 tn ρ (· = .int n))
    (ht : ∀ j : Nat, (j : Int) < n → EvT W H0 tt (ρ.set i (some (.dat (.int j)))) (· = b j)) (he : ∀ j : Nat, (j : Int) < n → b j = true → EvP W H0 te (ρ.set i (some (.dat (.int j)))) (· = f j)) :
    EvP W H0 (tLc (iRng1 (tCons tn tNil)) (gName i) tt te [i]) ρ (· = .list (((List.range n.toNat).filter b).map f)) := fun τ l σ H S Q k =>
  ha τ l σ H S _ fun v e H1 S1 p => by
    subst p
    obtain ⟨N, n3, n5, n4, q⟩ := S1.ext
    have hv := n5 _ List.mem_cons_self
    cases hv
    refine ⟨n, rfl, by omega, by omega, fun D hD => ?_⟩
    refine lc_range (lo := 0) (n := n.toNat) (fun j H' => St W H0 ρ τ ((D, ((List.range j).filter b).map f) :: l) σ H') ((S1.pop).newL hD) (fun j H' hj S2 => ?_) (fun H' S2 => k _ _ H' S2.frz rfl)
    have S3 : St W H0 (ρ.set i (some (.dat (.int j)))) τ ((D, ((List.range j).filter b).map f) :: l) ((L2.wipe σ [i]).set i (some (.int (0 + (j : Int))))) H' := by
      have a := (S2.wipe [i])
      obtain ⟨N', m3, m5, m4, q'⟩ := a.ext
      have c := (q' H' (((.int (0 + (j : Int)), .int (0 + (j : Int))) : V × PyData) :: τ) ex_refl fun p hp => by
        rcases List.mem_cons.mp hp with rfl | hp
        · exact .int _
        · exact m5 p hp).set (i := i)
      have e1 : (wipeR ρ [i]).set i (some (Sl.dat (.int (0 + (j : Int))))) = ρ.set i (some (.dat (.int j))) := by
        show (ρ.set i none).set i _ = _
        rw [List.set_set, Int.zero_add]
      rw [e1] at c
      exact c
    refine ⟨wipe_id, ht j (by omega) τ _ _ H' S3 _ fun c H3 S4 pc => ?_⟩
    subst pc
    have el : (((List.range j).filter b).map f).length ≤ 1000 := by
      rw [List.length_map]
      have := List.length_filter_le b (List.range j)
      rw [List.length_range] at this
      omega
    have er : (((List.range (j + 1)).filter b).map f) = (((List.range j).filter b).map f) ++ (if b j = true then [f j] else []) := by
      rw [List.range_succ, List.filter_append, List.map_append]
      cases hb : b j <;> simp [hb]
    cases hb : b j with
    | true =>
      refine (if_pos rfl).mpr (he j (by omega) hb τ _ _ H3 S4 _ fun y e H4 S5 pe => ?_)
      subst pe
      have S6 := S5.re hi (fun j hj => wipe_set_ne hj) S.len
      obtain ⟨ys, x1, x2, S7⟩ := S6.app
      rw [er, hb, if_pos rfl]
      exact ⟨ys, x1, size_small' (by rw [x2]; omega), S7⟩
    | false =>
      refine (if_neg Bool.false_ne_true).mpr ?_
      rw [er, hb, if_neg Bool.false_ne_true, List.append_nil]
      exact S4.re hi (fun j hj => wipe_set_ne hj) S.len
end
end DL
set_option Elab.async false
set_option linter.all false
set_option maxRecDepth 100000
/-! The layer over data: defs that draw numbers from the deck. -/
namespace DL
open PySem PySem.Spec PyProof.Rows L2 Evl TB
/-- what stands while a def that draws runs -/
def WD (d g l : Addr) (N : Addr → Prop) (B : Hp) : Wd where
  N := N
  I := fun H => NOk N H ∧ N d ∧ N g ∧ N l ∧ Deck H d g l ∧ ∀ a, N a → a ≠ d → a ≠ g → a ≠ l → H a = B a
  ok := fun H h => h.1
  stab := fun H H' h x => by
    obtain ⟨h1, h2, h3, h4, ⟨gs, ls, c, q1, q2, q3, q4⟩, h6⟩ := h
    exact ⟨fun a n => by rw [x a n]; exact h1 a n, h2, h3, h4, ⟨gs, ls, c, by rw [x d h2]; exact q1, by rw [x g h3]; exact q2, by rw [x l h4]; exact q3, q4⟩, fun a n n1 n2 n3 => by rw [x a n]; exact h6 a n n1 n2 n3⟩
def Oth (d g l : Addr) (H H' : Hp) : Prop := ∀ a o, H a = some o → a ≠ d → a ≠ g → a ≠ l → H' a = some o
def SpW (A : List PyData → Prop) (F : List PyData → PyData → Prop) : Sp := fun vs H Q _ => ∃ (d g l : Addr) (N : Addr → Prop) (es : List PyData) (vs' : List V), vs = .ref d :: vs' ∧ NOk N H ∧ N d ∧ N g ∧ N l ∧ Deck H d g l ∧ RgAll N H vs' es ∧ A es ∧
  ∀ v e H', Deck H' d g l → Oth d g l H H' → Rg N H' v e → F es e → Q v H'
section
variable {d g l : Addr} {N : Addr → Prop} {B H0 H H' : Hp} {ρ : List (Option Sl)} {te : TE} {tas : TA} {τ : List (V × PyData)} {loc : List (Addr × List PyData)} {σ : L2.St}
theorem Deck.tr {H : Hp} (D : Deck H d g l) : ∀ a, a = d ∨ a = g ∨ a = l → H a ≠ none := by
  obtain ⟨gs, ls, c, q1, q2, q3, _⟩ := D
  rintro a (rfl | rfl | rfl)
  · rw [q1]; simp
  · rw [q2]; simp
  · rw [q3]; simp
theorem nok_oth {M : Addr → Prop} (h : NOk M H) (D : Deck H' d g l) (x : Oth d g l H H') : NOk M H' := fun a n => by
  by_cases z : a = d ∨ a = g ∨ a = l
  · exact Deck.tr D a z
  · cases e : H a with
    | none => exact absurd e (h a n)
    | some o => rw [x a o e (fun q => z (.inl q)) (fun q => z (.inr (.inl q))) fun q => z (.inr (.inr q))]; simp
/-- the state behind a draw -/
theorem St.oth (S : St (WD d g l N B) H0 ρ τ loc σ H) :
    ∃ M : Addr → Prop, NOk M H ∧ M d ∧ M g ∧ M l ∧ Deck H d g l ∧ (∀ p ∈ τ, Rg M H p.1 p.2) ∧ ∀ (H' : Hp) (τ' : List (V × PyData)), Deck H' d g l → Oth d g l H H' → (∀ p ∈ τ', Rg M H' p.1 p.2) → St (WD d g l N B) H0 ρ τ' loc σ H' := by
  obtain ⟨M, n1, n2, n3, n4, n5, n6⟩ := S.ex
  obtain ⟨i1, i2, i3, i4, i5, i6⟩ := S.inv
  refine ⟨M, n3, n1 d i2, n1 g i3, n1 l i4, i5, n5, fun H' τ' D x h => ?_⟩
  have keep : ∀ {P : Addr → Prop}, P d → P g → P l → ∀ a o, H a = some o → ¬ P a → H' a = some o := fun {P} pd pg pl a o e n => x a o e (fun z => n (z ▸ pd)) (fun z => n (z ▸ pg)) fun z => n (z ▸ pl)
  have kM := keep (P := M) (n1 d i2) (n1 g i3) (n1 l i4)
  refine ⟨⟨nok_oth i1 D x, i2, i3, i4, D, fun a n q1 q2 q3 => ?_⟩, fun a o e n => keep (P := N) i2 i3 i4 a o (S.off a o e n) n, M, n1, n2, nok_oth n3 D x, ⟨n4.1, fun i s e => ?_⟩, h, n6.1, fun p hp => ?_⟩
  · rw [← i6 a n q1 q2 q3]
    cases e : H a with
    | none => exact absurd e (i1 a n)
    | some o => exact x a o e q1 q2 q3
  · obtain ⟨o, a1, a2⟩ := n4.2 i s e
    refine ⟨o, a1, ?_⟩
    cases s with
    | dat e => obtain ⟨v, b1, b2⟩ := a2; exact ⟨v, b1, Rg.to (fun a o h n => ⟨kM a o h n, n⟩) _ _ b2⟩
    | raw v => exact a2
  · obtain ⟨a1, a2, xs, a3, a4⟩ := n6.2 p hp
    have a2' : ¬ N p.1 := a2
    exact ⟨a1, a2, xs, keep (P := N) i2 i3 i4 _ _ a3 a2', RgAll.to (fun a o h n => ⟨kM a o h n, n⟩) _ _ a4⟩
theorem ev_callW {A : List PyData → Prop} {F : List PyData → PyData → Prop} {PA : List PyData → Prop} {i : Nat} (hr : ρ[i]? = some (some (.raw (.ref d)))) (ha : EvA (WD d g l N B) H0 tas ρ PA) (hA : ∀ es, PA es → A es) :
    EvP (WD d g l N B) H0 (tCall (SpW A F) [] E0 (tCons (tVar i) tas)) ρ (fun e => ∃ es, PA es ∧ F es e) := fun τ loc σ H S Q k =>
  ⟨.ref d, S.raw hr, ha τ loc σ H S _ fun vs es H1 S1 le pa => by
    obtain ⟨M, m1, m2, m3, m4, m5, m6, q⟩ := S1.oth
    refine ⟨d, g, l, M, es, vs, by rw [List.append_nil], m1, m2, m3, m4, m5, zip_all le fun p hp => m6 p (List.mem_append_left _ hp), hA es pa, fun v e H' D x r f => k v e H' (q H' _ D x fun p hp => ?_) ⟨es, pa, f⟩⟩
    rcases List.mem_cons.mp hp with rfl | hp
    · exact r
    · exact Rg.to (fun a o h n => ⟨x a o h (fun z => n (z ▸ m2)) (fun z => n (z ▸ m3)) fun z => n (z ▸ m4), n⟩) _ _ (m6 p (List.mem_append_right _ hp))⟩
theorem St.startW {vs : List V} {es : List PyData} {k : Nat} (ok : NOk N H) (h1 : N d) (h2 : N g) (h3 : N l) (D : Deck H d g l) (r : RgAll N H vs es) :
    St (WD d g l N H) H (some (.raw (.ref d)) :: slotsOf es k) [] [] (some (.ref d) :: (vs.map some ++ List.replicate k none)) H := by
  refine ⟨⟨ok, h1, h2, h3, D, fun _ _ _ _ _ => rfl⟩, fun _ _ e _ => e, N, fun _ h => h, fun _ h n => absurd h n, ok, ⟨?_, fun i s h => ?_⟩, (fun _ h => nomatch h), List.nodup_nil, fun _ h => nomatch h⟩
  · have := (slots_start (M := N) (k := k) r).1
    simpa using this
  · cases i with
    | zero =>
      have h' : some (some (Sl.raw (.ref d))) = some (some s) := h
      cases h'
      exact ⟨_, rfl, rfl⟩
    | succ i => exact (slots_start (M := N) (k := k) r).2 i s h
theorem St.endW {v : V} {e : PyData} (S : St (WD d g l N H) H ρ ((v, e) :: τ) loc σ H') : Deck H' d g l ∧ Oth d g l H H' ∧ Rg N H' v e := by
  obtain ⟨M, n1, n2, n3, n4, n5, n6⟩ := S.ex
  obtain ⟨i1, i2, i3, i4, i5, i6⟩ := S.inv
  refine ⟨i5, fun a o h q1 q2 q3 => ?_, (n5 _ List.mem_cons_self).sub n1⟩
  by_cases hn : N a
  · rw [i6 a hn q1 q2 q3]; exact h
  · exact S.off a o h hn
end
/-! ### the draws -/
def drawA (es : List PyData) : Prop := ∃ m : Int, es = [.int m] ∧ 0 < m ∧ m ≤ 1000000000000
def drawF (es : List PyData) (e : PyData) : Prop := ∃ m r : Int, es = [.int m] ∧ e = .int r ∧ 0 ≤ r ∧ r < m
theorem draw_imp {vs : List V} {H : Hp} {Q : VK} {E : XK} (h : SpW drawA drawF vs H Q E) : spDraw vs H Q E := by
  obtain ⟨d, g, l, N, es, vs', rfl, ok, nd, ng, nl, D, r, ⟨m, rfl, m0, m1⟩, q⟩ := h
  cases r with
  | cons r1 r2 =>
    cases r2; cases r1
    exact ⟨d, g, l, m, rfl, m0, m1, D, fun r H' r0 r1 D' o => q _ (.int r) H' D' (fun a o' e n1 n2 _ => o a o' e n1 n2) (.int r) ⟨m, r, rfl, rfl, r0, r1⟩⟩
def oneA (es : List PyData) : Prop := ∃ ds, es = [.list ds] ∧ 0 < ds.length ∧ ds.length ≤ 100000
def oneF (es : List PyData) (e : PyData) : Prop := ∃ ds, es = [.list ds] ∧ e ∈ ds
theorem one_imp {vs : List V} {H : Hp} {Q : VK} {E : XK} (h : SpW oneA oneF vs H Q E) : spOne vs H Q E := by
  obtain ⟨d, g, l, N, es, vs', rfl, ok, nd, ng, nl, D, r, ⟨ds, rfl, m0, m1⟩, q⟩ := h
  cases r with
  | cons r1 r2 =>
    cases r2
    cases r1 with
    | lst hA hn hr =>
      refine ⟨d, g, l, _, _, rfl, D, hA, fun z => hn (z ▸ nd), fun z => hn (z ▸ ng), by rw [hr.len]; exact m0, by rw [hr.len]; exact m1, fun i v H' hv D' o => ?_⟩
      obtain ⟨e, he, hre⟩ := hr.get hv
      exact q v e H' D' (fun a o' h n1 n2 _ => o a o' h n1 n2) (Rg.to (fun a o' h n => ⟨o a o' h (fun z => n (z ▸ nd)) (fun z => n (z ▸ ng)), n⟩) _ _ hre) ⟨ds, rfl, List.mem_of_getElem? he⟩
section
variable {P : Program} {w : World} {K : PySem.W.Frag} {mg : Str → Option Value} {base : Heap} {k : Nat} {x : Str} {ps : List Str}
theorem Keeps.imp {sp sp' : Sp} (h : Keeps P w K mg base k x ps sp) (i : ∀ vs H Q E, sp' vs H Q E → sp vs H Q E) : Keeps P w K mg base k x ps sp' := by
  obtain ⟨f, fd, a, b, c, G⟩ := h
  exact ⟨f, fd, a, b, c, G.imp i⟩
theorem Keeps.up {sp : Sp} {j : Nat} (h : Keeps P w K mg base k x ps sp) (i : k ≤ j) : Keeps P w K mg base j x ps sp := by
  obtain ⟨f, fd, a, b, c, G⟩ := h
  exact ⟨f, fd, a, b, c, G.mono i⟩
end
end DL
set_option Elab.async false
set_option linter.all false
set_option maxRecDepth 100000
/-! What is drawn. -/
namespace DL
open PySem PySem.Spec PyProof.Rows L2 Evl TB
section
variable {W : Wd} {H0 : Hp} {ρ : List (Option Sl)} {te ta tb tn : TE} {tas : TA} {P P1 P2 : PyData → Prop} {tt tu : TT} {R : Bool → Prop}
theorem ev_neg {i : Int} (h : EvP W H0 te ρ (· = .int i)) : EvP W H0 (tUn (rU fun i => .int (-i)) te) ρ (· = .int (-i)) := fun τ l σ H S Q k => h τ l σ H S _ fun v e H1 S1 p => by
  subst p
  obtain ⟨N, n3, n5, n4, q⟩ := S1.ext
  have := n5 _ List.mem_cons_self
  cases this
  refine ⟨i, rfl, k _ (.int (-i)) H1 (q _ _ ex_refl fun p hp => ?_) rfl⟩
  rcases List.mem_cons.mp hp with rfl | hp
  · exact .int _
  · exact n5 p (List.mem_cons_of_mem _ hp)
theorem ev_pow {i j : Int} (h : CPow i j) : EvP W H0 (tOp (rI CPow fun i j => .int (i ^ j.toNat)) (tC (.int i)) (tC (.int j))) ρ (· = .int (i ^ j.toNat)) := ev_op' ev_int ev_int (opd_I h fun _ _ => .int _)
theorem ev_catL {ds es : List PyData} (ha : EvP W H0 ta ρ (· = .list ds)) (hb : EvP W H0 tb ρ (· = .list es)) (h : ds.length + es.length ≤ 100000) : EvP W H0 (tOp rCat ta tb) ρ (· = .list (ds ++ es)) := ev_op' ha hb (opd_catL h)
theorem ev_dict0 : EvP W H0 tDNewK ρ (· = .dict []) := fun τ l σ H S Q k => fun p hp => by
  obtain ⟨N, n3, n5, n4, q⟩ := S.ext
  refine k _ (.dict []) _ (q _ _ (Ex.new hp) fun p' hp' => ?_) rfl
  rcases List.mem_cons.mp hp' with rfl | hp'
  · exact .dic upd_same (n3.new hp)
  · exact (n5 p' hp').ex (Ex.new hp)
theorem et_of' (ha : EvP W H0 te ρ P) (h : ∀ e, P e → ∃ b, e = .bool b ∧ R b) : EvT W H0 (tTest te) ρ R := fun τ l σ H S Q k => ha τ l σ H S _ fun v e H1 S1 p => by
  obtain ⟨b, rfl, rb⟩ := h e p
  obtain ⟨N, n3, n5, n4, q⟩ := S1.ext
  have := n5 _ List.mem_cons_self
  cases this
  exact ⟨b, rfl, k b H1 S1.pop rb⟩
theorem et_and1 (h1 : EvT W H0 tt ρ (· = true)) (h2 : EvT W H0 tu ρ R) : EvT W H0 (tAnd tt tu) ρ R := fun τ l σ H S Q k => h1 τ l σ H S _ fun b H1 S1 p => by
  subst p
  exact (if_pos rfl).mpr (h2 τ l σ H1 S1 Q k)
theorem et_and0 (h1 : EvT W H0 tt ρ (· = false)) (h : R false) : EvT W H0 (tAnd tt tu) ρ R := fun τ l σ H S Q k => h1 τ l σ H S _ fun b H1 S1 p => by
  subst p
  exact (if_neg Bool.false_ne_true).mpr (k false H1 S1 h)
theorem EvT.imp {R' : Bool → Prop} (h : EvT W H0 tt ρ R) (i : ∀ b, R b → R' b) : EvT W H0 tt ρ R' := fun τ l σ H S Q k => h τ l σ H S Q fun b H' S' p => k b H' S' (i b p)
end
theorem flds {xs ys : List PyData} : PyData.hasDictAll (xs ++ ys) = (PyData.hasDictAll xs || PyData.hasDictAll ys) := by
  induction xs with
  | nil => rw [List.nil_append, PyData.hasDictAll, Bool.false_or]
  | cons x xs ih => rw [List.cons_append, PyData.hasDictAll, PyData.hasDictAll, ih, Bool.or_assoc]
theorem flls {xs ys : List PyData} : hasLs (xs ++ ys) = (hasLs xs || hasLs ys) := by
  induction xs with
  | nil => rw [List.nil_append, hasLs, Bool.false_or]
  | cons x xs ih => rw [List.cons_append, hasLs, hasLs, ih, Bool.or_assoc]
/-- no list, no dict in it -/
def plain (e : PyData) : Prop := e.hasDict = false ∧ hasL e = false
theorem plains {xs : List PyData} (h : ∀ x ∈ xs, plain x) : PyData.hasDictAll xs = false ∧ hasLs xs = false := by
  induction xs with
  | nil => exact ⟨rfl, rfl⟩
  | cons x xs ih =>
    have := ih fun y hy => h y (List.mem_cons_of_mem _ hy)
    have hx := h x List.mem_cons_self
    exact ⟨by rw [PyData.hasDictAll, hx.1, this.1]; rfl, by rw [hasLs, hx.2, this.2]; rfl⟩
theorem okD_plain {e : PyData} (h : plain e) : okD e = true := by unfold okD; rw [h.1]; rfl
theorem okD_list {xs : List PyData} (h : ∀ x ∈ xs, plain x) : okD (.list xs) = true := by
  unfold okD
  rw [PyData.hasDict, (plains h).1]; rfl
theorem plain_tuple {xs : List PyData} (h : ∀ x ∈ xs, plain x) : plain (.tuple xs) := ⟨by rw [PyData.hasDict]; exact (plains h).1, by rw [hasL]; exact (plains h).2⟩
theorem okD_mid {xs ys : List PyData} {e : PyData} (hx : ∀ x ∈ xs, plain x) (hy : ∀ x ∈ ys, plain x) (he : okD e = true) : okD (.tuple (xs ++ [e] ++ ys)) = true := by
  unfold okD at he ⊢
  rw [PyData.hasDict, hasL, flds, flds, flls, flls, (plains hx).1, (plains hx).2, (plains hy).1, (plains hy).2]
  rw [PyData.hasDictAll, PyData.hasDictAll, hasLs, hasLs]
  simp only [Bool.or_false, Bool.false_or]
  exact he
theorem fit_nat {i : Int} (h : 0 ≤ i) (h2 : i < 10 ^ 40) : Fit 40 0 (.int i) := by
  refine ⟨?_, ?_, Nat.le_refl _⟩
  · rw [PyData.showable]
    refine decide_eq_true ?_
    by_cases h0 : i.natAbs = 0
    · rw [h0]; decide
    · exact Nat.lt_of_lt_of_le ((Nat.log2_lt h0).mpr (show i.natAbs < 2 ^ 133 by
        have : (10 : Int) ^ 40 < 2 ^ 133 := by decide
        omega)) (by decide)
  · show (numS i).length ≤ 40
    rw [← cs_len, cs_num h]
    unfold digs
    rw [List.length_map]
    exact digits10_le (by decide) (by
      have : ((i.toNat : Nat) : Int) = i := Int.toNat_of_nonneg h
      omega)
/-- what is good to be shown -/
def Gd (n k : Nat) (e : PyData) : Prop := okD e = true ∧ Fit n k e
theorem Gd.mono {n m k j : Nat} {e : PyData} (h : Gd n k e) (h1 : n ≤ m) (h2 : k ≤ j) : Gd m j e := ⟨h.1, h.2.mono h1 h2⟩
def Lv : Nat → PyData → Prop
  | 0, d => ∃ i : Int, d = .int i ∧ 0 ≤ i ∧ i ≤ MS
  | n + 1, d => ∃ ds : List PyData, d = .tuple ds ∧ ds.length ≤ 8 ∧ ∀ x ∈ ds, Lv n x
def Bo : Nat → Nat
  | 0 => 1000
  | n + 1 => 9 * Bo n + 100
theorem Bo_ge (n : Nat) : 1000 ≤ Bo n := by
  induction n with
  | zero => exact Nat.le_refl _
  | succ n ih => show 1000 ≤ 9 * Bo n + 100; omega
theorem Lv.plain : ∀ {n : Nat} {d : PyData}, Lv n d → plain d
  | 0, _, ⟨i, h, _⟩ => by rw [h]; exact ⟨rfl, rfl⟩
  | n + 1, _, ⟨ds, h, _, hx⟩ => by rw [h]; exact plain_tuple fun x hm => Lv.plain (hx x hm)
theorem fit_tup {n k m : Nat} {ds : List PyData} (h : ∀ d ∈ ds, Fit n k d) (hl : ds.length ≤ 9) (hm : 9 * n + 100 ≤ m) : Fit m (k + 1) (.tuple ds) :=
  (Fit.tuple h).mono (by have := Nat.mul_le_mul_right n hl; omega) (Nat.le_refl _)
theorem fit_lst {n k m : Nat} {ds : List PyData} (h : ∀ d ∈ ds, Fit n k d) (hl : ds.length ≤ 9) (hm : 9 * n + 100 ≤ m) : Fit m (k + 1) (.list ds) :=
  (Fit.list h).mono (by have := Nat.mul_le_mul_right n hl; omega) (Nat.le_refl _)
theorem Lv.fit : ∀ {n : Nat} {d : PyData}, Lv n d → Fit (Bo n) n d
  | 0, _, ⟨i, h, h0, h1⟩ => by rw [h]; exact (fit_int h0 h1).mono (by decide) (Nat.le_refl _)
  | n + 1, _, ⟨ds, h, hl, hx⟩ => by rw [h]; exact fit_tup (fun x hm => Lv.fit (hx x hm)) (by omega) (Nat.le_refl _)
/-! ### draws in expressions -/
section
variable {d g l : Addr} {N : Addr → Prop} {B H0 : Hp} {ρ : List (Option Sl)} {te : TE} {tas : TA} {P : PyData → Prop} {j : Nat}
theorem ev_draw {m : Int} (hr : ρ[j]? = some (some (.raw (.ref d)))) (hm : EvP (WD d g l N B) H0 te ρ (· = .int m)) (m0 : 0 < m) (m1 : m ≤ 1000000000000) :
    EvP (WD d g l N B) H0 (tCall (SpW drawA drawF) [] E0 (tCons (tVar j) (tCons te tNil))) ρ (fun e => ∃ r : Int, e = .int r ∧ 0 ≤ r ∧ r < m) :=
  (ev_callW hr (eva_one hm) fun es h => by rw [h]; exact ⟨m, rfl, m0, m1⟩).imp fun e ⟨es, h1, m', r, h2, h3, h4, h5⟩ => by
    rw [h1] at h2
    cases h2
    exact ⟨r, h3, h4, h5⟩
theorem ev_one (hr : ρ[j]? = some (some (.raw (.ref d)))) (hm : EvP (WD d g l N B) H0 te ρ P) (h : ∀ e, P e → ∃ ds, e = .list ds ∧ 0 < ds.length ∧ ds.length ≤ 100000) :
    EvP (WD d g l N B) H0 (tCall (SpW oneA oneF) [] E0 (tCons (tVar j) (tCons te tNil))) ρ (fun e => ∃ ds, P (.list ds) ∧ e ∈ ds) :=
  (ev_callW hr (PA := fun es => ∃ e, es = [e] ∧ P e) (eva_cons hm eva_nil fun e es h1 h2 => by rw [h2]; exact ⟨e, rfl, h1⟩) fun es ⟨e, h1, h2⟩ => by
    obtain ⟨ds, rfl, a, b⟩ := h e h2
    exact ⟨ds, h1, a, b⟩).imp fun x ⟨es, ⟨e, h1, h2⟩, ds, h3, h4⟩ => by
    rw [h1] at h3
    cases h3
    exact ⟨ds, h2, h4⟩
end
def nonA (es : List PyData) : Prop := es = []
def oddF (_ : List PyData) (e : PyData) : Prop := Gd 100 3 e
def farF (_ : List PyData) (e : PyData) : Prop := ∃ r : Int, e = .int r ∧ 1 ≤ r ∧ r ≤ MS
def wideA (es : List PyData) : Prop := ∃ n : Nat, es = [.int n] ∧ n ≤ 100
def wideF (es : List PyData) (e : PyData) : Prop := ∃ (n : Nat) (ns : List Int), es = [.int n] ∧ e = tupI ns ∧ ns.length = n ∧ ∀ x ∈ ns, 1 ≤ x ∧ x ≤ MS
theorem ints_of {R : Int → Prop} : ∀ {ds : List PyData}, (∀ d ∈ ds, ∃ n : Int, d = .int n ∧ R n) → ∃ ns : List Int, ds = ns.map PyData.int ∧ ∀ n ∈ ns, R n
  | [], _ => ⟨[], rfl, fun _ h => nomatch h⟩
  | d :: ds, h => by
    obtain ⟨n, rfl, hn⟩ := h d List.mem_cons_self
    obtain ⟨ns, rfl, hs⟩ := ints_of fun x hx => h x (List.mem_cons_of_mem _ hx)
    exact ⟨n :: ns, rfl, fun m hm => by
      rcases List.mem_cons.mp hm with rfl | hm
      · exact hn
      · exact hs m hm⟩
/-! ### statements in their readings -/
theorem d_asg {te : TE} {i : Nat} {ts : TS} {D : Ends} {σ : L2.St} {H : Hp} (h : te σ H fun x H1 => ts D (σ.set i (some x)) H1) : tSeq (tAsg te (gName i)) ts D σ H := h
theorem d_ret {te : TE} {D : Ends} {σ : L2.St} {H : Hp} (h : te σ H D.rt) : tRet te D σ H := h
theorem d_if {tt : TT} {t u ts : TS} {D : Ends} {σ : L2.St} {H : Hp} (h : tt σ H fun b H1 => if b = true then t { D with nx := fun σ H => ts D σ H } σ H1 else u { D with nx := fun σ H => ts D σ H } σ H1) : tSeq (tIfS tt t u) ts D σ H := h
theorem d_seq {t ts : TS} {D : Ends} {σ : L2.St} {H : Hp} (h : t { D with nx := fun σ H => ts D σ H } σ H) : tSeq t ts D σ H := h
abbrev St.rho {W : Wd} {H0 H : Hp} {ρ : List (Option Sl)} {τ : List (V × PyData)} {l : List (Addr × List PyData)} {σ : L2.St} (_ : St W H0 ρ τ l σ H) : List (Option Sl) := ρ
def goodB (n k : Nat) (e : PyData) : Bool := okD e && (e.showable && (decide (e.shown.length ≤ n) && decide (e.depth ≤ k)))
theorem gd_of {n k : Nat} {ds : List PyData} (h : ds.all (goodB n k) = true) {e : PyData} (he : e ∈ ds) : Gd n k e := by
  have := List.all_eq_true.mp h e he
  unfold goodB at this
  simp only [Bool.and_eq_true, decide_eq_true_eq] at this
  exact ⟨this.1, this.2.1, this.2.2.1, this.2.2.2⟩
theorem plain_of {e : PyData} {is : List Int} (h : e = tupI is) : plain e := by
  rw [h]
  exact plain_tuple fun x hx => by
    obtain ⟨n, _, rfl⟩ := List.mem_map.mp hx
    exact ⟨rfl, rfl⟩
theorem opd_add {i j : Int} : OpD (rI0 fun i j => .int (i + j)) (.int i) (.int j) (· = .int (i + j)) := opd_I0 fun _ _ => .int _
theorem opd_sub {i j : Int} : OpD (rI0 fun i j => .int (i - j)) (.int i) (.int j) (· = .int (i - j)) := opd_I0 fun _ _ => .int _
theorem opd_gt {i j : Int} : OpD (rI0 fun i j => .bl (decide (j < i))) (.int i) (.int j) (· = .bool (decide (j < i))) := opd_I0 fun _ _ => .bl _
theorem opd_lt {i j : Int} : OpD (rI0 fun i j => .bl (decide (i < j))) (.int i) (.int j) (· = .bool (decide (i < j))) := opd_I0 fun _ _ => .bl _
theorem OpD.imp {r : R2} {e1 e2 : PyData} {P P' : PyData → Prop} (h : OpD r e1 e2 P) (i : ∀ e, P e → P' e) : OpD r e1 e2 P' := fun N H v1 v2 ok q1 q2 Q k => h N H v1 v2 ok q1 q2 Q fun v e H' x y z => k v e H' x y (i e z)
theorem CaD.imp {r : List V → Hp → VK → Prop} {es : List PyData} {P P' : PyData → Prop} (h : CaD r es P) (i : ∀ e, P e → P' e) : CaD r es P' := fun N H vs ok q Q k => h N H vs ok q Q fun v e H' x y z => k v e H' x y (i e z)
theorem d_next {f : L2.St → Hp → Prop} {a : VK} {b c : L2.St → Hp → Prop} {σ : L2.St} {H : Hp} (h : f σ H) : tNext { nx := f, rt := a, bk := b, ct := c } σ H := h
theorem d_nx {f : L2.St → Hp → Prop} {a : VK} {b c : L2.St → Hp → Prop} {σ : L2.St} {H : Hp} (h : f σ H) : Ends.nx { nx := f, rt := a, bk := b, ct := c } σ H := h
end DL
set_option Elab.async false
set_option linter.all false
set_option maxRecDepth 100000
/-! The layer over data: loops over lists of data, a list of one's own made longer, a pair taken apart. -/
namespace DL
open PySem PySem.Spec PyProof.Rows L2 Evl TB
section
variable {W : Wd} {H0 H : Hp} {ρ : List (Option Sl)} {τ : List (V × PyData)} {l : List (Addr × List PyData)} {σ : L2.St} {K : PySem.W.Frag}
theorem St.un2 {v : V} {e1 e2 : PyData} (S : St W H0 ρ ((v, .tuple [e1, e2]) :: τ) l σ H) : ∃ a v1 v2, v = .ref a ∧ SqT K H a [v1, v2] ∧ St W H0 ρ ((v1, e1) :: (v2, e2) :: τ) l σ H := by
  obtain ⟨N, n1, n2, n3, n4, n5, n6⟩ := S.ex
  have hv := n5 _ List.mem_cons_self
  cases hv with
  | @tup a xs _ hA hn hr =>
    cases hr with
    | cons r1 r =>
      cases r with
      | cons r2 r =>
        cases r
        refine ⟨a, _, _, rfl, .inl (.inl hA), S.inv, S.off, N, n1, n2, n3, n4, fun p hp => ?_, n6⟩
        rcases List.mem_cons.mp hp with rfl | hp
        · exact r1
        · rcases List.mem_cons.mp hp with rfl | hp
          · exact r2
          · exact n5 p (List.mem_cons_of_mem _ hp)
/-- a list of one's own is made longer by another list -/
theorem St.more {p b : Addr} {ds es : List PyData} (S : St W H0 ρ ((.ref b, .list es) :: τ) ((p, ds) :: l) σ H) : ∃ xs zs, H p = some (.lst xs) ∧ H b = some (.lst zs) ∧ xs.length = ds.length ∧ zs.length = es.length ∧ St W H0 ρ τ ((p, ds ++ es) :: l) σ (upd H p (.lst (xs ++ zs))) := by
  obtain ⟨N, n1, n2, n3, n4, n5, n6⟩ := S.ex
  obtain ⟨b1, b2, xs, b3, b4⟩ := n6.2 _ List.mem_cons_self
  have hv := n5 _ List.mem_cons_self
  cases hv with
  | @lst _ zs _ hA hn hr =>
  refine ⟨xs, zs, b3, hA, b4.len, hr.len, W.stab H _ S.inv fun a na => ?_, fun a o e n => ?_, N, n1, n2, fun a h => ?_, ⟨n4.1, fun i s h => ?_⟩, fun q hq => (n5 q (List.mem_cons_of_mem _ hq)).upd b1, n6.1, fun q hq => ?_⟩
  · rw [upd_ne (fun z => by rw [z] at na; exact b2 na)]
  · rw [upd_ne (fun z => ?_)]
    · exact S.off a o e n
    · have := n2 p b1 b2
      rw [z, this] at e; cases e
  · by_cases z : a = p
    · rw [z, upd_same]; simp
    · rw [upd_ne z]; exact n3 a h
  · obtain ⟨o, h1, h2⟩ := n4.2 i s h
    refine ⟨o, h1, ?_⟩
    cases s with
    | dat e => obtain ⟨v, q1, q2⟩ := h2; exact ⟨v, q1, q2.upd b1⟩
    | raw v => exact h2
  · rcases List.mem_cons.mp hq with rfl | hq
    · exact ⟨b1, b2, _, upd_same, (b4.app hr).upd b1⟩
    · obtain ⟨a1, a2, ys, a3, a4⟩ := n6.2 q (List.mem_cons_of_mem _ hq)
      have nd := n6.1
      rw [List.map_cons, List.nodup_cons] at nd
      have hne : q.1 ≠ p := fun z => nd.1 (List.mem_map.mpr ⟨q, hq, z⟩)
      exact ⟨a1, a2, ys, by rw [upd_ne hne]; exact a3, a4.upd b1⟩
theorem St.loc {p : Addr} {ds : List PyData} (S : St W H0 ρ τ ((p, ds) :: l) σ H) : ∃ xs, H p = some (.lst xs) ∧ xs.length = ds.length := by
  obtain ⟨N, n1, n2, n3, n4, n5, n6⟩ := S.ex
  obtain ⟨b1, b2, xs, b3, b4⟩ := n6.2 _ List.mem_cons_self
  exact ⟨xs, b3, b4.len⟩
/-- for x in a list of data -/
theorem for_dataL {v : V} {ds : List PyData} {i : Nat} {tb : TS} {D : Ends} (S : St W H0 ρ ((v, .list ds) :: τ) l σ H) (J : Nat → List (Option Sl) → List (Addr × List PyData) → Prop) (hJ : J 0 ρ l)
    (hs : ∀ (G : Hp) (j : Nat) (d : PyData) (ρ' : List (Option Sl)) (l' : List (Addr × List PyData)) (σ' : L2.St) (H' : Hp), (∀ b o, H0 b = some o → ¬ W.N b → G b = some o) → (∀ b, G b = none → H0 b = none) → ds[j]? = some d → J j ρ' l' → St W G (ρ'.set i (some (.dat d))) ((v, .list ds) :: τ) l' σ' H' →
      ∀ Nx : L2.St → Hp → Prop, (∀ ρ2 l2 σ2 H2, J (j + 1) ρ2 l2 → St W G ρ2 ((v, .list ds) :: τ) l2 σ2 H2 → Nx σ2 H2) → tb { D with nx := Nx, ct := Nx, bk := D.nx } σ' H')
    (hd : ∀ ρ' l' σ' H', J ds.length ρ' l' → St W H0 ρ' ((v, .list ds) :: τ) l' σ' H' → D.nx σ' H') :
    ∃ a, v = .ref a ∧ (∃ xs, SqL K H a xs) ∧ ∃ Wx : Nat → Nat → L2.St → Hp → Prop, (∃ m, Wx 0 m σ H) ∧ ∀ i' m σ H, Wx i' m σ H → ((Itl K a).stop i' H ∧ D.nx σ H) ∨
      ((Itl K a).go i' H ∧ ∃ N : L2.St → Hp → Prop, (∀ σ' H', N σ' H' → ∃ m', m' < m ∧ Wx (i' + 1) m' σ' H') ∧ ∀ x H', (Itl K a).yld i' H x H' → gName i x σ H' fun σ2 H2 => tb { D with nx := N, ct := N, bk := D.nx } σ2 H2) := by
  obtain ⟨a, xs, rfl, hA, hlen, hna, u1, u2, B⟩ := S.baseL
  have keep : ∀ {τ' l' σ' H' ρ'}, St W (upd H0 a (.lst xs)) ρ' τ' l' σ' H' → H' a = some (.lst xs) := fun S => S.off a _ upd_same hna
  refine ⟨a, rfl, ⟨xs, .inl (.inl hA)⟩, for_list (K := K) (a := a) (xs := xs) (fun j σ' H' => ∃ ρ' l', J j ρ' l' ∧ St W (upd H0 a (.lst xs)) ρ' ((.ref a, .list ds) :: τ) l' σ' H') ⟨ρ, l, hJ, B⟩ (fun j σ' H' _ h => ?_) (fun j x σ' H' hx h => ?_) (fun σ' H' h => ?_)⟩
  · obtain ⟨ρ', l', _, S2⟩ := h
    exact .inl (.inl (keep S2))
  · obtain ⟨ρ', l', hj, S2⟩ := h
    have hAk := keep S2
    obtain ⟨d, hd', S3⟩ := S2.item (xs := xs) (ds := ds) (fun N r => by
      cases r with
      | lst q1 q2 q3 => rw [hAk] at q1; cases q1; exact q3) hx
    exact hs _ j d ρ' l' _ H' u1 u2 hd' hj S3.set _ fun ρ2 l2 σ2 H2 h1 h2 => ⟨ρ2, l2, h1, h2⟩
  · obtain ⟨ρ', l', hj, S2⟩ := h
    rw [hlen] at hj
    exact hd ρ' l' σ' H' hj (S2.unbase u1 u2)
end
/-- the law's own state, once its deck is made -/
theorem St.deck0 {d g l : Addr} {H : Hp} {ρ : List (Option Sl)} {σ : L2.St} (D : Deck H d g l) (hl : ρ.length = σ.length) (h : ∀ (i : Nat) (s : Sl), ρ[i]? = some (some s) → ∃ v, s = .raw v ∧ σ[i]? = some (some v)) :
    St (WD d g l (fun a => a = d ∨ a = g ∨ a = l) H) H ρ [] [] σ H := by
  have ok : NOk (fun a => a = d ∨ a = g ∨ a = l) H := fun a n => Deck.tr D a n
  refine ⟨⟨ok, .inl rfl, .inr (.inl rfl), .inr (.inr rfl), D, fun _ _ _ _ _ => rfl⟩, fun _ _ e _ => e, _, fun _ h => h, fun _ h n => absurd h n, ok, ⟨hl, fun i s e => ?_⟩, (fun _ h => nomatch h), List.nodup_nil, fun _ h => nomatch h⟩
  obtain ⟨v, rfl, hv⟩ := h i s e
  exact ⟨_, hv, rfl⟩
theorem fit_nat2 {i : Int} (h : 0 ≤ i) (h2 : i < 10 ^ 60) : Fit 60 0 (.int i) := by
  refine ⟨?_, ?_, Nat.le_refl _⟩
  · rw [PyData.showable]
    refine decide_eq_true ?_
    by_cases h0 : i.natAbs = 0
    · rw [h0]; decide
    · exact Nat.lt_of_lt_of_le ((Nat.log2_lt h0).mpr (show i.natAbs < 2 ^ 200 by
        have : (10 : Int) ^ 60 < 2 ^ 200 := by decide
        omega)) (by decide)
  · show (numS i).length ≤ 60
    rw [← cs_len, cs_num h]
    unfold digs
    rw [List.length_map]
    exact digits10_le (by decide) (by
      have : ((i.toNat : Nat) : Int) = i := Int.toNat_of_nonneg h
      omega)
section
variable {W : Wd} {H0 : Hp} {ρ : List (Option Sl)} {te ta tb : TE} {P : PyData → Prop}
/-- repr of what is good to be shown -/
theorem ev_repr {n k : Nat} {e : PyData} (h : EvP W H0 te ρ (· = e)) (g : Gd n k e) (hn : n ≤ 1000000) (hk : k < 60) : EvP W H0 (tCB rReprD (tCons te tNil)) ρ (· = .str e.shown) :=
  ev_cb' (eva_one h) (cad_repr g.1 g.2.sh (Nat.lt_of_le_of_lt g.2.dp hk) (Nat.le_trans g.2.len (Nat.le_trans hn (by decide))))
end
theorem d_forL {K : PySem.W.Frag} {te : TE} {i : Nat} {tb : TS} {D : Ends} {σ : L2.St} {H : Hp} (h : te σ H fun v H => ∃ a, v = .ref a ∧ (∃ xs, SqL K H a xs) ∧ ∃ Wx : Nat → Nat → L2.St → Hp → Prop, (∃ m, Wx 0 m σ H) ∧ ∀ i' m σ H, Wx i' m σ H → ((Itl K a).stop i' H ∧ D.nx σ H) ∨
      ((Itl K a).go i' H ∧ ∃ N : L2.St → Hp → Prop, (∀ σ' H', N σ' H' → ∃ m', m' < m ∧ Wx (i' + 1) m' σ' H') ∧ ∀ x H', (Itl K a).yld i' H x H' → gName i x σ H' fun σ2 H2 => tb { D with nx := N, ct := N, bk := D.nx } σ2 H2)) :
    tFor (iList K te) (gName i) tb D σ H := h
theorem g_name {i : Nat} {v : V} {σ : L2.St} {H : Hp} {Q : L2.St → Hp → Prop} (h : Q (σ.set i (some v)) H) : gName i v σ H Q := h
abbrev WL (d g l : Addr) (H : Hp) : Wd := WD d g l (fun a => a = d ∨ a = g ∨ a = l) H
theorem St.nil {W : Wd} {H0 H : Hp} {ρ : List (Option Sl)} {τ : List (V × PyData)} {l : List (Addr × List PyData)} {σ : L2.St} (S : St W H0 ρ τ l σ H) : St W H0 ρ [] l σ H := S.mono fun _ h => nomatch h
section
variable {W : Wd} {H0 : Hp} {ρ : List (Option Sl)} {te ta tb : TE} {P : PyData → Prop} {K : PySem.W.Frag} {tt : TT}
/-- [e for x in xs if t], where no item passes the test -/
theorem ev_lc0 {i : Nat} {Qd : List PyData → Prop} (hi : ρ[i]? = some none) (ha : EvP W H0 ta ρ (fun e => ∃ ds, e = .list ds ∧ Qd ds)) (ht : ∀ G ds dd, Qd ds → dd ∈ ds → EvT W G tt (ρ.set i (some (.dat dd))) (· = false)) :
    EvP W H0 (tLc (iList K ta) (gName i) tt te [i]) ρ (· = .list []) := fun τ l σ H S Q k =>
  ha τ l σ H S _ fun v e H1 S1 p => by
    obtain ⟨ds, rfl, hq⟩ := p
    obtain ⟨a, xs, rfl, hA, hlen, hna, u1, u2, B⟩ := S1.baseL
    refine ⟨a, rfl, ⟨xs, .inl (.inl hA)⟩, fun D hD => ?_⟩
    have keep : ∀ {τ' l' σ' H'}, St W (upd H0 a (.lst xs)) ρ τ' l' σ' H' → H' a = some (.lst xs) := fun S => S.off a _ upd_same hna
    refine lc_list (K := K) (a := a) (xs := xs) (fun j H' => St W (upd H0 a (.lst xs)) ρ ((.ref a, .list ds) :: τ) ((D, []) :: l) σ H') (B.newL hD) (fun j H' _ S2 => .inl (.inl (keep S2))) (fun j x H' hx S2 => ?_) (fun H' S2 => ?_)
    · have hAk := keep S2
      obtain ⟨d, hd, S3⟩ := S2.item (xs := xs) (ds := ds) (fun N r => by
        cases r with
        | lst q1 q2 q3 => rw [hAk] at q1; cases q1; exact q3) hx
      have S4 := (S3.wipe [i]).set (i := i)
      have e1 : (wipeR ρ [i]).set i (some (Sl.dat d)) = ρ.set i (some (.dat d)) := by
        show (ρ.set i none).set i _ = _
        rw [List.set_set]
      rw [e1] at S4
      refine ⟨wipe_id, ht _ ds d hq (List.mem_of_getElem? hd) _ _ _ H' S4 _ fun b H4 S5 pb => ?_⟩
      subst pb
      refine (if_neg Bool.false_ne_true).mpr ?_
      exact S5.re hi (fun j hj => wipe_set_ne hj) S.len
    · exact k _ _ H' (((S2.unbase u1 u2).frz).mono fun p hp => by
        rcases List.mem_cons.mp hp with rfl | hp
        · exact List.mem_cons_self
        · exact List.mem_cons_of_mem _ (List.mem_cons_of_mem _ hp)) rfl
end
theorem d_asgG {te : TE} {g : TG} {ts : TS} {D : Ends} {σ : L2.St} {H : Hp} (h : te σ H fun x H1 => g x σ H1 (ts D)) : tSeq (tAsg te g) ts D σ H := h
theorem d_ifl {tt : TT} {t u : TS} {D : Ends} {σ : L2.St} {H : Hp} (h : tt σ H fun b H1 => if b = true then t D σ H1 else u D σ H1) : tIfS tt t u D σ H := h
end DL
set_option Elab.async false
set_option linter.all false
set_option maxRecDepth 100000
/-! enumerate over a tuple: the call, the walk, the loop. -/
namespace EN
open PySem PySem.Spec PyProof.Rows L2 Evl
open Sem (wp)
set_option maxHeartbeats 1000000 in
theorem meets_enumT {v : Value} {o : Obj} {HB : Heap → Prop} (B : Begins v o HB) :
    Meets (Builtin.«enumerate.__new__» ⟨[.type "enumerate", v], []⟩) (fun _ R s => HB s.heap ∧
      R (.ok (.ret (.ref (s.heap.push o).objs.size)))
        { s with heap := (s.heap.push o).push { cls := .type "enumerate", data := .fields #[.none, .bool false, .ref s.heap.objs.size, rawInt 0, .none, .none] } }) :=
  .of_wp fun prog w A R s st => by
    obtain ⟨hp, gl, dd, tk, os⟩ := s; obtain ⟨st1, st⟩ := st
    have hsub2 := sub_enumerate
    have qi : ∀ {A' : Around} {E Q : Value → Shared → Prop}, Q (.ref hp.objs.size) ⟨hp.push o, gl, dd, tk, os⟩ → wpAny (model prog w) A' (pyIter v) Q E ⟨hp, gl, dd, tk, os⟩ :=
      fun q => B.iter prog w _ _ ⟨hp, gl, dd, tk, os⟩ _ st1 q
    wp_walk using qi
    refine wpAny_stack_any fun sk => wpAny_pure ?_
    split
    · rename_i c _ _ _ _ _
      cases (c == Value.type "enumerate")
      · wp_walk using qi
        exact ⟨_, rfl, st⟩
      · wp_walk using qi
        exact ⟨_, rfl, st⟩
    · wp_walk using qi
      exact ⟨_, rfl, st⟩
theorem call_enumT {prog : Program} {w : World} {A : Around} {E : Value → Shared → Prop} {s : Shared} {t : Addr} {items : Array Value} {Q : Value → Shared → Prop} (hT : s.heap.IsTuple t items)
    (k : ∀ g, IsEnum g (s.heap.objs.size + 1) s.heap.objs.size 0 .none → g.IsTupleIter s.heap.objs.size t 0 → g.objs.size = s.heap.objs.size + 2 →
      (∀ b o, s.heap.get? b = some o → g.get? b = some o) → Q (.ref (s.heap.objs.size + 1)) { s with heap := g }) :
    wpAny (model prog w) A (call (.type "enumerate") [.ref t]) Q E s := by
  refine callType_new F.called_enumerate (by decide) (F.typeCall_enumerate_1 _) (F.newCall_enumerate_1 _) (fun ob => F.args_object_init_2 ob _) F.entry_enumerate_new
    (meets_enumT (begins_tuple t items)) ⟨hT, ?_⟩
  have z1 : (s.heap.push { cls := .type "tuple_iterator", data := .fields #[.ref t, .int 0 0] }).objs.size = s.heap.objs.size + 1 := Heap.size_push ..
  show _ ∧ _
  rw [z1]
  have he1 : IsEnum ((s.heap.push { cls := .type "tuple_iterator", data := .fields #[.ref t, .int 0 0] }).push
      { cls := .type "enumerate", data := .fields #[.none, .bool false, .ref s.heap.objs.size, rawInt 0, .none, .none] }) (s.heap.objs.size + 1) s.heap.objs.size 0 .none := by
    have q := Heap.get?_push_size (s.heap.push { cls := .type "tuple_iterator", data := .fields #[.ref t, .int 0 0] })
      (o := { cls := .type "enumerate", data := .fields #[.none, .bool false, .ref s.heap.objs.size, rawInt 0, .none, .none] }) rfl
    rw [z1] at q; exact q
  refine ⟨⟨_, he1, rfl⟩, k _ he1 ⟨_, Heap.get?_push_of_some _ (Heap.get?_push_size _ rfl), rfl, rfl⟩ (by rw [Heap.size_push, z1]) fun b o x => Heap.get?_push_of_some _ (Heap.get?_push_of_some _ x)⟩
/-- the tuple at a, each item in a new pair -/
def IteT (K : PySem.W.Frag) (a : Addr) : It :=
  ⟨fun i H => ∃ (xs : List V) (x : V), SqT K H a xs ∧ xs[i]? = some x, fun i H v H' => ∃ T x, v = .ref T ∧ H T = none ∧ H' = upd H T (.tup [.int (i : Nat), x]) ∧ ∀ xs, SqT K H a xs → xs[i]? = some x, fun i H => ∃ xs : List V, SqT K H a xs ∧ xs.length ≤ i⟩
theorem turn_enumT {P : Program} {w : World} {K : PySem.W.Frag} {elts : List Expr} {kk : Nat} {tpos : Pos} (a e it : Addr) :
    Turn P w K (.Tuple elts kk tpos) (IteT K a) [e, it] e (fun i h => (∃ old, IsEnum h e it ((i : Nat) : Int) old) ∧ h.IsTupleIter it a i ∧ e ≠ it ∧ a ≠ e ∧ a ≠ it) where
  mem := by simp
  obj := fun i h st b hb => by
    obtain ⟨⟨old, he⟩, ⟨o, ho, hc, hd⟩, _⟩ := st
    rcases (by simpa using hb : b = e ∨ b = it) with z | z
    · rw [z]; exact ⟨_, he, fun v q => nomatch q⟩
    · rw [z]; exact ⟨o, ho, fun v q => by rw [hd] at q; cases q⟩
  keep := fun i h h' st k => let ⟨⟨old, he⟩, hi, hne⟩ := st; ⟨⟨old, k e (by simp) _ he⟩, hi.at fun o q => k it (by simp) o q, hne⟩
  item := by
    intro X hP hw hK hc i pins s σ H E I hf st hg
    subst hP hw hK
    obtain ⟨⟨old, he⟩, hit, hne, n1, n2⟩ := st
    obtain ⟨xs, x, hq, hx⟩ := hg
    obtain ⟨its, rv, p, hz⟩ := I.tuple hq
    obtain ⟨u, hu, ru⟩ := rv.get hx
    have p' : s.heap.IsTuple a its.toArray := p
    have hel : e < s.heap.objs.size := Heap.lt_size he
    have hil : it < s.heap.objs.size := by obtain ⟨_, q, _⟩ := hit; exact Heap.lt_size q
    have hlt : i < its.toArray.size := by
      have := (List.getElem?_eq_some_iff.mp hu).1
      simpa using this
    refine wpAny_pyNext_enum_itemD (Draws.tuple (prog := X.prog) (w := X.w) (A := X.A.in1) (show X.A.in1.handled = none from I.ok.hd hc) it a n2 its.toArray) he ⟨hit, p'⟩ hlt hne (fp := [it, a]) (fun q => by
      rcases (by simpa using q : e = it ∨ e = a) with z | z
      · exact hne z
      · exact n1 z.symm) fun y g tk hy ho hst hT hsz hk => ?_
    have ey : y = u := by
      have h1 : its.toArray[i]? = some u := by simpa using hu
      rw [h1] at hy
      exact (Option.some.inj hy).symm
    subst ey
    refine ⟨_, rfl, wpAny_letOwnedTupleGo_enum (s := { s with heap := g, toks := tk + 1 }) ho fun g2 he2 sb => ?_⟩
    have hT2 : g2.get? s.heap.objs.size = some { cls := .type "tuple", data := .seq #[.int i tk, y] } := (sb.2 _ (Nat.ne_of_gt hel)).trans hT
    have new : ObjOk X.prog X.w (upd H s.heap.objs.size (.tup [.int (i : Nat), x])) g2 s.heap.objs.size (.tup [.int (i : Nat), x]) :=
      ⟨by show 2 ≤ sizeLine; decide, [.int i tk, y], .cons ⟨_, rfl⟩ (.cons ru .nil), ⟨_, hT2, rfl, _, rfl⟩⟩
    have J1 : Inv X pins σ (upd H s.heap.objs.size (.tup [.int (i : Nat), x])) { s with heap := g2, toks := tk + 1 } :=
      I.turnedNew (ch := [e, it]) (fun b ob hb q => (sb.2 b (fun z => hb (by simp [z]))).trans (hk b ob (fun z => hb (by simp [z])) (fun z => hb (by simp [z])) q)) hf (Nat.le_refl _) new
    refine ⟨.ref s.heap.objs.size, _, J1, rfl, ⟨_, x, rfl, I.hok.fresh (Nat.le_refl _), rfl, fun ys hy => by rw [I.tuple_inj hy hq]; exact hx⟩, ⟨⟨y, ?_⟩, hst.1.at fun o q => (sb.2 it (Ne.symm hne)).trans q, hne, n1, n2⟩, fun b hb => ?_⟩
    · have e1 : ((i + 1 : Nat) : Int) = (i : Int) + 1 := by omega
      rw [e1]; exact he2
    · have hb' : b < s.heap.objs.size := by
        rcases (by simpa using hb : b = e ∨ b = it) with z | z
        · rw [z]; exact hel
        · rw [z]; exact hil
      rw [upd_ne (Nat.ne_of_lt hb')]
      exact (hf b hb).1
  done := by
    intro X hP hw hK hc i pins s σ H E I hf st hg
    subst hP hw hK
    obtain ⟨⟨old, he⟩, hit, hne, n1, n2⟩ := st
    obtain ⟨xs, hq, hx⟩ := hg
    obtain ⟨its, rv, p, hz⟩ := I.tuple hq
    obtain ⟨f0, f1, f2, f3, f4, f5⟩ := hf it (by simp)
    have hl := rv.length
    have p' : s.heap.IsTuple a its.toArray := p
    have D : Draws X.prog X.w X.A.in1 it [it, a] i (fun _ _ => True) (fun j h => j = i ∧ h.IsTupleIter it a j ∧ h.IsTuple a its.toArray) :=
      { live := fun _ _ st => let ⟨o, ho, _⟩ := st.2.1; ⟨o, ho⟩
        frame := fun _ _ _ st hk => ⟨st.1, st.2.1.at fun o e => hk it (by simp) o e, st.2.2.at fun o e => hk a (by simp) o e⟩
        item := fun j s Q E hi st hQ => absurd st.1 (Nat.ne_of_lt hi)
        done := fun s Q E st hE => wpAny_nextOf_tuple_end (show X.A.in1.handled = none from I.ok.hd hc) st.2.1 st.2.2 (by simp; omega) hE }
    exact wpAny_pyNext_enum_endD D he ⟨rfl, hit, p'⟩ fun g eb => ⟨rfl, I.turned (t' := s.toks) (fun b o hb q => eb b o hb q) f0 f1 f3 f4 f5⟩
  self := fun A i s Q E st h => let ⟨⟨_, he⟩, _⟩ := st; wpAny_pyIter_enum he h
def iEnumT (K : PySem.W.Frag) (ta : TA) : TI := fun σ H R => ta σ H fun vs H1 => ∃ a xs, vs = [.ref a] ∧ SqT K H1 a xs ∧ R (IteT K a) H1
theorem pi_enumT {X : Cx} {e : Expr} {ta : TA} {p pos tpos : Pos} {elts : List Expr} {kk : Nat} (hg : Gl X "enumerate") (hm : X.mg "enumerate" = none) (ha : PA X [e] ta) (hs : starEach [e] X.env = [(false, eval e X.env)] := by rfl) :
    PI X (.Tuple elts kk tpos) (.Call (.Name "enumerate" p) [e] [] pos) (iEnumT X.K ta) := by
  refine ⟨fun pins s σ H R I h => ?_⟩
  refine Call_ (ld_blt I hg hm boot_enumerate (PyProof.Rows.callWith_type1 (thn (ha.run pos pins s σ H _ I h) fun us t1 ⟨vs, H1, I1, r1, q1⟩ => ?_) hs rfl))
  obtain ⟨a, xs, ex, hq, q⟩ := q1
  subst ex
  cases r1 with
  | cons r rr =>
    cases rr
    cases r
    obtain ⟨its, rv, p1, hz⟩ := I1.tuple hq
    have p' : t1.heap.IsTuple a its.toArray := p1
    have ha : a < t1.heap.objs.size := by obtain ⟨o, ho, _⟩ := id p'; exact Heap.lt_size ho
    refine call_enumT p' fun g he hit hsz hk => wpAny_pyIter_enum he ?_
    have J : Inv X pins σ H1 { t1 with heap := g } := I1.kept (t' := t1.toks) hk
    refine ⟨t1.heap.objs.size + 1, [t1.heap.objs.size + 1, t1.heap.objs.size], _, _, H1, rfl, J, turn_enumT a (t1.heap.objs.size + 1) t1.heap.objs.size, ⟨⟨.none, he⟩, hit, Nat.succ_ne_self _, Nat.ne_of_lt (Nat.lt_succ_of_lt ha), Nat.ne_of_lt ha⟩, fun b hb => ?_, q⟩
    have hle : t1.heap.objs.size ≤ b := by
      rcases (by simpa using hb : b = t1.heap.objs.size + 1 ∨ b = t1.heap.objs.size) with z | z
      · rw [z]; exact Nat.le_succ _
      · rw [z]; exact Nat.le_refl _
    exact I1.fpOk hle (I1.hok.fresh hle)
theorem for_enumT {K : PySem.W.Frag} {a : Addr} {xs : List V} {g : TG} {tb : TS} {D : Ends} {σ : L2.St} {H : Hp} (Pv : Nat → L2.St → Hp → Prop) (h0 : Pv 0 σ H) (hq : ∀ i σ H, Pv i σ H → SqT K H a xs)
    (hs : ∀ (i : Nat) (x : V) (T : Addr) (σ : L2.St) (H : Hp), xs[i]? = some x → Pv i σ H → H T = none → g (.ref T) σ (upd H T (.tup [.int (i : Nat), x])) fun σ2 H2 => tb { D with nx := Pv (i + 1), ct := Pv (i + 1), bk := D.nx } σ2 H2) (hd : ∀ σ H, Pv xs.length σ H → D.nx σ H) :
    ∃ W : Nat → Nat → L2.St → Hp → Prop, (∃ m, W 0 m σ H) ∧ ∀ i m σ H, W i m σ H →
      ((IteT K a).stop i H ∧ D.nx σ H) ∨ ((IteT K a).go i H ∧ ∃ N : L2.St → Hp → Prop, (∀ σ' H', N σ' H' → ∃ m', m' < m ∧ W (i + 1) m' σ' H') ∧ ∀ v H', (IteT K a).yld i H v H' → g v σ H' fun σ2 H2 => tb { D with nx := N, ct := N, bk := D.nx } σ2 H2) := by
  refine ⟨fun i m σ H => m = xs.length - i ∧ i ≤ xs.length ∧ Pv i σ H, ⟨xs.length, rfl, Nat.zero_le _, h0⟩, ?_⟩
  rintro i m σ H ⟨rfl, hi, p⟩
  have qx := hq i σ H p
  by_cases hlt : i < xs.length
  · have hx : xs[i]? = some xs[i] := List.getElem?_eq_getElem hlt
    refine .inr ⟨⟨xs, _, qx, hx⟩, Pv (i + 1), fun σ' H' p' => ⟨xs.length - (i + 1), by omega, rfl, hlt, p'⟩, fun v H' y => ?_⟩
    obtain ⟨T, x', rfl, hT, rfl, f1⟩ := y
    exact hs i x' T σ H (f1 xs qx) p hT
  · have e : i = xs.length := by omega
    subst e
    exact .inl ⟨⟨xs, qx, Nat.le_refl _⟩, hd σ H p⟩
end EN
set_option Elab.async false
set_option linter.all false
set_option maxRecDepth 100000
/-! A loop with enumerate over a tuple of data. -/
namespace DL
open PySem PySem.Spec PyProof.Rows L2 Evl TB EN
section
variable {W : Wd} {H0 : Hp} {ρ : List (Option Sl)} {te : TE} {K : PySem.W.Frag}
theorem d_forE {te : TE} {g : TG} {tb : TS} {D : Ends} {σ : L2.St} {H : Hp} (h : te σ H fun v H => ∃ a xs, [v] = [V.ref a] ∧ SqT K H a xs ∧ ∃ Wx : Nat → Nat → L2.St → Hp → Prop, (∃ m, Wx 0 m σ H) ∧ ∀ i' m σ H, Wx i' m σ H → ((IteT K a).stop i' H ∧ D.nx σ H) ∨
      ((IteT K a).go i' H ∧ ∃ N : L2.St → Hp → Prop, (∀ σ' H', N σ' H' → ∃ m', m' < m ∧ Wx (i' + 1) m' σ' H') ∧ ∀ x H', (IteT K a).yld i' H x H' → g x σ H' fun σ2 H2 => tb { D with nx := N, ct := N, bk := D.nx } σ2 H2)) :
    tFor (iEnumT K (tCons te tNil)) g tb D σ H := h
theorem for_enumD {ds : List PyData} {i j : Nat} {tb : TS} {D : Ends} {τ : List (V × PyData)} {l : List (Addr × List PyData)} {σ : L2.St} {H : Hp} (he : EvP W H0 te ρ (· = .tuple ds)) (S : St W H0 ρ τ l σ H) (J : Nat → Prop) (Qr : List (Option Sl) → Prop) (hJ : J 0) (hQ : Qr ρ)
    (hs : ∀ (G : Hp) (k : Nat) (v : V) (d : PyData) (ρ' : List (Option Sl)) (σ' : L2.St) (H' : Hp), (∀ b o, H0 b = some o → ¬ W.N b → G b = some o) → (∀ b, G b = none → H0 b = none) → ds[k]? = some d → J k → Qr ρ' →
      St W G ((ρ'.set i (some (.dat (.int (k : Nat))))).set j (some (.dat d))) ((v, .tuple ds) :: τ) l σ' H' → ∀ Nx : L2.St → Hp → Prop, (∀ ρ2 σ2 H2, J (k + 1) → Qr ρ2 → St W G ρ2 ((v, .tuple ds) :: τ) l σ2 H2 → Nx σ2 H2) → tb { D with nx := Nx, ct := Nx, bk := D.nx } σ' H')
    (hd : ∀ v ρ' σ' H', J ds.length → Qr ρ' → St W H0 ρ' ((v, .tuple ds) :: τ) l σ' H' → D.nx σ' H') :
    tFor (iEnumT K (tCons te tNil)) (gTup K 2 (gCons (gName i) (gCons (gName j) gNil))) tb D σ H := by
  refine d_forE ?_
  refine he τ l σ H S _ fun v e H1 S1 p => ?_
  subst p
  obtain ⟨a, xs, rfl, hA, hlen, hna, u1, u2, B⟩ := S1.baseT
  have keep : ∀ {τ' l' σ' H' ρ'}, St W (upd H0 a (.tup xs)) ρ' τ' l' σ' H' → H' a = some (.tup xs) := fun S => S.off a _ upd_same hna
  refine ⟨a, xs, rfl, .inl (.inl hA), for_enumT (K := K) (a := a) (xs := xs) (fun k σ' H' => ∃ ρ', J k ∧ Qr ρ' ∧ St W (upd H0 a (.tup xs)) ρ' ((.ref a, .tuple ds) :: τ) l σ' H') ⟨ρ, hJ, hQ, B⟩ (fun k σ' H' h => ?_) (fun k x T σ' H' hx h hT => ?_) (fun σ' H' h => ?_)⟩
  · obtain ⟨ρ', _, _, S2⟩ := h
    exact .inl (.inl (keep S2))
  · obtain ⟨ρ', hj, hq, S2⟩ := h
    have hAk := keep S2
    obtain ⟨d, hd', S3⟩ := S2.item (xs := xs) (ds := ds) (fun N r => by
      cases r with
      | tup q1 q2 q3 => rw [hAk] at q1; cases q1; exact q3) hx
    have ex := Ex.new (o := .tup [.int (k : Nat), x]) hT
    obtain ⟨N', m3, m5, m4, q'⟩ := S3.ext
    have S4 := q' (upd H' T (.tup [.int (k : Nat), x])) ((.int (k : Nat), .int (k : Nat)) :: (x, d) :: (.ref a, .tuple ds) :: τ) ex fun p hp => by
      rcases List.mem_cons.mp hp with rfl | hp
      · exact .int _
      · exact (m5 p hp).ex ex
    refine ⟨T, _, rfl, .inl (.inl upd_same), rfl, _, _, rfl, _, _, rfl, rfl, ?_⟩
    exact hs _ k (.ref a) d ρ' _ _ u1 u2 hd' hj hq ((S4.set (i := i)).set (i := j)) _ fun ρ2 σ2 H2 h1 h2 h3 => ⟨ρ2, h1, h2, h3⟩
  · obtain ⟨ρ', hj, hq, S2⟩ := h
    rw [hlen] at hj
    exact hd _ ρ' σ' H' hj hq (S2.unbase u1 u2)
theorem d_forR {te : TE} {g : TG} {tb : TS} {D : Ends} {σ : L2.St} {H : Hp} (h : te σ H fun v H => ∃ n : Int, [v] = [V.int n] ∧ -(2 ^ 62) ≤ n ∧ n < 2 ^ 62 ∧ ∃ Wx : Nat → Nat → L2.St → Hp → Prop, (∃ m, Wx 0 m σ H) ∧ ∀ i' m σ H, Wx i' m σ H → ((Itr 0 n.toNat).stop i' H ∧ D.nx σ H) ∨
      ((Itr 0 n.toNat).go i' H ∧ ∃ N : L2.St → Hp → Prop, (∀ σ' H', N σ' H' → ∃ m', m' < m ∧ Wx (i' + 1) m' σ' H') ∧ ∀ x H', (Itr 0 n.toNat).yld i' H x H' → g x σ H' fun σ2 H2 => tb { D with nx := N, ct := N, bk := D.nx } σ2 H2)) :
    tFor (iRng1 (tCons te tNil)) g tb D σ H := h
/-- for i in range(n) -/
theorem for_rangeD {n : Nat} {i : Nat} {tb : TS} {D : Ends} {τ : List (V × PyData)} {l : List (Addr × List PyData)} {σ : L2.St} {H : Hp} (he : EvP W H0 te ρ (· = .int n)) (hn : n ≤ 1000) (S : St W H0 ρ τ l σ H) (J : Nat → Prop) (Qr : List (Option Sl) → Prop) (hJ : J 0) (hQ : Qr ρ)
    (hs : ∀ (k : Nat) (ρ' : List (Option Sl)) (σ' : L2.St) (H' : Hp), k < n → J k → Qr ρ' →
      St W H0 (ρ'.set i (some (.dat (.int (k : Nat))))) τ l σ' H' → ∀ Nx : L2.St → Hp → Prop, (∀ ρ2 σ2 H2, J (k + 1) → Qr ρ2 → St W H0 ρ2 τ l σ2 H2 → Nx σ2 H2) → tb { D with nx := Nx, ct := Nx, bk := D.nx } σ' H')
    (hd : ∀ ρ' σ' H', J n → Qr ρ' → St W H0 ρ' τ l σ' H' → D.nx σ' H') :
    tFor (iRng1 (tCons te tNil)) (gName i) tb D σ H := by
  refine d_forR ?_
  refine he τ l σ H S _ fun v e H1 S1 p => ?_
  subst p
  obtain ⟨N, n3, n5, n4, q⟩ := S1.ext
  have hv := n5 _ List.mem_cons_self
  cases hv
  refine ⟨n, rfl, by omega, by omega, ?_⟩
  refine for_range (lo := 0) (n := (n : Int).toNat) (fun k σ' H' => ∃ ρ', J k ∧ Qr ρ' ∧ St W H0 ρ' τ l σ' H') ⟨ρ, hJ, hQ, S1.pop⟩ (fun k σ' H' hk h => ?_) (fun σ' H' h => ?_)
  · obtain ⟨ρ', hj, hq, S2⟩ := h
    obtain ⟨N', m3, m5, m4, q'⟩ := S2.ext
    have S3 := q' H' ((.int (0 + (k : Int)), .int (k : Nat)) :: τ) ex_refl fun p hp => by
      rcases List.mem_cons.mp hp with rfl | hp
      · rw [Int.zero_add]; exact .int _
      · exact m5 p hp
    exact hs k ρ' _ _ (by omega) hj hq (S3.set (i := i)) _ fun ρ2 σ2 H2 h1 h2 h3 => ⟨ρ2, h1, h2, h3⟩
  · obtain ⟨ρ', hj, hq, S2⟩ := h
    exact hd ρ' σ' H' (by simpa using hj) hq S2
end
/-! ### the first that is told -/
def firstE (n : Nat) (f : Nat → Option PyData) : PyData := ((List.range n).findSome? f).getD .none
theorem first_none {n : Nat} {f : Nat → Option PyData} (h : ∀ k, k < n → f k = none) : firstE n f = .none := by
  unfold firstE
  have : (List.range n).findSome? f = none := by
    rw [List.findSome?_eq_none_iff]
    exact fun x hx => h x (List.mem_range.mp hx)
  rw [this]; rfl
theorem first_at {f : Nat → Option PyData} {i : Nat} {r : PyData} (h : ∀ k, k < i → f k = none) (hi : f i = some r) : ∀ n, i < n → (List.range n).findSome? f = some r
  | 0, h0 => absurd h0 (Nat.not_lt_zero _)
  | n + 1, h0 => by
    rw [List.range_succ, List.findSome?_append]
    by_cases z : i < n
    · rw [first_at h hi n z]; rfl
    · have : i = n := by omega
      subst this
      have e : (List.range i).findSome? f = none := by
        rw [List.findSome?_eq_none_iff]
        exact fun x hx => h x (List.mem_range.mp hx)
      rw [e, List.findSome?_cons, hi]; rfl
theorem first_eq {n i : Nat} {f : Nat → Option PyData} {r : PyData} (h : ∀ k, k < i → f k = none) (hi : f i = some r) (hn : i < n) : firstE n f = r := by
  unfold firstE
  rw [first_at h hi n hn]; rfl
theorem opd_isN {e : PyData} : OpD rIsN e .none (· = .bool (match e with | .none => true | _ => false)) := fun N H v1 v2 _ r1 r2 => by
  cases r2
  cases r1 <;> exact res_rfl (.bl _) fun Q q => ⟨rfl, q⟩
theorem opd_notN {e : PyData} : OpD rNotN e .none (· = .bool (!(match e with | .none => true | _ => false))) := fun N H v1 v2 _ r1 r2 => by
  cases r2
  cases r1 <;> exact res_rfl (.bl _) fun Q q => ⟨rfl, q⟩
end DL
set_option Elab.async false
set_option linter.all false
set_option maxRecDepth 100000
/-! Own errors with one field: made, raised, caught; defs that may raise, over data. -/
namespace TB
open PySem PySem.Spec PyProof.Rows L2
/-- __init__(self, f): self.f = f -/
def spIni (C : Addr) (f : Str) : Sp := fun vs H Q _ => ∃ (a : Addr) (v : V), vs = [.ref a, v] ∧ H a = some (exo a C none) ∧ ∀ dx, H dx = none → dx ≠ a → Q .non (upd (upd H dx (exd dx [(f, v)])) a (exo a C (some dx)))
/-- what the text tells of an own error class at C, the field f -/
structure ErrC (P : Program) (w : World) (K : PySem.W.Frag) (mg : Str → Option Value) (base : Heap) (x f : Str) (C : Addr) : Prop where
  g : mg x = some (.ref C)
  T : OexC K C
  xf : XfC K C
  no : PySem.W.findIn K (.ref C) f = some none
  te : PySem.W.exmOne K (.ref C) (.ref C) = some true
  init : ∃ (fI : Addr) (fd : FuncData) (ps : List Str), PySem.W.findIn K (.ref C) "__init__" = some (some (.ref fI)) ∧ PySem.W.typeIn K (.ref fI) = some (.type "function") ∧ Binds K fd ps [] ∧ FnOk P w K mg base CX0 1 fI fd ps (spIni C f)
theorem raise_at {C : Addr} {f : Str} {v : V} {H1 : Hp} {Q : XK} (h : ∀ d, H1 d = none → Q (.ref C) (some d) (upd H1 d (.xd [(f, v)]))) :
    [v].length ≤ 1000 ∧ ∀ a, H1 a = none → spIni C f (.ref a :: ([v] ++ [])) (upd H1 a (exo a C none))
      (fun u H2 => u = .non ∧ ∃ (d : Addr) (fs : List (Str × V)), H2 a = some (exo a C (some d)) ∧ H2 d = some (exd d fs) ∧ H1 d = none ∧ Q (.ref C) (some d) (upd (del H2 a) d (.xd fs))) (fun _ _ _ => False) := by
  refine ⟨(show 1 ≤ 1000 by decide), fun a ha => ⟨a, v, rfl, upd_same, fun dx hd hne => ⟨rfl, dx, _, upd_same, by rw [upd_ne hne, upd_same], ?_, ?_⟩⟩⟩
  · rwa [upd_ne hne] at hd
  · have hd' : H1 dx = none := by rwa [upd_ne hne] at hd
    have e : upd (del (upd (upd (upd H1 a (exo a C none)) dx (exd dx [(f, v)])) a (exo a C (some dx))) a) dx (.xd [(f, v)]) = upd H1 dx (.xd [(f, v)]) := by
      funext b
      by_cases z : b = dx
      · rw [z, upd_same, upd_same]
      · rw [upd_ne z, upd_ne z]
        by_cases y : b = a
        · rw [y, del_same, ha]
        · rw [del_ne y, upd_ne y, upd_ne z, upd_ne y]
    rw [e]
    exact h dx hd'
/-- raise x(e) -/
def tRaiseF (C : Addr) (f : Str) (W : WX) (ta : TA) : TS := fun _ σ H => tMkO C (spIni C f) [] ta σ H fun cls d H' => W cls d σ H'
theorem ps_raiseF {X : Cx} {W : WX} {x f : Str} {C : Addr} {e : Expr} {ta : TA} {p pos pos2 : Pos} (hc : X.calm = true) (G : ErrC X.prog X.w X.K X.mg X.base x f C) (hr : Room 2 X.A) (tk : Takes X W) (hg : Gl X x) (ha : PA X [e] ta)
    (hdb : (x == ("__debug__" : Str)) = false := by decide) (he : starEach (e :: []) X.env = (false, eval e X.env) :: starEach [] X.env := by rfl) (hpl : (backTo pos (starEach [] X.env)).any (·.1) = false := by rfl) :
    PS X (.Raise (some (.Call (.Name x p) [e] [] pos)) none pos2) (tRaiseF C f W ta) := by
  obtain ⟨fI, fd, ps, iC, tI, b, F1⟩ := G.init
  exact ps_raise hc tk (pmk_oex G.T iC tI F1 hr b .nil pass0 hg G.g ha hdb he hpl)
/-- a def that may raise -/
def KeepsX (P : Program) (w : World) (K : PySem.W.Frag) (mg : Str → Option Value) (base : Heap) (k : Nat) (x : Str) (ps : List Str) (sp : Sp) : Prop :=
  ∃ (f : Addr) (fd : FuncData), mg x = some (.ref f) ∧ PySem.W.keepIn K (.ref f) = true ∧ Binds K fd ps [] ∧ FnOk P w K mg base (L2.CX P w) k f fd ps sp
theorem keepsX_of {P : Program} {w : World} {K : PySem.W.Frag} {mg : Str → Option Value} {base : Heap} {k : Nat} {x q : Str} {st : Stmt} {f : Addr} {fd : FuncData} {ps : List Str} {sp : Sp}
    (F : Fun K x q st f fd) {y : Str} (g : mg y = some (.ref f)) (b : Binds K fd ps []) (G : FnOk P w K mg base (L2.CX P w) k f fd ps sp) : KeepsX P w K mg base k y ps sp := ⟨f, fd, g, F.kp, b, G⟩
theorem pe_ownX {X : Cx} {W : WX} {k : Nat} {x : Str} {ps : List Str} {sp : Sp} {e : Expr} {es : List Expr} {t : TA} {p pos : Pos}
    (h : KeepsX X.prog X.w X.K X.mg X.base k x ps sp) (hr : Room k X.A) (tk : Takes X W) (hg : Gl X x) (ha : PA X (e :: es) t) (hdb : (x == ("__debug__" : Str)) = false := by decide)
    (he : starEach (e :: es) X.env = (false, eval e X.env) :: starEach es X.env := by rfl) (hpl : (backTo pos (starEach es X.env)).any (·.1) = false := by rfl) :
    PE X (.Call (.Name x p) (e :: es) [] pos) (tCallS sp (WE W) t) := by
  obtain ⟨f, fd, g, kp, b, G⟩ := h
  exact pe_callS G hr hg g kp b (fun σ => passAt tk σ) ha hdb he hpl
/-- an error of the class at S is what «except S» names -/
theorem exm_own {K : PySem.W.Frag} {S : Addr} (h1 : PySem.W.subIn K (.ref S) (.type "BaseException") = some true) (h2 : PySem.W.isClsIn K S = true) (h3 : PySem.W.typeIn K (.ref S) = some (.type "type")) (h4 : PySem.W.subIn K (.ref S) (.ref S) = some true) :
    PySem.W.exmOne K (.ref S) (.ref S) = some true := by
  have a : (PySem.W.subIn K (.ref S) (.type "BaseException") == some true) = true := by rw [h1]; rfl
  have b : ((PySem.W.clsIn K S).isSome && PySem.W.typeIn K (.ref S) == some (.type "type")) = true := by
    have z : (PySem.W.clsIn K S).isSome = true := h2
    rw [z, h3]; rfl
  unfold PySem.W.exmOne
  rw [if_pos a]
  show (if _ then _ else _) = _
  rw [if_pos b]
  exact h4
end TB
namespace DL
open PySem PySem.Spec PyProof.Rows L2 Evl TB
/-- a def upon data that changes nothing and may raise the error at C: with A its value is one of F, or the error's field is one of G -/
def SpX (C : Addr) (f : Str) (A : List PyData → Prop) (F G : List PyData → PyData → Prop) : Sp := fun vs H Q E => ∃ N es, NOk N H ∧ RgAll N H vs es ∧ A es ∧ (∀ v e H', Ex H H' → Rg N H' v e → F es e → Q v H') ∧
  ∀ d v e H', H' d = some (.xd [(f, v)]) → Ex H H' → Rg N H' v e → G es e → E (.ref C) (some d) H'
section
variable {W : Wd} {H0 : Hp} {ρ : List (Option Sl)} {te : TE} {tas : TA} {P : PyData → Prop} {PA : List PyData → Prop} {C : Addr} {f : Str} {A : List PyData → Prop} {F G : List PyData → PyData → Prop}
theorem call_X {E : L2.St → XK} {τ : List (V × PyData)} {l : List (Addr × List PyData)} {σ : L2.St} {H : Hp} {Q : VK} (ha : EvA W H0 tas ρ PA) (hA : ∀ es, PA es → A es) (S : St W H0 ρ τ l σ H)
    (kq : ∀ v e es H', St W H0 ρ ((v, e) :: τ) l σ H' → PA es → F es e → Q v H') (ke : ∀ d v e es H', St W H0 ρ ((v, e) :: τ) l σ H' → H' d = some (.xd [(f, v)]) → PA es → G es e → E σ (.ref C) (some d) H') :
    tCallS (SpX C f A F G) E tas σ H Q :=
  ha τ l σ H S _ fun vs es H1 S1 le pa => by
    obtain ⟨N, n3, n5, n4, q⟩ := S1.ext
    have more : ∀ {v e H'}, Ex H1 H' → Rg N H' v e → St W H0 ρ ((v, e) :: τ) l σ H' := fun {v e H'} x r => q H' _ x fun p hp => by
      rcases List.mem_cons.mp hp with rfl | hp
      · exact r
      · exact (n5 p (List.mem_append_right _ hp)).ex x
    exact ⟨N, es, n3, zip_all le fun p hp => n5 p (List.mem_append_left _ hp), hA es pa, fun v e H' x r h => kq v e es H' (more x r) pa h, fun d v e H' hd x r h => ke d v e es H' (more x r) hd pa h⟩
theorem raise_X {Wx : WX} {τ : List (V × PyData)} {l : List (Addr × List PyData)} {σ : L2.St} {H : Hp} {D : Ends} (ha : EvP W H0 te ρ P) (S : St W H0 ρ τ l σ H)
    (k : ∀ d v e H', St W H0 ρ ((v, e) :: τ) l σ H' → H' d = some (.xd [(f, v)]) → P e → Wx (.ref C) (some d) σ H') : tRaiseF C f Wx (tCons te tNil) D σ H :=
  ha τ l σ H S _ fun v e H1 S1 p => raise_at (C := C) (f := f) (v := v) (H1 := H1) (Q := fun cls d H' => Wx cls d σ H') fun d hd => by
    obtain ⟨N, n3, n5, n4, q⟩ := S1.ext
    exact k d v e _ (q _ ((v, e) :: τ) (Ex.new hd) fun p hp => (n5 p hp).ex (Ex.new hd)) upd_same p
end
end DL
set_option Elab.async false
set_option linter.all false
set_option maxRecDepth 100000
set_option maxHeartbeats 2000000
/-! zip of two or three, each a list or a tuple. -/
namespace ZP
open PySem PySem.Spec PyProof.Rows L2 RZ
theorem nn {a b : Nat} (h : a ≠ b) : @Ne Addr a b := h
open PySem.Sem (wp)
/-- an iterator of a list (true) or of a tuple, at a place -/
def ItK (κ : Bool) (h : Heap) (it l : Addr) (k : Nat) : Prop := match κ with
  | true => h.IsListIter it l k
  | false => h.IsTupleIter it l k
def SqK (κ : Bool) (h : Heap) (l : Addr) (xs : Array Value) : Prop := match κ with
  | true => h.IsList l xs
  | false => h.IsTuple l xs
def SqV (κ : Bool) (K : PySem.W.Frag) (H : Hp) (a : Addr) (xs : List V) : Prop := match κ with
  | true => SqL K H a xs
  | false => SqT K H a xs
def itObj (κ : Bool) (l : Addr) : Obj := match κ with
  | true => { cls := .type "list_iterator", data := .fields #[.ref l, .int 0 0] }
  | false => { cls := .type "tuple_iterator", data := .fields #[.ref l, .int 0 0] }
theorem itObj_ok (κ : Bool) (l : Addr) : (itObj κ l).isFreed = false := by cases κ <;> rfl
theorem ItK.at {κ : Bool} {h h' : Heap} {a l : Addr} {k : Nat} (x : ItK κ h a l k) (e : ∀ o, h.get? a = some o → h'.get? a = some o) : ItK κ h' a l k := by
  cases κ with
  | true => exact Heap.IsListIter.at x e
  | false => exact Heap.IsTupleIter.at x e
theorem ItK.obj {κ : Bool} {h : Heap} {a l : Addr} {k : Nat} (x : ItK κ h a l k) : ∃ o, h.get? a = some o ∧ ∀ v, o.data ≠ .cell v := by
  cases κ with
  | true => obtain ⟨o, e, _, d⟩ := x; exact ⟨o, e, fun v q => by rw [d] at q; cases q⟩
  | false => obtain ⟨o, e, _, d⟩ := x; exact ⟨o, e, fun v q => by rw [d] at q; cases q⟩
theorem itK_new {κ : Bool} {h : Heap} {a l : Addr} (x : h.get? a = some (itObj κ l)) : ItK κ h a l 0 := by
  cases κ with
  | true => exact ⟨_, x, rfl, rfl⟩
  | false => exact ⟨_, x, rfl, rfl⟩
theorem SqK.at {κ : Bool} {h h' : Heap} {a : Addr} {xs : Array Value} (x : SqK κ h a xs) (e : ∀ o, h.get? a = some o → h'.get? a = some o) : SqK κ h' a xs := by
  cases κ with
  | true => obtain ⟨o, ho, r⟩ := x; exact ⟨o, e _ ho, r⟩
  | false => obtain ⟨o, ho, r⟩ := x; exact ⟨o, e _ ho, r⟩
theorem SqK.lt {κ : Bool} {h : Heap} {a : Addr} {xs : Array Value} (x : SqK κ h a xs) : a < h.objs.size := by
  cases κ with
  | true => obtain ⟨o, ho, r⟩ := x; exact Heap.lt_size ho
  | false => obtain ⟨o, ho, r⟩ := x; exact Heap.lt_size ho
section
variable {prog : Program} {w : World} {A : Around} {E : Value → Shared → Prop} {s : Shared}
theorem nextK_item {κ : Bool} {it l : Addr} {i : Nat} {items} {x : Value} {Q : Value → Shared → Prop} (hit : ItK κ s.heap it l i) (hl : SqK κ s.heap l items) (hx : items[i]? = some x)
    (hQ : ∀ h', ItK κ h' it l (i + 1) → Heap.SameBut it s.heap h' → Q x { s with heap := h' }) : wpAny (model prog w) A (Builtin.SmallTypes.nextOf (.ref it)) Q E s := by
  cases κ with
  | true => exact wpAny_nextOf_list_item hit hl hx hQ
  | false => exact nextOf_tuple_item hit hl hx hQ
theorem nextK_end {κ : Bool} {it l : Addr} {i : Nat} {items} {Q : Value → Shared → Prop} (hh : A.handled = none) (hit : ItK κ s.heap it l i) (hl : SqK κ s.heap l items) (hx : items[i]? = none)
    (hE : ∀ h' e, Heap.ExtBut it s.heap h' → (∃ o, h'.get? e = some o ∧ o.cls = .type "StopIteration") → E (.ref e) { s with heap := h' }) : wpAny (model prog w) A (Builtin.SmallTypes.nextOf (.ref it)) Q E s := by
  cases κ with
  | true => exact wpAny_nextOf_list_end hh hit hl hx hE
  | false => exact nextOf_tuple_end hh hit hl hx hE
theorem iterK {κ : Bool} {l : Addr} {items} {Q : Value → Shared → Prop} (hl : SqK κ s.heap l items) (hQ : Q (.ref s.heap.objs.size) { s with heap := s.heap.push (itObj κ l) }) : wpAny (model prog w) A (pyIter (.ref l)) Q E s := by
  cases κ with
  | true => exact wpAny_pyIter_list hl hQ
  | false => exact wpAny_pyIter_tuple hl hQ
end
theorem sqV_seq {X : Cx} {pins : List (Addr × Obj)} {σ : L2.St} {H : Hp} {s : Shared} {κ : Bool} {a : Addr} {xs : List V} (I : Inv X pins σ H s) (h : SqV κ X.K H a xs) : ∃ its : List Value, Vals xs its ∧ SqK κ s.heap a its.toArray := by
  cases κ with
  | true => obtain ⟨its, rv, p, _⟩ := I.list h; exact ⟨its, rv, p.isList⟩
  | false => obtain ⟨its, rv, p, _⟩ := I.tuple h; exact ⟨its, rv, p⟩
theorem sqV_inj {X : Cx} {pins : List (Addr × Obj)} {σ : L2.St} {H : Hp} {s : Shared} {κ : Bool} {a : Addr} {xs ys : List V} (I : Inv X pins σ H s) (h : SqV κ X.K H a xs) (h' : SqV κ X.K H a ys) : xs = ys := by
  cases κ with
  | true => exact I.list_inj h h'
  | false => exact I.tuple_inj h h'
theorem vals_2 {x1 x2 : V} {us : List Value} (r : Vals [x1, x2] us) : ∃ u1 u2, us = [u1, u2] ∧ RelV x1 u1 ∧ RelV x2 u2 := by
  cases r with
  | cons r1 r => cases r with
    | cons r2 r => cases r; exact ⟨_, _, rfl, r1, r2⟩
theorem vals_3 {x1 x2 x3 : V} {us : List Value} (r : Vals [x1, x2, x3] us) : ∃ u1 u2 u3, us = [u1, u2, u3] ∧ RelV x1 u1 ∧ RelV x2 u2 ∧ RelV x3 u3 := by
  cases r with
  | cons r1 r => cases r with
    | cons r2 r => cases r with
      | cons r3 r => cases r; exact ⟨_, _, _, rfl, r1, r2, r3⟩
abbrev IsRow2 (h : Heap) (T : Addr) (a1 a2 : Value) : Prop := h.get? T = some { cls := .type "tuple", data := .seq #[a1, a2] }
theorem updRow2 {prog : Program} {w : World} {A : Around} {E : Value → Shared → Prop} {s : Shared} {T : Addr} {a1 a2 x : Value} {k : Nat} {Q : Unit → Shared → Prop} (hT : IsRow2 s.heap T a1 a2)
    (h : ∀ h', h'.get? T = some { cls := .type "tuple", data := .seq ((#[a1, a2] : Array Value).setIfInBounds k x) } → Heap.SameBut T s.heap h' → Q () { s with heap := h' }) :
    wpAny (model prog w) A (updateSeq T (·.setIfInBounds k x)) Q E s := by
  refine wpAny_updateSeq hT rfl (h _ ?_ (Heap.SameBut.update ..))
  rw [Heap.get?_update_self _ hT rfl]
  simp [Obj.mapSeq]
/-- the zip object and its parts, at b and behind; the sources below b -/
structure Zs2 (h : Heap) (b l1 l2 : Nat) (κ1 κ2 : Bool) (f0 : Value) (k : Nat) : Prop where
  hz : IsZip h (b + 4) (b + 2) (b + 3) f0
  hTI : IsRow2 h (b + 2) (.ref b) (.ref (b + 1))
  hTO : ∃ a1 a2, IsRow2 h (b + 3) a1 a2
  h1 : ItK κ1 h b l1 k
  h2 : ItK κ2 h (b + 1) l2 k
  lt1 : l1 < b
  lt2 : l2 < b
section
variable {prog : Program} {w : World} {A : Around} {E : Value → Shared → Prop} {s : Shared} {b l1 l2 : Nat} {κ1 κ2 : Bool} {k : Nat} {xs1 xs2 : Array Value} {x1 x2 : Value}
theorem zip2_item {Q : Value → Shared → Prop} (D : Zs2 s.heap b l1 l2 κ1 κ2 .none k) (hl1 : SqK κ1 s.heap l1 xs1) (hl2 : SqK κ2 s.heap l2 xs2) (hx1 : xs1[k]? = some x1) (hx2 : xs2[k]? = some x2)
    (hQ : ∀ h', Zs2 h' b l1 l2 κ1 κ2 (rawInt s.heap.objs.size) (k + 1) → IsRow2 h' s.heap.objs.size x1 x2 → h'.objs.size = s.heap.objs.size + 1 →
      (∀ (c : Nat) o, (c < b ∨ b + 4 < c) → s.heap.get? c = some o → h'.get? c = some o) → Q (.ref s.heap.objs.size) { s with heap := h' }) :
    wpAny (model prog w) A (Builtin.«zip.__next__» ⟨[.ref (b + 4)], []⟩) (fun fin s' => ∃ v, fin = .done (.ret v) ∧ Q v s') E s := by
  obtain ⟨hz, hTI, ⟨a1, a2, hTO⟩, h1, h2, lt1, lt2⟩ := D
  show wpAny _ _ (field (.ref (b + 4)) 2 >>= _) _ _ _
  refine wpAny_bind (wpAny_field hz rfl (x := .bool false) rfl ?_)
  show wpAny _ _ (field (.ref (b + 4)) 3 >>= _) _ _ _
  refine wpAny_bind (wpAny_field hz rfl (x := .ref (b + 2)) rfl ?_)
  refine wpAny_bind (wpAny_seqItems hTI rfl ?_)
  show wpAny _ _ (Builtin.SmallTypes.ownedTupleIsFree (.ref (b + 4)) >>= _) _ _ _
  refine wpAny_bind ?_
  unfold Builtin.SmallTypes.ownedTupleIsFree
  refine wpAny_bind (wpAny_field hz rfl (x := .none) rfl (wpAny_pure ?_))
  simp only [if_true]
  refine wpAny_bind (wpAny_rule ?_)
  refine wpAny_bind (wpAny_field hz rfl (x := .ref (b + 3)) rfl ?_)
  refine wpAny_bind (wpAny_setField_rec hz (by simp) fun g0 hz0 s0 => ?_)
  replace hz0 : IsZip g0 (b + 4) (b + 2) (b + 3) .ellipsis := hz0
  refine wpAny_bind ?_
  simp only [List.zipIdx_cons, List.zipIdx_nil, List.forIn_cons, List.forIn_nil]
  have T0 : IsRow2 g0 (b + 3) a1 a2 := s0.extBut _ _ (nn (by omega)) hTO
  have up0 : ∀ (c : Nat) o, c ≠ (b + 4) → s.heap.get? c = some o → g0.get? c = some o := fun c o hc e => s0.extBut _ _ hc e
  refine wpAny_bind (wpAny_bind (wpAny_onRaise ?_))
  show wpAny _ _ (Builtin.SmallTypes.nextOf (.ref b) >>= _) _ _ _
  refine wpAny_bind (nextK_item (h1.at fun o e => up0 _ o (nn (by omega)) e) (hl1.at fun o e => up0 _ o (nn (by omega)) e) hx1 fun p1 hp1 sp1 => wpAny_pure ?_)
  have U1 : IsRow2 p1 (b + 3) a1 a2 := sp1.extBut _ _ (nn (by omega)) T0
  refine wpAny_bind (wpAny_seqItems U1 rfl ?_)
  refine wpAny_bind (updRow2 U1 fun g1 T1 s1 => ?_)
  replace T1 : IsRow2 g1 (b + 3) x1 a2 := T1
  have up1 : ∀ (c : Nat) o, c ≠ (b + 4) → c ≠ (b + 3) → c ≠ b → s.heap.get? c = some o → g1.get? c = some o := fun c o q0 q1 q2 e => s1.extBut _ _ q1 (sp1.extBut _ _ q2 (up0 c o q0 e))
  have Z1 : IsZip g1 (b + 4) (b + 2) (b + 3) .ellipsis := s1.extBut _ _ (nn (by omega)) (sp1.extBut _ _ (nn (by omega)) hz0)
  have sz1 : g1.objs.size = s.heap.objs.size := by rw [s1.1, sp1.1, s0.1]
  have H11 : ItK κ1 g1 b l1 (k + 1) := hp1.at fun o e => s1.extBut _ _ (nn (by omega)) e
  refine wpAny_bind (wpAny_letGo (wpAny_pure ?_))
  refine wpAny_bind (wpAny_bind (wpAny_onRaise ?_))
  show wpAny _ _ (Builtin.SmallTypes.nextOf (.ref (b + 1)) >>= _) _ _ _
  refine wpAny_bind (nextK_item (h2.at fun o e => up1 _ o (nn (by omega)) (nn (by omega)) (nn (by omega)) e) (hl2.at fun o e => up1 _ o (nn (by omega)) (nn (by omega)) (nn (by omega)) e) hx2 fun p2 hp2 sp2 => wpAny_pure ?_)
  have U2 : IsRow2 p2 (b + 3) x1 a2 := sp2.extBut _ _ (nn (by omega)) T1
  refine wpAny_bind (wpAny_seqItems U2 rfl ?_)
  refine wpAny_bind (updRow2 U2 fun g2 T2 s2 => ?_)
  replace T2 : IsRow2 g2 (b + 3) x1 x2 := T2
  have up2 : ∀ (c : Nat) o, c ≠ (b + 4) → c ≠ (b + 3) → c ≠ b → c ≠ (b + 1) → s.heap.get? c = some o → g2.get? c = some o := fun c o q0 q1 q2 q3 e => s2.extBut _ _ q1 (sp2.extBut _ _ q3 (up1 c o q0 q1 q2 e))
  have Z2 : IsZip g2 (b + 4) (b + 2) (b + 3) .ellipsis := s2.extBut _ _ (nn (by omega)) (sp2.extBut _ _ (nn (by omega)) Z1)
  have sz2 : g2.objs.size = s.heap.objs.size := by rw [s2.1, sp2.1, sz1]
  have H22 : ItK κ2 g2 (b + 1) l2 (k + 1) := hp2.at fun o e => s2.extBut _ _ (nn (by omega)) e
  have H12 : ItK κ1 g2 b l1 (k + 1) := H11.at fun o e => s2.extBut _ _ (nn (by omega)) (sp2.extBut _ _ (nn (by omega)) e)
  refine wpAny_bind (wpAny_letGo (wpAny_pure (wpAny_pure ?_)))
  refine wpAny_bind (wpAny_seqItems T2 rfl ?_)
  refine wpAny_bind (wpAny_newTuple ?_)
  have zlt : (b + 4) < g2.objs.size := Heap.lt_size Z2
  show wpAny _ _ (Builtin.SmallTypes.ownedTupleHandOut (.ref (b + 4)) (.ref g2.objs.size) >>= _) _ _ _
  refine wpAny_bind ?_
  unfold Builtin.SmallTypes.ownedTupleHandOut
  have z6 : IsZip (g2.push { cls := .type "tuple", data := .seq #[x1, x2] }) (b + 4) (b + 2) (b + 3) .ellipsis := Heap.get?_push_of_some _ Z2
  refine wpAny_bind (wpAny_setField_rec z6 (by simp) fun h₇ hz₇ hs₇ => ?_)
  replace hz₇ : IsZip h₇ (b + 4) (b + 2) (b + 3) (rawInt g2.objs.size) := hz₇
  refine wpAny_setField_rec hz₇ (by simp) fun h₈ hz₈ hs₈ => ?_
  replace hz₈ : IsZip h₈ (b + 4) (b + 2) (b + 3) (rawInt g2.objs.size) := hz₈
  have up : ∀ (c : Nat) o, c ≠ (b + 4) → g2.get? c = some o → h₈.get? c = some o := fun c o c1 e => hs₈.extBut _ _ c1 (hs₇.extBut _ _ c1 (Heap.get?_push_of_some _ e))
  have hT₈ : IsRow2 h₈ g2.objs.size x1 x2 := hs₈.extBut _ _ (Nat.ne_of_gt zlt) (hs₇.extBut _ _ (Nat.ne_of_gt zlt) (Heap.get?_push_size _ rfl))
  have hz8 : h₈.objs.size = g2.objs.size + 1 := by rw [hs₈.1, hs₇.1, Heap.size_push]
  have eTI : IsRow2 h₈ (b + 2) (.ref b) (.ref (b + 1)) := up _ _ (nn (by omega)) (up2 _ _ (nn (by omega)) (nn (by omega)) (nn (by omega)) (nn (by omega)) hTI)
  have eTO : IsRow2 h₈ (b + 3) x1 x2 := up _ _ (nn (by omega)) T2
  rw [sz2] at hz₈ hT₈ hz8
  refine wpAny_pure ⟨_, rfl, ?_⟩
  show Q (.ref g2.objs.size) _
  rw [sz2]
  exact hQ h₈ ⟨hz₈, eTI, ⟨_, _, eTO⟩, H12.at fun o e => up _ o (nn (by omega)) e, H22.at fun o e => up _ o (nn (by omega)) e, lt1, lt2⟩ hT₈ hz8 fun c o hc e => up c o (nn (by omega)) (up2 c o (nn (by omega)) (nn (by omega)) (nn (by omega)) (nn (by omega)) e)
theorem zip2_end {Q : Fin → Shared → Prop} (hh : A.handled = none) (D : Zs2 s.heap b l1 l2 κ1 κ2 .none k) (hl1 : SqK κ1 s.heap l1 xs1) (hl2 : SqK κ2 s.heap l2 xs2) (hend : xs1[k]? = none ∨ xs2[k]? = none)
    (hE : ∀ h' e, (∀ (c : Nat) o, (c < b ∨ b + 4 < c) → s.heap.get? c = some o → h'.get? c = some o) → (∃ o, h'.get? e = some o ∧ o.cls = .type "StopIteration") → E (.ref e) { s with heap := h' }) :
    wpAny (model prog w) A (Builtin.«zip.__next__» ⟨[.ref (b + 4)], []⟩) Q E s := by
  obtain ⟨hz, hTI, ⟨a1, a2, hTO⟩, h1, h2, lt1, lt2⟩ := D
  show wpAny _ _ (field (.ref (b + 4)) 2 >>= _) _ _ _
  refine wpAny_bind (wpAny_field hz rfl (x := .bool false) rfl ?_)
  show wpAny _ _ (field (.ref (b + 4)) 3 >>= _) _ _ _
  refine wpAny_bind (wpAny_field hz rfl (x := .ref (b + 2)) rfl ?_)
  refine wpAny_bind (wpAny_seqItems hTI rfl ?_)
  show wpAny _ _ (Builtin.SmallTypes.ownedTupleIsFree (.ref (b + 4)) >>= _) _ _ _
  refine wpAny_bind ?_
  unfold Builtin.SmallTypes.ownedTupleIsFree
  refine wpAny_bind (wpAny_field hz rfl (x := .none) rfl (wpAny_pure ?_))
  simp only [if_true]
  refine wpAny_bind (wpAny_rule ?_)
  refine wpAny_bind (wpAny_field hz rfl (x := .ref (b + 3)) rfl ?_)
  refine wpAny_bind (wpAny_setField_rec hz (by simp) fun g0 hz0 s0 => ?_)
  replace hz0 : IsZip g0 (b + 4) (b + 2) (b + 3) .ellipsis := hz0
  refine wpAny_bind ?_
  simp only [List.zipIdx_cons, List.zipIdx_nil, List.forIn_cons, List.forIn_nil]
  have T0 : IsRow2 g0 (b + 3) a1 a2 := s0.extBut _ _ (nn (by omega)) hTO
  have up0 : ∀ (c : Nat) o, c ≠ (b + 4) → s.heap.get? c = some o → g0.get? c = some o := fun c o hc e => s0.extBut _ _ hc e
  refine wpAny_bind (wpAny_bind (wpAny_onRaise ?_))
  show wpAny _ _ (Builtin.SmallTypes.nextOf (.ref b) >>= _) _ _ _
  cases hy : xs1[k]? with
  | none =>
    refine wpAny_bind (nextK_end hh (h1.at fun o e => up0 _ o (nn (by omega)) e) (hl1.at fun o e => up0 _ o (nn (by omega)) e) hy fun h₂ e hs₂ he => ?_)
    obtain ⟨oe, hoe, hce⟩ := he
    have hz₂ : IsZip h₂ (b + 4) (b + 2) (b + 3) .ellipsis := hs₂ _ _ (nn (by omega)) hz0
    have hez : e ≠ (b + 4) := fun x => by subst x; rw [hz₂] at hoe; cases hoe; simp at hce
    exact wpAny_setField_rec hz₂ (by simp) fun h₃ _ hs₃ => hE h₃ e (fun c o hc x => hs₃.extBut _ _ (nn (by omega)) (hs₂ _ _ (nn (by omega)) (up0 c o (nn (by omega)) x))) ⟨oe, hs₃.extBut _ _ hez hoe, hce⟩
  | some x1 =>
    have hend : xs2[k]? = none := hend.resolve_left (by rw [hy]; simp)
    refine wpAny_bind (nextK_item (h1.at fun o e => up0 _ o (nn (by omega)) e) (hl1.at fun o e => up0 _ o (nn (by omega)) e) hy fun p1 hp1 sp1 => wpAny_pure ?_)
    clear hy
    have U1 : IsRow2 p1 (b + 3) a1 a2 := sp1.extBut _ _ (nn (by omega)) T0
    refine wpAny_bind (wpAny_seqItems U1 rfl ?_)
    refine wpAny_bind (updRow2 U1 fun g1 T1 s1 => ?_)
    replace T1 : IsRow2 g1 (b + 3) x1 a2 := T1
    have up1 : ∀ (c : Nat) o, c ≠ (b + 4) → c ≠ (b + 3) → c ≠ b → s.heap.get? c = some o → g1.get? c = some o := fun c o q0 q1 q2 e => s1.extBut _ _ q1 (sp1.extBut _ _ q2 (up0 c o q0 e))
    have Z1 : IsZip g1 (b + 4) (b + 2) (b + 3) .ellipsis := s1.extBut _ _ (nn (by omega)) (sp1.extBut _ _ (nn (by omega)) hz0)
    refine wpAny_bind (wpAny_letGo (wpAny_pure ?_))
    refine wpAny_bind (wpAny_bind (wpAny_onRaise ?_))
    show wpAny _ _ (Builtin.SmallTypes.nextOf (.ref (b + 1)) >>= _) _ _ _
    have hy := hend
    refine wpAny_bind (nextK_end hh (h2.at fun o e => up1 _ o (nn (by omega)) (nn (by omega)) (nn (by omega)) e) (hl2.at fun o e => up1 _ o (nn (by omega)) (nn (by omega)) (nn (by omega)) e) hy fun h₂ e hs₂ he => ?_)
    obtain ⟨oe, hoe, hce⟩ := he
    have hz₂ : IsZip h₂ (b + 4) (b + 2) (b + 3) .ellipsis := hs₂ _ _ (nn (by omega)) Z1
    have hez : e ≠ (b + 4) := fun x => by subst x; rw [hz₂] at hoe; cases hoe; simp at hce
    exact wpAny_setField_rec hz₂ (by simp) fun h₃ _ hs₃ => hE h₃ e (fun c o hc x => hs₃.extBut _ _ (nn (by omega)) (hs₂ _ _ (nn (by omega)) (up1 c o (nn (by omega)) (nn (by omega)) (nn (by omega)) x))) ⟨oe, hs₃.extBut _ _ hez hoe, hce⟩
theorem pyNext_zip2_item {Q : Option Value → Shared → Prop} (D : Zs2 s.heap b l1 l2 κ1 κ2 .none k) (hl1 : SqK κ1 s.heap l1 xs1) (hl2 : SqK κ2 s.heap l2 xs2) (hx1 : xs1[k]? = some x1) (hx2 : xs2[k]? = some x2)
    (hQ : ∀ h', Zs2 h' b l1 l2 κ1 κ2 (rawInt s.heap.objs.size) (k + 1) → IsRow2 h' s.heap.objs.size x1 x2 → h'.objs.size = s.heap.objs.size + 1 →
      (∀ (c : Nat) o, (c < b ∨ b + 4 < c) → s.heap.get? c = some o → h'.get? c = some o) → Q (some (.ref s.heap.objs.size)) { s with heap := h' }) :
    wpAny (model prog w) A (pyNext (.ref (b + 4))) Q E s := by
  have hT : s.TypeIs (.ref (b + 4)) "zip" := ⟨_, D.hz, rfl⟩
  unfold pyNext
  exact wpAny_bind (wpAny_attempt (wpAny_callSpecial?_slot (name := Str.ofString "__next__") hT F.slot_zip_next
    (wpAny_call_entry F.slot_zip_next hT F.entry_zip_next
      (zip2_item D hl1 hl2 hx1 hx2 fun h' q1 q2 q3 q4 => wpAny_pure (hQ h' q1 q2 q3 q4)) (F.args_zip_next_1 _))))
theorem pyNext_zip2_end {Q : Option Value → Shared → Prop} (hh : A.handled = none) (D : Zs2 s.heap b l1 l2 κ1 κ2 .none k) (hl1 : SqK κ1 s.heap l1 xs1) (hl2 : SqK κ2 s.heap l2 xs2) (hend : xs1[k]? = none ∨ xs2[k]? = none)
    (hQ : ∀ h', (∀ (c : Nat) o, (c < b ∨ b + 4 < c) → s.heap.get? c = some o → h'.get? c = some o) → Q none { s with heap := h' }) : wpAny (model prog w) A (pyNext (.ref (b + 4))) Q E s := by
  have hT : s.TypeIs (.ref (b + 4)) "zip" := ⟨_, D.hz, rfl⟩
  unfold pyNext
  refine wpAny_bind (wpAny_attempt (wpAny_callSpecial?_slot (name := Str.ofString "__next__") hT F.slot_zip_next
    (wpAny_call_entry F.slot_zip_next hT F.entry_zip_next (zip2_end hh D hl1 hl2 hend fun h' e hk he => ?_) (F.args_zip_next_1 _))))
  obtain ⟨o, ho, hc⟩ := he
  refine wpAny_bind (wpAny_isInstance (T := "StopIteration") (b := true) ⟨o, ho, hc⟩ isSubtype_stop ?_)
  exact wpAny_pure (hQ _ hk)
end
abbrev zq2_1 (h : Heap) (l1 : Addr) (κ1 : Bool) : Heap := (h).push (itObj κ1 l1)
abbrev zq2_2 (h : Heap) (l1 l2 : Addr) (κ1 κ2 : Bool) : Heap := (zq2_1 h l1 κ1).push (itObj κ2 l2)
abbrev zq2_t (h : Heap) (l1 l2 : Addr) (κ1 κ2 : Bool) : Heap := (zq2_2 h l1 l2 κ1 κ2).push { cls := .type "tuple", data := .seq #[.ref h.objs.size, .ref (zq2_1 h l1 κ1).objs.size] }
abbrev zq2_o (h : Heap) (l1 l2 : Addr) (κ1 κ2 : Bool) : Heap := (zq2_t h l1 l2 κ1 κ2).push { cls := .type "tuple", data := .seq #[.none, .none] }
abbrev zq2_z (h : Heap) (l1 l2 : Addr) (κ1 κ2 : Bool) : Heap := (zq2_o h l1 l2 κ1 κ2).push { cls := .type "zip", data := .fields #[.none, .bool false, .bool false, .ref (zq2_2 h l1 l2 κ1 κ2).objs.size, .ref (zq2_t h l1 l2 κ1 κ2).objs.size] }
theorem meets_zip2_new (l1 l2 : Addr) (xs1 xs2 : Array Value) (κ1 κ2 : Bool) :
    Meets (Builtin.«zip.__new__» ⟨[.type "zip", .ref l1, .ref l2], []⟩) (fun _ R s => SqK κ1 s.heap l1 xs1 ∧ SqK κ2 s.heap l2 xs2 ∧
      R (.ok (.ret (.ref (zq2_o s.heap l1 l2 κ1 κ2).objs.size))) { s with heap := zq2_z s.heap l1 l2 κ1 κ2 }) :=
  .of_wp fun prog w A R s h => by
    obtain ⟨hp, g, d, tk, os⟩ := s; obtain ⟨hl1, hl2, h⟩ := h
    have hsub := sub_zip
    have hL1 : SqK κ1 (Shared.heap ⟨hp, g, d, tk, os⟩) l1 xs1 := hl1
    have hL2 : SqK κ2 (Shared.heap ⟨zq2_1 hp l1 κ1, g, d, tk, os⟩) l2 xs2 := hl2.at fun o e => Heap.get?_push_of_some _ e
    wp_walk using iterK hL1, iterK hL2
    exact ⟨_, rfl, h⟩
theorem call_zip2 {prog : Program} {w : World} {A : Around} {E : Value → Shared → Prop} {s : Shared} {l1 l2 : Addr} {xs1 xs2 : Array Value} {κ1 κ2 : Bool} {Q : Value → Shared → Prop} (hl1 : SqK κ1 s.heap l1 xs1) (hl2 : SqK κ2 s.heap l2 xs2)
    (h : ∀ h', Zs2 h' s.heap.objs.size l1 l2 κ1 κ2 .none 0 → h'.objs.size = s.heap.objs.size + 5 → (∀ (c : Nat) o, s.heap.get? c = some o → h'.get? c = some o) → Q (.ref (s.heap.objs.size + 4)) { s with heap := h' }) :
    wpAny (model prog w) A (call (.type "zip") [.ref l1, .ref l2]) Q E s := by
  refine callType_new F.called_zip (by decide) (F.typeCall_zip_2 _ _) (F.newCall_zip_2 _ _) (fun obj => F.args_object_init_3 obj _ _) F.entry_zip_new
    (meets_zip2_new l1 l2 xs1 xs2 κ1 κ2) ⟨hl1, hl2, ?_⟩
  have z1 : (zq2_1 s.heap l1 κ1).objs.size = s.heap.objs.size + 1 := by rw [Heap.size_push]
  have z2 : (zq2_2 s.heap l1 l2 κ1 κ2).objs.size = s.heap.objs.size + 2 := by rw [Heap.size_push, z1]
  have zt : (zq2_t s.heap l1 l2 κ1 κ2).objs.size = s.heap.objs.size + 3 := by rw [Heap.size_push, z2]
  have zo : (zq2_o s.heap l1 l2 κ1 κ2).objs.size = s.heap.objs.size + 4 := by rw [Heap.size_push, zt]
  have zz : (zq2_z s.heap l1 l2 κ1 κ2).objs.size = s.heap.objs.size + 5 := by rw [Heap.size_push, zo]
  have gz : (zq2_z s.heap l1 l2 κ1 κ2).get? (zq2_o s.heap l1 l2 κ1 κ2).objs.size = some _ := Heap.get?_push_size _ rfl
  have go : (zq2_z s.heap l1 l2 κ1 κ2).get? (zq2_t s.heap l1 l2 κ1 κ2).objs.size = some _ := Heap.get?_push_of_some _ (Heap.get?_push_size _ rfl)
  have gt : (zq2_z s.heap l1 l2 κ1 κ2).get? (zq2_2 s.heap l1 l2 κ1 κ2).objs.size = some _ := Heap.get?_push_of_some _ (Heap.get?_push_of_some _ (Heap.get?_push_size _ rfl))
  have g1 : (zq2_z s.heap l1 l2 κ1 κ2).get? s.heap.objs.size = some (itObj κ1 l1) := Heap.get?_push_of_some _ (Heap.get?_push_of_some _ (Heap.get?_push_of_some _ (Heap.get?_push_of_some _ (Heap.get?_push_size _ (itObj_ok _ _)))))
  have g2 : (zq2_z s.heap l1 l2 κ1 κ2).get? (zq2_1 s.heap l1 κ1).objs.size = some (itObj κ2 l2) := Heap.get?_push_of_some _ (Heap.get?_push_of_some _ (Heap.get?_push_of_some _ (Heap.get?_push_size _ (itObj_ok _ _))))
  show _ ∧ _
  rw [z2, zt, zo] at gz
  rw [zt] at go
  rw [z2] at gt
  rw [z1] at g2
  rw [z1] at gt
  rw [zo]
  exact ⟨⟨_, gz, rfl⟩, h _ ⟨gz, gt, ⟨_, _, go⟩, itK_new g1, itK_new g2, hl1.lt, hl2.lt⟩ zz fun c o x =>
    Heap.get?_push_of_some _ (Heap.get?_push_of_some _ (Heap.get?_push_of_some _ (Heap.get?_push_of_some _ (Heap.get?_push_of_some _ x))))⟩
/-- the sources as they stand at each turn, the items in new rows -/
def Itz2 (K : PySem.W.Frag) (l1 l2 : Addr) (κ1 κ2 : Bool) : It :=
  ⟨fun i H => ∃ (xs1 : List V) (xs2 : List V) (x1 : V) (x2 : V), SqV κ1 K H l1 xs1 ∧ SqV κ2 K H l2 xs2 ∧ xs1[i]? = some x1 ∧ xs2[i]? = some x2,
    fun i H v H' => ∃ T x1 x2, v = .ref T ∧ H T = none ∧ H' = upd H T (.tup [x1, x2]) ∧ (∀ xs, SqV κ1 K H l1 xs → xs[i]? = some x1) ∧ (∀ xs, SqV κ2 K H l2 xs → xs[i]? = some x2),
    fun i H => ∃ (xs1 : List V) (xs2 : List V), SqV κ1 K H l1 xs1 ∧ SqV κ2 K H l2 xs2 ∧ (xs1.length ≤ i ∨ xs2.length ≤ i)⟩
theorem turn_zip2 {P : Program} {w : World} {K : PySem.W.Frag} {elts : List Expr} {kk : Nat} {tpos : Pos} {b l1 l2 : Nat} {κ1 κ2 : Bool} :
    Turn P w K (.Tuple elts kk tpos) (Itz2 K l1 l2 κ1 κ2) [b, b + 1, b + 2, b + 3, b + 4] (b + 4) (fun i h => Zs2 h b l1 l2 κ1 κ2 .none i) where
  mem := by simp
  obj := fun i h st c hc => by
    obtain ⟨hz, hTI, ⟨a1, a2, hTO⟩, h1, h2, _, _⟩ := st
    have e' : c = b ∨ c = b + 1 ∨ c = b + 2 ∨ c = b + 3 ∨ c = b + 4 := by simpa using hc
    rcases e' with q | q | q | q | q
    · rw [q]; exact h1.obj
    · rw [q]; exact h2.obj
    · rw [q]; exact ⟨_, hTI, fun v q => nomatch q⟩
    · rw [q]; exact ⟨_, hTO, fun v q => nomatch q⟩
    · rw [q]; exact ⟨_, hz, fun v q => nomatch q⟩
  keep := fun i h h' st k => by
    obtain ⟨hz, hTI, ⟨a1, a2, hTO⟩, h1, h2, q1, q2⟩ := st
    exact ⟨k _ (by simp) _ hz, k _ (by simp) _ hTI, ⟨_, _, k _ (by simp) _ hTO⟩, h1.at fun o q => k _ (by simp) o q, h2.at fun o q => k _ (by simp) o q, q1, q2⟩
  item := by
    intro X hP hw hK hc i pins s σ H E I hf st hg
    subst hP hw hK
    obtain ⟨xs1, xs2, x1, x2, q1, q2, y1, y2⟩ := hg
    obtain ⟨its1, rv1, p1⟩ := sqV_seq I q1
    obtain ⟨u1, hu1, ru1⟩ := rv1.get y1
    obtain ⟨its2, rv2, p2⟩ := sqV_seq I q2
    obtain ⟨u2, hu2, ru2⟩ := rv2.get y2
    have hzl : (b + 4) < s.heap.objs.size := Heap.lt_size st.hz
    refine pyNext_zip2_item st p1 p2 (x1 := u1) (by simpa using hu1) (x2 := u2) (by simpa using hu2) fun h' z' hT hsz hk => ?_
    refine ⟨_, rfl, wpAny_letOwnedTupleGo_zip (s := { s with heap := h' }) z'.hz fun h'' z'' sb => ?_⟩
    have hT2 : h''.get? s.heap.objs.size = some { cls := .type "tuple", data := .seq #[u1, u2] } := (sb.2 _ (Nat.ne_of_gt hzl)).trans hT
    have new : ObjOk X.prog X.w (upd H s.heap.objs.size (.tup [x1, x2])) h'' s.heap.objs.size (.tup [x1, x2]) :=
      ⟨by show 2 ≤ sizeLine; decide, [u1, u2], .cons ru1 (.cons ru2 (.nil)), ⟨_, hT2, rfl, _, rfl⟩⟩
    have out : ∀ (c : Nat), c ∉ [b, b + 1, b + 2, b + 3, b + 4] → c < b ∨ b + 4 < c := fun c hc => by
      simp only [List.mem_cons, List.not_mem_nil, or_false, not_or] at hc
      omega
    have I1 : Inv X pins σ (upd H s.heap.objs.size (.tup [x1, x2])) { s with heap := h'' } :=
      I.turnedNew (t' := s.toks) (ch := [b, b + 1, b + 2, b + 3, b + 4]) (fun c o hb q => (sb.2 c (fun q' => hb (by simp [q']))).trans (hk c o (out c hb) q)) hf (Nat.le_refl _) new
    obtain ⟨_, eTI, ⟨a1, a2, eTO⟩, e1, e2, t1, t2⟩ := z'
    refine ⟨.ref s.heap.objs.size, _, I1, rfl, ⟨_, x1, x2, rfl, I.hok.fresh (Nat.le_refl _), rfl, fun l hl => by rw [sqV_inj I hl q1]; exact y1, fun l hl => by rw [sqV_inj I hl q2]; exact y2⟩, ⟨z'', ?_, ⟨a1, a2, ?_⟩, ?_, ?_, t1, t2⟩, fun c hcm => ?_⟩
    · exact (sb.2 _ (nn (by omega))).trans eTI
    · exact (sb.2 _ (nn (by omega))).trans eTO
    · exact e1.at fun o q => (sb.2 _ (nn (by omega))).trans q
    · exact e2.at fun o q => (sb.2 _ (nn (by omega))).trans q
    · have key : ∀ c : Nat, (c = b ∨ c = b + 1 ∨ c = b + 2 ∨ c = b + 3 ∨ c = b + 4) → c < s.heap.objs.size := fun c h => by
        have hzl' : (b + 4 : Nat) < s.heap.objs.size := hzl
        omega
      have hlt : c < s.heap.objs.size := key c (by simpa using hcm)
      rw [upd_ne (Nat.ne_of_lt hlt)]
      exact (hf c hcm).1
  done := by
    intro X hP hw hK hc i pins s σ H E I hf st hg
    subst hP hw hK
    obtain ⟨xs1, xs2, q1, q2, hend⟩ := hg
    obtain ⟨its1, rv1, p1⟩ := sqV_seq I q1
    have l1 := rv1.length
    obtain ⟨its2, rv2, p2⟩ := sqV_seq I q2
    have l2 := rv2.length
    have he : its1.toArray[i]? = none ∨ its2.toArray[i]? = none := by
      rcases hend with q | q
      · exact .inl (by simp; omega)
      · exact .inr (by simp; omega)
    have out : ∀ (c : Nat), c ∉ [b, b + 1, b + 2, b + 3, b + 4] → c < b ∨ b + 4 < c := fun c hc => by
      simp only [List.mem_cons, List.not_mem_nil, or_false, not_or] at hc
      omega
    exact pyNext_zip2_end (I.ok.hd hc) st p1 p2 he fun h' hk => ⟨rfl, I.turnedL (t' := s.toks) (ch := [b, b + 1, b + 2, b + 3, b + 4]) (fun c o hb q => hk c o (out c hb) q) hf⟩
  self := fun A i s Q E st h => wpAny_pyIter_zip st.hz h
def iZip2 (K : PySem.W.Frag) (ta : TA) : TI := fun σ H R => ta σ H fun vs H1 => ∃ l1 l2, ∃ κ1 κ2 : Bool, ∃ xs1 xs2 : List V, vs = [.ref l1, .ref l2] ∧ SqV κ1 K H1 l1 xs1 ∧ SqV κ2 K H1 l2 xs2 ∧ R (Itz2 K l1 l2 κ1 κ2) H1
theorem pi_zip2 {X : Cx} {e1 e2 : Expr} {ta : TA} {p pos tpos : Pos} {elts : List Expr} {kk : Nat} (hg : Gl X "zip") (hm : X.mg "zip" = none) (ha : PA X [e1, e2] ta)
    (hs : starEach [e1, e2] X.env = (false, eval e1 X.env) :: starEach [e2] X.env := by rfl) (hpl : (backTo pos (starEach [e2] X.env)).any (·.1) = false := by rfl) :
    PI X (.Tuple elts kk tpos) (.Call (.Name "zip" p) [e1, e2] [] pos) (iZip2 X.K ta) := by
  refine ⟨fun pins s σ H R I h => ?_⟩
  refine Call_ (ld_blt I hg hm PyProof.Rows.boot_zip (PyProof.Rows.callWith_type1 (thn (ha.run pos pins s σ H _ I h) fun us s1 ⟨vs, H1, I1, r1, w1⟩ => ?_) hs hpl))
  obtain ⟨l1, l2, κ1, κ2, xs1, xs2, ex, q1, q2, q⟩ := w1
  subst ex
  obtain ⟨u1, u2, rfl, r1, r2⟩ := vals_2 r1
  cases r1
  cases r2
  have fresh : ∀ c, c ∈ [s1.heap.objs.size, s1.heap.objs.size + 1, s1.heap.objs.size + 2, s1.heap.objs.size + 3, s1.heap.objs.size + 4] → FpOk X pins H1 c := fun c hcm => by
    have hle : s1.heap.objs.size ≤ c := by
      simp only [List.mem_cons, List.not_mem_nil, or_false] at hcm
      omega
    exact I1.fpOk hle (I1.hok.fresh hle)
  obtain ⟨its1, rv1, p1⟩ := sqV_seq I1 q1
  obtain ⟨its2, rv2, p2⟩ := sqV_seq I1 q2
  refine call_zip2 p1 p2 fun h' hz hsz hk => wpAny_pyIter_zip hz.hz ?_
  have I2 : Inv X pins σ H1 { s1 with heap := h' } := I1.kept (t' := s1.toks) hk
  exact ⟨s1.heap.objs.size + 4, _, _, _, H1, rfl, I2, turn_zip2, hz, fresh, q⟩
theorem walk_zip2 {K : PySem.W.Frag} {l1 l2 : Addr} {κ1 κ2 : Bool} {xs1 xs2 : List V} {n : Nat} (hn : n = min xs1.length xs2.length) : Walk (Itz2 K l1 l2 κ1 κ2) n (fun H => SqV κ1 K H l1 xs1 ∧ SqV κ2 K H l2 xs2)
    (fun i H v H' => ∃ T x1 x2, v = .ref T ∧ H T = none ∧ H' = upd H T (.tup [x1, x2]) ∧ xs1[i]? = some x1 ∧ xs2[i]? = some x2) := by
  subst hn
  refine ⟨fun i _ hi q => ?_, fun _ q => ⟨xs1, xs2, q.1, q.2, by omega⟩, fun i H v H' _ q y => ?_⟩
  · obtain ⟨q1, q2⟩ := q
    have t1 : i < xs1.length := by omega
    have t2 : i < xs2.length := by omega
    exact ⟨xs1, xs2, xs1[i], xs2[i], q1, q2, by simp [t1], by simp [t2]⟩
  · obtain ⟨T, x1, x2, e1, e2, e3, f1, f2⟩ := y
    obtain ⟨q1, q2⟩ := q
    exact ⟨T, x1, x2, e1, e2, e3, f1 xs1 q1, f2 xs2 q2⟩
abbrev IsRow3 (h : Heap) (T : Addr) (a1 a2 a3 : Value) : Prop := h.get? T = some { cls := .type "tuple", data := .seq #[a1, a2, a3] }
theorem updRow3 {prog : Program} {w : World} {A : Around} {E : Value → Shared → Prop} {s : Shared} {T : Addr} {a1 a2 a3 x : Value} {k : Nat} {Q : Unit → Shared → Prop} (hT : IsRow3 s.heap T a1 a2 a3)
    (h : ∀ h', h'.get? T = some { cls := .type "tuple", data := .seq ((#[a1, a2, a3] : Array Value).setIfInBounds k x) } → Heap.SameBut T s.heap h' → Q () { s with heap := h' }) :
    wpAny (model prog w) A (updateSeq T (·.setIfInBounds k x)) Q E s := by
  refine wpAny_updateSeq hT rfl (h _ ?_ (Heap.SameBut.update ..))
  rw [Heap.get?_update_self _ hT rfl]
  simp [Obj.mapSeq]
/-- the zip object and its parts, at b and behind; the sources below b -/
structure Zs3 (h : Heap) (b l1 l2 l3 : Nat) (κ1 κ2 κ3 : Bool) (f0 : Value) (k : Nat) : Prop where
  hz : IsZip h (b + 5) (b + 3) (b + 4) f0
  hTI : IsRow3 h (b + 3) (.ref b) (.ref (b + 1)) (.ref (b + 2))
  hTO : ∃ a1 a2 a3, IsRow3 h (b + 4) a1 a2 a3
  h1 : ItK κ1 h b l1 k
  h2 : ItK κ2 h (b + 1) l2 k
  h3 : ItK κ3 h (b + 2) l3 k
  lt1 : l1 < b
  lt2 : l2 < b
  lt3 : l3 < b
section
variable {prog : Program} {w : World} {A : Around} {E : Value → Shared → Prop} {s : Shared} {b l1 l2 l3 : Nat} {κ1 κ2 κ3 : Bool} {k : Nat} {xs1 xs2 xs3 : Array Value} {x1 x2 x3 : Value}
theorem zip3_item {Q : Value → Shared → Prop} (D : Zs3 s.heap b l1 l2 l3 κ1 κ2 κ3 .none k) (hl1 : SqK κ1 s.heap l1 xs1) (hl2 : SqK κ2 s.heap l2 xs2) (hl3 : SqK κ3 s.heap l3 xs3) (hx1 : xs1[k]? = some x1) (hx2 : xs2[k]? = some x2) (hx3 : xs3[k]? = some x3)
    (hQ : ∀ h', Zs3 h' b l1 l2 l3 κ1 κ2 κ3 (rawInt s.heap.objs.size) (k + 1) → IsRow3 h' s.heap.objs.size x1 x2 x3 → h'.objs.size = s.heap.objs.size + 1 →
      (∀ (c : Nat) o, (c < b ∨ b + 5 < c) → s.heap.get? c = some o → h'.get? c = some o) → Q (.ref s.heap.objs.size) { s with heap := h' }) :
    wpAny (model prog w) A (Builtin.«zip.__next__» ⟨[.ref (b + 5)], []⟩) (fun fin s' => ∃ v, fin = .done (.ret v) ∧ Q v s') E s := by
  obtain ⟨hz, hTI, ⟨a1, a2, a3, hTO⟩, h1, h2, h3, lt1, lt2, lt3⟩ := D
  show wpAny _ _ (field (.ref (b + 5)) 2 >>= _) _ _ _
  refine wpAny_bind (wpAny_field hz rfl (x := .bool false) rfl ?_)
  show wpAny _ _ (field (.ref (b + 5)) 3 >>= _) _ _ _
  refine wpAny_bind (wpAny_field hz rfl (x := .ref (b + 3)) rfl ?_)
  refine wpAny_bind (wpAny_seqItems hTI rfl ?_)
  show wpAny _ _ (Builtin.SmallTypes.ownedTupleIsFree (.ref (b + 5)) >>= _) _ _ _
  refine wpAny_bind ?_
  unfold Builtin.SmallTypes.ownedTupleIsFree
  refine wpAny_bind (wpAny_field hz rfl (x := .none) rfl (wpAny_pure ?_))
  simp only [if_true]
  refine wpAny_bind (wpAny_rule ?_)
  refine wpAny_bind (wpAny_field hz rfl (x := .ref (b + 4)) rfl ?_)
  refine wpAny_bind (wpAny_setField_rec hz (by simp) fun g0 hz0 s0 => ?_)
  replace hz0 : IsZip g0 (b + 5) (b + 3) (b + 4) .ellipsis := hz0
  refine wpAny_bind ?_
  simp only [List.zipIdx_cons, List.zipIdx_nil, List.forIn_cons, List.forIn_nil]
  have T0 : IsRow3 g0 (b + 4) a1 a2 a3 := s0.extBut _ _ (nn (by omega)) hTO
  have up0 : ∀ (c : Nat) o, c ≠ (b + 5) → s.heap.get? c = some o → g0.get? c = some o := fun c o hc e => s0.extBut _ _ hc e
  refine wpAny_bind (wpAny_bind (wpAny_onRaise ?_))
  show wpAny _ _ (Builtin.SmallTypes.nextOf (.ref b) >>= _) _ _ _
  refine wpAny_bind (nextK_item (h1.at fun o e => up0 _ o (nn (by omega)) e) (hl1.at fun o e => up0 _ o (nn (by omega)) e) hx1 fun p1 hp1 sp1 => wpAny_pure ?_)
  have U1 : IsRow3 p1 (b + 4) a1 a2 a3 := sp1.extBut _ _ (nn (by omega)) T0
  refine wpAny_bind (wpAny_seqItems U1 rfl ?_)
  refine wpAny_bind (updRow3 U1 fun g1 T1 s1 => ?_)
  replace T1 : IsRow3 g1 (b + 4) x1 a2 a3 := T1
  have up1 : ∀ (c : Nat) o, c ≠ (b + 5) → c ≠ (b + 4) → c ≠ b → s.heap.get? c = some o → g1.get? c = some o := fun c o q0 q1 q2 e => s1.extBut _ _ q1 (sp1.extBut _ _ q2 (up0 c o q0 e))
  have Z1 : IsZip g1 (b + 5) (b + 3) (b + 4) .ellipsis := s1.extBut _ _ (nn (by omega)) (sp1.extBut _ _ (nn (by omega)) hz0)
  have sz1 : g1.objs.size = s.heap.objs.size := by rw [s1.1, sp1.1, s0.1]
  have H11 : ItK κ1 g1 b l1 (k + 1) := hp1.at fun o e => s1.extBut _ _ (nn (by omega)) e
  refine wpAny_bind (wpAny_letGo (wpAny_pure ?_))
  refine wpAny_bind (wpAny_bind (wpAny_onRaise ?_))
  show wpAny _ _ (Builtin.SmallTypes.nextOf (.ref (b + 1)) >>= _) _ _ _
  refine wpAny_bind (nextK_item (h2.at fun o e => up1 _ o (nn (by omega)) (nn (by omega)) (nn (by omega)) e) (hl2.at fun o e => up1 _ o (nn (by omega)) (nn (by omega)) (nn (by omega)) e) hx2 fun p2 hp2 sp2 => wpAny_pure ?_)
  have U2 : IsRow3 p2 (b + 4) x1 a2 a3 := sp2.extBut _ _ (nn (by omega)) T1
  refine wpAny_bind (wpAny_seqItems U2 rfl ?_)
  refine wpAny_bind (updRow3 U2 fun g2 T2 s2 => ?_)
  replace T2 : IsRow3 g2 (b + 4) x1 x2 a3 := T2
  have up2 : ∀ (c : Nat) o, c ≠ (b + 5) → c ≠ (b + 4) → c ≠ b → c ≠ (b + 1) → s.heap.get? c = some o → g2.get? c = some o := fun c o q0 q1 q2 q3 e => s2.extBut _ _ q1 (sp2.extBut _ _ q3 (up1 c o q0 q1 q2 e))
  have Z2 : IsZip g2 (b + 5) (b + 3) (b + 4) .ellipsis := s2.extBut _ _ (nn (by omega)) (sp2.extBut _ _ (nn (by omega)) Z1)
  have sz2 : g2.objs.size = s.heap.objs.size := by rw [s2.1, sp2.1, sz1]
  have H22 : ItK κ2 g2 (b + 1) l2 (k + 1) := hp2.at fun o e => s2.extBut _ _ (nn (by omega)) e
  have H12 : ItK κ1 g2 b l1 (k + 1) := H11.at fun o e => s2.extBut _ _ (nn (by omega)) (sp2.extBut _ _ (nn (by omega)) e)
  refine wpAny_bind (wpAny_letGo (wpAny_pure ?_))
  refine wpAny_bind (wpAny_bind (wpAny_onRaise ?_))
  show wpAny _ _ (Builtin.SmallTypes.nextOf (.ref (b + 2)) >>= _) _ _ _
  refine wpAny_bind (nextK_item (h3.at fun o e => up2 _ o (nn (by omega)) (nn (by omega)) (nn (by omega)) (nn (by omega)) e) (hl3.at fun o e => up2 _ o (nn (by omega)) (nn (by omega)) (nn (by omega)) (nn (by omega)) e) hx3 fun p3 hp3 sp3 => wpAny_pure ?_)
  have U3 : IsRow3 p3 (b + 4) x1 x2 a3 := sp3.extBut _ _ (nn (by omega)) T2
  refine wpAny_bind (wpAny_seqItems U3 rfl ?_)
  refine wpAny_bind (updRow3 U3 fun g3 T3 s3 => ?_)
  replace T3 : IsRow3 g3 (b + 4) x1 x2 x3 := T3
  have up3 : ∀ (c : Nat) o, c ≠ (b + 5) → c ≠ (b + 4) → c ≠ b → c ≠ (b + 1) → c ≠ (b + 2) → s.heap.get? c = some o → g3.get? c = some o := fun c o q0 q1 q2 q3 q4 e => s3.extBut _ _ q1 (sp3.extBut _ _ q4 (up2 c o q0 q1 q2 q3 e))
  have Z3 : IsZip g3 (b + 5) (b + 3) (b + 4) .ellipsis := s3.extBut _ _ (nn (by omega)) (sp3.extBut _ _ (nn (by omega)) Z2)
  have sz3 : g3.objs.size = s.heap.objs.size := by rw [s3.1, sp3.1, sz2]
  have H33 : ItK κ3 g3 (b + 2) l3 (k + 1) := hp3.at fun o e => s3.extBut _ _ (nn (by omega)) e
  have H13 : ItK κ1 g3 b l1 (k + 1) := H12.at fun o e => s3.extBut _ _ (nn (by omega)) (sp3.extBut _ _ (nn (by omega)) e)
  have H23 : ItK κ2 g3 (b + 1) l2 (k + 1) := H22.at fun o e => s3.extBut _ _ (nn (by omega)) (sp3.extBut _ _ (nn (by omega)) e)
  refine wpAny_bind (wpAny_letGo (wpAny_pure (wpAny_pure ?_)))
  refine wpAny_bind (wpAny_seqItems T3 rfl ?_)
  refine wpAny_bind (wpAny_newTuple ?_)
  have zlt : (b + 5) < g3.objs.size := Heap.lt_size Z3
  show wpAny _ _ (Builtin.SmallTypes.ownedTupleHandOut (.ref (b + 5)) (.ref g3.objs.size) >>= _) _ _ _
  refine wpAny_bind ?_
  unfold Builtin.SmallTypes.ownedTupleHandOut
  have z6 : IsZip (g3.push { cls := .type "tuple", data := .seq #[x1, x2, x3] }) (b + 5) (b + 3) (b + 4) .ellipsis := Heap.get?_push_of_some _ Z3
  refine wpAny_bind (wpAny_setField_rec z6 (by simp) fun h₇ hz₇ hs₇ => ?_)
  replace hz₇ : IsZip h₇ (b + 5) (b + 3) (b + 4) (rawInt g3.objs.size) := hz₇
  refine wpAny_setField_rec hz₇ (by simp) fun h₈ hz₈ hs₈ => ?_
  replace hz₈ : IsZip h₈ (b + 5) (b + 3) (b + 4) (rawInt g3.objs.size) := hz₈
  have up : ∀ (c : Nat) o, c ≠ (b + 5) → g3.get? c = some o → h₈.get? c = some o := fun c o c1 e => hs₈.extBut _ _ c1 (hs₇.extBut _ _ c1 (Heap.get?_push_of_some _ e))
  have hT₈ : IsRow3 h₈ g3.objs.size x1 x2 x3 := hs₈.extBut _ _ (Nat.ne_of_gt zlt) (hs₇.extBut _ _ (Nat.ne_of_gt zlt) (Heap.get?_push_size _ rfl))
  have hz8 : h₈.objs.size = g3.objs.size + 1 := by rw [hs₈.1, hs₇.1, Heap.size_push]
  have eTI : IsRow3 h₈ (b + 3) (.ref b) (.ref (b + 1)) (.ref (b + 2)) := up _ _ (nn (by omega)) (up3 _ _ (nn (by omega)) (nn (by omega)) (nn (by omega)) (nn (by omega)) (nn (by omega)) hTI)
  have eTO : IsRow3 h₈ (b + 4) x1 x2 x3 := up _ _ (nn (by omega)) T3
  rw [sz3] at hz₈ hT₈ hz8
  refine wpAny_pure ⟨_, rfl, ?_⟩
  show Q (.ref g3.objs.size) _
  rw [sz3]
  exact hQ h₈ ⟨hz₈, eTI, ⟨_, _, _, eTO⟩, H13.at fun o e => up _ o (nn (by omega)) e, H23.at fun o e => up _ o (nn (by omega)) e, H33.at fun o e => up _ o (nn (by omega)) e, lt1, lt2, lt3⟩ hT₈ hz8 fun c o hc e => up c o (nn (by omega)) (up3 c o (nn (by omega)) (nn (by omega)) (nn (by omega)) (nn (by omega)) (nn (by omega)) e)
theorem zip3_end {Q : Fin → Shared → Prop} (hh : A.handled = none) (D : Zs3 s.heap b l1 l2 l3 κ1 κ2 κ3 .none k) (hl1 : SqK κ1 s.heap l1 xs1) (hl2 : SqK κ2 s.heap l2 xs2) (hl3 : SqK κ3 s.heap l3 xs3) (hend : xs1[k]? = none ∨ xs2[k]? = none ∨ xs3[k]? = none)
    (hE : ∀ h' e, (∀ (c : Nat) o, (c < b ∨ b + 5 < c) → s.heap.get? c = some o → h'.get? c = some o) → (∃ o, h'.get? e = some o ∧ o.cls = .type "StopIteration") → E (.ref e) { s with heap := h' }) :
    wpAny (model prog w) A (Builtin.«zip.__next__» ⟨[.ref (b + 5)], []⟩) Q E s := by
  obtain ⟨hz, hTI, ⟨a1, a2, a3, hTO⟩, h1, h2, h3, lt1, lt2, lt3⟩ := D
  show wpAny _ _ (field (.ref (b + 5)) 2 >>= _) _ _ _
  refine wpAny_bind (wpAny_field hz rfl (x := .bool false) rfl ?_)
  show wpAny _ _ (field (.ref (b + 5)) 3 >>= _) _ _ _
  refine wpAny_bind (wpAny_field hz rfl (x := .ref (b + 3)) rfl ?_)
  refine wpAny_bind (wpAny_seqItems hTI rfl ?_)
  show wpAny _ _ (Builtin.SmallTypes.ownedTupleIsFree (.ref (b + 5)) >>= _) _ _ _
  refine wpAny_bind ?_
  unfold Builtin.SmallTypes.ownedTupleIsFree
  refine wpAny_bind (wpAny_field hz rfl (x := .none) rfl (wpAny_pure ?_))
  simp only [if_true]
  refine wpAny_bind (wpAny_rule ?_)
  refine wpAny_bind (wpAny_field hz rfl (x := .ref (b + 4)) rfl ?_)
  refine wpAny_bind (wpAny_setField_rec hz (by simp) fun g0 hz0 s0 => ?_)
  replace hz0 : IsZip g0 (b + 5) (b + 3) (b + 4) .ellipsis := hz0
  refine wpAny_bind ?_
  simp only [List.zipIdx_cons, List.zipIdx_nil, List.forIn_cons, List.forIn_nil]
  have T0 : IsRow3 g0 (b + 4) a1 a2 a3 := s0.extBut _ _ (nn (by omega)) hTO
  have up0 : ∀ (c : Nat) o, c ≠ (b + 5) → s.heap.get? c = some o → g0.get? c = some o := fun c o hc e => s0.extBut _ _ hc e
  refine wpAny_bind (wpAny_bind (wpAny_onRaise ?_))
  show wpAny _ _ (Builtin.SmallTypes.nextOf (.ref b) >>= _) _ _ _
  cases hy : xs1[k]? with
  | none =>
    refine wpAny_bind (nextK_end hh (h1.at fun o e => up0 _ o (nn (by omega)) e) (hl1.at fun o e => up0 _ o (nn (by omega)) e) hy fun h₂ e hs₂ he => ?_)
    obtain ⟨oe, hoe, hce⟩ := he
    have hz₂ : IsZip h₂ (b + 5) (b + 3) (b + 4) .ellipsis := hs₂ _ _ (nn (by omega)) hz0
    have hez : e ≠ (b + 5) := fun x => by subst x; rw [hz₂] at hoe; cases hoe; simp at hce
    exact wpAny_setField_rec hz₂ (by simp) fun h₃ _ hs₃ => hE h₃ e (fun c o hc x => hs₃.extBut _ _ (nn (by omega)) (hs₂ _ _ (nn (by omega)) (up0 c o (nn (by omega)) x))) ⟨oe, hs₃.extBut _ _ hez hoe, hce⟩
  | some x1 =>
    have hend : xs2[k]? = none ∨ xs3[k]? = none := hend.resolve_left (by rw [hy]; simp)
    refine wpAny_bind (nextK_item (h1.at fun o e => up0 _ o (nn (by omega)) e) (hl1.at fun o e => up0 _ o (nn (by omega)) e) hy fun p1 hp1 sp1 => wpAny_pure ?_)
    clear hy
    have U1 : IsRow3 p1 (b + 4) a1 a2 a3 := sp1.extBut _ _ (nn (by omega)) T0
    refine wpAny_bind (wpAny_seqItems U1 rfl ?_)
    refine wpAny_bind (updRow3 U1 fun g1 T1 s1 => ?_)
    replace T1 : IsRow3 g1 (b + 4) x1 a2 a3 := T1
    have up1 : ∀ (c : Nat) o, c ≠ (b + 5) → c ≠ (b + 4) → c ≠ b → s.heap.get? c = some o → g1.get? c = some o := fun c o q0 q1 q2 e => s1.extBut _ _ q1 (sp1.extBut _ _ q2 (up0 c o q0 e))
    have Z1 : IsZip g1 (b + 5) (b + 3) (b + 4) .ellipsis := s1.extBut _ _ (nn (by omega)) (sp1.extBut _ _ (nn (by omega)) hz0)
    refine wpAny_bind (wpAny_letGo (wpAny_pure ?_))
    refine wpAny_bind (wpAny_bind (wpAny_onRaise ?_))
    show wpAny _ _ (Builtin.SmallTypes.nextOf (.ref (b + 1)) >>= _) _ _ _
    cases hy : xs2[k]? with
    | none =>
      refine wpAny_bind (nextK_end hh (h2.at fun o e => up1 _ o (nn (by omega)) (nn (by omega)) (nn (by omega)) e) (hl2.at fun o e => up1 _ o (nn (by omega)) (nn (by omega)) (nn (by omega)) e) hy fun h₂ e hs₂ he => ?_)
      obtain ⟨oe, hoe, hce⟩ := he
      have hz₂ : IsZip h₂ (b + 5) (b + 3) (b + 4) .ellipsis := hs₂ _ _ (nn (by omega)) Z1
      have hez : e ≠ (b + 5) := fun x => by subst x; rw [hz₂] at hoe; cases hoe; simp at hce
      exact wpAny_setField_rec hz₂ (by simp) fun h₃ _ hs₃ => hE h₃ e (fun c o hc x => hs₃.extBut _ _ (nn (by omega)) (hs₂ _ _ (nn (by omega)) (up1 c o (nn (by omega)) (nn (by omega)) (nn (by omega)) x))) ⟨oe, hs₃.extBut _ _ hez hoe, hce⟩
    | some x2 =>
      have hend : xs3[k]? = none := hend.resolve_left (by rw [hy]; simp)
      refine wpAny_bind (nextK_item (h2.at fun o e => up1 _ o (nn (by omega)) (nn (by omega)) (nn (by omega)) e) (hl2.at fun o e => up1 _ o (nn (by omega)) (nn (by omega)) (nn (by omega)) e) hy fun p2 hp2 sp2 => wpAny_pure ?_)
      clear hy
      have U2 : IsRow3 p2 (b + 4) x1 a2 a3 := sp2.extBut _ _ (nn (by omega)) T1
      refine wpAny_bind (wpAny_seqItems U2 rfl ?_)
      refine wpAny_bind (updRow3 U2 fun g2 T2 s2 => ?_)
      replace T2 : IsRow3 g2 (b + 4) x1 x2 a3 := T2
      have up2 : ∀ (c : Nat) o, c ≠ (b + 5) → c ≠ (b + 4) → c ≠ b → c ≠ (b + 1) → s.heap.get? c = some o → g2.get? c = some o := fun c o q0 q1 q2 q3 e => s2.extBut _ _ q1 (sp2.extBut _ _ q3 (up1 c o q0 q1 q2 e))
      have Z2 : IsZip g2 (b + 5) (b + 3) (b + 4) .ellipsis := s2.extBut _ _ (nn (by omega)) (sp2.extBut _ _ (nn (by omega)) Z1)
      refine wpAny_bind (wpAny_letGo (wpAny_pure ?_))
      refine wpAny_bind (wpAny_bind (wpAny_onRaise ?_))
      show wpAny _ _ (Builtin.SmallTypes.nextOf (.ref (b + 2)) >>= _) _ _ _
      have hy := hend
      refine wpAny_bind (nextK_end hh (h3.at fun o e => up2 _ o (nn (by omega)) (nn (by omega)) (nn (by omega)) (nn (by omega)) e) (hl3.at fun o e => up2 _ o (nn (by omega)) (nn (by omega)) (nn (by omega)) (nn (by omega)) e) hy fun h₂ e hs₂ he => ?_)
      obtain ⟨oe, hoe, hce⟩ := he
      have hz₂ : IsZip h₂ (b + 5) (b + 3) (b + 4) .ellipsis := hs₂ _ _ (nn (by omega)) Z2
      have hez : e ≠ (b + 5) := fun x => by subst x; rw [hz₂] at hoe; cases hoe; simp at hce
      exact wpAny_setField_rec hz₂ (by simp) fun h₃ _ hs₃ => hE h₃ e (fun c o hc x => hs₃.extBut _ _ (nn (by omega)) (hs₂ _ _ (nn (by omega)) (up2 c o (nn (by omega)) (nn (by omega)) (nn (by omega)) (nn (by omega)) x))) ⟨oe, hs₃.extBut _ _ hez hoe, hce⟩
theorem pyNext_zip3_item {Q : Option Value → Shared → Prop} (D : Zs3 s.heap b l1 l2 l3 κ1 κ2 κ3 .none k) (hl1 : SqK κ1 s.heap l1 xs1) (hl2 : SqK κ2 s.heap l2 xs2) (hl3 : SqK κ3 s.heap l3 xs3) (hx1 : xs1[k]? = some x1) (hx2 : xs2[k]? = some x2) (hx3 : xs3[k]? = some x3)
    (hQ : ∀ h', Zs3 h' b l1 l2 l3 κ1 κ2 κ3 (rawInt s.heap.objs.size) (k + 1) → IsRow3 h' s.heap.objs.size x1 x2 x3 → h'.objs.size = s.heap.objs.size + 1 →
      (∀ (c : Nat) o, (c < b ∨ b + 5 < c) → s.heap.get? c = some o → h'.get? c = some o) → Q (some (.ref s.heap.objs.size)) { s with heap := h' }) :
    wpAny (model prog w) A (pyNext (.ref (b + 5))) Q E s := by
  have hT : s.TypeIs (.ref (b + 5)) "zip" := ⟨_, D.hz, rfl⟩
  unfold pyNext
  exact wpAny_bind (wpAny_attempt (wpAny_callSpecial?_slot (name := Str.ofString "__next__") hT F.slot_zip_next
    (wpAny_call_entry F.slot_zip_next hT F.entry_zip_next
      (zip3_item D hl1 hl2 hl3 hx1 hx2 hx3 fun h' q1 q2 q3 q4 => wpAny_pure (hQ h' q1 q2 q3 q4)) (F.args_zip_next_1 _))))
theorem pyNext_zip3_end {Q : Option Value → Shared → Prop} (hh : A.handled = none) (D : Zs3 s.heap b l1 l2 l3 κ1 κ2 κ3 .none k) (hl1 : SqK κ1 s.heap l1 xs1) (hl2 : SqK κ2 s.heap l2 xs2) (hl3 : SqK κ3 s.heap l3 xs3) (hend : xs1[k]? = none ∨ xs2[k]? = none ∨ xs3[k]? = none)
    (hQ : ∀ h', (∀ (c : Nat) o, (c < b ∨ b + 5 < c) → s.heap.get? c = some o → h'.get? c = some o) → Q none { s with heap := h' }) : wpAny (model prog w) A (pyNext (.ref (b + 5))) Q E s := by
  have hT : s.TypeIs (.ref (b + 5)) "zip" := ⟨_, D.hz, rfl⟩
  unfold pyNext
  refine wpAny_bind (wpAny_attempt (wpAny_callSpecial?_slot (name := Str.ofString "__next__") hT F.slot_zip_next
    (wpAny_call_entry F.slot_zip_next hT F.entry_zip_next (zip3_end hh D hl1 hl2 hl3 hend fun h' e hk he => ?_) (F.args_zip_next_1 _))))
  obtain ⟨o, ho, hc⟩ := he
  refine wpAny_bind (wpAny_isInstance (T := "StopIteration") (b := true) ⟨o, ho, hc⟩ isSubtype_stop ?_)
  exact wpAny_pure (hQ _ hk)
end
abbrev zq3_1 (h : Heap) (l1 : Addr) (κ1 : Bool) : Heap := (h).push (itObj κ1 l1)
abbrev zq3_2 (h : Heap) (l1 l2 : Addr) (κ1 κ2 : Bool) : Heap := (zq3_1 h l1 κ1).push (itObj κ2 l2)
abbrev zq3_3 (h : Heap) (l1 l2 l3 : Addr) (κ1 κ2 κ3 : Bool) : Heap := (zq3_2 h l1 l2 κ1 κ2).push (itObj κ3 l3)
abbrev zq3_t (h : Heap) (l1 l2 l3 : Addr) (κ1 κ2 κ3 : Bool) : Heap := (zq3_3 h l1 l2 l3 κ1 κ2 κ3).push { cls := .type "tuple", data := .seq #[.ref h.objs.size, .ref (zq3_1 h l1 κ1).objs.size, .ref (zq3_2 h l1 l2 κ1 κ2).objs.size] }
abbrev zq3_o (h : Heap) (l1 l2 l3 : Addr) (κ1 κ2 κ3 : Bool) : Heap := (zq3_t h l1 l2 l3 κ1 κ2 κ3).push { cls := .type "tuple", data := .seq #[.none, .none, .none] }
abbrev zq3_z (h : Heap) (l1 l2 l3 : Addr) (κ1 κ2 κ3 : Bool) : Heap := (zq3_o h l1 l2 l3 κ1 κ2 κ3).push { cls := .type "zip", data := .fields #[.none, .bool false, .bool false, .ref (zq3_3 h l1 l2 l3 κ1 κ2 κ3).objs.size, .ref (zq3_t h l1 l2 l3 κ1 κ2 κ3).objs.size] }
theorem meets_zip3_new (l1 l2 l3 : Addr) (xs1 xs2 xs3 : Array Value) (κ1 κ2 κ3 : Bool) :
    Meets (Builtin.«zip.__new__» ⟨[.type "zip", .ref l1, .ref l2, .ref l3], []⟩) (fun _ R s => SqK κ1 s.heap l1 xs1 ∧ SqK κ2 s.heap l2 xs2 ∧ SqK κ3 s.heap l3 xs3 ∧
      R (.ok (.ret (.ref (zq3_o s.heap l1 l2 l3 κ1 κ2 κ3).objs.size))) { s with heap := zq3_z s.heap l1 l2 l3 κ1 κ2 κ3 }) :=
  .of_wp fun prog w A R s h => by
    obtain ⟨hp, g, d, tk, os⟩ := s; obtain ⟨hl1, hl2, hl3, h⟩ := h
    have hsub := sub_zip
    have hL1 : SqK κ1 (Shared.heap ⟨hp, g, d, tk, os⟩) l1 xs1 := hl1
    have hL2 : SqK κ2 (Shared.heap ⟨zq3_1 hp l1 κ1, g, d, tk, os⟩) l2 xs2 := hl2.at fun o e => Heap.get?_push_of_some _ e
    have hL3 : SqK κ3 (Shared.heap ⟨zq3_2 hp l1 l2 κ1 κ2, g, d, tk, os⟩) l3 xs3 := hl3.at fun o e => Heap.get?_push_of_some _ (Heap.get?_push_of_some _ e)
    wp_walk using iterK hL1, iterK hL2, iterK hL3
    exact ⟨_, rfl, h⟩
theorem typeCall_zip_3 (a b c : Value) : checkTypeCall "zip" ⟨[a, b, c], []⟩ = pure () := by kernel_rfl
theorem newCall_zip_3 (a b c : Value) : checkBuiltinCall "zip.__new__" ⟨[.type "zip", a, b, c], []⟩ = pure () := by kernel_rfl
theorem args_object_init_4 (o a b c : Value) : argsOk "object.__init__" ⟨[o, a, b, c], []⟩ := by
  unfold argsOk; rw [signature?_of (id := "object.__init__") (n := ['_', '_', 't', 'i', 'n', 'i', '_', '_']) (o := ['t', 'c', 'e', 'j', 'b', 'o']) (by kernel_rfl) F.owner_object]; kernel_rfl
theorem call_zip3 {prog : Program} {w : World} {A : Around} {E : Value → Shared → Prop} {s : Shared} {l1 l2 l3 : Addr} {xs1 xs2 xs3 : Array Value} {κ1 κ2 κ3 : Bool} {Q : Value → Shared → Prop} (hl1 : SqK κ1 s.heap l1 xs1) (hl2 : SqK κ2 s.heap l2 xs2) (hl3 : SqK κ3 s.heap l3 xs3)
    (h : ∀ h', Zs3 h' s.heap.objs.size l1 l2 l3 κ1 κ2 κ3 .none 0 → h'.objs.size = s.heap.objs.size + 6 → (∀ (c : Nat) o, s.heap.get? c = some o → h'.get? c = some o) → Q (.ref (s.heap.objs.size + 5)) { s with heap := h' }) :
    wpAny (model prog w) A (call (.type "zip") [.ref l1, .ref l2, .ref l3]) Q E s := by
  refine callType_new F.called_zip (by decide) (typeCall_zip_3 _ _ _) (newCall_zip_3 _ _ _) (fun obj => args_object_init_4 obj _ _ _) F.entry_zip_new
    (meets_zip3_new l1 l2 l3 xs1 xs2 xs3 κ1 κ2 κ3) ⟨hl1, hl2, hl3, ?_⟩
  have z1 : (zq3_1 s.heap l1 κ1).objs.size = s.heap.objs.size + 1 := by rw [Heap.size_push]
  have z2 : (zq3_2 s.heap l1 l2 κ1 κ2).objs.size = s.heap.objs.size + 2 := by rw [Heap.size_push, z1]
  have z3 : (zq3_3 s.heap l1 l2 l3 κ1 κ2 κ3).objs.size = s.heap.objs.size + 3 := by rw [Heap.size_push, z2]
  have zt : (zq3_t s.heap l1 l2 l3 κ1 κ2 κ3).objs.size = s.heap.objs.size + 4 := by rw [Heap.size_push, z3]
  have zo : (zq3_o s.heap l1 l2 l3 κ1 κ2 κ3).objs.size = s.heap.objs.size + 5 := by rw [Heap.size_push, zt]
  have zz : (zq3_z s.heap l1 l2 l3 κ1 κ2 κ3).objs.size = s.heap.objs.size + 6 := by rw [Heap.size_push, zo]
  have gz : (zq3_z s.heap l1 l2 l3 κ1 κ2 κ3).get? (zq3_o s.heap l1 l2 l3 κ1 κ2 κ3).objs.size = some _ := Heap.get?_push_size _ rfl
  have go : (zq3_z s.heap l1 l2 l3 κ1 κ2 κ3).get? (zq3_t s.heap l1 l2 l3 κ1 κ2 κ3).objs.size = some _ := Heap.get?_push_of_some _ (Heap.get?_push_size _ rfl)
  have gt : (zq3_z s.heap l1 l2 l3 κ1 κ2 κ3).get? (zq3_3 s.heap l1 l2 l3 κ1 κ2 κ3).objs.size = some _ := Heap.get?_push_of_some _ (Heap.get?_push_of_some _ (Heap.get?_push_size _ rfl))
  have g1 : (zq3_z s.heap l1 l2 l3 κ1 κ2 κ3).get? s.heap.objs.size = some (itObj κ1 l1) := Heap.get?_push_of_some _ (Heap.get?_push_of_some _ (Heap.get?_push_of_some _ (Heap.get?_push_of_some _ (Heap.get?_push_of_some _ (Heap.get?_push_size _ (itObj_ok _ _))))))
  have g2 : (zq3_z s.heap l1 l2 l3 κ1 κ2 κ3).get? (zq3_1 s.heap l1 κ1).objs.size = some (itObj κ2 l2) := Heap.get?_push_of_some _ (Heap.get?_push_of_some _ (Heap.get?_push_of_some _ (Heap.get?_push_of_some _ (Heap.get?_push_size _ (itObj_ok _ _)))))
  have g3 : (zq3_z s.heap l1 l2 l3 κ1 κ2 κ3).get? (zq3_2 s.heap l1 l2 κ1 κ2).objs.size = some (itObj κ3 l3) := Heap.get?_push_of_some _ (Heap.get?_push_of_some _ (Heap.get?_push_of_some _ (Heap.get?_push_size _ (itObj_ok _ _))))
  show _ ∧ _
  rw [z3, zt, zo] at gz
  rw [zt] at go
  rw [z3] at gt
  rw [z1] at g2
  rw [z2] at g3
  rw [z1, z2] at gt
  rw [zo]
  exact ⟨⟨_, gz, rfl⟩, h _ ⟨gz, gt, ⟨_, _, _, go⟩, itK_new g1, itK_new g2, itK_new g3, hl1.lt, hl2.lt, hl3.lt⟩ zz fun c o x =>
    Heap.get?_push_of_some _ (Heap.get?_push_of_some _ (Heap.get?_push_of_some _ (Heap.get?_push_of_some _ (Heap.get?_push_of_some _ (Heap.get?_push_of_some _ x)))))⟩
/-- the sources as they stand at each turn, the items in new rows -/
def Itz3 (K : PySem.W.Frag) (l1 l2 l3 : Addr) (κ1 κ2 κ3 : Bool) : It :=
  ⟨fun i H => ∃ (xs1 : List V) (xs2 : List V) (xs3 : List V) (x1 : V) (x2 : V) (x3 : V), SqV κ1 K H l1 xs1 ∧ SqV κ2 K H l2 xs2 ∧ SqV κ3 K H l3 xs3 ∧ xs1[i]? = some x1 ∧ xs2[i]? = some x2 ∧ xs3[i]? = some x3,
    fun i H v H' => ∃ T x1 x2 x3, v = .ref T ∧ H T = none ∧ H' = upd H T (.tup [x1, x2, x3]) ∧ (∀ xs, SqV κ1 K H l1 xs → xs[i]? = some x1) ∧ (∀ xs, SqV κ2 K H l2 xs → xs[i]? = some x2) ∧ (∀ xs, SqV κ3 K H l3 xs → xs[i]? = some x3),
    fun i H => ∃ (xs1 : List V) (xs2 : List V) (xs3 : List V), SqV κ1 K H l1 xs1 ∧ SqV κ2 K H l2 xs2 ∧ SqV κ3 K H l3 xs3 ∧ (xs1.length ≤ i ∨ xs2.length ≤ i ∨ xs3.length ≤ i)⟩
theorem turn_zip3 {P : Program} {w : World} {K : PySem.W.Frag} {elts : List Expr} {kk : Nat} {tpos : Pos} {b l1 l2 l3 : Nat} {κ1 κ2 κ3 : Bool} :
    Turn P w K (.Tuple elts kk tpos) (Itz3 K l1 l2 l3 κ1 κ2 κ3) [b, b + 1, b + 2, b + 3, b + 4, b + 5] (b + 5) (fun i h => Zs3 h b l1 l2 l3 κ1 κ2 κ3 .none i) where
  mem := by simp
  obj := fun i h st c hc => by
    obtain ⟨hz, hTI, ⟨a1, a2, a3, hTO⟩, h1, h2, h3, _, _, _⟩ := st
    have e' : c = b ∨ c = b + 1 ∨ c = b + 2 ∨ c = b + 3 ∨ c = b + 4 ∨ c = b + 5 := by simpa using hc
    rcases e' with q | q | q | q | q | q
    · rw [q]; exact h1.obj
    · rw [q]; exact h2.obj
    · rw [q]; exact h3.obj
    · rw [q]; exact ⟨_, hTI, fun v q => nomatch q⟩
    · rw [q]; exact ⟨_, hTO, fun v q => nomatch q⟩
    · rw [q]; exact ⟨_, hz, fun v q => nomatch q⟩
  keep := fun i h h' st k => by
    obtain ⟨hz, hTI, ⟨a1, a2, a3, hTO⟩, h1, h2, h3, q1, q2, q3⟩ := st
    exact ⟨k _ (by simp) _ hz, k _ (by simp) _ hTI, ⟨_, _, _, k _ (by simp) _ hTO⟩, h1.at fun o q => k _ (by simp) o q, h2.at fun o q => k _ (by simp) o q, h3.at fun o q => k _ (by simp) o q, q1, q2, q3⟩
  item := by
    intro X hP hw hK hc i pins s σ H E I hf st hg
    subst hP hw hK
    obtain ⟨xs1, xs2, xs3, x1, x2, x3, q1, q2, q3, y1, y2, y3⟩ := hg
    obtain ⟨its1, rv1, p1⟩ := sqV_seq I q1
    obtain ⟨u1, hu1, ru1⟩ := rv1.get y1
    obtain ⟨its2, rv2, p2⟩ := sqV_seq I q2
    obtain ⟨u2, hu2, ru2⟩ := rv2.get y2
    obtain ⟨its3, rv3, p3⟩ := sqV_seq I q3
    obtain ⟨u3, hu3, ru3⟩ := rv3.get y3
    have hzl : (b + 5) < s.heap.objs.size := Heap.lt_size st.hz
    refine pyNext_zip3_item st p1 p2 p3 (x1 := u1) (by simpa using hu1) (x2 := u2) (by simpa using hu2) (x3 := u3) (by simpa using hu3) fun h' z' hT hsz hk => ?_
    refine ⟨_, rfl, wpAny_letOwnedTupleGo_zip (s := { s with heap := h' }) z'.hz fun h'' z'' sb => ?_⟩
    have hT2 : h''.get? s.heap.objs.size = some { cls := .type "tuple", data := .seq #[u1, u2, u3] } := (sb.2 _ (Nat.ne_of_gt hzl)).trans hT
    have new : ObjOk X.prog X.w (upd H s.heap.objs.size (.tup [x1, x2, x3])) h'' s.heap.objs.size (.tup [x1, x2, x3]) :=
      ⟨by show 3 ≤ sizeLine; decide, [u1, u2, u3], .cons ru1 (.cons ru2 (.cons ru3 (.nil))), ⟨_, hT2, rfl, _, rfl⟩⟩
    have out : ∀ (c : Nat), c ∉ [b, b + 1, b + 2, b + 3, b + 4, b + 5] → c < b ∨ b + 5 < c := fun c hc => by
      simp only [List.mem_cons, List.not_mem_nil, or_false, not_or] at hc
      omega
    have I1 : Inv X pins σ (upd H s.heap.objs.size (.tup [x1, x2, x3])) { s with heap := h'' } :=
      I.turnedNew (t' := s.toks) (ch := [b, b + 1, b + 2, b + 3, b + 4, b + 5]) (fun c o hb q => (sb.2 c (fun q' => hb (by simp [q']))).trans (hk c o (out c hb) q)) hf (Nat.le_refl _) new
    obtain ⟨_, eTI, ⟨a1, a2, a3, eTO⟩, e1, e2, e3, t1, t2, t3⟩ := z'
    refine ⟨.ref s.heap.objs.size, _, I1, rfl, ⟨_, x1, x2, x3, rfl, I.hok.fresh (Nat.le_refl _), rfl, fun l hl => by rw [sqV_inj I hl q1]; exact y1, fun l hl => by rw [sqV_inj I hl q2]; exact y2, fun l hl => by rw [sqV_inj I hl q3]; exact y3⟩, ⟨z'', ?_, ⟨a1, a2, a3, ?_⟩, ?_, ?_, ?_, t1, t2, t3⟩, fun c hcm => ?_⟩
    · exact (sb.2 _ (nn (by omega))).trans eTI
    · exact (sb.2 _ (nn (by omega))).trans eTO
    · exact e1.at fun o q => (sb.2 _ (nn (by omega))).trans q
    · exact e2.at fun o q => (sb.2 _ (nn (by omega))).trans q
    · exact e3.at fun o q => (sb.2 _ (nn (by omega))).trans q
    · have key : ∀ c : Nat, (c = b ∨ c = b + 1 ∨ c = b + 2 ∨ c = b + 3 ∨ c = b + 4 ∨ c = b + 5) → c < s.heap.objs.size := fun c h => by
        have hzl' : (b + 5 : Nat) < s.heap.objs.size := hzl
        omega
      have hlt : c < s.heap.objs.size := key c (by simpa using hcm)
      rw [upd_ne (Nat.ne_of_lt hlt)]
      exact (hf c hcm).1
  done := by
    intro X hP hw hK hc i pins s σ H E I hf st hg
    subst hP hw hK
    obtain ⟨xs1, xs2, xs3, q1, q2, q3, hend⟩ := hg
    obtain ⟨its1, rv1, p1⟩ := sqV_seq I q1
    have l1 := rv1.length
    obtain ⟨its2, rv2, p2⟩ := sqV_seq I q2
    have l2 := rv2.length
    obtain ⟨its3, rv3, p3⟩ := sqV_seq I q3
    have l3 := rv3.length
    have he : its1.toArray[i]? = none ∨ its2.toArray[i]? = none ∨ its3.toArray[i]? = none := by
      rcases hend with q | q | q
      · exact .inl (by simp; omega)
      · exact .inr (.inl (by simp; omega))
      · exact .inr (.inr (by simp; omega))
    have out : ∀ (c : Nat), c ∉ [b, b + 1, b + 2, b + 3, b + 4, b + 5] → c < b ∨ b + 5 < c := fun c hc => by
      simp only [List.mem_cons, List.not_mem_nil, or_false, not_or] at hc
      omega
    exact pyNext_zip3_end (I.ok.hd hc) st p1 p2 p3 he fun h' hk => ⟨rfl, I.turnedL (t' := s.toks) (ch := [b, b + 1, b + 2, b + 3, b + 4, b + 5]) (fun c o hb q => hk c o (out c hb) q) hf⟩
  self := fun A i s Q E st h => wpAny_pyIter_zip st.hz h
def iZip3 (K : PySem.W.Frag) (ta : TA) : TI := fun σ H R => ta σ H fun vs H1 => ∃ l1 l2 l3, ∃ κ1 κ2 κ3 : Bool, ∃ xs1 xs2 xs3 : List V, vs = [.ref l1, .ref l2, .ref l3] ∧ SqV κ1 K H1 l1 xs1 ∧ SqV κ2 K H1 l2 xs2 ∧ SqV κ3 K H1 l3 xs3 ∧ R (Itz3 K l1 l2 l3 κ1 κ2 κ3) H1
theorem pi_zip3 {X : Cx} {e1 e2 e3 : Expr} {ta : TA} {p pos tpos : Pos} {elts : List Expr} {kk : Nat} (hg : Gl X "zip") (hm : X.mg "zip" = none) (ha : PA X [e1, e2, e3] ta)
    (hs : starEach [e1, e2, e3] X.env = (false, eval e1 X.env) :: starEach [e2, e3] X.env := by rfl) (hpl : (backTo pos (starEach [e2, e3] X.env)).any (·.1) = false := by rfl) :
    PI X (.Tuple elts kk tpos) (.Call (.Name "zip" p) [e1, e2, e3] [] pos) (iZip3 X.K ta) := by
  refine ⟨fun pins s σ H R I h => ?_⟩
  refine Call_ (ld_blt I hg hm PyProof.Rows.boot_zip (PyProof.Rows.callWith_type1 (thn (ha.run pos pins s σ H _ I h) fun us s1 ⟨vs, H1, I1, r1, w1⟩ => ?_) hs hpl))
  obtain ⟨l1, l2, l3, κ1, κ2, κ3, xs1, xs2, xs3, ex, q1, q2, q3, q⟩ := w1
  subst ex
  obtain ⟨u1, u2, u3, rfl, r1, r2, r3⟩ := vals_3 r1
  cases r1
  cases r2
  cases r3
  have fresh : ∀ c, c ∈ [s1.heap.objs.size, s1.heap.objs.size + 1, s1.heap.objs.size + 2, s1.heap.objs.size + 3, s1.heap.objs.size + 4, s1.heap.objs.size + 5] → FpOk X pins H1 c := fun c hcm => by
    have hle : s1.heap.objs.size ≤ c := by
      simp only [List.mem_cons, List.not_mem_nil, or_false] at hcm
      omega
    exact I1.fpOk hle (I1.hok.fresh hle)
  obtain ⟨its1, rv1, p1⟩ := sqV_seq I1 q1
  obtain ⟨its2, rv2, p2⟩ := sqV_seq I1 q2
  obtain ⟨its3, rv3, p3⟩ := sqV_seq I1 q3
  refine call_zip3 p1 p2 p3 fun h' hz hsz hk => wpAny_pyIter_zip hz.hz ?_
  have I2 : Inv X pins σ H1 { s1 with heap := h' } := I1.kept (t' := s1.toks) hk
  exact ⟨s1.heap.objs.size + 5, _, _, _, H1, rfl, I2, turn_zip3, hz, fresh, q⟩
theorem walk_zip3 {K : PySem.W.Frag} {l1 l2 l3 : Addr} {κ1 κ2 κ3 : Bool} {xs1 xs2 xs3 : List V} {n : Nat} (hn : n = min xs1.length (min xs2.length xs3.length)) : Walk (Itz3 K l1 l2 l3 κ1 κ2 κ3) n (fun H => SqV κ1 K H l1 xs1 ∧ SqV κ2 K H l2 xs2 ∧ SqV κ3 K H l3 xs3)
    (fun i H v H' => ∃ T x1 x2 x3, v = .ref T ∧ H T = none ∧ H' = upd H T (.tup [x1, x2, x3]) ∧ xs1[i]? = some x1 ∧ xs2[i]? = some x2 ∧ xs3[i]? = some x3) := by
  subst hn
  refine ⟨fun i _ hi q => ?_, fun _ q => ⟨xs1, xs2, xs3, q.1, q.2.1, q.2.2, by omega⟩, fun i H v H' _ q y => ?_⟩
  · obtain ⟨q1, q2, q3⟩ := q
    have t1 : i < xs1.length := by omega
    have t2 : i < xs2.length := by omega
    have t3 : i < xs3.length := by omega
    exact ⟨xs1, xs2, xs3, xs1[i], xs2[i], xs3[i], q1, q2, q3, by simp [t1], by simp [t2], by simp [t3]⟩
  · obtain ⟨T, x1, x2, x3, e1, e2, e3, f1, f2, f3⟩ := y
    obtain ⟨q1, q2, q3⟩ := q
    exact ⟨T, x1, x2, x3, e1, e2, e3, f1 xs1 q1, f2 xs2 q2, f3 xs3 q3⟩
end ZP
set_option Elab.async false
set_option linter.all false
set_option maxRecDepth 100000
set_option maxHeartbeats 2000000
/-! List comprehensions of three clauses. -/
namespace L3
open PySem PySem.Spec PyProof.Rows L2
section
variable {prog : Program} {w : World} {A : Around} {R : Result → Shared → Prop} {s : Shared} {elt t0 i1 : Expr} {gens : List Comprehension} {scope : Scope} {pos : Pos} {ifs0 : List Expr} {p0 : Pos} {k : Nat} {it acc : Value} {env : Env}
/-- the turn of a clause that has another one behind it -/
def OutT (e : Expr) (k : Nat) (t0 : Expr) (p0 : Pos) (ifs0 : List Expr) (i1 : Expr) (it acc : Value) (env : Env) : Prop := compTurn e k it acc env = (do
      standAt p0
      match ← pyNext it with
      | none => pure (.done .next)
      | some v =>
        letOwnedTupleGo t0 it v
        assign t0 env v
        let mut ok := true
        for c in ifs0 do
          if ok then ok ← isTrue c env (eval c env)
        if ok then
          let x ← eval i1 env
          standAt i1.pos
          let x ← foldedSetIterable i1 env x
          let _ ← runOwn (.compStart e (k + 1) (← holding [x] (pyIter x)) acc env) env
        again (.compLoop e k it acc env))
/-- the turn of the last clause -/
def InT (e : Expr) (k : Nat) (elt t1 : Expr) (p1 : Pos) (ifs1 : List Expr) (it acc : Value) (env : Env) : Prop := compTurn e k it acc env = (do
      standAt p1
      match ← pyNext it with
      | none => pure (.done .next)
      | some v =>
        letOwnedTupleGo t1 it v
        assign t1 env v
        let mut ok := true
        for c in ifs1 do
          if ok then ok ← isTrue c env (eval c env)
        if ok then
          (do let _ ← call (.builtin "list.append") [acc, ← eval elt env])
        again (.compLoop e k it acc env))
theorem loop_out (hT : OutT (.ListComp elt gens scope pos) k t0 p0 ifs0 i1 it acc env) (hs : ∀ x, foldedSetIterable i1 env x = pure x) (I : Nat → Shared → Prop)
    (turn : ∀ n s, I n s → wpAny (model prog w) A (pyNext it) (fun r s₁ => match r with
      | none => R (.ok .next) s₁
      | some v => wpAny (model prog w) A (letOwnedTupleGo t0 it v) (fun _ s₁' => wpAny (model prog w) A (assign t0 env v) (fun _ s₂ =>
          wpAny (model prog w) A (forIn ifs0 true fun c r => if r = true then do let ok ← isTrue c env (eval c env); pure (ForInStep.yield ok) else pure (ForInStep.yield r)) (fun ok s₃ =>
            if ok = true then wpAny (model prog w) A (eval i1 env) (fun x s₄ => wpAny (model prog w) A (pyIter x) (fun it1 s₅ =>
              codeAny (model prog w) A (.compStart (.ListComp elt gens scope pos) (k + 1) it1 acc env) (fun r s' => match r with
                | .ok _ => ∃ m, m < n ∧ I m s'
                | .error _ => False) s₅) (notedBy (model prog w) A env fun e s' => R (.error e) s') s₄) (notedBy (model prog w) A env fun e s' => R (.error e) s') s₃
            else ∃ m, m < n ∧ I m s₃) (notedBy (model prog w) A env fun e s' => R (.error e) s') s₂) (notedBy (model prog w) A env fun e s' => R (.error e) s') s₁') (notedBy (model prog w) A env fun e s' => R (.error e) s') s₁) (notedBy (model prog w) A env fun e s' => R (.error e) s') s)
    (n : Nat) (h : I n s) :
    codeAny (model prog w) A (.compLoop (.ListComp elt gens scope pos) k it acc env) R s := by
  refine codeAny_loop rfl I (fun n s hI => ?_) n h
  show wpAny _ A ((compTurn (.ListComp elt gens scope pos) k it acc env).onRaise (fun x => do noteFrame x env; theTreesLotGoes x)) _ _ s
  refine wpAny_noted ?_
  rw [hT]
  refine wpAny_bind (wpAny_standAt (wpAny_bind (wpAny_mono (turn n s hI) (fun r s₁ h₁ => ?_) fun _ _ h' => h')))
  cases r with
  | none => exact wpAny_pure h₁
  | some v =>
    refine wpAny_bind (wpAny_mono h₁ (fun _ s₁' h₁' => ?_) fun _ _ h' => h')
    refine wpAny_bind (wpAny_mono h₁' (fun _ s₂ h₂ => wpAny_bind (wpAny_mono h₂ (fun ok s₃ h₃ => ?_) fun _ _ h' => h')) fun _ _ h' => h')
    cases ok with
    | false => exact wpAny_pure ⟨rfl, h₃⟩
    | true =>
      refine wpAny_bind (wpAny_mono h₃ (fun x s₄ h₄ => ?_) fun _ _ h' => h')
      refine wpAny_bind (wpAny_standAt (wpAny_bind (wpAny_of_eq (hs x) (wpAny_bind (wpAny_holding (wpAny_mono h₄ (fun it1 s₅ h₅ => ?_) fun _ _ h' => h'))))))
      refine wpAny_bind (wpAny_runOwn ?_)
      rw [Around.mark_none]
      refine codeAny_mono h₅ fun r s' hr => ?_
      cases r with
      | ok f =>
        first
          | exact wpAny_pure ⟨rfl, hr⟩
          | exact wpAny_bind (wpAny_pure (wpAny_pure ⟨rfl, hr⟩))
      | error e => exact hr.elim
theorem loop_in {t1 : Expr} {p1 : Pos} {ifs1 : List Expr} (hT : InT (.ListComp elt gens scope pos) k elt t1 p1 ifs1 it acc env) (I : Nat → Shared → Prop)
    (turn : ∀ n s, I n s → wpAny (model prog w) A (pyNext it) (fun r s₁ => match r with
      | none => R (.ok .next) s₁
      | some v => wpAny (model prog w) A (letOwnedTupleGo t1 it v) (fun _ s₁' => wpAny (model prog w) A (assign t1 env v) (fun _ s₂ =>
          wpAny (model prog w) A (forIn ifs1 true fun c r => if r = true then do let ok ← isTrue c env (eval c env); pure (ForInStep.yield ok) else pure (ForInStep.yield r)) (fun ok s₃ =>
            if ok = true then wpAny (model prog w) A (eval elt env) (fun x s₄ =>
              wpAny (model prog w) A (call (.builtin "list.append") [acc, x]) (fun _ s₅ => ∃ m, m < n ∧ I m s₅) (notedBy (model prog w) A env fun e s' => R (.error e) s') s₄) (notedBy (model prog w) A env fun e s' => R (.error e) s') s₃
            else ∃ m, m < n ∧ I m s₃) (notedBy (model prog w) A env fun e s' => R (.error e) s') s₂) (notedBy (model prog w) A env fun e s' => R (.error e) s') s₁') (notedBy (model prog w) A env fun e s' => R (.error e) s') s₁) (notedBy (model prog w) A env fun e s' => R (.error e) s') s)
    (n : Nat) (h : I n s) :
    codeAny (model prog w) A (.compLoop (.ListComp elt gens scope pos) k it acc env) R s := by
  refine codeAny_loop rfl I (fun n s hI => ?_) n h
  show wpAny _ A ((compTurn (.ListComp elt gens scope pos) k it acc env).onRaise (fun x => do noteFrame x env; theTreesLotGoes x)) _ _ s
  refine wpAny_noted ?_
  rw [hT]
  refine wpAny_bind (wpAny_standAt (wpAny_bind (wpAny_mono (turn n s hI) (fun r s₁ h₁ => ?_) fun _ _ h' => h')))
  cases r with
  | none => exact wpAny_pure h₁
  | some v =>
    refine wpAny_bind (wpAny_mono h₁ (fun _ s₁' h₁' => ?_) fun _ _ h' => h')
    refine wpAny_bind (wpAny_mono h₁' (fun _ s₂ h₂ => wpAny_bind (wpAny_mono h₂ (fun ok s₃ h₃ => ?_) fun _ _ h' => h')) fun _ _ h' => h')
    cases ok with
    | false => exact wpAny_pure ⟨rfl, h₃⟩
    | true =>
      exact wpAny_bind (wpAny_bind (wpAny_mono h₃ (fun x s₄ h₄ => wpAny_bind (wpAny_mono h₄ (fun _ s₅ h₅ => wpAny_pure (wpAny_pure ⟨rfl, h₅⟩)) fun _ _ h' => h')) fun _ _ h' => h'))
theorem start_ok {c : Comprehension} (hc : (clausesOf (.ListComp elt gens scope pos))[k]? = some c) (ha : c.is_async = 0) (h0 : codeAny (model prog w) A (.compLoop (.ListComp elt gens scope pos) k it acc env) R s)
    (h : wpAny (model prog w) A (pyIter it) (fun it' s' => codeAny (model prog w) A (.compLoop (.ListComp elt gens scope pos) k it' acc env) R s')
      (notedBy (model prog w) A env fun x s' => R (.error x) s') s) :
    codeAny (model prog w) A (.compStart (.ListComp elt gens scope pos) k it acc env) R s := by
  refine codeAny_of_tree ?_
  show wpAny _ _ ((compStart (.ListComp elt gens scope pos) k it acc env).onRaise (fun x => do noteFrame x env; standAt theWindowsPlace)) _ _ s
  refine wpAny_notedAt ?_
  unfold compStart
  rw [hc]
  simp only [Option.elim, ha, bne_self_eq_false, Bool.false_eq_true, if_false]
  show wpAny _ _ (ask >>= _) _ _ s
  refine wpAny_bind (wpAny_askSetting (wpAny_ite ?_))
  split
  · first
      | exact wpAny_bind (wpAny_pure (wpAny_pure (And.intro rfl h0)))
      | exact wpAny_pure (And.intro rfl h0)
  · first
      | exact wpAny_bind (wpAny_rule (wpAny_bind (wpAny_standAt (wpAny_bind (wpAny_mono h (fun it' s' h' => wpAny_pure (And.intro rfl h')) fun _ _ x => x)))))
      | (refine wpAny_bind (wpAny_rule ?_); show wpAny _ _ (standAt _ >>= _) _ _ s; exact wpAny_bind (wpAny_standAt (wpAny_bind (wpAny_mono h (fun it' s' h' => wpAny_pure (And.intro rfl h')) fun _ _ x => x))))
end
abbrev TB' := L2.St → Hp → (Hp → Prop) → Prop
def bEl (te : TE) (D : Addr) : TB' := fun σ H Nx => te σ H fun y H7 => ∃ acc, H7 D = some (.lst acc) ∧ acc.length < sizeLine ∧ Nx (upd H7 D (.lst (acc ++ [y])))
def lvl (J : It) (g : TG) (tt : TT) (vs : List Nat) (B : TB') (σ : L2.St) (H1 : Hp) (Nx : Hp → Prop) : Prop :=
  ∃ W : Nat → Nat → Hp → Prop, (∃ m, W 0 m H1) ∧ ∀ i m H, W i m H →
    (J.stop i H ∧ Nx H) ∨ (J.go i H ∧ ∃ Nx1 : Hp → Prop, (∀ H', Nx1 H' → ∃ m', m' < m ∧ W (i + 1) m' H') ∧ ∀ x H', J.yld i H x H' → g x (L2.wipe σ vs) H' fun σ2 H2 => L2.wipe σ2 vs = L2.wipe σ vs ∧ tt σ2 H2 fun b H3 =>
      if b = true then B σ2 H3 Nx1 else Nx1 H3)
def bCl (wi : TI) (g : TG) (tt : TT) (vs : List Nat) (B : TB') : TB' := fun σ H Nx => wi σ H fun J H1 => lvl J g tt vs B σ H1 Nx
section
variable {X : Cx} {elt tg tg1 iter1 : Expr} {gens : List Comprehension} {scope : Scope} {pos : Pos} {ifs : List Expr} {k : Nat} {D : Addr} {p0 : Pos} {g g1 : TG} {tt tt1 : TT} {te : TE} {vs vs1 : List Nat} {B : TB'} {wi1 : TI}
/-- a clause's loop within a block -/
def LR (X : Cx) (elt : Expr) (gens : List Comprehension) (scope : Scope) (pos : Pos) (k : Nat) (D : Addr) (tg : Expr) (g : TG) (tt : TT) (vs : List Nat) (B : TB') : Prop :=
  ∀ (pins : List (Addr × Obj)) (σ : L2.St) (H : Hp) (s : Shared) (J : It) (it : Addr) (fp : List Addr) (tn : Nat → Heap → Prop) (Nx : Hp → Prop), Inv X pins σ H s → Turn X.prog X.w X.K tg J fp it tn → tn 0 s.heap → (∀ b ∈ fp, FpOk X pins H b) → lvl J g tt vs B σ H Nx →
    codeAny (model X.prog X.w) X.A (.compLoop (.ListComp elt gens scope pos) k (.ref it) (.ref D) X.env) (fun r s' => match r with
      | .ok _ => ∃ H', Inv X pins (L2.wipe σ vs) H' s' ∧ Nx H'
      | .error _ => False) s
theorem wipe2 (σ : L2.St) (vs : List Nat) : ∀ (j : Nat) v, (L2.wipe σ vs)[j]? = some (some v) → σ[j]? = some (some v) := fun j v e => (wipe_some e).1
theorem lr_last (hc : X.calm = true) (hT : ∀ it acc, InT (.ListComp elt gens scope pos) k elt tg p0 ifs it acc X.env) (pg : PG X tg g) (pt : PTs X ifs tt) (pe : PE X elt te) (hxe : X.xe = fun _ _ => False) : LR X elt gens scope pos k D tg g tt vs (bEl te D) := by
  intro pins σ H s J it fp tn Nx I T st f h
  obtain ⟨W, ⟨m0, w0⟩, turn⟩ := h
  refine loop_in (hT _ _) (fun n s' => ∃ i H', Inv X pins (L2.wipe σ vs) H' s' ∧ tn i s'.heap ∧ (∀ b ∈ fp, H' b = none) ∧ W i n H') ?_ m0 ⟨0, H, I.weak (wipe_length _ _) (wipe2 σ vs), st, fun b hb => (f b hb).1, w0⟩
  have stat : ∀ {H' : Hp}, (∀ b ∈ fp, H' b = none) → ∀ b ∈ fp, FpOk X pins H' b := fun hn b hb => ⟨hn b hb, (f b hb).2⟩
  rintro n s5 ⟨i, H5, I5, st5, n5, w5⟩
  rcases turn i n H5 w5 with ⟨stop, qq⟩ | ⟨go, Nx1, hNx, step⟩
  · refine thnF (T.done X rfl rfl rfl hc i pins s5 _ H5 (fun _ _ => False) I5 (stat n5) st5 stop) fun r s6 ⟨hr, I6⟩ => ?_
    subst hr
    exact ⟨H5, I6, qq⟩
  · refine thnF (T.item X rfl rfl rfl hc i pins s5 _ H5 (fun _ _ => False) I5 (stat n5) st5 go) fun r s6 ⟨u, hr, h6⟩ => ?_
    subst hr
    refine thnF h6 fun _ s7 ⟨x, H7, I7, r7, y7, st7, n7⟩ => ?_
    have I7' := I7.pinned (stat n7) (T.obj _ _ st7)
    have x0 : ∀ {Y : Cx} {α : Type} {t : Sem α} {Q : α → Shared → Prop} {s : Shared}, wpAny (model X.prog X.w) X.A t Q X.xe s → wpAny (model X.prog X.w) X.A t Q (fun _ _ => False) s := fun {Y α t Q s} h => by rw [hxe] at h; exact h
    refine thnF (x0 (Y := X) (pg.run _ s7 _ H7 x u _ I7' r7 (step x H7 y7))) fun _ s8 ⟨σ8, H8, I8, hw8, q8⟩ => ?_
    refine thnF (x0 (Y := X) (pt.run _ s8 σ8 H8 _ I8 q8)) fun b s9 ⟨H9, I9, q9⟩ => ?_
    have fin : ∀ {s' : Shared} {H' : Hp}, Inv X (pins ++ pinsAt fp s7.heap) σ8 H' s' → Nx1 H' → ∃ m, m < n ∧ ∃ i H', Inv X pins (L2.wipe σ vs) H' s' ∧ tn i s'.heap ∧ (∀ b ∈ fp, H' b = none) ∧ W i m H' := fun {s' H'} I' nx => by
      obtain ⟨m', hm, w'⟩ := hNx H' nx
      have pin' : ∀ b ∈ fp, ∀ o, s7.heap.get? b = some o → s'.heap.get? b = some o ∧ H' b = none := fun b hb o e =>
        let z := I'.pin (b, o) (List.mem_append_right _ (List.mem_append_right _ (mem_pinsAt hb e)))
        ⟨z.1, z.2.1⟩
      refine ⟨m', hm, i + 1, H', I'.unpinned.weak (by rw [← hw8, wipe_length]) (fun j v e => by rw [← hw8] at e; exact (wipe_some e).1), T.keep _ _ _ st7 fun b hb o e => (pin' b hb o e).1, fun b hb => ?_, w'⟩
      obtain ⟨o, e, _⟩ := T.obj _ _ st7 b hb
      exact (pin' b hb o e).2
    cases b with
    | false =>
      simp only [Bool.false_eq_true, if_false] at q9 ⊢
      exact fin I9 q9
    | true =>
      simp only [if_true] at q9 ⊢
      refine thnF (x0 (Y := X) (pe.run _ s9 σ8 H9 _ I9 q9)) fun z s17 ⟨yv, H17, I17, r17, acc, hD17, hz17, nx⟩ => ?_
      exact app_ok (X := X) I17 hD17 hz17 r17 fun s18 I18 => fin I18 nx
theorem lr_mid {c1 : Comprehension} (hc : X.calm = true) (hT : ∀ it acc, OutT (.ListComp elt gens scope pos) k tg p0 ifs iter1 it acc X.env) (hs : ∀ x, foldedSetIterable iter1 X.env x = pure x) (hcl : (clausesOf (.ListComp elt gens scope pos))[k + 1]? = some c1) (hca : c1.is_async = 0) (pg : PG X tg g) (pt : PTs X ifs tt) (pi : PI X tg1 iter1 wi1)
    (hin : LR X elt gens scope pos (k + 1) D tg1 g1 tt1 vs1 B) (hv : ∀ i ∈ vs1, i ∈ vs) (hxe : X.xe = fun _ _ => False) : LR X elt gens scope pos k D tg g tt vs (bCl wi1 g1 tt1 vs1 B) := by
  intro pins σ H s J it fp tn Nx I T st f h
  obtain ⟨W, ⟨m0, w0⟩, turn⟩ := h
  refine loop_out (hT _ _) hs (fun n s' => ∃ i H', Inv X pins (L2.wipe σ vs) H' s' ∧ tn i s'.heap ∧ (∀ b ∈ fp, H' b = none) ∧ W i n H') ?_ m0 ⟨0, H, I.weak (wipe_length _ _) (wipe2 σ vs), st, fun b hb => (f b hb).1, w0⟩
  have stat : ∀ {H' : Hp}, (∀ b ∈ fp, H' b = none) → ∀ b ∈ fp, FpOk X pins H' b := fun hn b hb => ⟨hn b hb, (f b hb).2⟩
  rintro n s5 ⟨i, H5, I5, st5, n5, w5⟩
  rcases turn i n H5 w5 with ⟨stop, qq⟩ | ⟨go, Nx1, hNx, step⟩
  · refine thnF (T.done X rfl rfl rfl hc i pins s5 _ H5 (fun _ _ => False) I5 (stat n5) st5 stop) fun r s6 ⟨hr, I6⟩ => ?_
    subst hr
    exact ⟨H5, I6, qq⟩
  · refine thnF (T.item X rfl rfl rfl hc i pins s5 _ H5 (fun _ _ => False) I5 (stat n5) st5 go) fun r s6 ⟨u, hr, h6⟩ => ?_
    subst hr
    refine thnF h6 fun _ s7 ⟨x, H7, I7, r7, y7, st7, n7⟩ => ?_
    have I7' := I7.pinned (stat n7) (T.obj _ _ st7)
    have x0 : ∀ {Y : Cx} {α : Type} {t : Sem α} {Q : α → Shared → Prop} {s : Shared}, wpAny (model X.prog X.w) X.A t Q X.xe s → wpAny (model X.prog X.w) X.A t Q (fun _ _ => False) s := fun {Y α t Q s} h => by rw [hxe] at h; exact h
    refine thnF (x0 (Y := X) (pg.run _ s7 _ H7 x u _ I7' r7 (step x H7 y7))) fun _ s8 ⟨σ8, H8, I8, hw8, q8⟩ => ?_
    refine thnF (x0 (Y := X) (pt.run _ s8 σ8 H8 _ I8 q8)) fun b s9 ⟨H9, I9, q9⟩ => ?_
    have fin : ∀ {σ9 : L2.St} {s' : Shared} {H' : Hp}, Inv X (pins ++ pinsAt fp s7.heap) σ9 H' s' → (L2.wipe σ vs).length = σ9.length → (∀ (j : Nat) v, (L2.wipe σ vs)[j]? = some (some v) → σ9[j]? = some (some v)) → Nx1 H' → ∃ m, m < n ∧ ∃ i H', Inv X pins (L2.wipe σ vs) H' s' ∧ tn i s'.heap ∧ (∀ b ∈ fp, H' b = none) ∧ W i m H' := fun {σ9 s' H'} I' hl hk nx => by
      obtain ⟨m', hm, w'⟩ := hNx H' nx
      have pin' : ∀ b ∈ fp, ∀ o, s7.heap.get? b = some o → s'.heap.get? b = some o ∧ H' b = none := fun b hb o e =>
        let z := I'.pin (b, o) (List.mem_append_right _ (List.mem_append_right _ (mem_pinsAt hb e)))
        ⟨z.1, z.2.1⟩
      refine ⟨m', hm, i + 1, H', I'.unpinned.weak hl hk, T.keep _ _ _ st7 fun b hb o e => (pin' b hb o e).1, fun b hb => ?_, w'⟩
      obtain ⟨o, e, _⟩ := T.obj _ _ st7 b hb
      exact (pin' b hb o e).2
    have hl8 : (L2.wipe σ vs).length = σ8.length := by rw [← hw8, wipe_length]
    have hk8 : ∀ (j : Nat) v, (L2.wipe σ vs)[j]? = some (some v) → σ8[j]? = some (some v) := fun j v e => by
      rw [← hw8] at e
      exact (wipe_some e).1
    have hk9 : ∀ (j : Nat) v, (L2.wipe σ vs)[j]? = some (some v) → (L2.wipe σ8 vs1)[j]? = some (some v) := fun j v e => by
      rw [← hw8] at e
      obtain ⟨e1, e2⟩ := wipe_some e
      rw [wipe_out fun z => e2 (hv j z)]
      exact e1
    cases b with
    | false =>
      simp only [Bool.false_eq_true, if_false] at q9 ⊢
      exact fin I9 hl8 hk8 q9
    | true =>
      simp only [if_true] at q9 ⊢
      have pir := pi.run _ s9 σ8 H9 _ I9 q9
      rw [hxe] at pir
      refine thnF pir fun xv s10 hx => thnF hx fun itv s11 h11 => ?_
      obtain ⟨it1, fp1, tn1, J1, H11, e1, I11, T1, st11, f11, lv⟩ := h11
      subst e1
      have run := hin _ σ8 H11 s11 J1 it1 fp1 tn1 Nx1 I11 T1 st11 f11 lv
      have loop1 := codeAny_mono run (R' := fun r s' => match r with
              | .ok _ => ∃ m, m < n ∧ ∃ i H', Inv X pins (L2.wipe σ vs) H' s' ∧ tn i s'.heap ∧ (∀ b ∈ fp, H' b = none) ∧ W i m H'
              | .error _ => False) fun r s' hr => by
        cases r with
        | ok _ =>
          obtain ⟨H', I', nx⟩ := hr
          exact fin I' (hl8.trans (wipe_length σ8 vs1).symm) hk9 nx
        | error _ => exact hr
      exact start_ok hcl hca loop1 (T1.self X.A 0 _ _ _ st11 loop1)
end
section
variable {X : Cx}
def tLc3 (wi : TI) (g : TG) (tt : TT) (wi1 : TI) (g1 : TG) (tt1 : TT) (wi2 : TI) (g2 : TG) (tt2 : TT) (te : TE) (vs vs1 vs2 : List Nat) : TE := fun σ H Q => wi σ H fun J H1 => ∀ D, H1 D = none → lvl J g tt vs (bCl wi1 g1 tt1 vs1 (bCl wi2 g2 tt2 vs2 (bEl te D))) σ (upd H1 D (.lst [])) fun H => Q (.ref D) H
theorem lc3_core {pins : List (Addr × Obj)} {s : Shared} {σ : L2.St} {H : Hp} {Q : VK} {elt tg iter tg1 iter1 tg2 iter2 : Expr} {ifs ifs1 ifs2 : List Expr} {scope : Scope} {own : List (Str × Nat)} {vs1 vs2 : List Nat} {pos pos' : Pos} {wi wi1 wi2 : TI} {g g1 g2 : TG} {tt tt1 tt2 : TT} {te : TE} {use : Option (Value → Sem Unit)} {Qf : Value → Shared → Prop}
    (hc : X.calm = true) (hN : X.N.Nodup) (I : L2.Inv X pins σ H s) (hi : PI X tg iter wi) (ok : BlkOk X.N X.env.scope scope own) (hv : ∀ i ∈ vs1, i ∈ own.map (·.2)) (hv2 : ∀ i ∈ vs2, i ∈ vs1)
    (hg : ∀ (s : Shared) (H : Hp) (C : Addr) (cl : List (Str × Addr)) (fp : List Addr), PG (X.blk s H scope (compEnvC scope cl C X.env) fp) tg g) (ht : ∀ (s : Shared) (H : Hp) (C : Addr) (cl : List (Str × Addr)) (fp : List Addr), PTs (X.blk s H scope (compEnvC scope cl C X.env) fp) ifs tt)
    (he : ∀ (s : Shared) (H : Hp) (C : Addr) (cl : List (Str × Addr)) (fp : List Addr), PE (X.blk s H scope (compEnvC scope cl C X.env) fp) elt te) (hs : ∀ x, foldedSetIterable iter X.env x = pure x)
    (hi1 : ∀ (s : Shared) (H : Hp) (C : Addr) (cl : List (Str × Addr)) (fp : List Addr), PI (X.blk s H scope (compEnvC scope cl C X.env) fp) tg1 iter1 wi1) (hi2 : ∀ (s : Shared) (H : Hp) (C : Addr) (cl : List (Str × Addr)) (fp : List Addr), PI (X.blk s H scope (compEnvC scope cl C X.env) fp) tg2 iter2 wi2)
    (hg1 : ∀ (s : Shared) (H : Hp) (C : Addr) (cl : List (Str × Addr)) (fp : List Addr), PG (X.blk s H scope (compEnvC scope cl C X.env) fp) tg1 g1) (hg2 : ∀ (s : Shared) (H : Hp) (C : Addr) (cl : List (Str × Addr)) (fp : List Addr), PG (X.blk s H scope (compEnvC scope cl C X.env) fp) tg2 g2)
    (ht1 : ∀ (s : Shared) (H : Hp) (C : Addr) (cl : List (Str × Addr)) (fp : List Addr), PTs (X.blk s H scope (compEnvC scope cl C X.env) fp) ifs1 tt1) (ht2 : ∀ (s : Shared) (H : Hp) (C : Addr) (cl : List (Str × Addr)) (fp : List Addr), PTs (X.blk s H scope (compEnvC scope cl C X.env) fp) ifs2 tt2)
    (hs1 : ∀ env x, foldedSetIterable iter1 env x = pure x) (hs2 : ∀ env x, foldedSetIterable iter2 env x = pure x)
    (h : tLc3 wi g tt wi1 g1 tt1 wi2 g2 tt2 te (own.map (·.2)) vs1 vs2 σ H Q)
    (hRR : ∀ D C s' m H', L2.Inv X pins σ H' s' → Q (.ref D) H' → s'.heap.Ns C m → FpOk X pins H' C → compPost (model X.prog X.w) X.A X.xe use Qf (.ref D) C (.ok .next) s') :
    wpAny (model X.prog X.w) X.A (comprehension (.ListComp elt [⟨tg, iter, ifs, 0⟩, ⟨tg1, iter1, ifs1, 0⟩, ⟨tg2, iter2, ifs2, 0⟩] scope pos) scope X.env pos' (newList []) false (eval iter X.env) use) Qf X.xe s := by
  have hfree : ∀ y ∈ scope.names, y.2 = .free → ∃ c, X.env.cells.lookup y.1 = some c := fun y hy e => by
    rcases ok.free y hy e with k | k
    · exact I.ok.has _ (.inl k)
    · exact I.ok.has _ (.inr k)
  refine wpAny_comprehension_free (use := use) rfl hs (closure_ok hfree) ok.kind (fun y hy e => by rw [ok.uniq y hy, e])
    (thn (hi.run pins s σ H _ I h) fun xv s1 hx => thn hx fun itv s2 h2 => ?_)
  obtain ⟨it, fp, tn, J, H2, e, I2, T, st2, f2, q⟩ := h2
  subst e
  refine wpAny_newObj_type (newEnv_comp ?_) (by show 0 ≤ sizeLine; decide)
  generalize hD : s2.heap.objs.size = D
  have hDn : H2 D = none := I2.hok.fresh (Nat.le_of_eq hD)
  obtain ⟨W, ⟨m0, w0⟩, turn⟩ := q D hDn
  -- the new list
  generalize hs3 : ({ s2 with heap := s2.heap.push { cls := .type "list", data := .seq ([] : List Value).toArray } } : Shared) = s3
  have I3 : L2.Inv X pins σ (upd H2 D (.lst [])) s3 := by
    rw [← hs3]
    refine I2.laid (t' := s2.toks) (fun b o e => Heap.get?_push_of_some _ e) (Nat.le_of_eq hD) ⟨Nat.zero_le _, [], 0, .nil, ?_⟩
    rw [← hD]
    exact Heap.get?_push_size _ rfl
  have h3 : s3.heap = s2.heap.push { cls := .type "list", data := .seq ([] : List Value).toArray } := by rw [← hs3]
  have sz : ∀ b ∈ fp, b < s2.heap.objs.size := fun b hb => by
    obtain ⟨o, e, _⟩ := T.obj _ _ st2 b hb
    exact Heap.lt_size e
  have f3 : ∀ b ∈ fp, FpOk X pins (upd H2 D (.lst [])) b ∧ b < s3.heap.objs.size := fun b hb => by
    have hlt := sz b hb
    refine ⟨⟨?_, (f2 b hb).2⟩, by rw [h3, Heap.size_push]; exact Nat.lt_succ_of_lt hlt⟩
    rw [upd_ne (by rw [← hD]; exact Nat.ne_of_lt hlt)]
    exact (f2 b hb).1
  have st3 : tn 0 s3.heap := T.keep _ _ _ st2 fun b _ o e => by rw [h3]; exact Heap.get?_push_of_some _ e
  have I4 := block_start I3 ok hN f3
  have pg := hg s3 (upd H2 D (.lst [])) s3.heap.objs.size (cellsFrom (s3.heap.objs.size + 1) scope.names (cloFrom X.env.cells scope.names [])) fp
  have pt := ht s3 (upd H2 D (.lst [])) s3.heap.objs.size (cellsFrom (s3.heap.objs.size + 1) scope.names (cloFrom X.env.cells scope.names [])) fp
  have pe := he s3 (upd H2 D (.lst [])) s3.heap.objs.size (cellsFrom (s3.heap.objs.size + 1) scope.names (cloFrom X.env.cells scope.names [])) fp
  have pi1 := hi1 s3 (upd H2 D (.lst [])) s3.heap.objs.size (cellsFrom (s3.heap.objs.size + 1) scope.names (cloFrom X.env.cells scope.names [])) fp
  have pi2 := hi2 s3 (upd H2 D (.lst [])) s3.heap.objs.size (cellsFrom (s3.heap.objs.size + 1) scope.names (cloFrom X.env.cells scope.names [])) fp
  have pg1 := hg1 s3 (upd H2 D (.lst [])) s3.heap.objs.size (cellsFrom (s3.heap.objs.size + 1) scope.names (cloFrom X.env.cells scope.names [])) fp
  have pg2 := hg2 s3 (upd H2 D (.lst [])) s3.heap.objs.size (cellsFrom (s3.heap.objs.size + 1) scope.names (cloFrom X.env.cells scope.names [])) fp
  have pt1 := ht1 s3 (upd H2 D (.lst [])) s3.heap.objs.size (cellsFrom (s3.heap.objs.size + 1) scope.names (cloFrom X.env.cells scope.names [])) fp
  have pt2 := ht2 s3 (upd H2 D (.lst [])) s3.heap.objs.size (cellsFrom (s3.heap.objs.size + 1) scope.names (cloFrom X.env.cells scope.names [])) fp
  show codeAny _ _ (.compStart (.ListComp elt [⟨tg, iter, ifs, 0⟩, ⟨tg1, iter1, ifs1, 0⟩, ⟨tg2, iter2, ifs2, 0⟩] scope pos) 0 (.ref it) (.ref D) (compEnvC scope (cellsFrom (s3.heap.objs.size + 1) scope.names (cloFrom X.env.cells scope.names [])) s3.heap.objs.size X.env)) (compPost (model X.prog X.w) X.A X.xe use Qf (.ref D) s3.heap.objs.size) { s3 with heap := pushCells (s3.heap.push { cls := .type "dict", data := .dict #[] }) scope.names }
  have nfp : ∀ b ∈ fp, (upd H2 D (.lst [])) b = none := fun b hb => (f3 b hb).1.1
  generalize hce : compEnvC scope (cellsFrom (s3.heap.objs.size + 1) scope.names (cloFrom X.env.cells scope.names [])) s3.heap.objs.size X.env = ce at I4 pg pt pe pi1 pg1 pt1 pi2 pg2 pt2 ⊢
  have cL : ce.locals = s3.heap.objs.size := by subst hce; rfl
  generalize hH3 : upd H2 D (.lst []) = H3 at I3 I4 pg pt pe pi1 pg1 pt1 pi2 pg2 pt2 w0 nfp f3
  generalize hs4 : ({ s3 with heap := pushCells (s3.heap.push { cls := .type "dict", data := .dict #[] }) scope.names } : Shared) = s4 at I4 ⊢
  have st4 : tn 0 s4.heap := T.keep _ _ _ st3 fun b _ o e => by rw [← hs4]; exact pushCells_keeps _ _ _ _ (Heap.get?_push_of_some _ e)
  have stat : ∀ {σ' : L2.St} {H' : Hp} {s' : Shared}, L2.Inv (X.blk s3 H3 scope ce fp) [] σ' H' s' → (∀ b ∈ fp, H' b = none) → ∀ b ∈ fp, FpOk (X.blk s3 H3 scope ce fp) [] H' b := fun {σ' H' s'} I' hn b hb =>
    ⟨hn b hb, (I'.ok.exf b hb).1, I'.ok.exfs b hb, .inl hb, fun x c e => (I'.ok.exf b hb).2 x c e, fun p hp => absurd (show p ∈ ([] : List (Addr × Obj)) ++ [] from hp) (by simp)⟩
  have loop : codeAny (model X.prog X.w) X.A (.compLoop (.ListComp elt [⟨tg, iter, ifs, 0⟩, ⟨tg1, iter1, ifs1, 0⟩, ⟨tg2, iter2, ifs2, 0⟩] scope pos) 0 (.ref it) (.ref D) ce) (compPost (model X.prog X.w) X.A X.xe use Qf (.ref D) s3.heap.objs.size) s4 := by
    refine loop_out (p0 := iter.pos) (by rfl) (hs1 ce) (fun n s' => ∃ i H', L2.Inv (X.blk s3 H3 scope ce fp) [] (wipe σ (own.map (·.2))) H' s' ∧ tn i s'.heap ∧ (∀ b ∈ fp, H' b = none) ∧ W i n H') ?_ m0 ⟨0, H3, I4, st4, nfp, w0⟩
    rintro n s5 ⟨i, H5, I5, st5, n5, w5⟩
    rcases turn i n H5 w5 with ⟨stop, qq⟩ | ⟨go, Nx, hNx, step⟩
    · have td := T.done (X.blk s3 H3 scope ce fp) rfl rfl rfl hc i [] s5 _ H5 (fun _ _ => False) I5 (stat I5 n5) st5 stop
      refine thnF td fun r s6 ⟨hr, I6⟩ => ?_
      subst hr
      -- back in the def's context
      have I7 : L2.Inv X pins σ H5 s6 := I3.call' (ch := fp) I6.os I6.base I6.hok I6.bare fun b hb => ⟨(f3 b hb).1.2.2.2.1, (f3 b hb).1.2.1, (f3 b hb).1.2.2.2.2.1, (f3 b hb).1.2.2.2.2.2⟩
      have nC : H5 s3.heap.objs.size = none := by
        have z : H5 ce.locals = none := I6.free
        rw [cL] at z
        exact z
      obtain ⟨m, hn, _⟩ := I6.loc
      have hn : s6.heap.Ns ce.locals m := hn
      rw [cL] at hn
      exact hRR D s3.heap.objs.size s6 m H5 I7 qq hn (I3.fpOk (Nat.le_refl _) nC)
    · have ti := T.item (X.blk s3 H3 scope ce fp) rfl rfl rfl hc i [] s5 _ H5 (fun _ _ => False) I5 (stat I5 n5) st5 go
      refine thnF ti fun r s6 ⟨u, hr, h6⟩ => ?_
      subst hr
      refine thnF h6 fun _ s7 ⟨x, H7, I7, r7, y7, st7, n7⟩ => ?_
      have I7' := I7.pinned (stat I7 n7) (T.obj _ _ st7)
      refine thnF (pg.run _ s7 _ H7 x u _ I7' r7 (step x H7 y7)) fun _ s8 ⟨σ8, H8, I8, hw8, q8⟩ => ?_
      refine thnF (pt.run _ s8 σ8 H8 _ I8 q8) fun b s9 ⟨H9, I9, q9⟩ => ?_
      -- the turn's end, from any slots that know what the block knew at its start
      have fin : ∀ {σ9 : L2.St} {s' : Shared} {H' : Hp}, L2.Inv (X.blk s3 H3 scope ce fp) ([] ++ pinsAt fp s7.heap) σ9 H' s' → (wipe σ (own.map (·.2))).length = σ9.length → (∀ (j : Nat) v, (wipe σ (own.map (·.2)))[j]? = some (some v) → σ9[j]? = some (some v)) → Nx H' →
          ∃ m, m < n ∧ ∃ i H', L2.Inv (X.blk s3 H3 scope ce fp) [] (wipe σ (own.map (·.2))) H' s' ∧ tn i s'.heap ∧ (∀ b ∈ fp, H' b = none) ∧ W i m H' := fun {σ9 s' H'} I' hl hk nx => by
        obtain ⟨m', hm, w'⟩ := hNx H' nx
        have pin' : ∀ b ∈ fp, ∀ o, s7.heap.get? b = some o → s'.heap.get? b = some o ∧ H' b = none := fun b hb o e =>
          let z := I'.pin (b, o) (List.mem_append_right _ (List.mem_append_right _ (mem_pinsAt hb e)))
          ⟨z.1, z.2.1⟩
        refine ⟨m', hm, i + 1, H', (I'.unpinned (pins := [])).weak hl hk, T.keep _ _ _ st7 fun b hb o e => (pin' b hb o e).1, fun b hb => ?_, w'⟩
        obtain ⟨o, e, _⟩ := T.obj _ _ st7 b hb
        exact (pin' b hb o e).2
      have hl8 : (wipe σ (own.map (·.2))).length = σ8.length := by rw [← hw8, wipe_length]
      have hk8 : ∀ (j : Nat) v, (wipe σ (own.map (·.2)))[j]? = some (some v) → σ8[j]? = some (some v) := fun j v e => by
        rw [← hw8] at e
        exact (wipe_some e).1
      have hk9 : ∀ (j : Nat) v, (wipe σ (own.map (·.2)))[j]? = some (some v) → (wipe σ8 vs1)[j]? = some (some v) := fun j v e => by
        rw [← hw8] at e
        obtain ⟨e1, e2⟩ := wipe_some e
        rw [wipe_out fun z => e2 (hv j z)]
        exact e1
      cases b with
      | false =>
        simp only [Bool.false_eq_true, if_false] at q9 ⊢
        exact fin I9 hl8 hk8 q9
      | true =>
        simp only [if_true] at q9 ⊢
        refine thnF (pi1.run _ s9 σ8 H9 _ I9 q9) fun xv s10 hx => thnF hx fun itv s11 h11 => ?_
        obtain ⟨it1, fp1, tn1, J1, H11, e1, I11, T1, st11, f11, lv⟩ := h11
        subst e1
        have l2 : LR (X.blk s3 H3 scope ce fp) elt [⟨tg, iter, ifs, 0⟩, ⟨tg1, iter1, ifs1, 0⟩, ⟨tg2, iter2, ifs2, 0⟩] scope pos 2 D tg2 g2 tt2 vs2 (bEl te D) := lr_last (p0 := iter2.pos) hc (fun _ _ => by rfl) pg2 pt2 pe rfl
        have l1 : LR (X.blk s3 H3 scope ce fp) elt [⟨tg, iter, ifs, 0⟩, ⟨tg1, iter1, ifs1, 0⟩, ⟨tg2, iter2, ifs2, 0⟩] scope pos 1 D tg1 g1 tt1 vs1 (bCl wi2 g2 tt2 vs2 (bEl te D)) := lr_mid (p0 := iter1.pos) hc (fun _ _ => by rfl) (hs2 ce) (c1 := ⟨tg2, iter2, ifs2, 0⟩) rfl rfl pg1 pt1 pi2 l2 hv2 rfl
        have run := l1 _ σ8 H11 s11 J1 it1 fp1 tn1 Nx I11 T1 st11 f11 lv
        have loop1 : codeAny (model X.prog X.w) X.A (.compLoop (.ListComp elt [⟨tg, iter, ifs, 0⟩, ⟨tg1, iter1, ifs1, 0⟩, ⟨tg2, iter2, ifs2, 0⟩] scope pos) 1 (.ref it1) (.ref D) ce)
            (fun r s' => match r with
              | .ok _ => ∃ m, m < n ∧ ∃ i H', L2.Inv (X.blk s3 H3 scope ce fp) [] (wipe σ (own.map (·.2))) H' s' ∧ tn i s'.heap ∧ (∀ b ∈ fp, H' b = none) ∧ W i m H'
              | .error _ => False) s11 := codeAny_mono run fun r s' hr => by
          cases r with
          | ok _ =>
            obtain ⟨H', I', nx⟩ := hr
            exact fin I' (hl8.trans (wipe_length σ8 vs1).symm) hk9 nx
          | error _ => exact hr
        exact start_ok (c := ⟨tg1, iter1, ifs1, 0⟩) rfl rfl loop1 (T1.self X.A 0 _ _ _ st11 loop1)
  exact codeAny_compStart_list loop (T.self X.A 0 _ _ _ st4 loop)
/-- as a value -/
theorem pe_lc3 {elt tg iter tg1 iter1 tg2 iter2 : Expr} {ifs ifs1 ifs2 : List Expr} {scope : Scope} {own : List (Str × Nat)} {vs1 vs2 : List Nat} {pos : Pos} {wi wi1 wi2 : TI} {g g1 g2 : TG} {tt tt1 tt2 : TT} {te : TE} (hc : X.calm = true) (hN : X.N.Nodup) (hi : PI X tg iter wi) (ok : BlkOk X.N X.env.scope scope own) (hv : ∀ i ∈ vs1, i ∈ own.map (·.2)) (hv2 : ∀ i ∈ vs2, i ∈ vs1)
    (hg : ∀ (s : Shared) (H : Hp) (C : Addr) (cl : List (Str × Addr)) (fp : List Addr), PG (X.blk s H scope (compEnvC scope cl C X.env) fp) tg g) (ht : ∀ (s : Shared) (H : Hp) (C : Addr) (cl : List (Str × Addr)) (fp : List Addr), PTs (X.blk s H scope (compEnvC scope cl C X.env) fp) ifs tt)
    (hi1 : ∀ (s : Shared) (H : Hp) (C : Addr) (cl : List (Str × Addr)) (fp : List Addr), PI (X.blk s H scope (compEnvC scope cl C X.env) fp) tg1 iter1 wi1) (hi2 : ∀ (s : Shared) (H : Hp) (C : Addr) (cl : List (Str × Addr)) (fp : List Addr), PI (X.blk s H scope (compEnvC scope cl C X.env) fp) tg2 iter2 wi2)
    (hg1 : ∀ (s : Shared) (H : Hp) (C : Addr) (cl : List (Str × Addr)) (fp : List Addr), PG (X.blk s H scope (compEnvC scope cl C X.env) fp) tg1 g1) (hg2 : ∀ (s : Shared) (H : Hp) (C : Addr) (cl : List (Str × Addr)) (fp : List Addr), PG (X.blk s H scope (compEnvC scope cl C X.env) fp) tg2 g2) (ht1 : ∀ (s : Shared) (H : Hp) (C : Addr) (cl : List (Str × Addr)) (fp : List Addr), PTs (X.blk s H scope (compEnvC scope cl C X.env) fp) ifs1 tt1) (ht2 : ∀ (s : Shared) (H : Hp) (C : Addr) (cl : List (Str × Addr)) (fp : List Addr), PTs (X.blk s H scope (compEnvC scope cl C X.env) fp) ifs2 tt2)
    (he : ∀ (s : Shared) (H : Hp) (C : Addr) (cl : List (Str × Addr)) (fp : List Addr), PE (X.blk s H scope (compEnvC scope cl C X.env) fp) elt te) (hs : ∀ x, foldedSetIterable iter X.env x = pure x := by intro _; rfl) (hs1 : ∀ env x, foldedSetIterable iter1 env x = pure x := by intro _ _; rfl) (hs2 : ∀ env x, foldedSetIterable iter2 env x = pure x := by intro _ _; rfl) :
    PE X (.ListComp elt [⟨tg, iter, ifs, 0⟩, ⟨tg1, iter1, ifs1, 0⟩, ⟨tg2, iter2, ifs2, 0⟩] scope pos) (tLc3 wi g tt wi1 g1 tt1 wi2 g2 tt2 te (own.map (·.2)) vs1 vs2) := by
  refine ⟨fun pins s σ H Q I h => ?_⟩
  rw [eval_ListComp]
  refine lc3_core hc hN I hi ok hv hv2 hg ht he hs hi1 hi2 hg1 hg2 ht1 ht2 hs1 hs2 h fun D C s' m H' I' q hn f => ⟨m, hn, fun h'' sb => ?_⟩
  obtain ⟨f0, f1, f2, f3, f4, f5⟩ := f
  exact ⟨.ref D, H', I'.turned (t' := s'.toks) (fun b o hb e => (sb.2 b hb).trans e) f0 f1 f3 f4 f5, rfl, q⟩
theorem ps_setLc3 {i : Nat} {y : Str} {py : Pos} {elt tg iter tg1 iter1 tg2 iter2 : Expr} {ifs ifs1 ifs2 : List Expr} {scope : Scope} {own : List (Str × Nat)} {vs1 vs2 : List Nat} {pos spos : Pos} {wi wi1 wi2 : TI} {g g1 g2 : TG} {tt tt1 tt2 : TT} {te : TE} (hc : X.calm = true) (hN : X.N.Nodup) (hy : X.N[i]? = some y) (hyl : X.env.scope.names.lookup y = some .local)
    (hsw : swapsWith (.ListComp elt [⟨tg, iter, ifs, 0⟩, ⟨tg1, iter1, ifs1, 0⟩, ⟨tg2, iter2, ifs2, 0⟩] scope pos) (some (.Name y py)) spos.line X.env = pure true) (hi : PI X tg iter wi) (ok : BlkOk X.N X.env.scope scope own) (hv : ∀ i ∈ vs1, i ∈ own.map (·.2)) (hv2 : ∀ i ∈ vs2, i ∈ vs1)
    (hg : ∀ (s : Shared) (H : Hp) (C : Addr) (cl : List (Str × Addr)) (fp : List Addr), PG (X.blk s H scope (compEnvC scope cl C X.env) fp) tg g) (ht : ∀ (s : Shared) (H : Hp) (C : Addr) (cl : List (Str × Addr)) (fp : List Addr), PTs (X.blk s H scope (compEnvC scope cl C X.env) fp) ifs tt)
    (hi1 : ∀ (s : Shared) (H : Hp) (C : Addr) (cl : List (Str × Addr)) (fp : List Addr), PI (X.blk s H scope (compEnvC scope cl C X.env) fp) tg1 iter1 wi1) (hi2 : ∀ (s : Shared) (H : Hp) (C : Addr) (cl : List (Str × Addr)) (fp : List Addr), PI (X.blk s H scope (compEnvC scope cl C X.env) fp) tg2 iter2 wi2)
    (hg1 : ∀ (s : Shared) (H : Hp) (C : Addr) (cl : List (Str × Addr)) (fp : List Addr), PG (X.blk s H scope (compEnvC scope cl C X.env) fp) tg1 g1) (hg2 : ∀ (s : Shared) (H : Hp) (C : Addr) (cl : List (Str × Addr)) (fp : List Addr), PG (X.blk s H scope (compEnvC scope cl C X.env) fp) tg2 g2) (ht1 : ∀ (s : Shared) (H : Hp) (C : Addr) (cl : List (Str × Addr)) (fp : List Addr), PTs (X.blk s H scope (compEnvC scope cl C X.env) fp) ifs1 tt1) (ht2 : ∀ (s : Shared) (H : Hp) (C : Addr) (cl : List (Str × Addr)) (fp : List Addr), PTs (X.blk s H scope (compEnvC scope cl C X.env) fp) ifs2 tt2)
    (he : ∀ (s : Shared) (H : Hp) (C : Addr) (cl : List (Str × Addr)) (fp : List Addr), PE (X.blk s H scope (compEnvC scope cl C X.env) fp) elt te) (hs : ∀ x, foldedSetIterable iter X.env x = pure x := by intro _; rfl) (hs1 : ∀ env x, foldedSetIterable iter1 env x = pure x := by intro _ _; rfl) (hs2 : ∀ env x, foldedSetIterable iter2 env x = pure x := by intro _ _; rfl) :
    PS X (.Assign [.Name y py] (.ListComp elt [⟨tg, iter, ifs, 0⟩, ⟨tg1, iter1, ifs1, 0⟩, ⟨tg2, iter2, ifs2, 0⟩] scope pos) spos) (tAsg (tLc3 wi g tt wi1 g1 tt1 wi2 g2 tt2 te (own.map (·.2)) vs1 vs2) (gName i)) := by
  refine ⟨fun pins s σ H D I h => ?_⟩
  rw [exec_Assign_Name_used _ _ _ _ hsw]
  refine wpAny_bind (wpAny_standAt (wpAny_bind ?_))
  show wpAny _ X.A (do let _ ← comprehension (.ListComp elt [⟨tg, iter, ifs, 0⟩, ⟨tg1, iter1, ifs1, 0⟩, ⟨tg2, iter2, ifs2, 0⟩] scope pos) scope X.env (firstIterPos [⟨tg, iter, ifs, 0⟩, ⟨tg1, iter1, ifs1, 0⟩, ⟨tg2, iter2, ifs2, 0⟩] pos) (newList []) false (eval iter X.env) (some (assign (.Name y py) X.env))) _ _ s
  have h : tLc3 wi g tt wi1 g1 tt1 wi2 g2 tt2 te (own.map (·.2)) vs1 vs2 σ H (fun x H1 => gName i x σ H1 D.nx) := h
  refine wpAny_bind (thn (lc3_core (Qf := fun _ s' => SP X pins D .next s') hc hN I hi ok hv hv2 hg ht he hs hi1 hi2 hg1 hg2 ht1 ht2 hs1 hs2 h fun L C s' m H' I' q hn f => ?_) fun _ s' hq => wpAny_pure (wpAny_pure hq))
  show wpAny _ _ (assign (.Name y py) X.env (.ref L)) _ _ _
  refine wpAny_assign_Name (store_ok2 (v := V.ref L) I' hN hy (.inl hyl) rfl (fun s2 I2 ⟨a, sb, ha⟩ => ?_) (.inr hyl))
  obtain ⟨f0, f1, f2, f3, f4, f5⟩ := f
  have haC : C ≠ a := by
    rcases ha with z | z
    · rw [z]; exact f1
    · exact fun e => f4 y a z e.symm
  refine ⟨m, hn.sameBut sb haC, fun h3 sb3 => ?_⟩
  exact ⟨_, H', I2.turned (t' := s2.toks) (fun b o hb e => (sb3.2 b hb).trans e) f0 f1 f3 f4 f5, q⟩
end
end L3
set_option Elab.async false
set_option linter.all false
set_option maxRecDepth 100000
/-! A mirror of the text in plain data: states. -/
namespace MI
open PySem PySem.Spec PyProof.Rows L2 Evl TB DL
/-- an error as data: its class, its fields -/
structure Xc where
  nm : Str
  fs : List (Str × PyData)
/-- what is computed: from what is wished of a value, and of an error -/
abbrev C (α : Type) := (α → Prop) → (Xc → Prop) → Prop
/-- what a name holds: data, a list of one's own that may still change, the deck -/
inductive ML where
  | dat (e : PyData)
  | own (ds : List PyData)
  | dck
abbrev ME := List (Option ML)
/-- where one stands: what must stand, the deck's own address, the errors' classes, what is wished of an error -/
structure Ct where
  W : Wd
  dk : V
  tab : Str → Option Addr
  Z : WX
def dn (dk : V) : Option ML → Option Sl
  | some (.dat e) => some (.dat e)
  | some .dck => some (.raw dk)
  | _ => none
def own1 : Option ML → Option V → List (Addr × List PyData)
  | some (.own ds), some (.ref a) => [(a, ds)]
  | _, _ => []
def owns : ME → L2.St → List (Addr × List PyData)
  | o :: r, s :: σ => own1 o s ++ owns r σ
  | _, _ => []
def Fit (r : ME) (σ : L2.St) : Prop := ∀ (i : Nat) ds, r[i]? = some (some (.own ds)) → ∃ a, σ[i]? = some (some (V.ref a))
structure MSt (c : Ct) (H0 : Hp) (r : ME) (τ : List (V × PyData)) (l : List (Addr × List PyData)) (σ : L2.St) (H : Hp) : Prop where
  fit : Fit r σ
  st : DL.St c.W H0 (r.map (dn c.dk)) τ (owns r σ ++ l) σ H
/-! ### the lists of one's own, by the slots -/
theorem own1_none {o : Option V} : own1 none o = [] := by cases o <;> rfl
theorem owns_set_none {v : Option V} : ∀ (r : ME) (σ : L2.St) (i : Nat), owns (r.set i none) (σ.set i v) = owns (r.set i none) σ
  | [], σ, i => by cases σ <;> rfl
  | o :: r, [], i => by cases i <;> rfl
  | o :: r, s :: σ, 0 => by
    show own1 none v ++ owns r σ = own1 none s ++ owns r σ
    rw [own1_none, own1_none]
  | o :: r, s :: σ, i + 1 => by
    show own1 o s ++ owns (r.set i none) (σ.set i v) = own1 o s ++ owns (r.set i none) σ
    rw [owns_set_none r σ i]
theorem owns_sub : ∀ (r : ME) (σ : L2.St) (i : Nat), (owns (r.set i none) σ).Sublist (owns r σ)
  | [], σ, i => by exact List.Sublist.refl _
  | o :: r, [], i => by cases i <;> exact List.Sublist.refl _
  | o :: r, s :: σ, 0 => by
    show (own1 none s ++ owns r σ).Sublist (own1 o s ++ owns r σ)
    rw [own1_none]
    exact List.sublist_append_right _ _
  | o :: r, s :: σ, i + 1 => (List.Sublist.refl _).append (owns_sub r σ i)
/-- what is set to a thing that is no own list -/
theorem owns_set {x : Option ML} (hx : ∀ s, own1 x s = []) : ∀ (r : ME) (σ : L2.St) (i : Nat), owns (r.set i x) σ = owns (r.set i none) σ
  | [], σ, i => by cases σ <;> rfl
  | o :: r, [], i => by cases i <;> rfl
  | o :: r, s :: σ, 0 => by
    show own1 x s ++ owns r σ = own1 none s ++ owns r σ
    rw [hx, own1_none]
  | o :: r, s :: σ, i + 1 => by
    show own1 o s ++ owns (r.set i x) σ = own1 o s ++ owns (r.set i none) σ
    rw [owns_set hx r σ i]
theorem owns_own {a : Addr} {ds : List PyData} : ∀ (r : ME) (σ : L2.St) (i : Nat), i < r.length → σ[i]? = some (some (V.ref a)) → (owns (r.set i (some (.own ds))) σ).Perm ((a, ds) :: owns (r.set i none) σ)
  | [], σ, i, h, _ => by simp at h
  | o :: r, [], i, _, h => by simp at h
  | o :: r, s :: σ, 0, _, h => by
    have h' : some s = some (some (V.ref a)) := h
    cases h'
    show (own1 (some (.own ds)) (some (V.ref a)) ++ owns r σ).Perm ((a, ds) :: (own1 none (some (V.ref a)) ++ owns r σ))
    rw [own1_none]
    exact List.Perm.refl _
  | o :: r, s :: σ, i + 1, hi, h => by
    have ih := owns_own (ds := ds) r σ i (by simpa using hi) (by simpa using h)
    show (own1 o s ++ owns (r.set i (some (.own ds))) σ).Perm ((a, ds) :: (own1 o s ++ owns (r.set i none) σ))
    exact (List.Perm.append_left _ ih).trans List.perm_middle
theorem set_self {α : Type} : ∀ {l : List α} {i : Nat} {x : α}, l[i]? = some x → l.set i x = l
  | [], _, _, h => by simp at h
  | y :: l, 0, x, h => by simp at h; rw [h]; rfl
  | y :: l, i + 1, x, h => by
    show y :: l.set i x = y :: l
    rw [set_self (by simpa using h)]
theorem owns_at {a : Addr} {ds : List PyData} {r : ME} {σ : L2.St} {i : Nat} (h1 : r[i]? = some (some (.own ds))) (h2 : σ[i]? = some (some (V.ref a))) : (owns r σ).Perm ((a, ds) :: owns (r.set i none) σ) := by
  have := owns_own (ds := ds) r σ i (List.getElem?_eq_some_iff.mp h1).1 h2
  rwa [set_self h1] at this
theorem rg_zip {N : Addr → Prop} {H : Hp} : ∀ {xs : List V} {ds : List PyData}, RgAll N H xs ds → ∀ q ∈ xs.zip ds, Rg N H q.1 q.2
  | _, _, .nil, q, hq => by simp at hq
  | _, _, .cons q1 q2, q, hq => by
    rw [List.zip_cons_cons, List.mem_cons] at hq
    rcases hq with rfl | hq
    · exact q1
    · exact rg_zip q2 q hq
section
variable {c : Ct} {W : Wd} {H0 H H' : Hp} {ρ : List (Option Sl)} {r : ME} {τ τ' : List (V × PyData)} {l l' : List (Addr × List PyData)} {σ : L2.St}
theorem st_sub (S : DL.St W H0 ρ τ l σ H) (h : l'.Sublist l) : DL.St W H0 ρ τ l' σ H := by
  obtain ⟨N, n1, n2, n3, n4, n5, n6⟩ := S.ex
  exact ⟨S.inv, S.off, N, n1, n2, n3, n4, n5, (h.map _).nodup n6.1, fun p hp => n6.2 p (h.subset hp)⟩
theorem st_perm (S : DL.St W H0 ρ τ l σ H) (h : l.Perm l') : DL.St W H0 ρ τ l' σ H := by
  obtain ⟨N, n1, n2, n3, n4, n5, n6⟩ := S.ex
  exact ⟨S.inv, S.off, N, n1, n2, n3, n4, n5, (h.map _).nodup_iff.mp n6.1, fun p hp => n6.2 p (h.mem_iff.mpr hp)⟩
/-- a new list of one's own, filled with the last values -/
theorem st_newL {p : Addr} {vs : List V} {es : List PyData} (S : DL.St W H0 ρ (vs.zip es ++ τ) l σ H) (hle : vs.length = es.length) (hp : H p = none) : DL.St W H0 ρ τ ((p, es) :: l) σ (upd H p (.lst vs)) := by
  obtain ⟨N, n1, n2, n3, n4, n5, n6⟩ := S.ex
  have x : Ex H (upd H p (.lst vs)) := Ex.new hp
  have hNp : ¬ N p := n3.new hp
  have rv : RgAll N H vs es := zip_all hle fun q hq => n5 q (List.mem_append_left _ hq)
  refine ⟨W.stab H _ S.inv fun a na => ?_, fun a o e n => x _ _ (S.off a o e n), fun a => N a ∨ a = p, fun a h => .inl (n1 a h), fun a h n => ?_, fun a h => ?_, ⟨n4.1, fun i s h => ?_⟩, fun q hq => ((n5 q (List.mem_append_right _ hq)).fresh hp).ex x, ?_, fun q hq => ?_⟩
  · rw [upd_ne (fun z => by rw [z] at na; exact hNp (n1 p na))]
  · rcases h with h | h
    · exact n2 a h n
    · subst h
      cases e : H0 a with
      | none => rfl
      | some o => rw [S.off a o e n] at hp; cases hp
  · rcases h with h | h
    · exact n3.ex x a h
    · rw [h, upd_same]; simp
  · obtain ⟨o, h1, h2⟩ := n4.2 i s h
    refine ⟨o, h1, ?_⟩
    cases s with
    | dat e => obtain ⟨v, q1, q2⟩ := h2; exact ⟨v, q1, (q2.fresh hp).ex x⟩
    | raw v => exact h2
  · rw [List.map_cons, List.nodup_cons]
    refine ⟨fun hm => ?_, n6.1⟩
    obtain ⟨q, hq, e⟩ := List.mem_map.mp hm
    have := (n6.2 q hq).1
    rw [e] at this
    exact hNp this
  · rcases List.mem_cons.mp hq with rfl | hq
    · exact ⟨.inr rfl, fun q => hNp (n1 p q), vs, upd_same, (rv.fresh hp).ex x⟩
    · obtain ⟨a1, a2, xs, a3, a4⟩ := n6.2 q hq
      exact ⟨.inl a1, a2, xs, x _ _ a3, (a4.fresh hp).ex x⟩
/-- a list of one's own gets other items, the last values among them or its own ones -/
theorem st_mut {p : Addr} {ds es : List PyData} {ys : List V} (S : DL.St W H0 ρ τ ((p, ds) :: l) σ H)
    (h : ∀ N xs, H p = some (.lst xs) → RgAll N H xs ds → (∀ q ∈ τ, Rg N H q.1 q.2) → RgAll N H ys es) : DL.St W H0 ρ τ ((p, es) :: l) σ (L2.upd H p (.lst ys)) := by
  obtain ⟨N, n1, n2, n3, n4, n5, n6⟩ := S.ex
  obtain ⟨b1, b2, xs, b3, b4⟩ := n6.2 _ List.mem_cons_self
  refine ⟨W.stab H _ S.inv fun a na => ?_, fun a o e n => ?_, N, n1, n2, fun a h => ?_, ⟨n4.1, fun i s h => ?_⟩, fun q hq => (n5 q hq).upd b1, n6.1, fun q hq => ?_⟩
  · rw [upd_ne (fun z => by rw [z] at na; exact b2 na)]
  · rw [upd_ne (fun z => ?_)]
    · exact S.off a o e n
    · have := n2 p b1 b2
      rw [z, this] at e; cases e
  · by_cases z : a = p
    · rw [z, upd_same]; simp
    · rw [upd_ne z]; exact n3 a h
  · obtain ⟨o, h1, h2⟩ := n4.2 i s h
    refine ⟨o, h1, ?_⟩
    cases s with
    | dat e => obtain ⟨v, q1, q2⟩ := h2; exact ⟨v, q1, q2.upd b1⟩
    | raw v => exact h2
  · rcases List.mem_cons.mp hq with rfl | hq
    · exact ⟨b1, b2, _, upd_same, (h N xs b3 b4 n5).upd b1⟩
    · obtain ⟨a1, a2, ys, a3, a4⟩ := n6.2 q (List.mem_cons_of_mem _ hq)
      have nd := n6.1
      rw [List.map_cons, List.nodup_cons] at nd
      have hne : q.1 ≠ p := fun z => nd.1 (List.mem_map.mpr ⟨q, hq, z⟩)
      exact ⟨a1, a2, ys, by rw [upd_ne hne]; exact a3, a4.upd b1⟩
/-- a look at a list of one's own -/
theorem st_look {p : Addr} {ds : List PyData} (S : DL.St W H0 ρ τ ((p, ds) :: l) σ H) : ∃ xs, H p = some (.lst xs) ∧ xs.length = ds.length ∧
    (∀ (i : Nat) x, xs[i]? = some x → ∃ d, ds[i]? = some d ∧ DL.St W H0 ρ ((x, d) :: τ) ((p, ds) :: l) σ H) ∧ DL.St W H0 ρ (xs.zip ds ++ τ) ((p, ds) :: l) σ H := by
  obtain ⟨N, n1, n2, n3, n4, n5, n6⟩ := S.ex
  obtain ⟨b1, b2, xs, b3, b4⟩ := n6.2 _ List.mem_cons_self
  refine ⟨xs, b3, b4.len, fun i x hx => ?_, S.inv, S.off, N, n1, n2, n3, n4, fun q hq => ?_, n6⟩
  · obtain ⟨d, h1, h2⟩ := b4.get hx
    exact ⟨d, h1, S.inv, S.off, N, n1, n2, n3, n4, fun q hq => by
      rcases List.mem_cons.mp hq with rfl | hq
      · exact h2
      · exact n5 q hq, n6⟩
  · rcases List.mem_append.mp hq with hq | hq
    · exact rg_zip b4 q hq
    · exact n5 q hq
/-! ### the mirror's states -/
theorem dn_set (r : ME) (i : Nat) (x : Option ML) : (r.set i x).map (dn c.dk) = (r.map (dn c.dk)).set i (dn c.dk x) := List.map_set
theorem MSt.mono (S : MSt c H0 r τ l σ H) (h : ∀ p ∈ τ', p ∈ τ) : MSt c H0 r τ' l σ H := ⟨S.fit, S.st.mono h⟩
theorem MSt.pop {p : V × PyData} (S : MSt c H0 r (p :: τ) l σ H) : MSt c H0 r τ l σ H := S.mono fun _ h => List.mem_cons_of_mem _ h
theorem MSt.len (S : MSt c H0 r τ l σ H) : r.length = σ.length := by have := S.st.len; rwa [List.length_map] at this
theorem dn_at {i : Nat} {x : Option ML} (h : r[i]? = some x) : (r.map (dn c.dk))[i]? = some (dn c.dk x) := by rw [List.getElem?_map, h]; rfl
theorem MSt.dat {i : Nat} {e : PyData} (S : MSt c H0 r τ l σ H) (h : r[i]? = some (some (.dat e))) : ∃ v, σ[i]? = some (some v) ∧ MSt c H0 r ((v, e) :: τ) l σ H := by
  obtain ⟨v, h1, h2⟩ := S.st.dat (dn_at h)
  exact ⟨v, h1, S.fit, h2⟩
theorem MSt.raw {i : Nat} (S : MSt c H0 r τ l σ H) (h : r[i]? = some (some .dck)) : σ[i]? = some (some c.dk) := S.st.raw (dn_at h)
theorem fit_set {x : Option ML} {v : Option V} (h : Fit r σ) (i : Nat) (hl : r.length = σ.length) (hx : ∀ ds, x = some (.own ds) → ∃ a, v = some (V.ref a)) : Fit (r.set i x) (σ.set i v) := fun j ds hj => by
  by_cases e : i = j
  · subst e
    have il := (List.getElem?_eq_some_iff.mp hj).1
    rw [List.length_set] at il
    rw [List.getElem?_set_self il] at hj
    obtain ⟨a, ha⟩ := hx ds (Option.some.inj hj)
    exact ⟨a, by rw [List.getElem?_set_self (by omega), ha]⟩
  · rw [List.getElem?_set_ne e] at hj ⊢
    exact h j ds hj
theorem MSt.setD {v : V} {e : PyData} {i : Nat} (S : MSt c H0 r ((v, e) :: τ) l σ H) : MSt c H0 (r.set i (some (.dat e))) τ l (σ.set i (some v)) H := by
  refine ⟨fit_set S.fit i S.len fun ds h => (nomatch h), ?_⟩
  rw [dn_set, owns_set (fun s => by cases s <;> rfl), owns_set_none]
  exact (st_sub S.st ((owns_sub r σ i).append (List.Sublist.refl _))).set
theorem MSt.clr {o : Option V} {i : Nat} (S : MSt c H0 r τ l σ H) : MSt c H0 (r.set i none) τ l (σ.set i o) H := by
  refine ⟨fit_set S.fit i S.len fun ds h => (nomatch h), ?_⟩
  rw [dn_set, owns_set_none]
  exact (st_sub S.st ((owns_sub r σ i).append (List.Sublist.refl _))).clr
/-- a list of one's own goes to a slot -/
theorem MSt.setO {p : Addr} {ds : List PyData} {i : Nat} (S : MSt c H0 r τ ((p, ds) :: l) σ H) (hi : i < r.length) : MSt c H0 (r.set i (some (.own ds))) τ l (σ.set i (some (.ref p))) H := by
  have hl := S.len
  refine ⟨fit_set S.fit i hl fun ds h => ⟨p, rfl⟩, ?_⟩
  have h1 : (σ.set i (some (V.ref p)))[i]? = some (some (V.ref p)) := List.getElem?_set_self (by omega)
  have pm := owns_own (ds := ds) r (σ.set i (some (V.ref p))) i hi h1
  rw [owns_set_none] at pm
  rw [dn_set]
  have a := st_sub S.st ((owns_sub r σ i).append (List.Sublist.refl ((p, ds) :: l)))
  have b := st_perm a (l' := (p, ds) :: owns (r.set i none) σ ++ l) List.perm_middle
  exact (st_perm b (List.Perm.append_right l pm.symm)).clr
/-- the own list of a slot, at the front -/
theorem MSt.front {i : Nat} {ds : List PyData} (S : MSt c H0 r τ l σ H) (h : r[i]? = some (some (.own ds))) : ∃ a, σ[i]? = some (some (.ref a)) ∧ DL.St c.W H0 (r.map (dn c.dk)) τ ((a, ds) :: (owns (r.set i none) σ ++ l)) σ H := by
  obtain ⟨a, ha⟩ := S.fit i ds h
  exact ⟨a, ha, st_perm S.st (List.Perm.append_right l (owns_at h ha))⟩
/-- back from the front, with other items -/
theorem MSt.back {i : Nat} {ds es : List PyData} {a : Addr} (S : MSt c H0 r τ' l' σ H') (h : r[i]? = some (some (.own ds))) (ha : σ[i]? = some (some (.ref a))) (T : DL.St c.W H0 (r.map (dn c.dk)) τ ((a, es) :: (owns (r.set i none) σ ++ l)) σ H) : MSt c H0 (r.set i (some (.own es))) τ l σ H := by
  have il := (List.getElem?_eq_some_iff.mp h).1
  refine ⟨?_, ?_⟩
  · have := fit_set (x := some (.own es)) (v := some (V.ref a)) S.fit i S.len fun _ _ => ⟨a, rfl⟩
    rwa [set_self ha] at this
  · rw [dn_set]
    have e : (r.map (dn c.dk)).set i (dn c.dk (some (.own es))) = r.map (dn c.dk) := set_self (show (r.map (dn c.dk))[i]? = some none from dn_at h)
    rw [e]
    exact st_perm T (List.Perm.append_right l (owns_own r σ i il ha).symm)
/-- a list of one's own is data from now on -/
theorem MSt.frz {i : Nat} {ds : List PyData} (S : MSt c H0 r τ l σ H) (h : r[i]? = some (some (.own ds))) : MSt c H0 (r.set i (some (.dat (.list ds)))) τ l σ H := by
  obtain ⟨a, ha, T⟩ := S.front h
  have T1 := T.frz.set (i := i)
  rw [set_self ha] at T1
  refine ⟨?_, ?_⟩
  · have := fit_set (x := some (.dat (.list ds))) (v := some (V.ref a)) S.fit i S.len fun _ h => (nomatch h)
    rwa [set_self ha] at this
  · rw [dn_set, owns_set (fun s => by cases s <;> rfl)]
    exact T1
/-- the state at another heap, with values that were made -/
theorem MSt.ext (S : MSt c H0 r τ l σ H) : ∃ N : Addr → Prop, NOk N H ∧ (∀ p ∈ τ, Rg N H p.1 p.2) ∧ ∀ H' (τ' : List (V × PyData)), Ex H H' → (∀ p ∈ τ', Rg N H' p.1 p.2) → MSt c H0 r τ' l σ H' := by
  obtain ⟨N, n3, n5, n4, q⟩ := S.st.ext
  exact ⟨N, n3, n5, fun H' τ' x h => ⟨S.fit, q H' τ' x h⟩⟩
/-- one value more -/
theorem MSt.push {N : Addr → Prop} {v : V} {e : PyData} (q : ∀ H' (τ' : List (V × PyData)), Ex H H' → (∀ p ∈ τ', Rg N H' p.1 p.2) → MSt c H0 r τ' l σ H') (n5 : ∀ p ∈ τ, Rg N H p.1 p.2) (x : Ex H H') (h : Rg N H' v e) : MSt c H0 r ((v, e) :: τ) l σ H' :=
  q H' _ x fun p hp => by
    rcases List.mem_cons.mp hp with rfl | hp
    · exact h
    · exact (n5 p hp).ex x
end
end MI
set_option Elab.async false
set_option linter.all false
set_option maxRecDepth 100000
/-! A mirror of the text in plain data: expressions. -/
namespace MI
open PySem PySem.Spec PyProof.Rows L2 Evl TB DL
abbrev DE := ME → C PyData
abbrev DA := ME → C (List PyData)
abbrev DT := ME → C Bool
abbrev DO := ME → C (Option Int)
abbrev DG := PyData → ME → C ME
abbrev DI := ME → C (List PyData)
def lk : ME → Nat → Option ML
  | [], _ => none
  | o :: _, 0 => o
  | _ :: r, i + 1 => lk r i
theorem lk_some : ∀ {r : ME} {i : Nat} {x : ML}, lk r i = some x → r[i]? = some (some x)
  | [], _, _, h => by cases h
  | o :: r, 0, x, h => by rw [show o = some x from h]; rfl
  | o :: r, i + 1, x, h => by
    rw [List.getElem?_cons_succ]
    exact lk_some (r := r) h
/-- an error as it stands in the heap -/
def XAt (tab : Str → Option Addr) (x : Xc) (u : Value) (d : Option Addr) (vs : List V) (H : Hp) : Prop :=
  ∃ C da, tab x.nm = some C ∧ u = .ref C ∧ d = some da ∧ H da = some (.xd ((x.fs.map (·.1)).zip vs)) ∧ vs.length = x.fs.length
/-- where an error goes -/
def XOut (c : Ct) (H0 : Hp) (r : ME) (τ : List (V × PyData)) (l : List (Addr × List PyData)) (σ : L2.St) (X : Xc → Prop) : Prop :=
  ∀ x u d vs H', XAt c.tab x u d vs H' → MSt c H0 r (vs.zip (x.fs.map (·.2)) ++ τ) l σ H' → X x → c.Z u d σ H'
section
variable {c : Ct} {H0 H H' : Hp} {r : ME} {τ τ' : List (V × PyData)} {l l' : List (Addr × List PyData)} {σ : L2.St} {X : Xc → Prop}
theorem XOut.sub (h : XOut c H0 r τ l σ X) (hs : ∀ p ∈ τ, p ∈ τ') : XOut c H0 r τ' l σ X := fun x u d vs H' a S q => h x u d vs H' a (S.mono fun p hp => by
  rcases List.mem_append.mp hp with hp | hp
  · exact List.mem_append_left _ hp
  · exact List.mem_append_right _ (hs p hp)) q
theorem XOut.more {p : V × PyData} (h : XOut c H0 r τ l σ X) : XOut c H0 r (p :: τ) l σ X := h.sub fun _ hp => List.mem_cons_of_mem _ hp
theorem XOut.no : XOut c H0 r τ l σ (fun _ => False) := fun _ _ _ _ _ _ _ h => h.elim
end
/-! ### what it is that a reading does what the mirror does -/
def SE (c : Ct) (te : TE) (m : DE) : Prop := ∀ H0 r τ l σ H, MSt c H0 r τ l σ H → ∀ (P : PyData → Prop) (X : Xc → Prop), m r P X → XOut c H0 r τ l σ X → ∀ Q : VK, (∀ v e H', MSt c H0 r ((v, e) :: τ) l σ H' → P e → Q v H') → te σ H Q
def SA (c : Ct) (ta : TA) (m : DA) : Prop := ∀ H0 r τ l σ H, MSt c H0 r τ l σ H → ∀ (P : List PyData → Prop) (X : Xc → Prop), m r P X → XOut c H0 r τ l σ X → ∀ Q : List V → Hp → Prop, (∀ vs es H', MSt c H0 r (vs.zip es ++ τ) l σ H' → vs.length = es.length → P es → Q vs H') → ta σ H Q
def ST (c : Ct) (tt : TT) (m : DT) : Prop := ∀ H0 r τ l σ H, MSt c H0 r τ l σ H → ∀ (P : Bool → Prop) (X : Xc → Prop), m r P X → XOut c H0 r τ l σ X → ∀ Q : Bool → Hp → Prop, (∀ b H', MSt c H0 r τ l σ H' → P b → Q b H') → tt σ H Q
def SO (c : Ct) (tt : TO) (m : DO) : Prop := ∀ H0 r τ l σ H, MSt c H0 r τ l σ H → ∀ (P : Option Int → Prop) (X : Xc → Prop), m r P X → XOut c H0 r τ l σ X → ∀ Q : Option Int → Hp → Prop, (∀ b H', MSt c H0 r τ l σ H' → P b → Q b H') → tt σ H Q
def SG (c : Ct) (g : TG) (m : DG) : Prop := ∀ H0 r τ l σ H v e, MSt c H0 r ((v, e) :: τ) l σ H → ∀ (P : ME → Prop), m e r P (fun _ => False) → ∀ Q : L2.St → Hp → Prop, (∀ r' σ' H', MSt c H0 r' τ l σ' H' → P r' → Q σ' H') → g v σ H Q
def SGs (c : Ct) (g : TGs) (m : List PyData → ME → C ME) : Prop := ∀ H0 r τ l σ H vs es, MSt c H0 r (vs.zip es ++ τ) l σ H → vs.length = es.length → ∀ (P : ME → Prop), m es r P (fun _ => False) → ∀ Q : L2.St → Hp → Prop, (∀ r' σ' H', MSt c H0 r' τ l σ' H' → P r' → Q σ' H') → g vs σ H Q
/-- an operation on values, a function on data -/
def OpS (rd : R2) (f : PyData → PyData → C PyData) : Prop := ∀ e1 e2 P X, f e1 e2 P X → OpD rd e1 e2 P
def CaS (rd : List V → Hp → VK → Prop) (f : List PyData → C PyData) : Prop := ∀ es P X, f es P X → CaD rd es P
def UnS (rd : V → Hp → VK → Prop) (f : PyData → C PyData) : Prop := ∀ e P X, f e P X → ∀ N H v, NOk N H → Rg N H v e → Res N H P (rd v H)
def SlS (rd : V → Option Int → Option Int → Hp → VK → Prop) (f : PyData → Option Int → Option Int → C PyData) : Prop := ∀ e lo hi P X, f e lo hi P X → ∀ N H v, NOk N H → Rg N H v e → Res N H P (rd v lo hi H)
def MtS (K : PySem.W.Frag) (T : String) (rd : V → List V → Hp → VK → Prop) (f : PyData → List PyData → C PyData) : Prop :=
  ∀ e, (∀ es P X, f e es P X → ∀ N H v vs, NOk N H → Rg N H v e → RgAll N H vs es → Res N H P (rd v vs H))
/-! ### the mirror of expressions -/
def mVar (i : Nat) : DE := fun r P _ => match lk r i with
  | some (.dat e) => P e
  | _ => False
def mC (e : PyData) : DE := fun _ P _ => P e
def mOp (f : PyData → PyData → C PyData) (a b : DE) : DE := fun r P X => a r (fun x => b r (fun y => f x y P X) X) X
def mUn (f : PyData → C PyData) (a : DE) : DE := fun r P X => a r (fun x => f x P X) X
def mNot (a : DE) : DE := fun r P X => a r (fun x => match x with
  | .bool b => P (.bool !b)
  | _ => False) X
def mAnd (a b : DE) : DE := fun r P X => a r (fun x => match x with
  | .bool true => b r P X
  | .bool false => P (.bool false)
  | _ => False) X
def mOr (a b : DE) : DE := fun r P X => a r (fun x => match x with
  | .bool true => P (.bool true)
  | .bool false => b r P X
  | _ => False) X
def mIf (t : DT) (a b : DE) : DE := fun r P X => t r (fun x => match x with
  | true => a r P X
  | false => b r P X) X
def mTup (a : DA) : DE := fun r P X => a r (fun es => es.length ≤ 100000 ∧ P (.tuple es)) X
def mLst (a : DA) : DE := fun r P X => a r (fun es => es.length ≤ 100000 ∧ P (.list es)) X
def mCB (f : List PyData → C PyData) (a : DA) : DE := fun r P X => a r (fun es => f es P X) X
def mCall (f : List PyData → C PyData) (a : DA) : DE := fun r P X => a r (fun es => f es P fun _ => False) X
def mCallW (i : Nat) (f : List PyData → C PyData) (a : DA) : DE := fun r P X => match lk r i with
  | some .dck => a r (fun es => f es P fun _ => False) X
  | _ => False
def mChain (f g : PyData → PyData → C PyData) (a b d : DE) : DE := fun r P X => a r (fun x => b r (fun y => f x y (fun z => match z with
  | .bool true => d r (fun w => g y w P X) X
  | .bool false => P (.bool false)
  | _ => False) X) X) X
def mSl (f : PyData → Option Int → Option Int → C PyData) (a : DE) (lo hi : DO) : DE := fun r P X => a r (fun x => lo r (fun i => hi r (fun j => f x i j P X) X) X) X
def mMt (f : PyData → List PyData → C PyData) (a : DE) (b : DA) : DE := fun r P X => a r (fun x => b r (fun es => f x es P X) X) X
def aNil : DA := fun _ P _ => P []
def aCons (a : DE) (b : DA) : DA := fun r P X => a r (fun x => b r (fun es => P (x :: es)) X) X
def oNone : DO := fun _ P _ => P none
def oSome (a : DE) : DO := fun r P X => a r (fun x => match x with
  | .int i => P (some i)
  | _ => False) X
def tT (a : DE) : DT := fun r P X => a r (fun x => match x with
  | .bool b => P b
  | _ => False) X
def tNo (a : DT) : DT := fun r P X => a r (fun b => P !b) X
def tAn (a b : DT) : DT := fun r P X => a r (fun x => match x with
  | true => b r P X
  | false => P false) X
def tOo (a b : DT) : DT := fun r P X => a r (fun x => match x with
  | true => P true
  | false => b r P X) X
def tOk : DT := fun _ P _ => P true
def gNm (i : Nat) : DG := fun e r P _ => P (r.set i (some (.dat e)))
def gs0 : List PyData → ME → C ME := fun es r P _ => match es with
  | [] => P r
  | _ => False
def gs1 (g : DG) (gs : List PyData → ME → C ME) : List PyData → ME → C ME := fun es r P X => match es with
  | e :: es => g e r (fun r' => gs es r' P X) X
  | [] => False
def gTp (n : Nat) (gs : List PyData → ME → C ME) : DG := fun e r P X => match e with
  | .tuple es => es.length = n ∧ gs es r P X
  | _ => False
section
variable {c : Ct} {K : PySem.W.Frag} {te ta tb td : TE} {tas : TA} {m ma mb md : DE} {mas : DA} {tt tu : TT} {mt mu : DT} {tl th : TO} {ml mh : DO}
theorem se_var (i : Nat) : SE c (tVar i) (mVar i) := fun H0 r τ l σ H S P X h hX Q k => by
  unfold mVar at h
  split at h
  · rename_i e he
    obtain ⟨v, h1, S'⟩ := S.dat (lk_some he)
    exact ⟨v, h1, k v e H S' h⟩
  · exact h.elim
theorem se_const {v : V} {e : PyData} (hr : ∀ N H, Rg N H v e) : SE c (tC v) (mC e) := fun H0 r τ l σ H S P X h hX Q k => by
  obtain ⟨N, n3, n5, q⟩ := S.ext
  exact k v e H (MSt.push q n5 ex_refl (hr _ _)) h
theorem se_int (i : Int) : SE c (tC (.int i)) (mC (.int i)) := se_const fun _ _ => .int i
theorem se_str (x : Str) : SE c (tC (.str x)) (mC (.str x)) := se_const fun _ _ => .str x
theorem se_bl (b : Bool) : SE c (tC (.bl b)) (mC (.bool b)) := se_const fun _ _ => .bl b
theorem se_non : SE c (tC .non) (mC .none) := se_const fun _ _ => .non
theorem se_op {rd : R2} {f : PyData → PyData → C PyData} (hr : OpS rd f) (ha : SE c ta ma) (hb : SE c tb mb) : SE c (tOp rd ta tb) (mOp f ma mb) := fun H0 r τ l σ H S P X h hX Q k =>
  ha H0 r τ l σ H S _ X h hX _ fun v1 e1 H1 S1 p1 => hb H0 r _ l σ H1 S1 _ X p1 hX.more _ fun v2 e2 H2 S2 p2 => by
    obtain ⟨N, n3, n5, q⟩ := S2.ext
    refine hr e1 e2 P X p2 N H2 v1 v2 n3 (n5 _ (List.mem_cons_of_mem _ List.mem_cons_self)) (n5 _ List.mem_cons_self) Q fun v e H' x rg p => k v e H' ?_ p
    exact (MSt.push q n5 x rg).mono fun p hp => by
      rcases List.mem_cons.mp hp with rfl | hp
      · exact List.mem_cons_self
      · exact List.mem_cons_of_mem _ (List.mem_cons_of_mem _ (List.mem_cons_of_mem _ hp))
theorem se_un {rd : V → Hp → VK → Prop} {f : PyData → C PyData} (hr : UnS rd f) (ha : SE c ta ma) : SE c (tUn rd ta) (mUn f ma) := fun H0 r τ l σ H S P X h hX Q k =>
  ha H0 r τ l σ H S _ X h hX _ fun v1 e1 H1 S1 p1 => by
    obtain ⟨N, n3, n5, q⟩ := S1.ext
    refine hr e1 P X p1 N H1 v1 n3 (n5 _ List.mem_cons_self) Q fun v e H' x rg p => k v e H' ?_ p
    exact (MSt.push q n5 x rg).mono fun p hp => by
      rcases List.mem_cons.mp hp with rfl | hp
      · exact List.mem_cons_self
      · exact List.mem_cons_of_mem _ (List.mem_cons_of_mem _ hp)
/-- a value that is a truth value -/
theorem MSt.bl {H0 : Hp} {r : ME} {τ : List (V × PyData)} {l : List (Addr × List PyData)} {σ : L2.St} {H : Hp} {v : V} {b : Bool} (S : MSt c H0 r ((v, .bool b) :: τ) l σ H) : v = .bl b := by
  obtain ⟨N, n3, n5, q⟩ := S.ext
  have := n5 _ List.mem_cons_self
  cases this
  rfl
theorem MSt.it {H0 : Hp} {r : ME} {τ : List (V × PyData)} {l : List (Addr × List PyData)} {σ : L2.St} {H : Hp} {v : V} {b : Int} (S : MSt c H0 r ((v, .int b) :: τ) l σ H) : v = .int b := by
  obtain ⟨N, n3, n5, q⟩ := S.ext
  have := n5 _ List.mem_cons_self
  cases this
  rfl
theorem MSt.sc {H0 : Hp} {r : ME} {τ : List (V × PyData)} {l : List (Addr × List PyData)} {σ : L2.St} {H : Hp} {v : V} {e : PyData} (S : MSt c H0 r τ l σ H) (hr : ∀ N, Rg N H v e) : MSt c H0 r ((v, e) :: τ) l σ H := by
  obtain ⟨N, n3, n5, q⟩ := S.ext
  exact MSt.push q n5 ex_refl (hr _)
theorem se_not (ha : SE c ta ma) : SE c (tNotV ta) (mNot ma) := fun H0 r τ l σ H S P X h hX Q k =>
  ha H0 r τ l σ H S _ X h hX _ fun v1 e1 H1 S1 p1 => by
    try dsimp only at p1
    split at p1
    · have := S1.bl
      subst this
      exact ⟨_, rfl, k _ _ H1 (S1.pop.sc fun _ => .bl _) p1⟩
    · exact p1.elim
theorem se_and (ha : SE c ta ma) (hb : SE c tb mb) : SE c (tAndV ta tb) (mAnd ma mb) := fun H0 r τ l σ H S P X h hX Q k =>
  ha H0 r τ l σ H S _ X h hX _ fun v1 e1 H1 S1 p1 => by
    try dsimp only at p1
    split at p1
    · have := S1.bl
      subst this
      exact ⟨true, rfl, (if_pos rfl).mpr (hb H0 r τ l σ H1 S1.pop P X p1 hX Q k)⟩
    · have := S1.bl
      subst this
      exact ⟨false, rfl, (if_neg Bool.false_ne_true).mpr (k _ _ H1 S1 p1)⟩
    · exact p1.elim
theorem se_or (ha : SE c ta ma) (hb : SE c tb mb) : SE c (tOrV ta tb) (mOr ma mb) := fun H0 r τ l σ H S P X h hX Q k =>
  ha H0 r τ l σ H S _ X h hX _ fun v1 e1 H1 S1 p1 => by
    try dsimp only at p1
    split at p1
    · have := S1.bl
      subst this
      exact ⟨true, rfl, (if_pos rfl).mpr (k _ _ H1 S1 p1)⟩
    · have := S1.bl
      subst this
      exact ⟨false, rfl, (if_neg Bool.false_ne_true).mpr (hb H0 r τ l σ H1 S1.pop P X p1 hX Q k)⟩
    · exact p1.elim
theorem se_if (h : ST c tt mt) (ha : SE c ta ma) (hb : SE c tb mb) : SE c (tIf tt ta tb) (mIf mt ma mb) := fun H0 r τ l σ H S P X h' hX Q k =>
  h H0 r τ l σ H S _ X h' hX _ fun b H1 S1 p1 => by
    cases b with
    | true => exact (if_pos rfl).mpr (ha H0 r τ l σ H1 S1 P X p1 hX Q k)
    | false => exact (if_neg Bool.false_ne_true).mpr (hb H0 r τ l σ H1 S1 P X p1 hX Q k)
theorem sa_nil : SA c tNil aNil := fun H0 r τ l σ H S P X h hX Q k => k [] [] H S rfl h
theorem sa_cons (ha : SE c ta ma) (hb : SA c tas mas) : SA c (tCons ta tas) (aCons ma mas) := fun H0 r τ l σ H S P X h hX Q k =>
  ha H0 r τ l σ H S _ X h hX _ fun v e H1 S1 p1 => hb H0 r _ l σ H1 S1 _ X p1 hX.more _ fun vs es H2 S2 le p2 => k (v :: vs) (e :: es) H2 (S2.mono fun p hp => by
    simp only [List.zip_cons_cons, List.cons_append, List.mem_cons, List.mem_append] at hp ⊢
    rcases hp with hp | hp | hp
    · exact .inr (.inl hp)
    · exact .inl hp
    · exact .inr (.inr hp)) (congrArg (· + 1) le) p2
theorem se_cb {rd : List V → Hp → VK → Prop} {f : List PyData → C PyData} (hr : CaS rd f) (ha : SA c tas mas) : SE c (tCB rd tas) (mCB f mas) := fun H0 r τ l σ H S P X h hX Q k =>
  ha H0 r τ l σ H S _ X h hX _ fun vs es H1 S1 le p1 => by
    obtain ⟨N, n3, n5, q⟩ := S1.ext
    refine hr es P X p1 N H1 vs n3 (zip_all le fun p hp => n5 p (List.mem_append_left _ hp)) Q fun v e H' x rg p => k v e H' ?_ p
    exact (MSt.push q n5 x rg).mono fun p hp => by
      rcases List.mem_cons.mp hp with rfl | hp
      · exact List.mem_cons_self
      · exact List.mem_cons_of_mem _ (List.mem_append_right _ hp)
theorem se_tup (ha : SA c tas mas) : SE c (tTup tas) (mTup mas) := fun H0 r τ l σ H S P X h hX Q k =>
  ha H0 r τ l σ H S _ X h hX _ fun vs es H1 S1 le p1 => ⟨size_small (by rw [le]; exact p1.1), fun p hp => by
    obtain ⟨N, n3, n5, q⟩ := S1.ext
    have rg : Rg N (upd H1 p (.tup vs)) (.ref p) (.tuple es) := .tup upd_same (n3.new hp) ((zip_all le fun p hp => n5 p (List.mem_append_left _ hp)).ex (Ex.new hp))
    refine k (.ref p) (.tuple es) _ ((MSt.push q n5 (Ex.new hp) rg).mono fun p hp => ?_) p1.2
    rcases List.mem_cons.mp hp with rfl | hp
    · exact List.mem_cons_self
    · exact List.mem_cons_of_mem _ (List.mem_append_right _ hp)⟩
theorem se_lst (ha : SA c tas mas) : SE c (tLst tas) (mLst mas) := fun H0 r τ l σ H S P X h hX Q k =>
  ha H0 r τ l σ H S _ X h hX _ fun vs es H1 S1 le p1 => ⟨size_small (by rw [le]; exact p1.1), fun p hp => by
    obtain ⟨N, n3, n5, q⟩ := S1.ext
    have rg : Rg N (upd H1 p (.lst vs)) (.ref p) (.list es) := .lst upd_same (n3.new hp) ((zip_all le fun p hp => n5 p (List.mem_append_left _ hp)).ex (Ex.new hp))
    refine k (.ref p) (.list es) _ ((MSt.push q n5 (Ex.new hp) rg).mono fun p hp => ?_) p1.2
    rcases List.mem_cons.mp hp with rfl | hp
    · exact List.mem_cons_self
    · exact List.mem_cons_of_mem _ (List.mem_append_right _ hp)⟩
theorem se_chain {rd rd' : R2} {f g : PyData → PyData → C PyData} (hr : OpS rd f) (hr' : OpS rd' g) (ha : SE c ta ma) (hb : SE c tb mb) (hd : SE c td md) : SE c (tChain rd rd' ta tb td) (mChain f g ma mb md) := fun H0 r τ l σ H S P X h hX Q k =>
  ha H0 r τ l σ H S _ X h hX _ fun v1 e1 H1 S1 p1 => hb H0 r _ l σ H1 S1 _ X p1 hX.more _ fun v2 e2 H2 S2 p2 => by
    obtain ⟨N, n3, n5, q⟩ := S2.ext
    refine hr e1 e2 _ X p2 N H2 v1 v2 n3 (n5 _ (List.mem_cons_of_mem _ List.mem_cons_self)) (n5 _ List.mem_cons_self) _ fun v e H' x rg p => ?_
    have S3 : MSt c H0 r ((v, e) :: (v2, e2) :: (v1, e1) :: τ) l σ H' := MSt.push q n5 x rg
    try dsimp only at p
    split at p
    · have := S3.bl
      subst this
      refine ⟨true, rfl, (if_pos rfl).mpr (hd H0 r _ l σ H' S3.pop _ X p hX.more.more _ fun w e3 H3 S4 p4 => ?_)⟩
      obtain ⟨N4, m3, m5, q4⟩ := S4.ext
      refine hr' e2 e3 P X p4 N4 H3 v2 w m3 (m5 _ (List.mem_cons_of_mem _ List.mem_cons_self)) (m5 _ List.mem_cons_self) Q fun v e H' x rg p => k v e H' ?_ p
      exact (MSt.push q4 m5 x rg).mono fun p hp => by
        rcases List.mem_cons.mp hp with rfl | hp
        · exact List.mem_cons_self
        · exact List.mem_cons_of_mem _ (List.mem_cons_of_mem _ (List.mem_cons_of_mem _ (List.mem_cons_of_mem _ hp)))
    · have := S3.bl
      subst this
      exact ⟨false, rfl, (if_neg Bool.false_ne_true).mpr (k _ _ H' (S3.pop.pop.pop.sc fun _ => .bl _) p)⟩
    · exact p.elim
theorem so_none : SO c tNoPart oNone := fun H0 r τ l σ H S P X h hX Q k => k none H S h
theorem so_some (ha : SE c ta ma) : SO c (tPart ta) (oSome ma) := fun H0 r τ l σ H S P X h hX Q k =>
  ha H0 r τ l σ H S _ X h hX _ fun v e H1 S1 p1 => by
    try dsimp only at p1
    split at p1
    · have := S1.it
      subst this
      exact ⟨_, rfl, k _ H1 S1.pop p1⟩
    · exact p1.elim
theorem se_sl {rd : V → Option Int → Option Int → Hp → VK → Prop} {f : PyData → Option Int → Option Int → C PyData} (hr : SlS rd f) (ha : SE c ta ma) (hl : SO c tl ml) (hh : SO c th mh) : SE c (L2.tSl rd ta tl th) (mSl f ma ml mh) := fun H0 r τ l σ H S P X h hX Q k =>
  ha H0 r τ l σ H S _ X h hX _ fun v1 e1 H1 S1 p1 => hl H0 r _ l σ H1 S1 _ X p1 hX.more _ fun i H2 S2 p2 => hh H0 r _ l σ H2 S2 _ X p2 hX.more _ fun j H3 S3 p3 => by
    obtain ⟨N, n3, n5, q⟩ := S3.ext
    refine hr e1 i j P X p3 N H3 v1 n3 (n5 _ List.mem_cons_self) Q fun v e H' x rg p => k v e H' ?_ p
    exact (MSt.push q n5 x rg).mono fun p hp => by
      rcases List.mem_cons.mp hp with rfl | hp
      · exact List.mem_cons_self
      · exact List.mem_cons_of_mem _ (List.mem_cons_of_mem _ hp)
theorem st_val (ha : SE c ta ma) : ST c (tTest ta) (tT ma) := fun H0 r τ l σ H S P X h hX Q k =>
  ha H0 r τ l σ H S _ X h hX _ fun v e H1 S1 p1 => by
    try dsimp only at p1
    split at p1
    · have := S1.bl
      subst this
      exact ⟨_, rfl, k _ H1 S1.pop p1⟩
    · exact p1.elim
theorem st_b (ha : SE c ta ma) : ST c (tB ta) (tT ma) := st_val ha
theorem st_no (h : ST c tt mt) : ST c (tNot tt) (tNo mt) := fun H0 r τ l σ H S P X h' hX Q k => h H0 r τ l σ H S _ X h' hX _ fun b H1 S1 p1 => k _ H1 S1 p1
theorem st_an (h : ST c tt mt) (h2 : ST c tu mu) : ST c (tAnd tt tu) (tAn mt mu) := fun H0 r τ l σ H S P X h' hX Q k => h H0 r τ l σ H S _ X h' hX _ fun b H1 S1 p1 => by
  cases b with
  | true => exact (if_pos rfl).mpr (h2 H0 r τ l σ H1 S1 P X p1 hX Q k)
  | false => exact (if_neg Bool.false_ne_true).mpr (k _ H1 S1 p1)
theorem st_oo (h : ST c tt mt) (h2 : ST c tu mu) : ST c (tOr tt tu) (tOo mt mu) := fun H0 r τ l σ H S P X h' hX Q k => h H0 r τ l σ H S _ X h' hX _ fun b H1 S1 p1 => by
  cases b with
  | true => exact (if_pos rfl).mpr (k _ H1 S1 p1)
  | false => exact (if_neg Bool.false_ne_true).mpr (h2 H0 r τ l σ H1 S1 P X p1 hX Q k)
theorem st_ok : ST c tYes tOk := fun H0 r τ l σ H S P X h hX Q k => k true H S h
/-! ### calls of defs -/
/-- a def upon data that changes nothing, by its mirror -/
def SpM (f : List PyData → C PyData) : Sp := fun vs H Q _ => ∃ N es P, NOk N H ∧ RgAll N H vs es ∧ f es P (fun _ => False) ∧ ∀ v e H', Ex H H' → Rg N H' v e → P e → Q v H'
theorem se_call {f : List PyData → C PyData} (ha : SA c tas mas) : SE c (tCall (SpM f) [] E0 tas) (mCall f mas) := fun H0 r τ l σ H S P X h hX Q k =>
  ha H0 r τ l σ H S _ X h hX _ fun vs es H1 S1 le p1 => by
    obtain ⟨N, n3, n5, q⟩ := S1.ext
    refine ⟨N, es, P, n3, by rw [List.append_nil]; exact zip_all le fun p hp => n5 p (List.mem_append_left _ hp), p1, fun v e H' x rg p => k v e H' ?_ p⟩
    exact (MSt.push q n5 x rg).mono fun p hp => by
      rcases List.mem_cons.mp hp with rfl | hp
      · exact List.mem_cons_self
      · exact List.mem_cons_of_mem _ (List.mem_append_right _ hp)
/-- where the deck is -/
def Dk (c : Ct) : Prop := ∃ (d g l : Addr) (N : Addr → Prop) (B : Hp), c.W = WD d g l N B ∧ c.dk = .ref d
/-- a def that draws, by its mirror -/
def SpMW (f : List PyData → C PyData) : Sp := fun vs H Q _ => ∃ (d g l : Addr) (N : Addr → Prop) (es : List PyData) (vs' : List V) (P : PyData → Prop), vs = .ref d :: vs' ∧ NOk N H ∧ N d ∧ N g ∧ N l ∧ Deck H d g l ∧ RgAll N H vs' es ∧ f es P (fun _ => False) ∧
  ∀ v e H', Deck H' d g l → Oth d g l H H' → Rg N H' v e → P e → Q v H'
theorem se_callW {f : List PyData → C PyData} {i : Nat} (hc : Dk c) (ha : SA c tas mas) : SE c (tCall (SpMW f) [] E0 (tCons (tVar i) tas)) (mCallW i f mas) := fun H0 r τ l σ H S P X h hX Q k => by
  unfold mCallW at h
  split at h
  · rename_i he
    obtain ⟨d, g, lx, N0, B, hW, hd⟩ := hc
    have hr := S.raw (lk_some he)
    rw [hd] at hr
    refine ⟨.ref d, hr, ha H0 r τ l σ H S _ X h hX _ fun vs es H1 S1 le p1 => ?_⟩
    have T := S1.st
    rw [hW] at T
    obtain ⟨M, m1, m2, m3, m4, m5, m6, q⟩ := T.oth
    refine ⟨d, g, lx, M, es, vs, P, by rw [List.append_nil], m1, m2, m3, m4, m5, zip_all le fun p hp => m6 p (List.mem_append_left _ hp), p1, fun v e H' D x rg p => k v e H' ⟨S1.fit, ?_⟩ p⟩
    rw [hW]
    refine q H' _ D x fun p hp => ?_
    rcases List.mem_cons.mp hp with rfl | hp
    · exact rg
    · exact Rg.to (fun a o h n => ⟨x a o h (fun z => n (z ▸ m2)) (fun z => n (z ▸ m3)) fun z => n (z ▸ m4), n⟩) _ _ (m6 p (List.mem_append_right _ hp))
  · exact h.elim
end
end MI
set_option Elab.async false
set_option linter.all false
set_option maxRecDepth 100000
/-! A mirror of the text in plain data: stores, walks, comprehensions. -/
namespace MI
open PySem PySem.Spec PyProof.Rows L2 Evl TB DL
def wipeM (r : ME) : List Nat → ME
  | [] => r
  | v :: vs => (wipeM r vs).set v none
theorem set_get {α : Type} (l : List (Option α)) (v i : Nat) : (l.set v none)[i]? = if v = i then (l[i]?).map (fun _ => none) else l[i]? := by
  by_cases h : v = i
  · subst h
    rw [if_pos rfl]
    by_cases hl : v < l.length
    · rw [List.getElem?_set_self hl, List.getElem?_eq_getElem hl]; rfl
    · rw [List.getElem?_eq_none (by rw [List.length_set]; omega), List.getElem?_eq_none (by omega)]; rfl
  · rw [if_neg h, List.getElem?_set_ne h]
theorem wipeM_get (r : ME) (i : Nat) : ∀ vs, (wipeM r vs)[i]? = if i ∈ vs then (r[i]?).map (fun _ => none) else r[i]?
  | [] => by simp [wipeM]
  | v :: vs => by
    show ((wipeM r vs).set v none)[i]? = _
    rw [set_get, wipeM_get r i vs]
    by_cases h : v = i
    · subst h
      by_cases h2 : v ∈ vs <;> cases r[v]? <;> simp [h2]
    · have h' : ¬ i = v := fun z => h z.symm
      by_cases h2 : i ∈ vs <;> simp [h, h', h2]
theorem wipe_get (σ : L2.St) (i : Nat) : ∀ vs, (L2.wipe σ vs)[i]? = if i ∈ vs then (σ[i]?).map (fun _ => none) else σ[i]?
  | [] => by simp [L2.wipe]
  | v :: vs => by
    show ((L2.wipe σ vs).set v none)[i]? = _
    rw [set_get, wipe_get σ i vs]
    by_cases h : v = i
    · subst h
      by_cases h2 : v ∈ vs <;> cases σ[v]? <;> simp [h2]
    · have h' : ¬ i = v := fun z => h z.symm
      by_cases h2 : i ∈ vs <;> simp [h, h', h2]
theorem wipeM_idem (r : ME) (vs : List Nat) : wipeM (wipeM r vs) vs = wipeM r vs := by
  apply List.ext_getElem?
  intro i
  rw [wipeM_get, wipeM_get]
  by_cases h : i ∈ vs
  · rw [if_pos h, if_pos h]; cases r[i]? <;> rfl
  · rw [if_neg h]
theorem wipe_idem (σ : L2.St) (vs : List Nat) : L2.wipe (L2.wipe σ vs) vs = L2.wipe σ vs := by
  apply List.ext_getElem?
  intro i
  rw [wipe_get, wipe_get]
  by_cases h : i ∈ vs
  · rw [if_pos h, if_pos h]; cases σ[i]? <;> rfl
  · rw [if_neg h]
theorem wipeM_set {r : ME} {vs : List Nat} {i : Nat} {x : Option ML} (h : i ∈ vs) : wipeM (r.set i x) vs = wipeM r vs := by
  apply List.ext_getElem?
  intro j
  rw [wipeM_get, wipeM_get]
  by_cases hj : i = j
  · subst hj
    rw [if_pos h, if_pos h]
    by_cases hl : i < r.length
    · rw [List.getElem?_set_self hl, List.getElem?_eq_getElem hl]; rfl
    · rw [List.getElem?_eq_none (by rw [List.length_set]; omega), List.getElem?_eq_none (by omega)]
  · rw [List.getElem?_set_ne hj]
theorem wipe_set {σ : L2.St} {vs : List Nat} {i : Nat} {x : Option V} (h : i ∈ vs) : L2.wipe (σ.set i x) vs = L2.wipe σ vs := by
  apply List.ext_getElem?
  intro j
  rw [wipe_get, wipe_get]
  by_cases hj : i = j
  · subst hj
    rw [if_pos h, if_pos h]
    by_cases hl : i < σ.length
    · rw [List.getElem?_set_self hl, List.getElem?_eq_getElem hl]; rfl
    · rw [List.getElem?_eq_none (by rw [List.length_set]; omega), List.getElem?_eq_none (by omega)]
  · rw [List.getElem?_set_ne hj]
theorem lk_none_set : ∀ {r : ME} {i : Nat}, lk r i = none → r.set i none = r
  | [], _, _ => rfl
  | o :: r, 0, h => by
    have h' : o = none := h
    rw [h']; rfl
  | o :: r, i + 1, h => by
    show o :: r.set i none = o :: r
    rw [lk_none_set (r := r) h]
theorem lk_get {r : ME} {i : Nat} : lk r i = (r[i]?).getD none := by
  induction r generalizing i with
  | nil => rfl
  | cons o r ih => cases i with
    | zero => rfl
    | succ i => rw [List.getElem?_cons_succ]; exact ih
theorem lk_wipe {r : ME} {vs : List Nat} {i : Nat} : lk (wipeM r vs) i = if i ∈ vs then none else lk r i := by
  rw [lk_get, wipeM_get, lk_get]
  by_cases h : i ∈ vs
  · rw [if_pos h, if_pos h]; cases r[i]? <;> rfl
  · rw [if_neg h, if_neg h]
/-- a slot that a block may take for its own -/
def Free (r : ME) (i : Nat) : Prop := match lk r i with
  | none => True
  | some (.dat _) => True
  | _ => False
section
variable {c : Ct} {H0 H H' : Hp} {r : ME} {τ τ' : List (V × PyData)} {l l' : List (Addr × List PyData)} {σ : L2.St} {X : Xc → Prop}
theorem MSt.wipe (S : MSt c H0 r τ l σ H) : ∀ vs, MSt c H0 (wipeM r vs) τ l (L2.wipe σ vs) H
  | [] => S
  | v :: vs => (S.wipe vs).clr
theorem sig_self {σ : L2.St} {i : Nat} : ∃ o, (σ.set i none).set i o = σ := by
  by_cases hl : i < σ.length
  · exact ⟨σ[i], by rw [List.set_set]; exact set_self (List.getElem?_eq_getElem hl)⟩
  · refine ⟨none, ?_⟩
    rw [List.set_set]
    exact List.set_eq_of_length_le (by omega)
theorem MSt.blk1 {i : Nat} (S : MSt c H0 r τ l σ H) (hf : Free r i) : ∃ τs : List (V × PyData), MSt c H0 (r.set i none) (τs ++ τ) l (σ.set i none) H ∧
    ∀ H0' r' τ' l' σ' H', MSt c H0' r' (τs ++ τ') l' σ' H' → r'.set i none = r.set i none → σ'.set i none = σ.set i none → MSt c H0' r τ' l' σ H' := by
  unfold Free at hf
  split at hf
  · rename_i h0
    refine ⟨[], S.clr, fun H0' r' τ' l' σ' H' S' e1 e2 => ?_⟩
    obtain ⟨o, ho⟩ := sig_self (σ := σ) (i := i)
    have a := (S'.clr (i := i) (o := none))
    rw [e1, e2] at a
    have b := a.clr (i := i) (o := o)
    rw [ho, List.set_set, lk_none_set h0] at b
    exact b
  · rename_i e h0
    obtain ⟨v, hv, S1⟩ := S.dat (lk_some h0)
    refine ⟨[(v, e)], S1.clr, fun H0' r' τ' l' σ' H' S' e1 e2 => ?_⟩
    have a := (S'.clr (i := i) (o := none))
    rw [e1, e2] at a
    have b := MSt.setD (i := i) (v := v) (e := e) (τ := τ') a
    rw [List.set_set, List.set_set, set_self (lk_some h0), set_self hv] at b
    exact b
  · exact hf.elim
theorem MSt.blk (S : MSt c H0 r τ l σ H) : ∀ vs : List Nat, (∀ i ∈ vs, Free r i) → ∃ τs : List (V × PyData), MSt c H0 (wipeM r vs) (τs ++ τ) l (L2.wipe σ vs) H ∧
    ∀ H0' r' τ' l' σ' H', MSt c H0' r' (τs ++ τ') l' σ' H' → wipeM r' vs = wipeM r vs → L2.wipe σ' vs = L2.wipe σ vs → MSt c H0' r τ' l' σ H'
  | [], _ => ⟨[], S, fun H0' r' τ' l' σ' H' S' e1 e2 => by
    have e1 : r' = r := e1
    have e2 : σ' = σ := e2
    subst e1 e2
    exact S'⟩
  | v :: vs, hf => by
    obtain ⟨t1, S1, k1⟩ := MSt.blk S vs fun i hi => hf i (List.mem_cons_of_mem _ hi)
    have fv : Free (wipeM r vs) v := by
      have := hf v List.mem_cons_self
      unfold Free at this ⊢
      rw [lk_wipe]
      by_cases h : v ∈ vs
      · rw [if_pos h]; trivial
      · rw [if_neg h]; exact this
    obtain ⟨t2, S2, k2⟩ := S1.blk1 fv
    refine ⟨t2 ++ t1, by rw [List.append_assoc]; exact S2, fun H0' r' τ' l' σ' H' S' e1 e2 => ?_⟩
    rw [List.append_assoc] at S'
    have a := k2 H0' (wipeM r' vs) (t1 ++ τ') l' (L2.wipe σ' vs) H' (S'.wipe vs) e1 e2
    exact k1 H0' _ τ' l' _ H' a (wipeM_idem r vs) (wipe_idem σ vs)
end
/-! ### stores -/
def SGv (c : Ct) (vs : List Nat) (g : TG) (m : DG) : Prop := ∀ H0 r τ l σ H v e, MSt c H0 r ((v, e) :: τ) l σ H → ∀ (P : ME → Prop), m e r P (fun _ => False) → ∀ Q : L2.St → Hp → Prop,
  (∀ r' σ' H', MSt c H0 r' τ l σ' H' → L2.wipe σ' vs = L2.wipe σ vs → wipeM r' vs = wipeM r vs → P r' → Q σ' H') → g v σ H Q
def SGsv (c : Ct) (vs : List Nat) (g : TGs) (m : List PyData → ME → C ME) : Prop := ∀ H0 r τ l σ H us es, MSt c H0 r (us.zip es ++ τ) l σ H → us.length = es.length → ∀ (P : ME → Prop), m es r P (fun _ => False) → ∀ Q : L2.St → Hp → Prop,
  (∀ r' σ' H', MSt c H0 r' τ l σ' H' → L2.wipe σ' vs = L2.wipe σ vs → wipeM r' vs = wipeM r vs → P r' → Q σ' H') → g us σ H Q
section
variable {c : Ct} {K : PySem.W.Frag} {vs : List Nat}
theorem sg_name {i : Nat} (hi : i ∈ vs) : SGv c vs (gName i) (gNm i) := fun H0 r τ l σ H v e S P h Q k => k _ _ H S.setD (wipe_set hi) (wipeM_set hi) h
theorem sgs_nil : SGsv c vs gNil gs0 := fun H0 r τ l σ H us es S hl P h Q k => by
  cases es with
  | nil =>
    cases us with
    | nil => exact ⟨rfl, k r σ H S rfl rfl h⟩
    | cons => simp at hl
  | cons => exact h.elim
theorem sgs_cons {g : TG} {m : DG} {gs : TGs} {ms : List PyData → ME → C ME} (h1 : SGv c vs g m) (h2 : SGsv c vs gs ms) : SGsv c vs (gCons g gs) (gs1 m ms) := fun H0 r τ l σ H us es S hl P h Q k => by
  cases es with
  | nil => exact h.elim
  | cons e es =>
    cases us with
    | nil => simp at hl
    | cons u us =>
      refine ⟨u, us, rfl, h1 H0 r (us.zip es ++ τ) l σ H u e S _ h _ fun r' σ' H' S' w1 w2 p => ?_⟩
      exact h2 H0 r' τ l σ' H' us es S' (by simpa using hl) P p Q fun r2 σ2 H2 S2 w3 w4 p2 => k r2 σ2 H2 S2 (w3.trans w1) (w4.trans w2) p2
theorem sg_tup {n : Nat} {gs : TGs} {ms : List PyData → ME → C ME} (h : SGsv c vs gs ms) : SGv c vs (gTup K n gs) (gTp n ms) := fun H0 r τ l σ H v e S P hp Q k => by
  unfold gTp at hp
  split at hp
  · rename_i es
    obtain ⟨N, n3, n5, q⟩ := S.ext
    have hv := n5 _ List.mem_cons_self
    cases hv with
    | @tup a xs _ hA hn hr =>
      refine ⟨a, xs, rfl, .inl (.inl hA), by rw [hr.len]; exact hp.1, ?_⟩
      refine h H0 r τ l σ H xs es (q H _ ex_refl fun p hp => ?_) hr.len P hp.2 Q k
      rcases List.mem_append.mp hp with hp | hp
      · exact rg_zip hr p hp
      · exact n5 p (List.mem_cons_of_mem _ hp)
  · exact hp.elim
end
/-! ### walks -/
structure Hold (c : Ct) (H0 H0' : Hp) (τc : List (V × PyData)) (J : It) (items : List PyData) : Prop where
  up : ∀ b o, H0 b = some o → ¬ c.W.N b → H0' b = some o
  dw : ∀ b, H0' b = none → H0 b = none
  wk : ∃ G Y, Walk J items.length G Y ∧ (∀ ρ τ l σ H, DL.St c.W H0' ρ (τc ++ τ) l σ H → G H) ∧
    (∀ (i : Nat) ρ τ l σ H x H' d, DL.St c.W H0' ρ (τc ++ τ) l σ H → Y i H x H' → items[i]? = some d → DL.St c.W H0' ρ ((x, d) :: (τc ++ τ)) l σ H')
def SI (c : Ct) (wi : TI) (m : DI) : Prop := ∀ H0 r τ l σ H, MSt c H0 r τ l σ H → ∀ (P : List PyData → Prop) (X : Xc → Prop), m r P X → XOut c H0 r τ l σ X → ∀ R : It → Hp → Prop,
  (∀ J items τc H0' H1, Hold c H0 H0' τc J items → MSt c H0' r (τc ++ τ) l σ H1 → P items → R J H1) → wi σ H R
theorem MSt.unbase {c : Ct} {H0 H0' H : Hp} {r : ME} {τ : List (V × PyData)} {l : List (Addr × List PyData)} {σ : L2.St} (h1 : ∀ b o, H0 b = some o → ¬ c.W.N b → H0' b = some o) (h2 : ∀ b, H0' b = none → H0 b = none) (S : MSt c H0' r τ l σ H) : MSt c H0 r τ l σ H :=
  ⟨S.fit, S.st.unbase h1 h2⟩
theorem XOut.rebase {c : Ct} {H0 H0' : Hp} {r : ME} {τ τ' : List (V × PyData)} {l : List (Addr × List PyData)} {σ : L2.St} {X : Xc → Prop} (h : XOut c H0 r τ l σ X) (h1 : ∀ b o, H0 b = some o → ¬ c.W.N b → H0' b = some o) (h2 : ∀ b, H0' b = none → H0 b = none) (hs : ∀ p ∈ τ, p ∈ τ') :
    XOut c H0' r τ' l σ X := fun x u d vs H' a S q => h.sub hs x u d vs H' a (S.unbase h1 h2) q
/-! ### comprehensions -/
/-- the items of one clause -/
def mIt (g : DG) (t : DT) (vs : List Nat) (sub : ME → List PyData → C (List PyData)) (r : ME) : List PyData → List PyData → C (List PyData)
  | [], acc => fun P _ => P acc
  | x :: xs, acc => fun P X => g x (wipeM r vs) (fun r2 => t r2 (fun b => match b with
    | true => sub r2 acc (fun acc' => mIt g t vs sub r xs acc' P X) fun _ => False
    | false => mIt g t vs sub r xs acc P X) fun _ => False) fun _ => False
/-- the element behind the last clause -/
def mEl (e : DE) : ME → List PyData → C (List PyData) := fun r acc P X => e r (fun y => acc.length < 100000 ∧ P (acc ++ [y])) X
/-- a further clause -/
def mCl (i : DI) (g : DG) (t : DT) (vs : List Nat) (sub : ME → List PyData → C (List PyData)) : ME → List PyData → C (List PyData) := fun r acc P X =>
  i r (fun items => (∀ j ∈ vs, Free r j) ∧ mIt g t vs sub r items acc P X) X
abbrev TB' := L2.St → Hp → (Hp → Prop) → Prop
/-- the element, laid behind the list at D -/
def bEl (te : TE) (D : Addr) : TB' := fun σ H Nx => te σ H fun y H7 => ∃ acc, H7 D = some (.lst acc) ∧ acc.length < sizeLine ∧ Nx (upd H7 D (.lst (acc ++ [y])))
/-- the turns of one clause -/
def lvl (J : It) (g : TG) (tt : TT) (vs : List Nat) (B : TB') (σ : L2.St) (H1 : Hp) (Nx : Hp → Prop) : Prop :=
  ∃ W : Nat → Nat → Hp → Prop, (∃ m, W 0 m H1) ∧ ∀ i m H, W i m H →
    (J.stop i H ∧ Nx H) ∨ (J.go i H ∧ ∃ Nx1 : Hp → Prop, (∀ H', Nx1 H' → ∃ m', m' < m ∧ W (i + 1) m' H') ∧ ∀ x H', J.yld i H x H' → g x (L2.wipe σ vs) H' fun σ2 H2 => L2.wipe σ2 vs = L2.wipe σ vs ∧ tt σ2 H2 fun b H3 =>
      if b = true then B σ2 H3 Nx1 else Nx1 H3)
def bCl (wi : TI) (g : TG) (tt : TT) (vs : List Nat) (B : TB') : TB' := fun σ H Nx => wi σ H fun J H1 => lvl J g tt vs B σ H1 Nx
theorem tLc_eq {wi : TI} {g : TG} {tt : TT} {te : TE} {vs : List Nat} : tLc wi g tt te vs = fun σ H Q => wi σ H fun J H1 => ∀ D, H1 D = none → lvl J g tt vs (bEl te D) σ (upd H1 D (.lst [])) fun H => Q (.ref D) H := rfl
theorem tLc2_eq {wi wi1 : TI} {g g1 : TG} {tt tt1 : TT} {te : TE} {vs vs1 : List Nat} : tLc2 wi g tt wi1 g1 tt1 te vs vs1 = fun σ H Q => wi σ H fun J H1 => ∀ D, H1 D = none → lvl J g tt vs (bCl wi1 g1 tt1 vs1 (bEl te D)) σ (upd H1 D (.lst [])) fun H => Q (.ref D) H := rfl
/-- a block's reading and its mirror -/
def SB (c : Ct) (D : Addr) (B : TB') (m : ME → List PyData → C (List PyData)) : Prop := ∀ H0 r τ l σ H acc, MSt c H0 r τ ((D, acc) :: l) σ H → ∀ (P : List PyData → Prop), m r acc P (fun _ => False) → ∀ Nx : Hp → Prop,
  (∀ H' acc', MSt c H0 r τ ((D, acc') :: l) σ H' → P acc' → Nx H') → B σ H Nx
section
variable {c : Ct} {te : TE} {me : DE} {D : Addr} {g : TG} {mg : DG} {tt : TT} {mt : DT} {vs : List Nat} {B : TB'} {sub : ME → List PyData → C (List PyData)} {wi : TI} {mi : DI}
theorem owns_front {r : ME} {σ : L2.St} {D : Addr} {acc : List PyData} {l : List (Addr × List PyData)} : (owns r σ ++ (D, acc) :: l).Perm ((D, acc) :: (owns r σ ++ l)) := List.perm_middle
theorem sb_el (he : SE c te me) : SB c D (bEl te D) (mEl me) := fun H0 r τ l σ H acc S P h Nx k =>
  he H0 r τ _ σ H S _ _ h XOut.no _ fun y d H1 S1 p => by
    have T := st_perm S1.st owns_front
    obtain ⟨xs, hx, hl, T2⟩ := T.app
    refine ⟨xs, hx, size_small' (by rw [hl]; omega), k _ (acc ++ [d]) ⟨S1.fit, st_perm T2 owns_front.symm⟩ p.2⟩
theorem lvl_of {J : It} {items : List PyData} {H0 H0' : Hp} {r : ME} {τ τc : List (V × PyData)} {l : List (Addr × List PyData)} {σ : L2.St} {H : Hp} {acc : List PyData} {P : List PyData → Prop} {Nx : Hp → Prop}
    (hg : SGv c vs g mg) (ht : ST c tt mt) (hb : SB c D B sub) (hd : Hold c H0 H0' τc J items) (S : MSt c H0' r (τc ++ τ) ((D, acc) :: l) σ H) (hf : ∀ j ∈ vs, Free r j)
    (h : mIt mg mt vs sub r items acc P (fun _ => False)) (k : ∀ H' acc', MSt c H0' r (τc ++ τ) ((D, acc') :: l) σ H' → P acc' → Nx H') : lvl J g tt vs B σ H Nx := by
  obtain ⟨G, Y, wk, hG, hY⟩ := hd.wk
  refine ⟨fun i m H => m = items.length - i ∧ i ≤ items.length ∧ ∃ acc, MSt c H0' r (τc ++ τ) ((D, acc) :: l) σ H ∧ mIt mg mt vs sub r (items.drop i) acc P (fun _ => False), ⟨_, rfl, Nat.zero_le _, acc, S, h⟩, ?_⟩
  rintro i m H ⟨rfl, hi, acc, S, h⟩
  have q := hG _ _ _ _ _ S.st
  by_cases hlt : i < items.length
  · refine .inr ⟨wk.goes i H hlt q, fun H' => i < items.length ∧ ∃ acc, MSt c H0' r (τc ++ τ) ((D, acc) :: l) σ H' ∧ mIt mg mt vs sub r (items.drop (i + 1)) acc P (fun _ => False), fun H' p => ⟨_, by omega, rfl, p.1, p.2⟩, fun x H' y => ?_⟩
    have hd' : items[i]? = some items[i] := List.getElem?_eq_getElem hlt
    have T := hY i _ _ _ _ _ x H' _ S.st (wk.yields i H x H' hlt q y) hd'
    have S2 : MSt c H0' r ((x, items[i]) :: (τc ++ τ)) ((D, acc) :: l) σ H' := ⟨S.fit, T⟩
    rw [List.drop_eq_getElem_cons hlt] at h
    obtain ⟨τs, S3, re⟩ := S2.blk vs hf
    have S4 : MSt c H0' (wipeM r vs) ((x, items[i]) :: (τs ++ (τc ++ τ))) ((D, acc) :: l) (L2.wipe σ vs) H' := S3.mono fun p hp => by
      simp only [List.mem_cons, List.mem_append] at hp ⊢
      rcases hp with hp | hp | hp | hp
      · exact .inr (.inl hp)
      · exact .inl hp
      · exact .inr (.inr (.inl hp))
      · exact .inr (.inr (.inr hp))
    have fin : ∀ {r2 σ2 H2 acc2}, MSt c H0' r2 (τs ++ (τc ++ τ)) ((D, acc2) :: l) σ2 H2 → L2.wipe σ2 vs = L2.wipe σ vs → wipeM r2 vs = wipeM r vs → MSt c H0' r (τc ++ τ) ((D, acc2) :: l) σ H2 := fun {r2 σ2 H2 acc2} S e1 e2 => re _ r2 _ _ σ2 H2 S e2 e1
    refine hg H0' _ _ _ _ H' x _ S4 _ h _ fun r2 σ2 H2 S5 w1 w2 p => ?_
    rw [wipe_idem] at w1
    rw [wipeM_idem] at w2
    refine ⟨w1, ht H0' r2 _ _ σ2 H2 S5 _ _ p XOut.no _ fun b H3 S6 pb => ?_⟩
    cases b with
    | true => exact (if_pos rfl).mpr (hb H0' r2 _ l σ2 H3 acc S6 _ pb _ fun H4 acc' S7 p' => ⟨hlt, acc', fin S7 w1 w2, p'⟩)
    | false => exact (if_neg Bool.false_ne_true).mpr ⟨hlt, acc, fin S6 w1 w2, pb⟩
  · have e : i = items.length := by omega
    subst e
    rw [List.drop_length] at h
    exact .inl ⟨wk.stops H q, k H acc S h⟩
theorem sb_cl (hi : SI c wi mi) (hg : SGv c vs g mg) (ht : ST c tt mt) (hb : SB c D B sub) : SB c D (bCl wi g tt vs B) (mCl mi mg mt vs sub) := fun H0 r τ l σ H acc S P h Nx k =>
  hi H0 r τ _ σ H S _ _ h XOut.no _ fun J items τc H0' H1 hd S1 p => by
    obtain ⟨hf, p⟩ := p
    exact lvl_of hg ht hb hd S1 hf p fun H' acc' S' q => k H' acc' ((S'.unbase hd.up hd.dw).mono fun p hp => List.mem_append_right _ hp) q
/-- a reading that makes a new list -/
abbrev DEO := ME → C (List PyData)
def SEO (c : Ct) (te : TE) (m : DEO) : Prop := ∀ H0 r τ l σ H, MSt c H0 r τ l σ H → ∀ (P : List PyData → Prop) (X : Xc → Prop), m r P X → XOut c H0 r τ l σ X → ∀ Q : VK, (∀ p ds H', MSt c H0 r τ ((p, ds) :: l) σ H' → P ds → Q (.ref p) H') → te σ H Q
def mFr (m : DEO) : DE := fun r P X => m r (fun ds => P (.list ds)) X
theorem se_fr {m : DEO} (h : SEO c te m) : SE c te (mFr m) := fun H0 r τ l σ H S P X hp hX Q k => h H0 r τ l σ H S _ X hp hX Q fun p ds H' S' q => by
  have T := (st_perm S'.st owns_front).frz
  exact k _ _ H' ⟨S'.fit, T⟩ q
/-- the comprehension, by its clauses -/
def mLc (i : DI) (g : DG) (t : DT) (vs : List Nat) (sub : ME → List PyData → C (List PyData)) : DEO := fun r P X => i r (fun items => (∀ j ∈ vs, Free r j) ∧ mIt g t vs sub r items [] P fun _ => False) X
theorem seo_top {B : Addr → TB'} (hi : SI c wi mi) (hg : SGv c vs g mg) (ht : ST c tt mt) (hb : ∀ D, SB c D (B D) sub) : SEO c (fun σ H Q => wi σ H fun J H1 => ∀ D, H1 D = none → lvl J g tt vs (B D) σ (upd H1 D (.lst [])) fun H => Q (.ref D) H) (mLc mi mg mt vs sub) :=
  fun H0 r τ l σ H S P X h hX Q k => hi H0 r τ l σ H S _ X h hX _ fun J items τc H0' H1 hd S1 p D hD => by
    obtain ⟨hf, p⟩ := p
    have T : MSt c H0' r (τc ++ τ) ((D, []) :: l) σ (upd H1 D (.lst [])) := ⟨S1.fit, st_perm (S1.st.newL hD) owns_front.symm⟩
    exact lvl_of hg ht (hb D) hd T hf p fun H' acc' S' q => k D acc' H' ((S'.unbase hd.up hd.dw).mono fun p hp => List.mem_append_right _ hp) q
theorem seo_lc (hi : SI c wi mi) (hg : SGv c vs g mg) (ht : ST c tt mt) (he : SE c te me) : SEO c (tLc wi g tt te vs) (mLc mi mg mt vs (mEl me)) := seo_top (B := fun D => bEl te D) hi hg ht fun D => sb_el he
theorem seo_lc2 {wi1 : TI} {mi1 : DI} {g1 : TG} {mg1 : DG} {tt1 : TT} {mt1 : DT} {vs1 : List Nat} (hi : SI c wi mi) (hg : SGv c vs g mg) (ht : ST c tt mt) (hi1 : SI c wi1 mi1) (hg1 : SGv c vs1 g1 mg1) (ht1 : ST c tt1 mt1) (he : SE c te me) :
    SEO c (tLc2 wi g tt wi1 g1 tt1 te vs vs1) (mLc mi mg mt vs (mCl mi1 mg1 mt1 vs1 (mEl me))) := seo_top (B := fun D => bCl wi1 g1 tt1 vs1 (bEl te D)) hi hg ht fun D => sb_cl hi1 hg1 ht1 (sb_el he)
end
end MI
set_option Elab.async false
set_option linter.all false
set_option maxRecDepth 100000
/-! A mirror of the text in plain data: statements, sources of loops, defs. -/
namespace MI
open PySem PySem.Spec PyProof.Rows L2 Evl TB DL
/-- what is wished behind a statement -/
structure DN where
  nx : ME → Prop
  bk : ME → Prop := fun _ => False
  ct : ME → Prop := fun _ => False
  rt : PyData → Prop
  ex : Xc → Prop
abbrev DS := DN → ME → Prop
def sNx : DS := fun D r => D.nx r
def sSeq (a b : DS) : DS := fun D r => a { D with nx := b D } r
def sBk : DS := fun D r => D.bk r
def sCt : DS := fun D r => D.ct r
def sAsg (e : DE) (g : DG) : DS := fun D r => e r (fun x => g x r D.nx fun _ => False) D.ex
def sDrop (e : DE) : DS := fun D r => e r (fun _ => D.nx r) D.ex
def sRet (e : DE) : DS := fun D r => e r D.rt D.ex
def sRetN : DS := fun D _ => D.rt .none
def sIf (t : DT) (a b : DS) : DS := fun D r => t r (fun x => match x with
  | true => a D r
  | false => b D r) D.ex
def sPar (i j : Nat) (a : DA) : DS := fun D r => a r (fun es => match es with
  | [x, y] => D.nx ((r.set i (some (.dat x))).set j (some (.dat y)))
  | _ => False) D.ex
def forC (g : DG) (b : DS) (D : DN) : List PyData → ME → Prop
  | [], r => D.nx r
  | x :: xs, r => g x r (fun r' => b { D with nx := forC g b D xs, ct := forC g b D xs, bk := D.nx } r') fun _ => False
def sFor (i : DI) (g : DG) (b : DS) : DS := fun D r => i r (fun items => forC g b D items r) D.ex
def whC (t : DT) (b : DS) (D : DN) : Nat → ME → Prop
  | 0, _ => False
  | n + 1, r => t r (fun x => match x with
    | true => b { D with nx := whC t b D n, ct := whC t b D n, bk := D.nx } r
    | false => D.nx r) D.ex
def sWhile (t : DT) (b : DS) : DS := fun D r => ∃ n, whC t b D n r
/-- an own list is data from now on -/
def frzM (r : ME) (i : Nat) : ME := match lk r i with
  | some (.own ds) => r.set i (some (.dat (.list ds)))
  | _ => r
def sFz (i : Nat) (s : DS) : DS := fun D r => s D (frzM r i)
/-- a new list goes to a name and stays one's own -/
def sNew (i : Nat) (m : DEO) : DS := fun D r => m r (fun ds => i < r.length ∧ D.nx (r.set i (some (.own ds)))) D.ex
def oApp (i : Nat) (e : DE) : DS := fun D r => match lk r i with
  | some (.own ds) => e r (fun x => ds.length < 100000 ∧ D.nx (r.set i (some (.own (ds ++ [x]))))) D.ex
  | _ => False
def oExt (i : Nat) (e : DE) : DS := fun D r => match lk r i with
  | some (.own ds) => e r (fun x => match x with
    | .list es => ds.length + es.length ≤ 100000 ∧ D.nx (r.set i (some (.own (ds ++ es))))
    | _ => False) D.ex
  | _ => False
/-- an item of an own list is set -/
def oSet (i : Nat) (k : DE) (e : DE) : DS := fun D r => e r (fun x => match lk r i with
  | some (.own ds) => k r (fun z => match z with
    | .int z => (match ixN ds.length z with
      | some j => D.nx (r.set i (some (.own (ds.set j x))))
      | none => False)
    | _ => False) D.ex
  | _ => False) D.ex
/-- an item of an own list -/
def oIx (i : Nat) (k : DE) : DE := fun r P X => match lk r i with
  | some (.own ds) => k r (fun z => match z with
    | .int z => (match atI ds z with
      | some e => P e
      | none => False)
    | _ => False) X
  | _ => False
def oLen (i : Nat) : DE := fun r P _ => match lk r i with
  | some (.own ds) => P (.int ds.length)
  | _ => False
def SS (c : Ct) (ts : TS) (m : DS) : Prop := ∀ H0 r τ l σ H, MSt c H0 r τ l σ H → ∀ (D : DN) (E : Ends), m D r →
  (∀ r' σ' H', MSt c H0 r' τ l σ' H' → D.nx r' → E.nx σ' H') → (∀ r' σ' H', MSt c H0 r' τ l σ' H' → D.bk r' → E.bk σ' H') → (∀ r' σ' H', MSt c H0 r' τ l σ' H' → D.ct r' → E.ct σ' H') →
  (∀ v e r' σ' H', MSt c H0 r' ((v, e) :: τ) l σ' H' → D.rt e → E.rt v H') → (∀ r' σ', XOut c H0 r' τ l σ' D.ex) → ts E σ H
section
variable {c : Ct} {K : PySem.W.Frag} {te : TE} {tas : TA} {me : DE} {mas : DA} {tt : TT} {mt : DT} {ts tu : TS} {ms mu : DS} {g : TG} {mg : DG} {wi : TI} {mi : DI} {vs : List Nat}
theorem ss_nx : SS c tNext sNx := fun H0 r τ l σ H S D E h n b ct rt x => n r σ H S h
theorem ss_bk : SS c tBreak sBk := fun H0 r τ l σ H S D E h n b ct rt x => b r σ H S h
theorem ss_ct : SS c tCont sCt := fun H0 r τ l σ H S D E h n b ct rt x => ct r σ H S h
theorem ss_seq (h1 : SS c ts ms) (h2 : SS c tu mu) : SS c (tSeq ts tu) (sSeq ms mu) := fun H0 r τ l σ H S D E h n b ct rt x =>
  h1 H0 r τ l σ H S _ _ h (fun r' σ' H' S' p => h2 H0 r' τ l σ' H' S' D E p n b ct rt x) b ct rt x
theorem ss_asg (he : SE c te me) (hg : SGv c vs g mg) : SS c (tAsg te g) (sAsg me mg) := fun H0 r τ l σ H S D E h n b ct rt x =>
  he H0 r τ l σ H S _ _ h (x r σ) _ fun v e H' S' p => hg H0 r τ l σ H' v e S' _ p _ fun r2 σ2 H2 S2 _ _ p2 => n r2 σ2 H2 S2 p2
theorem ss_drop (he : SE c te me) : SS c (tDrop te) (sDrop me) := fun H0 r τ l σ H S D E h n b ct rt x =>
  he H0 r τ l σ H S _ _ h (x r σ) _ fun v e H' S' p => n r σ H' S'.pop p
theorem ss_ret (he : SE c te me) : SS c (tRet te) (sRet me) := fun H0 r τ l σ H S D E h n b ct rt x =>
  he H0 r τ l σ H S _ _ h (x r σ) _ fun v e H' S' p => rt v e r σ H' S' p
theorem ss_retN : SS c tRetN sRetN := fun H0 r τ l σ H S D E h n b ct rt x => rt .non .none r σ H (S.sc fun _ => .non) h
theorem ss_if (ht : ST c tt mt) (h1 : SS c ts ms) (h2 : SS c tu mu) : SS c (tIfS tt ts tu) (sIf mt ms mu) := fun H0 r τ l σ H S D E h n b ct rt x =>
  ht H0 r τ l σ H S _ _ h (x r σ) _ fun a H' S' p => by
    cases a with
    | true => exact (if_pos rfl).mpr (h1 H0 r τ l σ H' S' D E p n b ct rt x)
    | false => exact (if_neg Bool.false_ne_true).mpr (h2 H0 r τ l σ H' S' D E p n b ct rt x)
theorem ss_par {i j : Nat} (ha : SA c tas mas) : SS c (tPar i j tas) (sPar i j mas) := fun H0 r τ l σ H S D E h n b ct rt x =>
  ha H0 r τ l σ H S _ _ h (x r σ) _ fun us es H' S' hl p => by
    match es, us, hl, p with
    | [a, b'], [u, w], _, p =>
      refine ⟨u, w, rfl, n _ _ H' ?_ p⟩
      have S1 : MSt c H0 r ((u, a) :: (w, b') :: τ) l σ H' := S'
      exact (S1.setD).setD
    | [], _, _, p => exact p.elim
    | [_], _, _, p => exact p.elim
    | _ :: _ :: _ :: _, _, _, p => exact p.elim
theorem ss_fz {i : Nat} (h : SS c ts ms) : SS c ts (sFz i ms) := fun H0 r τ l σ H S D E hp n b ct rt x => by
  have hp : ms D (frzM r i) := hp
  unfold frzM at hp
  split at hp
  · rename_i ds hl
    exact h H0 _ τ l σ H (S.frz (lk_some hl)) D E hp n b ct rt x
  · exact h H0 r τ l σ H S D E hp n b ct rt x
theorem ss_new {i : Nat} {m : DEO} (h : SEO c te m) : SS c (tAsg te (gName i)) (sNew i m) := fun H0 r τ l σ H S D E hp n b ct rt x =>
  h H0 r τ l σ H S _ _ hp (x r σ) _ fun p ds H' S' q => n _ _ H' (S'.setO q.1) q.2
/-- the name of an own list, read -/
theorem own_front {H0 H : Hp} {r : ME} {τ : List (V × PyData)} {l : List (Addr × List PyData)} {σ : L2.St} {i : Nat} {ds : List PyData} (S : MSt c H0 r τ l σ H) (h : lk r i = some (.own ds)) :
    ∃ a xs, σ[i]? = some (some (.ref a)) ∧ H a = some (.lst xs) ∧ xs.length = ds.length ∧ DL.St c.W H0 (r.map (dn c.dk)) τ ((a, ds) :: (owns (r.set i none) σ ++ l)) σ H := by
  obtain ⟨a, ha, T⟩ := S.front (lk_some h)
  obtain ⟨xs, h1, h2, _⟩ := st_look T
  exact ⟨a, xs, ha, h1, h2, T⟩
theorem ss_app {i : Nat} (he : SE c te me) : SS c (tDrop (tBM K "list" rAppend (tVar i) (tCons te tNil))) (oApp i me) := fun H0 r τ l σ H S D E hp n b ct rt x => by
  unfold oApp at hp
  split at hp
  · rename_i ds hl
    obtain ⟨a, xs, ha, hx, _, _⟩ := own_front S hl
    refine ⟨.ref a, ha, .inl ⟨rfl, xs, .inl (.inl hx)⟩, he H0 r τ l σ H S _ _ hp (x r σ) _ fun y e H1 S1 p => ?_⟩
    obtain ⟨a', xs', ha', hx', hl', T⟩ := own_front S1 hl
    rw [ha] at ha'
    cases ha'
    obtain ⟨ys, hy, hly, T2⟩ := T.app
    rw [hx'] at hy
    cases hy
    exact ⟨a, xs', y, rfl, rfl, hx', size_small' (by rw [hl']; omega), n _ σ _ (S1.back (lk_some hl) ha T2) p.2⟩
  · exact hp.elim
theorem ss_ext {i : Nat} (he : SE c te me) : SS c (tDrop (tBM K "list" rExtend (tVar i) (tCons te tNil))) (oExt i me) := fun H0 r τ l σ H S D E hp n b ct rt x => by
  unfold oExt at hp
  split at hp
  · rename_i ds hl
    obtain ⟨a, xs, ha, hx, _, _⟩ := own_front S hl
    refine ⟨.ref a, ha, .inl ⟨rfl, xs, .inl (.inl hx)⟩, he H0 r τ l σ H S _ _ hp (x r σ) _ fun y e H1 S1 p => ?_⟩
    try dsimp only at p
    split at p
    · rename_i es
      obtain ⟨a', xs', ha', hx', hl', T⟩ := own_front S1 hl
      rw [ha] at ha'
      cases ha'
      have hv : ∃ q, y = .ref q := by
        obtain ⟨N, n3, n5, q⟩ := S1.ext
        have := n5 _ List.mem_cons_self
        cases this
        exact ⟨_, rfl⟩
      obtain ⟨q, rfl⟩ := hv
      obtain ⟨ys, zs, h1, h2, h3, h4, T2⟩ := T.more
      rw [hx'] at h1
      cases h1
      exact ⟨a, q, xs', zs, rfl, rfl, hx', h2, size_small (by rw [h3, h4]; exact p.1), n _ σ _ (S1.back (lk_some hl) ha T2) p.2⟩
    · exact p.elim
  · exact hp.elim
theorem rg_set {N : Addr → Prop} {H : Hp} {x : V} {e : PyData} (h : Rg N H x e) : ∀ {xs : List V} {ds : List PyData} (j : Nat), RgAll N H xs ds → RgAll N H (xs.set j x) (ds.set j e)
  | _, _, _, .nil => .nil
  | _, _, 0, .cons _ t => .cons h t
  | _, _, j + 1, .cons q t => .cons q (rg_set h j t)
theorem ss_set {i : Nat} {tk : TE} {mk : DE} (he : SE c te me) (hk : SE c tk mk) : SS c (tAsg te (gSub (tVar i) tk rSetL)) (oSet i mk me) := fun H0 r τ l σ H S D E hp n b ct rt x => by
  refine he H0 r τ l σ H S _ _ hp (x r σ) _ fun y e H1 S1 p => ?_
  try dsimp only at p
  split at p
  · rename_i ds hl
    obtain ⟨a, xs, ha, hx, hxl, _⟩ := own_front S1 hl
    refine ⟨.ref a, ha, hk H0 r _ l σ H1 S1 _ _ p (x r σ).more _ fun z e2 H2 S2 p2 => ?_⟩
    try dsimp only at p2
    split at p2
    · rename_i zi
      have := S2.it
      subst this
      split at p2
      · rename_i j hj
        obtain ⟨a', xs', ha', hx', hl', T⟩ := own_front S2 hl
        rw [ha] at ha'
        cases ha'
        refine ⟨a, xs', zi, j, rfl, rfl, hx', by rw [hl']; exact hj, ?_⟩
        have T2 := st_mut T (ys := xs'.set j y) (es := ds.set j e) fun N xs h1 h2 h3 => by
          rw [hx'] at h1
          cases h1
          exact rg_set (h3 (y, e) (List.mem_cons_of_mem _ List.mem_cons_self)) j h2
        exact n _ σ _ ((S2.back (lk_some hl) ha T2).mono fun p hp => List.mem_cons_of_mem _ (List.mem_cons_of_mem _ hp)) p2
      · exact p2.elim
    · exact p2.elim
  · exact p.elim
theorem se_oix {i : Nat} {tk : TE} {mk : DE} (hk : SE c tk mk) : SE c (tOp (rIxL K) (tVar i) tk) (oIx i mk) := fun H0 r τ l σ H S P X hp hX Q k => by
  unfold oIx at hp
  split at hp
  · rename_i ds hl
    obtain ⟨a, xs, ha, hx, hxl, _⟩ := own_front S hl
    refine ⟨.ref a, ha, hk H0 r τ l σ H S _ _ hp hX _ fun z e2 H2 S2 p2 => ?_⟩
    try dsimp only at p2
    split at p2
    · rename_i zi
      have := S2.it
      subst this
      split at p2
      · rename_i e he
        obtain ⟨a', xs', ha', hx', hl', T⟩ := own_front S2 hl
        rw [ha] at ha'
        cases ha'
        obtain ⟨ys, h1, h2, h3, _⟩ := st_look T
        rw [hx'] at h1
        cases h1
        unfold atI at he
        cases hj : ixN ds.length zi with
        | none => rw [hj] at he; cases he
        | some j =>
          rw [hj] at he
          have he' : ds[j]? = some e := he
          have jl : j < xs'.length := by rw [hl']; exact (List.getElem?_eq_some_iff.mp he').1
          obtain ⟨d, hd, T2⟩ := h3 j _ (List.getElem?_eq_getElem jl)
          rw [he'] at hd
          cases hd
          have pm : (owns r σ ++ l).Perm ((a, ds) :: (owns (r.set i none) σ ++ l)) := List.Perm.append_right l (owns_at (lk_some hl) ha)
          have S3 : MSt c H0 r ((xs'[j], e) :: (.int zi, .int zi) :: τ) l σ H2 := ⟨S2.fit, st_perm T2 pm.symm⟩
          refine ⟨a, xs', zi, xs'[j], rfl, rfl, .inl (.inl hx'), ?_, k _ _ H2 (S3.mono fun p hp => ?_) p2⟩
          · unfold atI
            rw [hl', hj]
            exact List.getElem?_eq_getElem jl
          · rcases List.mem_cons.mp hp with rfl | hp
            · exact List.mem_cons_self
            · exact List.mem_cons_of_mem _ (List.mem_cons_of_mem _ hp)
      · exact p2.elim
    · exact p2.elim
  · exact hp.elim
theorem se_olen {i : Nat} : SE c (tCB (TB.rLenQ K) (tCons (tVar i) tNil)) (oLen i) := fun H0 r τ l σ H S P X hp hX Q k => by
  unfold oLen at hp
  split at hp
  · rename_i ds hl
    obtain ⟨a, xs, ha, hx, hxl, _⟩ := own_front S hl
    refine ⟨.ref a, ha, a, xs, rfl, .inl (.inl (.inl hx)), ?_⟩
    rw [hxl]
    exact k _ _ H (S.sc fun _ => .int _) hp
  · exact hp.elim
/-! ### loops -/
theorem ss_for (hi : SI c wi mi) (hg : SGv c vs g mg) (hb : SS c ts ms) : SS c (tFor wi g ts) (sFor mi mg ms) := fun H0 r τ l σ H S D E h n b ct rt x =>
  hi H0 r τ l σ H S _ _ h (x r σ) _ fun J items τc H0' H1 hd S1 p => by
    obtain ⟨G, Y, wk, hG, hY⟩ := hd.wk
    have un : ∀ {r' σ' H'}, MSt c H0' r' (τc ++ τ) l σ' H' → MSt c H0 r' τ l σ' H' := fun {r' σ' H'} S => (S.unbase hd.up hd.dw).mono fun p hp => List.mem_append_right _ hp
    refine for_it wk (fun i σ' H' => ∃ r', MSt c H0' r' (τc ++ τ) l σ' H' ∧ forC mg ms D (items.drop i) r') ⟨r, S1, p⟩ (fun i σ' H' _ q => ?_) (fun i v σ' H2 H3 hlt q y => ?_) fun σ' H' q => ?_
    · obtain ⟨r', S', _⟩ := q
      exact hG _ _ _ _ _ S'.st
    · obtain ⟨r', S', q⟩ := q
      have hd' : items[i]? = some items[i] := List.getElem?_eq_getElem hlt
      have T := hY i _ _ _ _ _ v H3 _ S'.st y hd'
      rw [List.drop_eq_getElem_cons hlt] at q
      refine hg H0' r' _ l σ' H3 v _ ⟨S'.fit, T⟩ _ q _ fun r2 σ2 H4 S4 _ _ q2 => ?_
      refine hb H0' r2 _ l σ2 H4 S4 _ _ q2 (fun r3 σ3 H5 S5 q3 => ⟨r3, S5, q3⟩) (fun r3 σ3 H5 S5 q3 => n r3 σ3 H5 (un S5) q3) (fun r3 σ3 H5 S5 q3 => ⟨r3, S5, q3⟩) (fun v e r3 σ3 H5 S5 q3 => ?_) fun r3 σ3 => (x r3 σ3).rebase hd.up hd.dw fun p hp => List.mem_append_right _ hp
      exact rt v e r3 σ3 H5 ((S5.unbase hd.up hd.dw).mono fun p hp => by
        rcases List.mem_cons.mp hp with rfl | hp
        · exact List.mem_cons_self
        · exact List.mem_cons_of_mem _ (List.mem_append_right _ hp)) q3
    · obtain ⟨r', S', q⟩ := q
      rw [List.drop_length] at q
      exact n r' σ' H' (un S') q
theorem ss_while (ht : ST c tt mt) (hb : SS c ts ms) : SS c (tWhile tt ts) (sWhile mt ms) := fun H0 r τ l σ H S D E h n b ct rt x => by
  obtain ⟨N, hN⟩ := h
  refine ⟨fun m σ' H' => ∃ r', MSt c H0 r' τ l σ' H' ∧ whC mt ms D m r', ⟨N, r, S, hN⟩, ?_⟩
  rintro m σ' H' ⟨r', S', q⟩
  cases m with
  | zero => exact q.elim
  | succ m =>
    refine ht H0 r' τ l σ' H' S' _ _ q (x r' σ') _ fun a H2 S2 p => ?_
    cases a with
    | true =>
      refine (if_pos rfl).mpr ⟨fun σ3 H3 => ∃ r3, MSt c H0 r3 τ l σ3 H3 ∧ whC mt ms D m r3, fun σ3 H3 q => ⟨m, Nat.lt_succ_self m, q⟩, ?_⟩
      exact hb H0 r' τ l σ' H2 S2 _ _ p (fun r3 σ3 H3 S3 q => ⟨r3, S3, q⟩) (fun r3 σ3 H3 S3 q => n r3 σ3 H3 S3 q) (fun r3 σ3 H3 S3 q => ⟨r3, S3, q⟩) rt x
    | false => exact (if_neg Bool.false_ne_true).mpr (n r' σ' H2 S2 p)
end
/-! ### sources -/
def iSq (e : DE) : DI := fun r P X => e r (fun x => match x with
  | .list ds => P ds
  | .tuple ds => P ds
  | _ => False) X
def iR1 (e : DE) : DI := fun r P X => e r (fun x => match x with
  | .int n => (-(2 ^ 62) ≤ n ∧ n < 2 ^ 62) ∧ P ((List.range n.toNat).map fun (i : Nat) => .int i)
  | _ => False) X
def iR2 (e e2 : DE) : DI := fun r P X => e r (fun x => e2 r (fun y => match x, y with
  | .int a, .int b => (-(2 ^ 62) ≤ a ∧ a < 2 ^ 62 ∧ -(2 ^ 62) ≤ b ∧ b < 2 ^ 62) ∧ P ((List.range (b - a).toNat).map fun (i : Nat) => .int (a + i))
  | _, _ => False) X) X
section
variable {c : Ct} {K : PySem.W.Frag} {te ta tb : TE} {me ma mb : DE}
theorem hold_list {H0 H : Hp} {r : ME} {τ : List (V × PyData)} {l : List (Addr × List PyData)} {σ : L2.St} {v : V} {ds : List PyData} (S : MSt c H0 r ((v, .list ds) :: τ) l σ H) :
    ∃ a xs H0', v = .ref a ∧ H a = some (.lst xs) ∧ Hold c H0 H0' [(v, .list ds)] (Itl K a) ds ∧ MSt c H0' r ([(v, .list ds)] ++ τ) l σ H := by
  obtain ⟨a, xs, rfl, hA, hlen, hna, u1, u2, B⟩ := S.st.baseL
  refine ⟨a, xs, upd H0 a (.lst xs), rfl, hA, ⟨u1, u2, fun H => H a = some (.lst xs), YAt xs, ?_, fun ρ τ l σ H S => S.off a _ upd_same hna, fun i ρ τ l σ H x H' d S y hd => ?_⟩, S.fit, B⟩
  · rw [← hlen]
    exact walk_list.mono (fun H h => .inl (.inl h)) fun i H x H' _ _ y => y
  · obtain ⟨rfl, hx⟩ := y
    have hAk : H' a = some (.lst xs) := S.off a _ upd_same hna
    obtain ⟨d', hd', S3⟩ := DL.St.item (xs := xs) (ds := ds) (τ := τ) (c := .list ds) S (fun N r => by
      cases r with
      | lst q1 q2 q3 => rw [hAk] at q1; cases q1; exact q3) hx
    rw [hd] at hd'
    cases hd'
    exact S3
theorem hold_tup {H0 H : Hp} {r : ME} {τ : List (V × PyData)} {l : List (Addr × List PyData)} {σ : L2.St} {v : V} {ds : List PyData} (S : MSt c H0 r ((v, .tuple ds) :: τ) l σ H) :
    ∃ a xs H0', v = .ref a ∧ H a = some (.tup xs) ∧ Hold c H0 H0' [(v, .tuple ds)] (Itt K a) ds ∧ MSt c H0' r ([(v, .tuple ds)] ++ τ) l σ H := by
  obtain ⟨a, xs, rfl, hA, hlen, hna, u1, u2, B⟩ := S.st.baseT
  refine ⟨a, xs, upd H0 a (.tup xs), rfl, hA, ⟨u1, u2, fun H => H a = some (.tup xs), YAt xs, ?_, fun ρ τ l σ H S => S.off a _ upd_same hna, fun i ρ τ l σ H x H' d S y hd => ?_⟩, S.fit, B⟩
  · rw [← hlen]
    exact walk_tup.mono (fun H h => .inl (.inl h)) fun i H x H' _ _ y => y
  · obtain ⟨rfl, hx⟩ := y
    have hAk : H' a = some (.tup xs) := S.off a _ upd_same hna
    obtain ⟨d', hd', S3⟩ := DL.St.item (xs := xs) (ds := ds) (τ := τ) (c := .tuple ds) S (fun N r => by
      cases r with
      | tup q1 q2 q3 => rw [hAk] at q1; cases q1; exact q3) hx
    rw [hd] at hd'
    cases hd'
    exact S3
theorem hold_range {H0 : Hp} {lo : Int} {n : Nat} : Hold c H0 H0 [] (Itr lo n) ((List.range n).map fun (i : Nat) => .int (lo + i)) := by
  refine ⟨fun b o h _ => h, fun b h => h, fun _ => True, YFn fun i => .int (lo + i), ?_, fun _ _ _ _ _ _ => trivial, fun i ρ τ l σ H x H' d S y hd => ?_⟩
  · rw [List.length_map, List.length_range]
    exact walk_range
  · obtain ⟨rfl, rfl⟩ := y
    rw [List.getElem?_map] at hd
    obtain ⟨j, hj, rfl⟩ := Option.map_eq_some_iff.mp hd
    obtain ⟨hj1, rfl⟩ := List.getElem?_eq_some_iff.mp hj
    rw [List.getElem_range]
    obtain ⟨N, n3, n5, n4, q⟩ := S.ext
    refine q H' _ ex_refl fun p hp => ?_
    rcases List.mem_cons.mp hp with rfl | hp
    · exact .int _
    · exact n5 p hp
/-- a list or a tuple, whichever it is -/
def iSeq (K : PySem.W.Frag) (tl : TE) : TI := fun σ H R => tl σ H fun x H1 => ∃ a, x = .ref a ∧ (((∃ xs, SqL K H1 a xs) ∧ R (Itl K a) H1) ∨ ((∃ xs, SqT K H1 a xs) ∧ R (Itt K a) H1))
theorem si_seq (he : SE c te me) : SI c (iSeq K te) (iSq me) := fun H0 r τ l σ H S P X h hX R k =>
  he H0 r τ l σ H S _ X h hX _ fun v e H1 S1 p => by
    try dsimp only at p
    split at p
    · obtain ⟨a, xs, H0', rfl, hA, hd, S2⟩ := hold_list (K := K) S1
      exact ⟨a, rfl, .inl ⟨⟨xs, .inl (.inl hA)⟩, k _ _ _ _ _ hd S2 p⟩⟩
    · obtain ⟨a, xs, H0', rfl, hA, hd, S2⟩ := hold_tup (K := K) S1
      exact ⟨a, rfl, .inr ⟨⟨xs, .inl (.inl hA)⟩, k _ _ _ _ _ hd S2 p⟩⟩
    · exact p.elim
theorem si_range1 (he : SE c te me) : SI c (iRng1 (tCons te tNil)) (iR1 me) := fun H0 r τ l σ H S P X h hX R k =>
  he H0 r τ l σ H S _ X h hX _ fun v e H1 S1 p => by
    try dsimp only at p
    split at p
    · rename_i n
      have := S1.it
      subst this
      refine ⟨n, rfl, p.1.1, p.1.2, k _ _ [] H0 H1 hold_range S1.pop ?_⟩
      have e : (fun (i : Nat) => PyData.int (0 + (i : Int))) = fun (i : Nat) => PyData.int (i : Int) := by funext i; rw [Int.zero_add]
      rw [e]
      exact p.2
    · exact p.elim
theorem si_range2 (ha : SE c ta ma) (hb : SE c tb mb) : SI c (iRng2 (tCons ta (tCons tb tNil))) (iR2 ma mb) := fun H0 r τ l σ H S P X h hX R k =>
  ha H0 r τ l σ H S _ X h hX _ fun v e H1 S1 p => hb H0 r _ l σ H1 S1 _ X p hX.more _ fun w e2 H2 S2 p2 => by
    try dsimp only at p2
    split at p2
    · rename_i a b
      have := S2.it
      subst this
      have := S2.pop.sc (v := .int b) (e := .int b) fun _ => .int _
      have := S1.it
      subst this
      exact ⟨a, b, rfl, p2.1, k _ _ [] H0 H2 hold_range (S2.mono fun p hp => List.mem_cons_of_mem _ (List.mem_cons_of_mem _ hp)) p2.2⟩
    · exact p2.elim
end
/-! ### defs -/
def envOf (es : List PyData) (k : Nat) : ME := es.map (fun e => some (.dat e)) ++ List.replicate k none
theorem envOf_dn {dk : V} {es : List PyData} {k : Nat} : (envOf es k).map (dn dk) = slotsOf es k := by
  unfold envOf slotsOf
  rw [List.map_append, List.map_map, List.map_replicate]
  rfl
theorem owns_env : ∀ (es : List PyData) (k : Nat) (σ : L2.St), owns (envOf es k) σ = []
  | [], 0, σ => by cases σ <;> rfl
  | [], k + 1, [] => rfl
  | [], k + 1, s :: σ => by
    show own1 none s ++ owns (envOf [] k) σ = []
    rw [own1_none, owns_env [] k σ]; rfl
  | e :: es, k, [] => rfl
  | e :: es, k, s :: σ => by
    show own1 (some (.dat e)) s ++ owns (envOf es k) σ = []
    rw [owns_env es k σ]
    cases s <;> rfl
theorem fit_env {es : List PyData} {k : Nat} {σ : L2.St} : Fit (envOf es k) σ := fun i ds h => by
  have h' := List.mem_of_getElem? h
  unfold envOf at h'
  rcases List.mem_append.mp h' with h' | h'
  · obtain ⟨e, _, he⟩ := List.mem_map.mp h'
    cases he
  · have := List.eq_of_mem_replicate h'
    cases this
/-- the plain def's place -/
abbrev ctF (N : Addr → Prop) (H : Hp) (tab : Str → Option Addr) (Z : WX) : Ct := ⟨WF N H, .non, tab, Z⟩
theorem start_F {N : Addr → Prop} {H : Hp} {tab : Str → Option Addr} {Z : WX} {vs : List V} {es : List PyData} {k : Nat} (ok : NOk N H) (r : RgAll N H vs es) : MSt (ctF N H tab Z) H (envOf es k) [] [] (vs.map some ++ List.replicate k none) H := by
  refine ⟨fit_env, ?_⟩
  rw [envOf_dn, owns_env]
  exact DL.St.startF ok r
theorem end_F {N : Addr → Prop} {H H' : Hp} {tab : Str → Option Addr} {Z : WX} {r : ME} {τ : List (V × PyData)} {l : List (Addr × List PyData)} {σ : L2.St} {v : V} {e : PyData} (S : MSt (ctF N H tab Z) H r ((v, e) :: τ) l σ H') : Ex H H' ∧ Rg N H' v e := S.st.endF
theorem end_F0 {N : Addr → Prop} {H H' : Hp} {tab : Str → Option Addr} {Z : WX} {r : ME} {τ : List (V × PyData)} {l : List (Addr × List PyData)} {σ : L2.St} (S : MSt (ctF N H tab Z) H r τ l σ H') : Ex H H' := (end_F (S.sc (v := .non) (e := .none) fun _ => .non)).1
/-- the mirror of a def -/
def bodyM (b : DS) (n k : Nat) : List PyData → C PyData := fun es P X => es.length = n ∧ b { nx := fun _ => P .none, rt := P, ex := X } (envOf es k)
/-- the mirror of a def that draws: its first argument is the deck -/
def bodyW (b : DS) (n k : Nat) : List PyData → C PyData := fun es P X => es.length = n ∧ b { nx := fun _ => P .none, rt := P, ex := X } (some .dck :: envOf es k)
abbrev no4 : WX := fun _ _ _ _ => False
abbrev noTab : Str → Option Addr := fun _ => none
section
variable {P : Program} {w : World} {K : PySem.W.Frag} {mg : Str → Option Value} {base : Heap}
/-- what the body's reading has to do -/
theorem run_F {N : Addr → Prop} {H : Hp} {vs : List V} {es : List PyData} {k : Nat} {ts : TS} {b : DS} {Q : VK} {Pd : PyData → Prop} (hs : ∀ c, SS c ts b) (ok : NOk N H) (r : RgAll N H vs es) (h : b { nx := fun _ => Pd .none, rt := Pd, ex := fun _ => False } (envOf es k))
    (q : ∀ v e H', Ex H H' → Rg N H' v e → Pd e → Q v H') : ts { nx := fun _ H' => Q .non H', rt := Q } (vs.map some ++ List.replicate k none) H :=
  hs (ctF N H noTab no4) H _ [] [] _ H (start_F ok r) _ _ h (fun r' σ' H' S p => q .non .none H' (end_F0 S) .non p) (fun _ _ _ _ p => p.elim) (fun _ _ _ _ p => p.elim)
    (fun v e r' σ' H' S p => let ⟨x, y⟩ := end_F S; q v e H' x y p) fun r' σ' => XOut.no
theorem start_W {d g l : Addr} {N : Addr → Prop} {H : Hp} {tab : Str → Option Addr} {Z : WX} {vs : List V} {es : List PyData} {k : Nat} (ok : NOk N H) (h1 : N d) (h2 : N g) (h3 : N l) (D : Deck H d g l) (r : RgAll N H vs es) :
    MSt ⟨WD d g l N H, .ref d, tab, Z⟩ H (some .dck :: envOf es k) [] [] (some (.ref d) :: (vs.map some ++ List.replicate k none)) H := by
  refine ⟨fun i ds h => ?_, ?_⟩
  · cases i with
    | zero => cases h
    | succ i => exact fit_env i ds h
  · show DL.St _ H (some (.raw (.ref d)) :: (envOf es k).map (dn (.ref d))) [] ((own1 (some .dck) (some (.ref d)) ++ owns (envOf es k) _) ++ []) _ H
    rw [envOf_dn, owns_env]
    exact DL.St.startW ok h1 h2 h3 D r
theorem run_W {d g l : Addr} {N : Addr → Prop} {H : Hp} {vs : List V} {es : List PyData} {k : Nat} {ts : TS} {b : DS} {Q : VK} {Pd : PyData → Prop} (hs : ∀ c, Dk c → SS c ts b) (ok : NOk N H) (h1 : N d) (h2 : N g) (h3 : N l) (D : Deck H d g l) (r : RgAll N H vs es) (h : b { nx := fun _ => Pd .none, rt := Pd, ex := fun _ => False } (some .dck :: envOf es k))
    (q : ∀ v e H', Deck H' d g l → Oth d g l H H' → Rg N H' v e → Pd e → Q v H') : ts { nx := fun _ H' => Q .non H', rt := Q } (some (.ref d) :: (vs.map some ++ List.replicate k none)) H := by
  have fin : ∀ {v e r' τ l' σ' H'}, MSt ⟨WD d g l N H, .ref d, noTab, no4⟩ H r' ((v, e) :: τ) l' σ' H' → Pd e → Q v H' := fun {v e r' τ l' σ' H'} S p => by
    have T := S.st
    have h := DL.St.endW (d := d) (g := g) (l := l) (N := N) T
    exact q v e H' h.1 h.2.1 h.2.2 p
  exact hs ⟨WD d g l N H, .ref d, noTab, no4⟩ ⟨d, g, l, N, H, rfl, rfl⟩ H _ [] [] _ H (start_W ok h1 h2 h3 D r) _ _ h (fun r' σ' H' S p => fin (S.sc (v := .non) (e := .none) fun _ => .non) p) (fun _ _ _ _ p => p.elim) (fun _ _ _ _ p => p.elim)
    (fun v e r' σ' H' S p => fin S p) fun r' σ' => XOut.no
theorem start_eq {N : List Str} {vs : List V} {n k : Nat} (h : vs.length = n) (hk : N.length = n + k) : L2.start N vs = vs.map some ++ List.replicate k none := by
  unfold L2.start
  rw [hk, h, Nat.add_sub_cancel_left]
theorem start_eqW {N : List Str} {v : V} {vs : List V} {n k : Nat} (h : vs.length = n) (hk : N.length = n + 1 + k) : L2.start N (v :: vs) = some v :: (vs.map some ++ List.replicate k none) := by
  unfold L2.start
  rw [hk, List.length_cons, h, Nat.add_sub_cancel_left]
  rfl
end
end MI
set_option Elab.async false
set_option linter.all false
set_option maxRecDepth 100000
/-! A mirror of the text in plain data: operations. -/
namespace MI
open PySem PySem.Spec PyProof.Rows L2 Evl TB DL
theorem Res.of {N : Addr → Prop} {H : Hp} {P : PyData → Prop} {k : VK → Prop} {e : PyData} (h : Res N H (· = e) k) (p : P e) : Res N H P k := fun Q q => h Q fun v e' H' x r z => q v e' H' x r (by rw [z]; exact p)
theorem OpD.of {rd : R2} {d1 d2 e : PyData} {P : PyData → Prop} (h : OpD rd d1 d2 (· = e)) (p : P e) : OpD rd d1 d2 P := fun N H v1 v2 ok r1 r2 => Res.of (h N H v1 v2 ok r1 r2) p
theorem CaD.of {rd : List V → Hp → VK → Prop} {ds : List PyData} {e : PyData} {P : PyData → Prop} (h : CaD rd ds (· = e)) (p : P e) : CaD rd ds P := fun N H vs ok r => Res.of (h N H vs ok r) p
theorem OpD.l {ra rb : R2} {d1 d2 : PyData} {P : PyData → Prop} (h : OpD ra d1 d2 P) : OpD (fun x y H Q => ra x y H Q ∨ rb x y H Q) d1 d2 P := fun N H v1 v2 ok r1 r2 Q q => .inl (h N H v1 v2 ok r1 r2 Q q)
theorem OpD.r {ra rb : R2} {d1 d2 : PyData} {P : PyData → Prop} (h : OpD rb d1 d2 P) : OpD (fun x y H Q => ra x y H Q ∨ rb x y H Q) d1 d2 P := fun N H v1 v2 ok r1 r2 Q q => .inr (h N H v1 v2 ok r1 r2 Q q)
theorem CaD.l {ra rb : List V → Hp → VK → Prop} {ds : List PyData} {P : PyData → Prop} (h : CaD ra ds P) : CaD (fun xs H Q => ra xs H Q ∨ rb xs H Q) ds P := fun N H vs ok r Q q => .inl (h N H vs ok r Q q)
theorem CaD.r {ra rb : List V → Hp → VK → Prop} {ds : List PyData} {P : PyData → Prop} (h : CaD rb ds P) : CaD (fun xs H Q => ra xs H Q ∨ rb xs H Q) ds P := fun N H vs ok r Q q => .inr (h N H vs ok r Q q)
/-! ### + -/
abbrev rAddS : R2 := fun x y H Q => ∃ i j, x = .str i ∧ y = .str j ∧ i.length + j.length ≤ sizeLine ∧ Q (.str (i ++ j)) H
def rAddA (K : PySem.W.Frag) : R2 := fun x y H Q => rI0 (fun i j => .int (i + j)) x y H Q ∨ (rCatA K x y H Q ∨ (rCat x y H Q ∨ rAddS x y H Q))
theorem op_addA {X : Cx} : OpR X (binaryOp .Add) (rAddA X.K) := OpR.or op_add (OpR.or op_catA (OpR.or op_cat op_add_str))
def oAdd : PyData → PyData → C PyData
  | .int a, .int b => fun P _ => P (.int (a + b))
  | .tuple a, .tuple b => fun P _ => a.length + b.length ≤ 100000 ∧ P (.tuple (a ++ b))
  | .list a, .list b => fun P _ => a.length + b.length ≤ 100000 ∧ P (.list (a ++ b))
  | .str a, .str b => fun P _ => a.length + b.length ≤ 100000 ∧ P (.str (a ++ b))
  | _, _ => fun _ _ => False
theorem os_add {K : PySem.W.Frag} : OpS (rAddA K) oAdd := fun e1 e2 P X h => by
  unfold oAdd at h
  split at h
  · exact OpD.l (OpD.of opd_add h)
  · exact OpD.r (OpD.l (OpD.of (opd_catT h.1) h.2))
  · exact OpD.r (OpD.r (OpD.l (OpD.of (opd_catL h.1) h.2)))
  · refine OpD.r (OpD.r (OpD.r (OpD.of (fun N H v1 v2 _ r1 r2 => ?_) h.2)))
    cases r1; cases r2
    exact res_rfl (.str _) fun Q q => ⟨_, _, rfl, rfl, size_small h.1, q⟩
  · exact h.elim
/-! ### numbers -/
def oI (f : Int → Int → PyData) : PyData → PyData → C PyData
  | .int a, .int b => fun P _ => P (f a b)
  | _, _ => fun _ _ => False
theorem os_I0 {g : Int → Int → V} {f : Int → Int → PyData} (h : ∀ a b N H, Rg N H (g a b) (f a b)) : OpS (rI0 g) (oI f) := fun e1 e2 P X hp => by
  unfold oI at hp
  split at hp
  · exact OpD.of (opd_I0 (h _ _)) hp
  · exact hp.elim
def oIc (Cn : Int → Int → Prop) (f : Int → Int → PyData) : PyData → PyData → C PyData
  | .int a, .int b => fun P _ => Cn a b ∧ P (f a b)
  | _, _ => fun _ _ => False
theorem os_I {Cn : Int → Int → Prop} {g : Int → Int → V} {f : Int → Int → PyData} (h : ∀ a b N H, Rg N H (g a b) (f a b)) : OpS (rI Cn g) (oIc Cn f) := fun e1 e2 P X hp => by
  unfold oIc at hp
  split at hp
  · exact OpD.of (opd_I hp.1 (h _ _)) hp.2
  · exact hp.elim
def oSub := oI fun a b => .int (a - b)
theorem os_sub : OpS (rI0 fun i j => .int (i - j)) oSub := os_I0 fun _ _ _ _ => .int _
def oLt := oI fun a b => .bool (decide (a < b))
def oLe := oI fun a b => .bool (decide (a ≤ b))
def oGt := oI fun a b => .bool (decide (b < a))
def oGe := oI fun a b => .bool (decide (b ≤ a))
theorem os_lt : OpS (rI0 fun i j => .bl (decide (i < j))) oLt := os_I0 fun _ _ _ _ => .bl _
theorem os_le : OpS (rI0 fun i j => .bl (decide (i ≤ j))) oLe := os_I0 fun _ _ _ _ => .bl _
theorem os_gt : OpS (rI0 fun i j => .bl (decide (j < i))) oGt := os_I0 fun _ _ _ _ => .bl _
theorem os_ge : OpS (rI0 fun i j => .bl (decide (j ≤ i))) oGe := os_I0 fun _ _ _ _ => .bl _
def oFdiv := oIc CDivW fun a b => .int (a / b)
theorem os_fdiv : OpS (rI CDivW fun i j => .int (i / j)) oFdiv := os_I fun _ _ _ _ => .int _
def oMod := oIc (fun _ j => j ≠ 0) fun a b => .int (a.fmod b)
theorem os_mod : OpS (rI (fun _ j => j ≠ 0) fun i j => .int (i.fmod j)) oMod := os_I fun _ _ _ _ => .int _
def oPow := oIc CPow fun a b => .int (a ^ b.toNat)
theorem os_pow : OpS (rI CPow fun i j => .int (i ^ j.toNat)) oPow := os_I fun _ _ _ _ => .int _
def oNeg : PyData → C PyData
  | .int a => fun P _ => P (.int (-a))
  | _ => fun _ _ => False
theorem us_neg : UnS (rU fun i => .int (-i)) oNeg := fun e P X h N H v ok r => by
  unfold oNeg at h
  split at h
  · cases r
    exact Res.of (res_rfl (.int _) fun Q q => ⟨_, rfl, q⟩) h
  · exact h.elim
/-! ### * -/
theorem mul_same (l : Addr) (items : Array Value) (n : Nat) (dd : Option Addr) (sl : Array (Option Value)) (u : Tok) :
    Meets (Builtin.«tuple.__mul__» ⟨[.ref l, .int 1 u], []⟩) (fun _ R s => s.heap.get? l = some { cls := .type "tuple", dict := dd, data := .seq items n, slots := sl } ∧ R (.ok (.ret (Value.ref l))) s) :=
  .of_wp fun prog w A R s h => by
    obtain ⟨hp, g, d, tk, os⟩ := s
    obtain ⟨hl, h⟩ := h
    have f1 := AutoSeq1.idx_int
    wp_walk using wpAny_loadPart' hl
    exact ⟨_, rfl, h⟩
theorem mul_none (l : Addr) (items : Array Value) (n : Nat) (dd : Option Addr) (sl : Array (Option Value)) (u : Tok) (c1 : (items.isEmpty || (0 : Int) == 1) = false) :
    Meets (Builtin.«tuple.__mul__» ⟨[.ref l, .int 0 u], []⟩) (fun _ R s => s.heap.get? l = some { cls := .type "tuple", dict := dd, data := .seq items n, slots := sl } ∧
      R (.ok (.ret (Value.ref s.heap.objs.size))) { s with heap := s.heap.push { cls := Value.type "tuple", data := Data.seq #[] }, toks := s.toks }) :=
  .of_wp fun prog w A R s h => by
    obtain ⟨hp, g, d, tk, os⟩ := s
    obtain ⟨hl, h⟩ := h
    have f1 := AutoSeq1.idx_int
    wp_walk using wpAny_loadPart' hl
    repeat (first
      | (refine wpAny_ite_false (decide_eq_false (by rw [c1]; exact Bool.false_ne_true)) ?_; wp_walk using wpAny_loadPart' hl))
    exact ⟨_, rfl, h⟩
/-- t * 1, t * 0 -/
def rRep01 (K : PySem.W.Frag) : R2 := fun x y H Q => ∃ l k xs, x = .ref l ∧ y = .int k ∧ SqT K H l xs ∧ xs ≠ [] ∧ ((k = 1 ∧ Q (.ref l) H) ∨ (k = 0 ∧ ∀ p, H p = none → Q (.ref p) (upd H p (.tup []))))
theorem op_rep01 {X : Cx} : OpR X (binaryOp .Mult) (rRep01 X.K) := by
  intro pins s σ H x y v u Q I rx ry h
  obtain ⟨l, k, xs, rfl, rfl, hT, hne, q⟩ := h
  cases rx
  obtain ⟨t, rfl⟩ := ry
  obtain ⟨its, r, ⟨⟨cls, dd, data, sl⟩, ho, hc, n, hd⟩, hs⟩ := I.tuple hT
  simp only at hc hd
  subst hc hd
  have hle : its.length = xs.length := r.length.symm
  have hn : its ≠ [] := fun e => hne (by
    rw [e] at hle
    exact List.eq_nil_of_length_eq_zero hle.symm)
  have hi : its.toArray.isEmpty = false := by
    cases its with
    | nil => exact absurd rfl hn
    | cons a b => rfl
  rcases q with ⟨rfl, q⟩ | ⟨rfl, q⟩
  · refine wpAny_binaryOp_repeat_ref (T := "tuple") (U := "int") (by decide) ⟨_, ho, rfl⟩ (fun s' => typeIs_int s' 1 t) noFill_tuple_mul F.fills_int_mul F.slot_int_rmul repeat_tuple F.slot_int_index.lookup
      (call_meets F.slot_int_rmul (typeIs_int s 1 t) F.entry_int_rmul (F.args_int_rmul_2 _ _) (int_rmul_tuple 1 t l its.toArray n dd sl)
        ⟨ho, rfl, ⟨_, ho, rfl⟩, call_meets F.slot_tuple_mul ⟨_, ho, rfl⟩ F.entry_tuple_mul (F.args_tuple_mul_2 _ _) (mul_same l its.toArray n dd sl t) ⟨ho, ?_⟩⟩)
    exact ⟨.ref l, H, I, rfl, q⟩
  · refine wpAny_binaryOp_repeat_ref (T := "tuple") (U := "int") (by decide) ⟨_, ho, rfl⟩ (fun s' => typeIs_int s' 0 t) noFill_tuple_mul F.fills_int_mul F.slot_int_rmul repeat_tuple F.slot_int_index.lookup
      (call_meets F.slot_int_rmul (typeIs_int s 0 t) F.entry_int_rmul (F.args_int_rmul_2 _ _) (int_rmul_tuple 0 t l its.toArray n dd sl)
        ⟨ho, rfl, ⟨_, ho, rfl⟩, call_meets F.slot_tuple_mul ⟨_, ho, rfl⟩ F.entry_tuple_mul (F.args_tuple_mul_2 _ _) (mul_none l its.toArray n dd sl t (by rw [hi]; rfl)) ⟨ho, ?_⟩⟩)
    refine ⟨.ref s.heap.objs.size, _, I.laid (t' := s.toks) (o := .tup []) (fun b ob q => Heap.get?_push_of_some _ q) (Nat.le_refl _) ?_, rfl, q _ (I.hok.fresh (Nat.le_refl _))⟩
    exact ⟨Nat.zero_le _, [], .nil, IsTup.new _ _⟩
def rMulA (K : PySem.W.Frag) : R2 := fun x y H Q => rI CMulW (fun i j => .int (i * j)) x y H Q ∨ (rRepT K x y H Q ∨ (rRep01 K x y H Q ∨ rRep x y H Q))
theorem op_mulA {X : Cx} : OpR X (binaryOp .Mult) (rMulA X.K) := OpR.or op_mulW (OpR.or op_repT (OpR.or op_rep01 op_rep))
theorem rg_rep {N : Addr → Prop} {H : Hp} {xs : List V} {ds : List PyData} (h : RgAll N H xs ds) : ∀ n, RgAll N H (List.replicate n xs).flatten (List.replicate n ds).flatten
  | 0 => .nil
  | n + 1 => by
    rw [List.replicate_succ, List.replicate_succ, List.flatten_cons, List.flatten_cons]
    exact h.app (rg_rep h n)
def oMul : PyData → PyData → C PyData
  | .int a, .int b => fun P _ => CMulW a b ∧ P (.int (a * b))
  | .tuple ds, .int k => fun P _ => (ds ≠ [] ∧ ds.length ≤ 1000 ∧ 0 ≤ k ∧ k ≤ 1000) ∧ P (.tuple (List.replicate k.toNat ds).flatten)
  | .list ds, .int k => fun P _ => (0 ≤ k ∧ k ≤ 100000 ∧ ds.length * k.toNat ≤ 100000) ∧ P (.list (List.replicate k.toNat ds).flatten)
  | _, _ => fun _ _ => False
theorem rg_ne {N : Addr → Prop} {H : Hp} {xs : List V} {ds : List PyData} (h : RgAll N H xs ds) (hd : ds ≠ []) : xs ≠ [] := fun e => hd (by
  have := h.len
  rw [e] at this
  exact List.eq_nil_of_length_eq_zero this.symm)
theorem os_mul {K : PySem.W.Frag} : OpS (rMulA K) oMul := fun e1 e2 P X h => by
  unfold oMul at h
  split at h
  · exact OpD.l (OpD.of (opd_I h.1 fun _ _ => .int _) h.2)
  · rename_i ds k
    obtain ⟨⟨h1, h2, h3, h4⟩, h5⟩ := h
    by_cases hk : 2 ≤ k
    · refine OpD.r (OpD.l fun N H v1 v2 ok r1 r2 Q q => ?_)
      cases r2
      cases r1 with
      | tup ha hn hr =>
        exact ⟨_, k, _, rfl, rfl, .inl (.inl ha), rg_ne hr h1, hk, h4, by rw [hr.len]; exact h2, fun p hp => q _ _ _ (Ex.new hp) (.tup upd_same (ok.new hp) ((rg_rep hr _).ex (Ex.new hp))) h5⟩
    · refine OpD.r (OpD.r (OpD.l fun N H v1 v2 ok r1 r2 Q q => ?_))
      cases r2
      cases r1 with
      | tup ha hn hr =>
        refine ⟨_, k, _, rfl, rfl, .inl (.inl ha), rg_ne hr h1, ?_⟩
        by_cases hk1 : k = 1
        · left
          refine ⟨hk1, q _ _ _ ex_refl (.tup ha hn hr) ?_⟩
          subst hk1
          have e : (List.replicate (1 : Int).toNat ds).flatten = ds := by simp
          rw [e] at h5
          exact h5
        · right
          have hk0 : k = 0 := by omega
          subst hk0
          exact ⟨rfl, fun p hp => q _ (.tuple []) _ (Ex.new hp) (.tup upd_same (ok.new hp) .nil) h5⟩
  · rename_i ds k
    obtain ⟨⟨h1, h2, h3⟩, h5⟩ := h
    refine OpD.r (OpD.r (OpD.r fun N H v1 v2 ok r1 r2 Q q => ?_))
    cases r2
    cases r1 with
    | lst ha hn hr =>
      exact ⟨_, k, _, rfl, rfl, ha, by omega, by omega, size_small (by rw [hr.len]; exact h3), fun p hp => q _ _ _ (Ex.new hp) (.lst upd_same (ok.new hp) ((rg_rep hr _).ex (Ex.new hp))) h5⟩
  · exact h.elim
/-! ### == , is -/
def rEqA (K : PySem.W.Frag) : R2 := fun x y H Q => rEq x y H Q ∨ rEqD K x y H Q
def rNeA (K : PySem.W.Frag) : R2 := fun x y H Q => rNe x y H Q ∨ rNeD K x y H Q
theorem op_eqA {X : Cx} (hu : X.A.units + 64 < cLine) : OpR X (compareOp .Eq) (rEqA X.K) := OpR.or op_eq (op_eqD hu)
theorem op_neA {X : Cx} (hu : X.A.units + 64 < cLine) : OpR X (compareOp .NotEq) (rNeA X.K) := OpR.or op_ne (op_neD hu)
theorem opd_eqZ {x y : Str} : OpD rEq (.str x) (.str y) (· = .bool (decide (x = y))) := fun N H v1 v2 _ r1 r2 => by
  cases r1; cases r2
  refine res_rfl (.bl _) fun Q q => ⟨rfl, ?_⟩
  have : decide (V.str x = V.str y) = decide (x = y) := by simp
  rw [this]; exact q
def oEq : PyData → PyData → C PyData
  | .str x, .str y => fun P _ => P (.bool (decide (x = y)))
  | a, b => fun P _ => (SeqAt.shaped a = true ∧ SeqAt.shaped b = true) ∧ P (.bool (PyData.eqv a b))
def oNe : PyData → PyData → C PyData
  | .str x, .str y => fun P _ => P (.bool (!decide (x = y)))
  | a, b => fun P _ => (SeqAt.shaped a = true ∧ SeqAt.shaped b = true) ∧ P (.bool (!PyData.eqv a b))
theorem os_eq {K : PySem.W.Frag} : OpS (rEqA K) oEq := fun e1 e2 P X h => by
  unfold oEq at h
  split at h
  · exact OpD.l (OpD.of opd_eqZ h)
  · exact OpD.r (OpD.of (opd_eqD h.1.1 h.1.2) h.2)
theorem os_ne {K : PySem.W.Frag} : OpS (rNeA K) oNe := fun e1 e2 P X h => by
  unfold oNe at h
  split at h
  · exact OpD.l (OpD.of opd_neS h)
  · exact OpD.r (OpD.of (opd_neD h.1.1 h.1.2) h.2)
def isNon : PyData → Bool
  | .none => true
  | _ => false
def oIs : PyData → PyData → C PyData
  | e, .none => fun P _ => P (.bool (isNon e))
  | .bool a, .bool b => fun P _ => P (.bool (decide (a = b)))
  | _, _ => fun _ _ => False
def oIsNot : PyData → PyData → C PyData
  | e, .none => fun P _ => P (.bool (!isNon e))
  | .bool a, .bool b => fun P _ => P (.bool (!decide (a = b)))
  | _, _ => fun _ _ => False
def rIsA : R2 := fun x y H Q => rIsN x y H Q ∨ rIsB x y H Q
def rIsNotA : R2 := fun x y H Q => rNotN x y H Q ∨ rNotB x y H Q
theorem op_isA {X : Cx} : OpR X (compareOp .Is) rIsA := OpR.or op_isN1 op_isBl
theorem op_isNotA {X : Cx} : OpR X (compareOp .IsNot) rIsNotA := OpR.or op_notN1 op_notBl
theorem os_is : OpS rIsA oIs := fun e1 e2 P X h => by
  unfold oIs at h
  split at h
  · refine OpD.l (OpD.of (OpD.imp opd_isN fun e he => he) ?_)
    cases e1 <;> exact h
  · refine OpD.r fun N H v1 v2 ok r1 r2 Q q => ?_
    cases r1; cases r2
    exact ⟨_, _, rfl, rfl, q _ _ _ ex_refl (.bl _) h⟩
  · exact h.elim
theorem os_isNot : OpS rIsNotA oIsNot := fun e1 e2 P X h => by
  unfold oIsNot at h
  split at h
  · refine OpD.l (OpD.of (OpD.imp opd_notN fun e he => he) ?_)
    cases e1 <;> exact h
  · exact OpD.r (OpD.of opd_notB h)
  · exact h.elim
/-! ### items, slices -/
def oIt : PyData → PyData → C PyData
  | .tuple ds, .int i => fun P _ => match atI ds i with
    | some e => P e
    | none => False
  | .list ds, .int i => fun P _ => match atI ds i with
    | some e => P e
    | none => False
  | .str z, .int i => fun P _ => z.length ≤ 100000 ∧ match atI (cs z) i with
    | some k => P (.str ⟨#[k]⟩)
    | none => False
  | _, _ => fun _ _ => False
theorem os_it {K : PySem.W.Frag} : OpS (rIx K) oIt := fun e1 e2 P X h => by
  unfold oIt at h
  split at h
  · try dsimp only at h
    split at h
    · rename_i hi
      exact OpD.r (OpD.l (OpD.of (opd_ixT hi) h))
    · exact h.elim
  · try dsimp only at h
    split at h
    · rename_i hi
      exact OpD.l (OpD.of (opd_ixL hi) h)
    · exact h.elim
  · obtain ⟨hz, h⟩ := h
    split at h
    · rename_i hi
      refine OpD.r (OpD.r (OpD.of (fun N H v1 v2 _ r1 r2 => ?_) h))
      cases r1; cases r2
      exact res_rfl (.str _) fun Q q => ⟨_, _, _, rfl, rfl, size_small hz, hi, q⟩
    · exact h.elim
  · exact h.elim
def rSlX' (K : PySem.W.Frag) : V → Option Int → Option Int → Hp → VK → Prop := fun x lo hi H Q => rSlA K x lo hi H Q ∨ (rSlL K x lo hi H Q ∨ rSlS x lo hi H Q)
theorem sl_any {X : Cx} : SlR X (rSlX' X.K) := SlR.or sl_tupA (SlR.or sl_list sl_str)
def oSl : PyData → Option Int → Option Int → C PyData
  | .tuple ds, lo, hi => fun P _ => P (.tuple (DL.cutD ds lo hi))
  | .list ds, lo, hi => fun P _ => P (.list (DL.cutD ds lo hi))
  | .str z, lo, hi => fun P _ => z.length ≤ 100000 ∧ P (.str (cutS z lo hi))
  | _, _, _ => fun _ _ => False
theorem cut_all {N : Addr → Prop} {H : Hp} {xs : List V} {ds : List PyData} (hr : RgAll N H xs ds) (lo hi : Option Int) : RgAll N H (cutV xs lo hi) (DL.cutD ds lo hi) := by
  unfold cutV DL.cutD
  rw [hr.len]
  exact (hr.drop _).take _
theorem cut_whole {ds : List PyData} {n : Nat} {lo hi : Option Int} (hn : n = ds.length) (hw : HT.sIx n 0 lo = 0 ∧ HT.sIx n n hi = n) : DL.cutD ds lo hi = ds := by
  subst hn
  unfold DL.cutD
  rw [hw.1, hw.2, List.drop_zero, Nat.sub_zero, List.take_length]
theorem sls_any {K : PySem.W.Frag} : SlS (rSlX' K) oSl := fun e lo hi P X h N H v ok r Q q => by
  cases r with
  | @tup a xs ds hA hn hr =>
    have h : P (.tuple (DL.cutD ds lo hi)) := h
    refine .inl ⟨a, xs, rfl, .inl (.inl hA), fun hw => ?_, fun _ p hp => q _ _ _ (Ex.new hp) (.tup upd_same (ok.new hp) ((cut_all hr lo hi).ex (Ex.new hp))) h⟩
    rw [cut_whole hr.len hw] at h
    exact q _ _ _ ex_refl (.tup hA hn hr) h
  | @lst a xs ds hA hn hr =>
    have h : P (.list (DL.cutD ds lo hi)) := h
    exact .inr (.inl ⟨a, xs, rfl, .inl (.inl hA), fun p hp => q _ _ _ (Ex.new hp) (.lst upd_same (ok.new hp) ((cut_all hr _ _).ex (Ex.new hp))) h⟩)
  | str z =>
    have h : z.length ≤ 100000 ∧ P (.str (cutS z lo hi)) := h
    exact .inr (.inr ⟨_, rfl, size_small h.1, q _ _ _ ex_refl (.str _) h.2⟩)
  | _ => exact h.elim
/-! ### calls of built-ins -/
def rLenA (K : PySem.W.Frag) : List V → Hp → VK → Prop := fun xs H Q => TB.rLenQ K xs H Q ∨ ∃ z : Str, xs = [.str z] ∧ z.length ≤ sizeLine ∧ Q (.int z.length) H
theorem call_lenA {X : Cx} : CallR X (.builtin "len") (rLenA X.K) := CallR.or call_len_seq call_len_str
def oLn : List PyData → C PyData
  | [.tuple ds] => fun P _ => P (.int ds.length)
  | [.list ds] => fun P _ => P (.int ds.length)
  | [.str z] => fun P _ => z.length ≤ 100000 ∧ P (.int z.length)
  | _ => fun _ _ => False
theorem cas_len {K : PySem.W.Frag} : CaS (rLenA K) oLn := fun es P X h => by
  unfold oLn at h
  split at h
  · exact CaD.l (CaD.of cad_len h)
  · exact CaD.l (CaD.of cad_lenL h)
  · refine CaD.r (CaD.of (fun N H vs _ r => ?_) h.2)
    cases r with
    | cons r1 r2 =>
      cases r2; cases r1
      exact res_rfl (.int _) fun Q q => ⟨_, rfl, size_small h.1, q⟩
  · exact h.elim
def oTuple : List PyData → C PyData
  | [.tuple ds] => fun P _ => P (.tuple ds)
  | [.list ds] => fun P _ => P (.tuple ds)
  | _ => fun _ _ => False
theorem cas_tuple {K : PySem.W.Frag} : CaS (TB.rTupQ K) oTuple := fun es P X h => by
  unfold oTuple at h
  split at h
  · refine CaD.of (fun N H vs ok r Q q => ?_) h
    cases r with
    | cons r1 r2 =>
      cases r2
      cases r1 with
      | tup ha hn hr => exact ⟨_, _, rfl, .inr ⟨.inl (.inl ha), q _ _ _ ex_refl (.tup ha hn hr) rfl⟩⟩
  · exact CaD.of cad_tuple h
  · exact h.elim
def oList : List PyData → C PyData
  | [.tuple ds] => fun P _ => P (.list ds)
  | [.list ds] => fun P _ => P (.list ds)
  | _ => fun _ _ => False
theorem cas_list {K : PySem.W.Frag} : CaS (TB.rListQ K) oList := fun es P X h => by
  unfold oList at h
  split at h
  · exact CaD.of cad_list h
  · exact CaD.of cad_listL h
  · exact h.elim
def rStrA : List V → Hp → VK → Prop := fun xs H Q => (∃ i, xs = [.int i] ∧ i.natAbs.log2 < 1920 ∧ Q (.str (toString i)) H) ∨ ∃ a, xs = [.str a] ∧ Q (.str a) H
def oInt : List PyData → C PyData
  | [.int i] => fun P _ => P (.int i)
  | [.bool b] => fun P _ => P (.int (if b then 1 else 0))
  | _ => fun _ _ => False
theorem cas_int : CaS (fun xs H Q => (∃ i, xs = [.int i] ∧ Q (.int i) H) ∨ ∃ k, xs = [.bl k] ∧ Q (.int (if k then 1 else 0)) H) oInt := fun es P X h => by
  unfold oInt at h
  split at h
  · refine CaD.of (fun N H vs ok r => ?_) h
    cases r with
    | cons r1 r2 => cases r2; cases r1; exact res_rfl (.int _) fun Q q => .inl ⟨_, rfl, q⟩
  · refine CaD.of (fun N H vs ok r => ?_) h
    cases r with
    | cons r1 r2 => cases r2; cases r1; exact res_rfl (.int _) fun Q q => .inr ⟨_, rfl, q⟩
  · exact h.elim
def oBool : List PyData → C PyData
  | [.int i] => fun P _ => P (.bool (i != 0))
  | [.bool b] => fun P _ => P (.bool b)
  | _ => fun _ _ => False
theorem cas_bool : CaS (fun xs H Q => (∃ i, xs = [.int i] ∧ Q (.bl (i != 0)) H) ∨ ∃ k, xs = [.bl k] ∧ Q (.bl k) H) oBool := fun es P X h => by
  unfold oBool at h
  split at h
  · exact CaD.of cad_boolI h
  · refine CaD.of (fun N H vs ok r => ?_) h
    cases r with
    | cons r1 r2 => cases r2; cases r1; exact res_rfl (.bl _) fun Q q => .inr ⟨_, rfl, q⟩
  · exact h.elim
def oStr : List PyData → C PyData
  | [.int i] => fun P _ => i.natAbs.log2 < 1920 ∧ P (.str (numS i))
  | _ => fun _ _ => False
theorem cas_str : CaS (fun xs H Q => ∃ i, xs = [.int i] ∧ i.natAbs.log2 < 1920 ∧ Q (.str (toString i)) H) oStr := fun es P X h => by
  unfold oStr at h
  split at h
  · exact CaD.of (cad_strI h.1) h.2
  · exact h.elim
def oAbs : List PyData → C PyData
  | [.int i] => fun P _ => P (.int (if i < 0 then -i else i))
  | _ => fun _ _ => False
theorem cas_abs : CaS (fun xs H Q => ∃ i, xs = [.int i] ∧ Q (.int (if i < 0 then -i else i)) H) oAbs := fun es P X h => by
  unfold oAbs at h
  split at h
  · refine CaD.of (fun N H vs ok r => ?_) h
    cases r with
    | cons r1 r2 => cases r2; cases r1; exact res_rfl (.int _) fun Q q => ⟨_, rfl, q⟩
  · exact h.elim
def oMax2 : List PyData → C PyData
  | [.int i, .int j] => fun P _ => P (.int (if j > i then j else i))
  | _ => fun _ _ => False
def oMin2 : List PyData → C PyData
  | [.int i, .int j] => fun P _ => P (.int (if j < i then j else i))
  | _ => fun _ _ => False
theorem cas_max2 : CaS (fun xs H Q => ∃ i j, xs = [.int i, .int j] ∧ Q (.int (if j > i then j else i)) H) oMax2 := fun es P X h => by
  unfold oMax2 at h
  split at h
  · refine CaD.of (fun N H vs ok r => ?_) h
    cases r with
    | cons r1 r2 => cases r2 with
      | cons r2 r3 => cases r3; cases r1; cases r2; exact res_rfl (.int _) fun Q q => ⟨_, _, rfl, q⟩
  · exact h.elim
theorem cas_min2 : CaS (fun xs H Q => ∃ i j, xs = [.int i, .int j] ∧ Q (.int (if j < i then j else i)) H) oMin2 := fun es P X h => by
  unfold oMin2 at h
  split at h
  · refine CaD.of (fun N H vs ok r => ?_) h
    cases r with
    | cons r1 r2 => cases r2 with
      | cons r2 r3 => cases r3; cases r1; cases r2; exact res_rfl (.int _) fun Q q => ⟨_, _, rfl, q⟩
  · exact h.elim
def oGcd : List PyData → C PyData
  | [.int i, .int j] => fun P _ => P (.int ((Nat.gcd i.natAbs j.natAbs : Nat) : Int))
  | _ => fun _ _ => False
theorem cas_gcd : CaS rGcd oGcd := fun es P X h => by
  unfold oGcd at h
  split at h
  · refine CaD.of (fun N H vs ok r => ?_) h
    cases r with
    | cons r1 r2 => cases r2 with
      | cons r2 r3 => cases r3; cases r1; cases r2; exact res_rfl (.int _) fun Q q => ⟨_, _, rfl, q⟩
  · exact h.elim
def oRepr : List PyData → C PyData
  | [d] => fun P _ => (okD d = true ∧ d.showable = true ∧ d.depth < 60 ∧ d.shown.length ≤ sizeLine) ∧ P (.str d.shown)
  | _ => fun _ _ => False
theorem cas_repr : CaS rReprD oRepr := fun es P X h => by
  unfold oRepr at h
  split at h
  · exact CaD.of (cad_repr h.1.1 h.1.2.1 h.1.2.2.1 h.1.2.2.2) h.2
  · exact h.elim
/-- lists of numbers -/
def intsOf : List PyData → Option (List Int)
  | [] => some []
  | .int i :: ds => (intsOf ds).map (i :: ·)
  | _ => none
theorem intsOf_eq : ∀ {ds : List PyData} {ns : List Int}, intsOf ds = some ns → ds = ns.map PyData.int
  | [], _, h => by cases h; rfl
  | .int i :: ds, ns, h => by
    rw [intsOf] at h
    obtain ⟨ms, h1, rfl⟩ := Option.map_eq_some_iff.mp h
    rw [intsOf_eq h1]; rfl
  | .none :: _, _, h => by simp [intsOf] at h
  | .bool _ :: _, _, h => by simp [intsOf] at h
  | .str _ :: _, _, h => by simp [intsOf] at h
  | .list _ :: _, _, h => by simp [intsOf] at h
  | .tuple _ :: _, _, h => by simp [intsOf] at h
  | .dict _ :: _, _, h => by simp [intsOf] at h
theorem intsOf_map : ∀ ns : List Int, intsOf (ns.map PyData.int) = some ns
  | [] => rfl
  | n :: ns => by rw [List.map_cons, intsOf, intsOf_map ns]; rfl
def boolsOf : List PyData → Option (List Bool)
  | [] => some []
  | .bool i :: ds => (boolsOf ds).map (i :: ·)
  | _ => none
theorem boolsOf_eq : ∀ {ds : List PyData} {ns : List Bool}, boolsOf ds = some ns → ds = ns.map PyData.bool
  | [], _, h => by cases h; rfl
  | .bool i :: ds, ns, h => by
    rw [boolsOf] at h
    obtain ⟨ms, h1, rfl⟩ := Option.map_eq_some_iff.mp h
    rw [boolsOf_eq h1]; rfl
  | .none :: _, _, h => by simp [boolsOf] at h
  | .int _ :: _, _, h => by simp [boolsOf] at h
  | .str _ :: _, _, h => by simp [boolsOf] at h
  | .list _ :: _, _, h => by simp [boolsOf] at h
  | .tuple _ :: _, _, h => by simp [boolsOf] at h
  | .dict _ :: _, _, h => by simp [boolsOf] at h
theorem boolsOf_map : ∀ ns : List Bool, boolsOf (ns.map PyData.bool) = some ns
  | [] => rfl
  | n :: ns => by rw [List.map_cons, boolsOf, boolsOf_map ns]; rfl
theorem rgBools_inv {N : Addr → Prop} {H : Hp} : ∀ {ns : List Bool} {zs : List V}, RgAll N H zs (ns.map PyData.bool) → zs = ns.map V.bl
  | [], _, h => by cases h; rfl
  | n :: ns, _, h => by
    cases h with
    | cons q t => cases q; rw [rgBools_inv t]; rfl
def oSum : List PyData → C PyData
  | [.list ds] => fun P _ => match intsOf ds with
    | some ns => P (.int ns.sum)
    | none => False
  | _ => fun _ _ => False
theorem cas_sum {K : PySem.W.Frag} : CaS (rSum K) oSum := fun es P X h => by
  unfold oSum at h
  split at h
  · try dsimp only at h
    split at h
    · rename_i hn
      have e := intsOf_eq hn
      subst e
      refine CaD.of (fun N H vs ok r => ?_) h
      cases r with
      | cons r1 r2 =>
        cases r2
        cases r1 with
        | lst ha hn hr =>
          have := rgInts_inv hr
          subst this
          exact res_rfl (.int _) fun Q q => ⟨_, _, rfl, .inl (.inl ha), q⟩
    · exact h.elim
  · exact h.elim
def oAll : List PyData → C PyData
  | [.list ds] => fun P _ => match boolsOf ds with
    | some ns => P (.bool (ns.all id))
    | none => False
  | _ => fun _ _ => False
def oAny : List PyData → C PyData
  | [.list ds] => fun P _ => match boolsOf ds with
    | some ns => P (.bool (ns.any id))
    | none => False
  | _ => fun _ _ => False
theorem cas_all {K : PySem.W.Frag} : CaS (rAll K) oAll := fun es P X h => by
  unfold oAll at h
  split at h
  · try dsimp only at h
    split at h
    · rename_i hn
      have e := boolsOf_eq hn
      subst e
      refine CaD.of (fun N H vs ok r => ?_) h
      cases r with
      | cons r1 r2 =>
        cases r2
        cases r1 with
        | lst ha hn hr =>
          have := rgBools_inv hr
          subst this
          exact res_rfl (.bl _) fun Q q => ⟨_, _, rfl, .inl (.inl ha), q⟩
    · exact h.elim
  · exact h.elim
theorem cas_any {K : PySem.W.Frag} : CaS (rAny K) oAny := fun es P X h => by
  unfold oAny at h
  split at h
  · try dsimp only at h
    split at h
    · rename_i hn
      have e := boolsOf_eq hn
      subst e
      refine CaD.of (fun N H vs ok r => ?_) h
      cases r with
      | cons r1 r2 =>
        cases r2
        cases r1 with
        | lst ha hn hr =>
          have := rgBools_inv hr
          subst this
          exact res_rfl (.bl _) fun Q q => ⟨_, _, rfl, .inl (.inl ha), q⟩
    · exact h.elim
  · exact h.elim
def maxI : List Int → Int
  | [] => 0
  | [x] => x
  | x :: y :: r => if maxI (y :: r) > x then maxI (y :: r) else x
def minI : List Int → Int
  | [] => 0
  | [x] => x
  | x :: y :: r => if minI (y :: r) < x then minI (y :: r) else x
theorem maxI_spec : ∀ {l : List Int}, l ≠ [] → maxI l ∈ l ∧ ∀ y ∈ l, y ≤ maxI l
  | [], h => absurd rfl h
  | [x], _ => ⟨List.mem_singleton.mpr rfl, fun y hy => by rw [List.mem_singleton.mp hy]; exact Int.le_refl _⟩
  | x :: y :: r, _ => by
    obtain ⟨a, b⟩ := maxI_spec (l := y :: r) (by simp)
    unfold maxI
    split
    · exact ⟨List.mem_cons_of_mem _ a, fun z hz => by
        rcases List.mem_cons.mp hz with rfl | hz
        · omega
        · exact b z hz⟩
    · exact ⟨List.mem_cons_self, fun z hz => by
        rcases List.mem_cons.mp hz with rfl | hz
        · exact Int.le_refl _
        · have := b z hz; omega⟩
theorem minI_spec : ∀ {l : List Int}, l ≠ [] → minI l ∈ l ∧ ∀ y ∈ l, minI l ≤ y
  | [], h => absurd rfl h
  | [x], _ => ⟨List.mem_singleton.mpr rfl, fun y hy => by rw [List.mem_singleton.mp hy]; exact Int.le_refl _⟩
  | x :: y :: r, _ => by
    obtain ⟨a, b⟩ := minI_spec (l := y :: r) (by simp)
    unfold minI
    split
    · exact ⟨List.mem_cons_of_mem _ a, fun z hz => by
        rcases List.mem_cons.mp hz with rfl | hz
        · omega
        · exact b z hz⟩
    · exact ⟨List.mem_cons_self, fun z hz => by
        rcases List.mem_cons.mp hz with rfl | hz
        · exact Int.le_refl _
        · have := b z hz; omega⟩
def oMax1 : List PyData → C PyData
  | [.list ds] => fun P _ => match intsOf ds with
    | some ns => ns ≠ [] ∧ P (.int (maxI ns))
    | none => False
  | _ => fun _ _ => False
def oMin1 : List PyData → C PyData
  | [.list ds] => fun P _ => match intsOf ds with
    | some ns => ns ≠ [] ∧ P (.int (minI ns))
    | none => False
  | _ => fun _ _ => False
theorem cas_max1 {K : PySem.W.Frag} : CaS (rMax K) oMax1 := fun es P X h => by
  unfold oMax1 at h
  split at h
  · try dsimp only at h
    split at h
    · rename_i ns hn
      have e := intsOf_eq hn
      subst e
      refine CaD.of (fun N H vs ok r => ?_) h.2
      cases r with
      | cons r1 r2 =>
        cases r2
        cases r1 with
        | lst ha hn' hr =>
          have := rgInts_inv hr
          subst this
          refine res_rfl (.int _) fun Q q => ⟨_, ns, rfl, .inl (.inl ha), List.length_pos_iff.mpr h.1, fun m hm hy => ?_⟩
          obtain ⟨a, b⟩ := maxI_spec h.1
          have : m = maxI ns := by have := b m hm; have := hy _ a; omega
          rw [this]; exact q
    · exact h.elim
  · exact h.elim
theorem cas_min1 {K : PySem.W.Frag} : CaS (rMin K) oMin1 := fun es P X h => by
  unfold oMin1 at h
  split at h
  · try dsimp only at h
    split at h
    · rename_i ns hn
      have e := intsOf_eq hn
      subst e
      refine CaD.of (fun N H vs ok r => ?_) h.2
      cases r with
      | cons r1 r2 =>
        cases r2
        cases r1 with
        | lst ha hn' hr =>
          have := rgInts_inv hr
          subst this
          refine res_rfl (.int _) fun Q q => ⟨_, ns, rfl, .inl (.inl ha), List.length_pos_iff.mpr h.1, fun m hm hy => ?_⟩
          obtain ⟨a, b⟩ := minI_spec h.1
          have : m = minI ns := by have := b m hm; have := hy _ a; omega
          rw [this]; exact q
    · exact h.elim
  · exact h.elim
/-- isinstance(e, T) -/
def mIsi (T : String) (a : DE) : DE := fun r P X => a r (fun e => P (.bool (isA T e))) X
theorem se_isi {c : Ct} {K : PySem.W.Frag} {te : TE} {m : DE} {T : String} (hk : ∀ e, PySem.W.kitOne K (.type (tyN e)) (.type T) = some (isA T e)) (ha : SE c te m) : SE c (tCB (rIsi K) (tCons te (tCons (tC (.ty T)) tNil))) (mIsi T m) := fun H0 r τ l σ H S P X h hX Q k =>
  ha H0 r τ l σ H S _ X h hX _ fun v d H1 S1 p => by
    obtain ⟨N, n3, n5, q⟩ := S1.ext
    exact ⟨v, .ty T, .type (tyN d), .type T, isA T d, rfl, .ty T, tyX_of (n5 _ List.mem_cons_self), hk d, k _ (.bool (isA T d)) H1 (S1.pop.sc fun _ => .bl _) p⟩
end MI
set_option Elab.async false
set_option linter.all false
set_option maxRecDepth 100000
/-! A mirror of the text in plain data: zip, enumerate, range by steps, three clauses; calls by names. -/
namespace MI
open PySem PySem.Spec PyProof.Rows L2 Evl TB DL
theorem pi_seq {X : Cx} {tg l : Expr} {tl : TE} (hl : PE X l tl) : PI X tg l (iSeq X.K tl) := by
  refine ⟨fun pins s σ H R I h => ?_⟩
  refine thn (hl.run pins s σ H _ I h) fun v s1 ⟨x, H1, I1, r1, q1⟩ => ?_
  obtain ⟨a, e, q1⟩ := q1
  subst e
  cases r1
  have fin : ∀ b ∈ [s1.heap.objs.size], FpOk X pins H1 b := fun b hb => by
    have e : b = s1.heap.objs.size := by simpa using hb
    subst e
    exact I1.fpOk (Nat.le_refl _) (I1.hok.fresh (Nat.le_refl _))
  rcases q1 with ⟨⟨xs, hq⟩, q⟩ | ⟨⟨xs, hq⟩, q⟩
  · obtain ⟨its, rv, p, hz⟩ := I1.list hq
    refine wpAny_pyIter_list p.isList ?_
    exact ⟨s1.heap.objs.size, [s1.heap.objs.size], _, _, H1, rfl, I1.kept (t' := s1.toks) fun b o e => Heap.get?_push_of_some _ e, turn_list a _, ⟨_, Heap.get?_push_size _ rfl, rfl, rfl⟩, fin, q⟩
  · obtain ⟨its, rv, p, hz⟩ := I1.tuple hq
    refine wpAny_pyIter_tuple (show s1.heap.IsTuple a its.toArray from p) ?_
    exact ⟨s1.heap.objs.size, [s1.heap.objs.size], _, _, H1, rfl, I1.kept (t' := s1.toks) fun b o e => Heap.get?_push_of_some _ e, turn_tuple a _, ⟨_, Heap.get?_push_size _ rfl, rfl, rfl⟩, fin, q⟩
/-- the items of a list or a tuple -/
def seqOf : PyData → Option (List PyData)
  | .list ds => some ds
  | .tuple ds => some ds
  | _ => none
/-- a sequence held fast: it is the same in every state over the new base -/
theorem hold_seq {c : Ct} {K : PySem.W.Frag} {H0 H : Hp} {ρ : List (Option Sl)} {τ : List (V × PyData)} {l : List (Addr × List PyData)} {σ : L2.St} {v : V} {e : PyData} {ds : List PyData} (S : DL.St c.W H0 ρ ((v, e) :: τ) l σ H) (he : seqOf e = some ds) :
    ∃ a κ xs H0' o, v = .ref a ∧ H a = some o ∧ xs.length = ds.length ∧ ¬ c.W.N a ∧ H0' = upd H0 a o ∧ (∀ b o, H0 b = some o → ¬ c.W.N b → H0' b = some o) ∧ (∀ b, H0' b = none → H0 b = none) ∧ (∀ H', H' a = some o → ZP.SqV κ K H' a xs) ∧
      (∀ N H', H' a = some o → Rg N H' v e → RgAll N H' xs ds) ∧ DL.St c.W H0' ρ ((v, e) :: τ) l σ H := by
  cases e with
  | list es =>
    cases he
    obtain ⟨a, xs, rfl, hA, hlen, hna, u1, u2, B⟩ := S.baseL
    exact ⟨a, true, xs, _, _, rfl, hA, hlen, hna, rfl, u1, u2, fun H' h => .inl (.inl h), fun N H' h r => by
      cases r with
      | lst q1 q2 q3 => rw [h] at q1; cases q1; exact q3, B⟩
  | tuple es =>
    cases he
    obtain ⟨a, xs, rfl, hA, hlen, hna, u1, u2, B⟩ := S.baseT
    exact ⟨a, false, xs, _, _, rfl, hA, hlen, hna, rfl, u1, u2, fun H' h => .inl (.inl h), fun N H' h r => by
      cases r with
      | tup q1 q2 q3 => rw [h] at q1; cases q1; exact q3, B⟩
  | _ => cases he
def zip2D : List PyData → List PyData → List PyData
  | a :: as, b :: bs => .tuple [a, b] :: zip2D as bs
  | _, _ => []
def zip3D : List PyData → List PyData → List PyData → List PyData
  | a :: as, b :: bs, d :: ds => .tuple [a, b, d] :: zip3D as bs ds
  | _, _, _ => []
theorem zip2D_len : ∀ as bs, (zip2D as bs).length = min as.length bs.length
  | [], _ => by simp [zip2D]
  | _ :: _, [] => by simp [zip2D]
  | a :: as, b :: bs => by simp only [zip2D, List.length_cons, zip2D_len as bs]; omega
theorem zip3D_len : ∀ as bs ds, (zip3D as bs ds).length = min as.length (min bs.length ds.length)
  | [], _, _ => by simp [zip3D]
  | _ :: _, [], _ => by simp [zip3D]
  | _ :: _, _ :: _, [] => by simp [zip3D]
  | a :: as, b :: bs, d :: ds => by simp only [zip3D, List.length_cons, zip3D_len as bs ds]; omega
theorem zip2D_get : ∀ (as bs : List PyData) (i : Nat) (t : PyData), (zip2D as bs)[i]? = some t → ∃ a b, as[i]? = some a ∧ bs[i]? = some b ∧ t = .tuple [a, b]
  | [], _, _, _, h => by simp [zip2D] at h
  | _ :: _, [], _, _, h => by simp [zip2D] at h
  | a :: as, b :: bs, 0, t, h => by simp [zip2D] at h; exact ⟨a, b, rfl, rfl, h.symm⟩
  | a :: as, b :: bs, i + 1, t, h => by
    simp only [zip2D, List.getElem?_cons_succ] at h ⊢
    exact zip2D_get as bs i t h
theorem zip3D_get : ∀ (as bs ds : List PyData) (i : Nat) (t : PyData), (zip3D as bs ds)[i]? = some t → ∃ a b d, as[i]? = some a ∧ bs[i]? = some b ∧ ds[i]? = some d ∧ t = .tuple [a, b, d]
  | [], _, _, _, _, h => by simp [zip3D] at h
  | _ :: _, [], _, _, _, h => by simp [zip3D] at h
  | _ :: _, _ :: _, [], _, _, h => by simp [zip3D] at h
  | a :: as, b :: bs, d :: ds, 0, t, h => by simp [zip3D] at h; exact ⟨a, b, d, rfl, rfl, rfl, h.symm⟩
  | a :: as, b :: bs, d :: ds, i + 1, t, h => by
    simp only [zip3D, List.getElem?_cons_succ] at h ⊢
    exact zip3D_get as bs ds i t h
def iZ2 (a b : DE) : DI := fun r P X => a r (fun x => b r (fun y => match seqOf x, seqOf y with
  | some xs, some ys => P (zip2D xs ys)
  | _, _ => False) X) X
def iZ3 (a b d : DE) : DI := fun r P X => a r (fun x => b r (fun y => d r (fun z => match seqOf x, seqOf y, seqOf z with
  | some xs, some ys, some zs => P (zip3D xs ys zs)
  | _, _, _ => False) X) X) X
section
variable {c : Ct} {K : PySem.W.Frag} {te ta tb td : TE} {me ma mb md : DE}
theorem si_zip2 (ha : SE c ta ma) (hb : SE c tb mb) : SI c (ZP.iZip2 K (tCons ta (tCons tb tNil))) (iZ2 ma mb) := fun H0 r τ l σ H S P X h hX R k =>
  ha H0 r τ l σ H S _ X h hX _ fun v e H1 S1 p => hb H0 r _ l σ H1 S1 _ X p hX.more _ fun w e2 H2 S2 p2 => by
    try dsimp only at p2
    split at p2
    · rename_i xs ys hx hy
      have T1 : DL.St c.W H0 _ ((v, e) :: (w, e2) :: τ) _ σ H2 := S2.st.mono fun p hp => by
        simp only [List.mem_cons] at hp ⊢
        rcases hp with hp | hp | hp
        · exact .inr (.inl hp)
        · exact .inl hp
        · exact .inr (.inr hp)
      obtain ⟨a, κ1, vs1, B1, o1, rfl, ha1, hl1, hn1, eB1, u1, d1, q1, g1, T2⟩ := hold_seq (K := K) T1 hx
      have T3 : DL.St c.W B1 _ ((w, e2) :: (.ref a, e) :: τ) _ σ H2 := T2.mono fun p hp => by
        simp only [List.mem_cons] at hp ⊢
        rcases hp with hp | hp | hp
        · exact .inr (.inl hp)
        · exact .inl hp
        · exact .inr (.inr hp)
      obtain ⟨b, κ2, vs2, B2, o2, rfl, hb1, hl2, hn2, eB2, u2, d2, q2, g2, T4⟩ := hold_seq (K := K) T3 hy
      have k2 : ∀ {H' ρ τ l σ}, DL.St c.W B2 ρ τ l σ H' → H' b = some o2 := fun {H' ρ τ l σ} S => S.off b o2 (by rw [eB2]; exact upd_same) hn2
      have k1 : ∀ {H' ρ τ l σ}, DL.St c.W B2 ρ τ l σ H' → H' a = some o1 := fun {H' ρ τ l σ} S => S.off a o1 (u2 a o1 (by rw [eB1]; exact upd_same) hn1) hn1
      refine ⟨a, b, κ1, κ2, vs1, vs2, rfl, q1 _ ha1, q2 _ hb1, k _ (zip2D xs ys) [(.ref b, e2), (.ref a, e)] B2 H2 ⟨fun b o h n => u2 b o (u1 b o h n) n, fun b h => d1 b (d2 b h), fun H => H a = some o1 ∧ H b = some o2, fun i H v H' => ∃ T x y, v = .ref T ∧ H T = none ∧ H' = upd H T (.tup [x, y]) ∧ vs1[i]? = some x ∧ vs2[i]? = some y, ?_, fun ρ τ l σ H S => ?_, fun i ρ τ l σ H x H' d S y hd => ?_⟩ ⟨S2.fit, T4⟩ p2⟩
      · refine (ZP.walk_zip2 (n := (zip2D xs ys).length) (by rw [zip2D_len, hl1, hl2])).mono (fun H h => ⟨q1 H h.1, q2 H h.2⟩) fun i H x H' _ _ y => y
      · exact ⟨k1 S, k2 S⟩
      · obtain ⟨T, x1, x2, rfl, hT, rfl, y1, y2⟩ := y
        obtain ⟨d1, d2, e1, e2', rfl⟩ := zip2D_get _ _ _ _ hd
        obtain ⟨N, n3, n5, n4, q⟩ := S.ext
        refine q _ _ (Ex.new hT) fun p hp => ?_
        rcases List.mem_cons.mp hp with rfl | hp
        · have r1 := g1 N _ (k1 S) (n5 (.ref a, e) (by simp))
          have r2 := g2 N _ (k2 S) (n5 (.ref b, e2) (by simp))
          obtain ⟨z1, w1, s1⟩ := r1.get y1
          obtain ⟨z2, w2, s2⟩ := r2.get y2
          rw [e1] at w1; cases w1
          rw [e2'] at w2; cases w2
          exact .tup upd_same (n3.new hT) (.cons (s1.ex (Ex.new hT)) (.cons (s2.ex (Ex.new hT)) .nil))
        · exact (n5 p hp).ex (Ex.new hT)
    · exact p2.elim
theorem si_zip3 (ha : SE c ta ma) (hb : SE c tb mb) (hd : SE c td md) : SI c (ZP.iZip3 K (tCons ta (tCons tb (tCons td tNil)))) (iZ3 ma mb md) := fun H0 r τ l σ H S P X h hX R k =>
  ha H0 r τ l σ H S _ X h hX _ fun v e H1 S1 p => hb H0 r _ l σ H1 S1 _ X p hX.more _ fun w e2 H2 S2 p2 => hd H0 r _ l σ H2 S2 _ X p2 hX.more.more _ fun z e3 H3 S3 p3 => by
    try dsimp only at p3
    split at p3
    · rename_i xs ys zs hx hy hz
      have T1 : DL.St c.W H0 _ ((v, e) :: (w, e2) :: (z, e3) :: τ) _ σ H3 := S3.st.mono fun p hp => by
        simp only [List.mem_cons] at hp ⊢
        rcases hp with hp | hp | hp | hp
        · exact .inr (.inr (.inl hp))
        · exact .inr (.inl hp)
        · exact .inl hp
        · exact .inr (.inr (.inr hp))
      obtain ⟨a, κ1, vs1, B1, o1, rfl, ha1, hl1, hn1, eB1, u1, d1, q1, g1, T2⟩ := hold_seq (K := K) T1 hx
      have T3 : DL.St c.W B1 _ ((w, e2) :: (z, e3) :: (.ref a, e) :: τ) _ σ H3 := T2.mono fun p hp => by
        simp only [List.mem_cons] at hp ⊢
        rcases hp with hp | hp | hp | hp
        · exact .inr (.inl hp)
        · exact .inr (.inr (.inl hp))
        · exact .inl hp
        · exact .inr (.inr (.inr hp))
      obtain ⟨b, κ2, vs2, B2, o2, rfl, hb1, hl2, hn2, eB2, u2, d2, q2, g2, T4⟩ := hold_seq (K := K) T3 hy
      have T5 : DL.St c.W B2 _ ((z, e3) :: (.ref b, e2) :: (.ref a, e) :: τ) _ σ H3 := T4.mono fun p hp => by
        simp only [List.mem_cons] at hp ⊢
        rcases hp with hp | hp | hp | hp
        · exact .inr (.inl hp)
        · exact .inl hp
        · exact .inr (.inr (.inl hp))
        · exact .inr (.inr (.inr hp))
      obtain ⟨f, κ3, vs3, B3, o3, rfl, hf1, hl3, hn3, eB3, u3, d3, q3, g3, T6⟩ := hold_seq (K := K) T5 hz
      have k3 : ∀ {H' ρ τ l σ}, DL.St c.W B3 ρ τ l σ H' → H' f = some o3 := fun {H' ρ τ l σ} S => S.off f o3 (by rw [eB3]; exact upd_same) hn3
      have k2 : ∀ {H' ρ τ l σ}, DL.St c.W B3 ρ τ l σ H' → H' b = some o2 := fun {H' ρ τ l σ} S => S.off b o2 (u3 b o2 (by rw [eB2]; exact upd_same) hn2) hn2
      have k1 : ∀ {H' ρ τ l σ}, DL.St c.W B3 ρ τ l σ H' → H' a = some o1 := fun {H' ρ τ l σ} S => S.off a o1 (u3 a o1 (u2 a o1 (by rw [eB1]; exact upd_same) hn1) hn1) hn1
      refine ⟨a, b, f, κ1, κ2, κ3, vs1, vs2, vs3, rfl, q1 _ ha1, q2 _ hb1, q3 _ hf1, k _ (zip3D xs ys zs) [(.ref f, e3), (.ref b, e2), (.ref a, e)] B3 H3 ⟨fun b o h n => u3 b o (u2 b o (u1 b o h n) n) n, fun b h => d1 b (d2 b (d3 b h)), fun H => H a = some o1 ∧ H b = some o2 ∧ H f = some o3,
        fun i H v H' => ∃ T x y z, v = .ref T ∧ H T = none ∧ H' = upd H T (.tup [x, y, z]) ∧ vs1[i]? = some x ∧ vs2[i]? = some y ∧ vs3[i]? = some z, ?_, fun ρ τ l σ H S => ?_, fun i ρ τ l σ H x H' d S y hd => ?_⟩ ⟨S3.fit, T6⟩ p3⟩
      · refine (ZP.walk_zip3 (n := (zip3D xs ys zs).length) (by rw [zip3D_len, hl1, hl2, hl3])).mono (fun H h => ⟨q1 H h.1, q2 H h.2.1, q3 H h.2.2⟩) fun i H x H' _ _ y => y
      · exact ⟨k1 S, k2 S, k3 S⟩
      · obtain ⟨T, x1, x2, x3, rfl, hT, rfl, y1, y2, y3⟩ := y
        obtain ⟨d1, d2, d3, e1, e2', e3', rfl⟩ := zip3D_get _ _ _ _ _ hd
        obtain ⟨N, n3, n5, n4, q⟩ := S.ext
        refine q _ _ (Ex.new hT) fun p hp => ?_
        rcases List.mem_cons.mp hp with rfl | hp
        · have r1 := g1 N _ (k1 S) (n5 (.ref a, e) (by simp))
          have r2 := g2 N _ (k2 S) (n5 (.ref b, e2) (by simp))
          have r3 := g3 N _ (k3 S) (n5 (.ref f, e3) (by simp))
          obtain ⟨z1, w1, s1⟩ := r1.get y1
          obtain ⟨z2, w2, s2⟩ := r2.get y2
          obtain ⟨z3, w3, s3⟩ := r3.get y3
          rw [e1] at w1; cases w1
          rw [e2'] at w2; cases w2
          rw [e3'] at w3; cases w3
          exact .tup upd_same (n3.new hT) (.cons (s1.ex (Ex.new hT)) (.cons (s2.ex (Ex.new hT)) (.cons (s3.ex (Ex.new hT)) .nil)))
        · exact (n5 p hp).ex (Ex.new hT)
    · exact p3.elim
/-! ### enumerate -/
def enumD (n : Nat) : List PyData → List PyData
  | [] => []
  | d :: ds => .tuple [.int n, d] :: enumD (n + 1) ds
theorem enumD_len : ∀ (n : Nat) ds, (enumD n ds).length = ds.length
  | _, [] => rfl
  | n, d :: ds => by simp only [enumD, List.length_cons, enumD_len (n + 1) ds]
theorem enumD_get : ∀ (n : Nat) (ds : List PyData) (i : Nat) (t : PyData), (enumD n ds)[i]? = some t → ∃ d, ds[i]? = some d ∧ t = .tuple [.int (n + i : Nat), d]
  | _, [], _, _, h => by simp [enumD] at h
  | n, d :: ds, 0, t, h => by simp [enumD] at h; exact ⟨d, rfl, h.symm⟩
  | n, d :: ds, i + 1, t, h => by
    simp only [enumD, List.getElem?_cons_succ] at h ⊢
    obtain ⟨d', h1, h2⟩ := enumD_get (n + 1) ds i t h
    exact ⟨d', h1, by rw [h2]; congr 3; omega⟩
def iEn (a : DE) : DI := fun r P X => a r (fun x => match seqOf x with
  | some xs => P (enumD 0 xs)
  | none => False) X
def iEnumA (K : PySem.W.Frag) (ta : TA) : TI := fun σ H R => ta σ H fun vs H1 => ∃ a xs, vs = [.ref a] ∧ ((SqL K H1 a xs ∧ R (Ite K a) H1) ∨ (SqT K H1 a xs ∧ R (EN.IteT K a) H1))
end
theorem pi_enumA {X : Cx} {e : Expr} {ta : TA} {p pos tpos : Pos} {elts : List Expr} {kk : Nat} (hg : Gl X "enumerate") (hm : X.mg "enumerate" = none) (ha : PA X [e] ta) (hs : starEach [e] X.env = [(false, eval e X.env)] := by rfl) :
    PI X (.Tuple elts kk tpos) (.Call (.Name "enumerate" p) [e] [] pos) (iEnumA X.K ta) := by
  refine ⟨fun pins s σ H R I h => ?_⟩
  refine Call_ (ld_blt I hg hm boot_enumerate (PyProof.Rows.callWith_type1 (thn (ha.run pos pins s σ H _ I h) fun us s1 ⟨vs, H1, I1, r1, q1⟩ => ?_) hs rfl))
  obtain ⟨a, xs, ex, q1⟩ := q1
  subst ex
  cases r1 with
  | cons r rr =>
    cases rr
    cases r
    have fin : ∀ b ∈ [s1.heap.objs.size + 1, s1.heap.objs.size], FpOk X pins H1 b := fun b hb => by
      have e' : b = s1.heap.objs.size + 1 ∨ b = s1.heap.objs.size := by simpa using hb
      have hle : s1.heap.objs.size ≤ b := by
        rcases e' with z | z
        · rw [z]; exact Nat.le_add_right _ _
        · rw [z]; exact Nat.le_refl _
      exact I1.fpOk hle (I1.hok.fresh hle)
    rcases q1 with ⟨hq, q⟩ | ⟨hq, q⟩
    · obtain ⟨its, rv, p', hz⟩ := I1.list hq
      refine call_enumerate_list p'.isList fun h' he hit hsz hk => wpAny_pyIter_enum he ?_
      have I2 : Inv X pins σ H1 { s1 with heap := h' } := I1.kept (t' := s1.toks) hk
      exact ⟨s1.heap.objs.size + 1, [s1.heap.objs.size + 1, s1.heap.objs.size], _, _, H1, rfl, I2, turn_enum a (s1.heap.objs.size + 1) s1.heap.objs.size, ⟨⟨.none, he⟩, hit, Nat.succ_ne_self _⟩, fin, q⟩
    · obtain ⟨its, rv, p', hz⟩ := I1.tuple hq
      have ha' : a < s1.heap.objs.size := by obtain ⟨o1, ho1, _⟩ := id p'; exact Heap.lt_size ho1
      refine EN.call_enumT (show s1.heap.IsTuple a its.toArray from p') fun h' he hit hsz hk => wpAny_pyIter_enum he ?_
      have I2 : Inv X pins σ H1 { s1 with heap := h' } := I1.kept (t' := s1.toks) hk
      exact ⟨s1.heap.objs.size + 1, [s1.heap.objs.size + 1, s1.heap.objs.size], _, _, H1, rfl, I2, EN.turn_enumT a (s1.heap.objs.size + 1) s1.heap.objs.size, ⟨⟨.none, he⟩, hit, Nat.succ_ne_self _, Nat.ne_of_lt (Nat.lt_succ_of_lt ha'), Nat.ne_of_lt ha'⟩, fin, q⟩
theorem walk_enumT {K : PySem.W.Frag} {a : Addr} {xs : List V} : Walk (EN.IteT K a) xs.length (fun H => SqT K H a xs) (YPair (fun i => some (.int (i : Nat))) (fun i => xs[i]?)) := by
  refine ⟨fun i _ hi q => ⟨xs, xs[i], q, by simp [hi]⟩, fun _ q => ⟨xs, q, Nat.le_refl _⟩, fun i H v H' _ q y => ?_⟩
  obtain ⟨T, x, h1, h2, h3, h4⟩ := y
  exact ⟨T, .int (i : Nat), x, h1, h2, h3, rfl, h4 xs q⟩
section
variable {c : Ct} {K : PySem.W.Frag} {te ta tb td : TE} {me ma mb md : DE}
theorem si_enum (ha : SE c ta ma) : SI c (iEnumA K (tCons ta tNil)) (iEn ma) := fun H0 r τ l σ H S P X h hX R k =>
  ha H0 r τ l σ H S _ X h hX _ fun v e H1 S1 p => by
    try dsimp only at p
    split at p
    · rename_i xs hx
      obtain ⟨a, κ1, vs1, B1, o1, rfl, ha1, hl1, hn1, eB1, u1, d1, q1, g1, T2⟩ := hold_seq (K := K) S1.st hx
      have k1 : ∀ {H' ρ τ l σ}, DL.St c.W B1 ρ τ l σ H' → H' a = some o1 := fun {H' ρ τ l σ} S => S.off a o1 (by rw [eB1]; exact upd_same) hn1
      have hy : ∀ (i : Nat) ρ τ l σ H x H' d, DL.St c.W B1 ρ ([(.ref a, e)] ++ τ) l σ H → YPair (fun i => some (.int (i : Nat))) (fun i => vs1[i]?) i H x H' → (enumD 0 xs)[i]? = some d → DL.St c.W B1 ρ ((x, d) :: ([(.ref a, e)] ++ τ)) l σ H' := fun i ρ τ l σ H x H' d S y hd => by
        obtain ⟨T, x1, x2, rfl, hT, rfl, y1, y2⟩ := y
        cases y1
        obtain ⟨d2, e1, rfl⟩ := enumD_get _ _ _ _ hd
        rw [Nat.zero_add]
        obtain ⟨N, n3, n5, n4, q⟩ := S.ext
        refine q _ _ (Ex.new hT) fun p hp => ?_
        rcases List.mem_cons.mp hp with rfl | hp
        · have r1 := g1 N _ (k1 S) (n5 (.ref a, e) (by simp))
          obtain ⟨z1, w1, s1⟩ := r1.get y2
          rw [e1] at w1; cases w1
          exact .tup upd_same (n3.new hT) (.cons (.int _) (.cons (s1.ex (Ex.new hT)) .nil))
        · exact (n5 p hp).ex (Ex.new hT)
      have hlen : (enumD 0 xs).length = vs1.length := by rw [enumD_len, hl1]
      cases κ1 with
      | true =>
        refine ⟨a, vs1, rfl, .inl ⟨q1 _ ha1, k _ (enumD 0 xs) [(.ref a, e)] B1 H1 ⟨u1, d1, fun H => H a = some o1, YPair (fun i => some (.int (i : Nat))) (fun i => vs1[i]?), ?_, fun ρ τ l σ H S => k1 S, hy⟩ ⟨S1.fit, T2⟩ p⟩⟩
        rw [hlen]
        exact walk_enum.mono (fun H h => q1 H h) fun i H x H' _ _ y => y
      | false =>
        refine ⟨a, vs1, rfl, .inr ⟨q1 _ ha1, k _ (enumD 0 xs) [(.ref a, e)] B1 H1 ⟨u1, d1, fun H => H a = some o1, YPair (fun i => some (.int (i : Nat))) (fun i => vs1[i]?), ?_, fun ρ τ l σ H S => k1 S, hy⟩ ⟨S1.fit, T2⟩ p⟩⟩
        rw [hlen]
        exact walk_enumT.mono (fun H h => q1 H h) fun i H x H' _ _ y => y
    · exact p.elim
/-! ### range by steps -/
def iR3 (a b d : DE) : DI := fun r P X => a r (fun x => b r (fun y => d r (fun z => match x, y, z with
  | .int i, .int j, .int s => (s ≠ 0 ∧ s.natAbs < 1073741824 ∧ Builtin.Range.small i j s = true) ∧ P ((List.range (Builtin.Range.rangeSize i j s).toNat).map fun (k : Nat) => .int (i + (k : Nat) * s))
  | _, _, _ => False) X) X) X
theorem si_range3 (ha : SE c ta ma) (hb : SE c tb mb) (hd : SE c td md) : SI c (iRng3 (tCons ta (tCons tb (tCons td tNil)))) (iR3 ma mb md) := fun H0 r τ l σ H S P X h hX R k =>
  ha H0 r τ l σ H S _ X h hX _ fun v e H1 S1 p => hb H0 r _ l σ H1 S1 _ X p hX.more _ fun w e2 H2 S2 p2 => hd H0 r _ l σ H2 S2 _ X p2 hX.more.more _ fun z e3 H3 S3 p3 => by
    try dsimp only at p3
    split at p3
    · rename_i i j s
      have := S3.it
      subst this
      have := S2.it
      subst this
      have := S1.it
      subst this
      refine ⟨i, j, s, (Builtin.Range.rangeSize i j s).toNat, rfl, ⟨p3.1.1, p3.1.2.1, p3.1.2.2, rangeSize_toNat i j s⟩, k _ _ [] H0 H3 ?_ (S3.mono fun p hp => by simp only [List.mem_cons]; exact .inr (.inr (.inr hp))) p3.2⟩
      refine ⟨fun b o h _ => h, fun b h => h, fun _ => True, YFn fun k => .int (i + (k : Nat) * s), ?_, fun _ _ _ _ _ _ => trivial, fun k ρ τ l σ H x H' d S y hd => ?_⟩
      · rw [List.length_map, List.length_range]
        exact walk_rangeC
      · obtain ⟨rfl, rfl⟩ := y
        rw [List.getElem?_map] at hd
        obtain ⟨j', hj, rfl⟩ := Option.map_eq_some_iff.mp hd
        obtain ⟨hj1, rfl⟩ := List.getElem?_eq_some_iff.mp hj
        rw [List.getElem_range]
        obtain ⟨N, n3, n5, n4, q⟩ := S.ext
        refine q H' _ ex_refl fun p hp => ?_
        rcases List.mem_cons.mp hp with rfl | hp
        · exact .int _
        · exact n5 p hp
    · exact p3.elim
/-! ### three clauses -/
theorem seo_lc3 {wi wi1 wi2 : TI} {mi mi1 mi2 : DI} {g g1 g2 : TG} {mg mg1 mg2 : DG} {tt tt1 tt2 : TT} {mt mt1 mt2 : DT} {vs vs1 vs2 : List Nat} (hi : SI c wi mi) (hg : SGv c vs g mg) (ht : ST c tt mt) (hi1 : SI c wi1 mi1) (hg1 : SGv c vs1 g1 mg1) (ht1 : ST c tt1 mt1)
    (hi2 : SI c wi2 mi2) (hg2 : SGv c vs2 g2 mg2) (ht2 : ST c tt2 mt2) (he : SE c te me) :
    SEO c (L3.tLc3 wi g tt wi1 g1 tt1 wi2 g2 tt2 te vs vs1 vs2) (mLc mi mg mt vs (mCl mi1 mg1 mt1 vs1 (mCl mi2 mg2 mt2 vs2 (mEl me)))) :=
  seo_top (B := fun D => bCl wi1 g1 tt1 vs1 (bCl wi2 g2 tt2 vs2 (bEl te D))) hi hg ht fun D => sb_cl hi1 hg1 ht1 (sb_cl hi2 hg2 ht2 (sb_el he))
end
end MI
set_option Elab.async false
set_option linter.all false
set_option maxRecDepth 100000
/-! A mirror of the text in plain data: own lists, calls by names. -/
namespace MI
open PySem PySem.Spec PyProof.Rows L2 Evl TB DL
section
variable {c : Ct} {K : PySem.W.Frag} {te ta tb : TE} {tas : TA} {me ma mb : DE} {mas : DA}
theorem se_oix' {i : Nat} {tk : TE} {mk : DE} (hk : SE c tk mk) : SE c (tOp (rIx K) (tVar i) tk) (oIx i mk) := fun H0 r τ l σ H S P X hp hX Q k => by
  have h := se_oix (K := K) (i := i) hk H0 r τ l σ H S P X hp hX Q k
  obtain ⟨v, hv, h⟩ := h
  refine ⟨v, hv, ?_⟩
  unfold oIx at hp
  split at hp
  · rename_i ds hl
    obtain ⟨a, xs, ha, hx, hxl, _⟩ := own_front S hl
    rw [ha] at hv
    cases hv
    refine hk H0 r τ l σ H S _ _ hp hX _ fun z e2 H2 S2 p2 => .inl ?_
    try dsimp only at p2
    split at p2
    · rename_i zi
      have := S2.it
      subst this
      split at p2
      · rename_i e he
        obtain ⟨a', xs', ha', hx', hl', T⟩ := own_front S2 hl
        rw [ha] at ha'
        cases ha'
        obtain ⟨ys, h1, h2, h3, _⟩ := st_look T
        rw [hx'] at h1
        cases h1
        unfold atI at he
        cases hj : ixN ds.length zi with
        | none => rw [hj] at he; cases he
        | some j =>
          rw [hj] at he
          have he' : ds[j]? = some e := he
          have jl : j < xs'.length := by rw [hl']; exact (List.getElem?_eq_some_iff.mp he').1
          obtain ⟨d, hd, T2⟩ := h3 j _ (List.getElem?_eq_getElem jl)
          rw [he'] at hd
          cases hd
          have pm : (owns r σ ++ l).Perm ((a, ds) :: (owns (r.set i none) σ ++ l)) := List.Perm.append_right l (owns_at (lk_some hl) ha)
          have S3 : MSt c H0 r ((xs'[j], e) :: (.int zi, .int zi) :: τ) l σ H2 := ⟨S2.fit, st_perm T2 pm.symm⟩
          refine ⟨a, xs', zi, xs'[j], rfl, rfl, .inl (.inl hx'), ?_, k _ _ H2 (S3.mono fun p hp => ?_) p2⟩
          · unfold atI
            rw [hl', hj]
            exact List.getElem?_eq_getElem jl
          · rcases List.mem_cons.mp hp with rfl | hp
            · exact List.mem_cons_self
            · exact List.mem_cons_of_mem _ (List.mem_cons_of_mem _ hp)
      · exact p2.elim
    · exact p2.elim
  · exact hp.elim
theorem se_olen' {i : Nat} : SE c (tCB (rLenA K) (tCons (tVar i) tNil)) (oLen i) := fun H0 r τ l σ H S P X hp hX Q k => by
  obtain ⟨v, hv, h⟩ := se_olen (K := K) (i := i) H0 r τ l σ H S P X hp hX Q k
  exact ⟨v, hv, .inl h⟩
/-! ### new lists that stay one's own -/
def eoLst (a : DA) : DEO := fun r P X => a r (fun es => es.length ≤ 100000 ∧ P es) X
theorem seo_lst (ha : SA c tas mas) : SEO c (tLst tas) (eoLst mas) := fun H0 r τ l σ H S P X h hX Q k =>
  ha H0 r τ l σ H S _ X h hX _ fun vs es H1 S1 le p1 => ⟨size_small (by rw [le]; exact p1.1), fun p hp => k p es _ ⟨S1.fit, st_perm (st_newL S1.st le hp) owns_front.symm⟩ p1.2⟩
/-- the items of a value that is a list or a tuple, at hand -/
theorem at_hand {H0 H : Hp} {r : ME} {τ : List (V × PyData)} {l : List (Addr × List PyData)} {σ : L2.St} {v : V} {e : PyData} {ds : List PyData} (S : MSt c H0 r ((v, e) :: τ) l σ H) (he : seqOf e = some ds) :
    ∃ a xs, v = .ref a ∧ (SqL K H a xs ∨ SqT K H a xs) ∧ xs.length = ds.length ∧ MSt c H0 r (xs.zip ds ++ τ) l σ H := by
  obtain ⟨N, n3, n5, q⟩ := S.ext
  have hv := n5 _ List.mem_cons_self
  cases e with
  | list es =>
    cases he
    cases hv with
    | @lst a xs _ hA hn hr => exact ⟨a, xs, rfl, .inl (.inl (.inl hA)), hr.len, q H _ ex_refl fun p hp => (List.mem_append.mp hp).elim (rg_zip hr p) fun hp => n5 p (List.mem_cons_of_mem _ hp)⟩
  | tuple es =>
    cases he
    cases hv with
    | @tup a xs _ hA hn hr => exact ⟨a, xs, rfl, .inr (.inl (.inl hA)), hr.len, q H _ ex_refl fun p hp => (List.mem_append.mp hp).elim (rg_zip hr p) fun hp => n5 p (List.mem_cons_of_mem _ hp)⟩
  | _ => cases he
def eoList (a : DE) : DEO := fun r P X => a r (fun e => match seqOf e with
  | some ds => P ds
  | none => False) X
theorem seo_list (ha : SE c ta ma) : SEO c (tCB (TB.rListQ K) (tCons ta tNil)) (eoList ma) := fun H0 r τ l σ H S P X h hX Q k =>
  ha H0 r τ l σ H S _ X h hX _ fun v e H1 S1 p => by
    try dsimp only at p
    split at p
    · rename_i ds he
      obtain ⟨a, xs, rfl, hs, hl, S2⟩ := at_hand (K := K) S1 he
      exact ⟨a, xs, rfl, hs, fun b hb => k b ds _ ⟨S2.fit, st_perm (st_newL S2.st hl hb) owns_front.symm⟩ p⟩
    · exact p.elim
/-! ### t[::-1] -/
def mRev (a : DE) : DE := fun r P X => a r (fun e => match e with
  | .tuple ds => P (.tuple ds.reverse)
  | _ => False) X
theorem se_rev (ha : SE c ta ma) : SE c (tRevT K ta) (mRev ma) := fun H0 r τ l σ H S P X h hX Q k =>
  ha H0 r τ l σ H S _ X h hX _ fun v e H1 S1 p => by
    try dsimp only at p
    split at p
    · rename_i ds
      obtain ⟨N, n3, n5, q⟩ := S1.ext
      have hv := n5 _ List.mem_cons_self
      cases hv with
      | @tup a xs _ hA hn hr =>
        refine ⟨a, xs, rfl, .inl (.inl hA), fun b hb => ?_⟩
        have rg : Rg N (upd H1 b (.tup xs.reverse)) (.ref b) (.tuple ds.reverse) := .tup upd_same (n3.new hb) (hr.rev.ex (Ex.new hb))
        exact k (.ref b) (.tuple ds.reverse) _ ((MSt.push q n5 (Ex.new hb) rg).mono fun p hp => (List.mem_cons.mp hp).elim (fun h => h ▸ List.mem_cons_self) fun hp => List.mem_cons_of_mem _ (List.mem_cons_of_mem _ hp)) p
    · exact p.elim
theorem se_dict0 : SE c tDNewK (mC (.dict [])) := fun H0 r τ l σ H S P X h hX Q k p hp => by
  obtain ⟨N, n3, n5, q⟩ := S.ext
  exact k (.ref p) (.dict []) _ (MSt.push q n5 (Ex.new hp) (.dic upd_same (n3.new hp))) h
/-! ### calls by the names of the arguments -/
def permL {α : Type} (π : List Nat) (l : List α) : List α := π.filterMap fun i => l[i]?
theorem permL_all {N : Addr → Prop} {H : Hp} {vs : List V} {es : List PyData} (h : RgAll N H vs es) : ∀ π : List Nat, RgAll N H (permL π vs) (permL π es)
  | [] => .nil
  | i :: π => by
    have ih := permL_all h π
    unfold permL at ih ⊢
    rw [List.filterMap_cons, List.filterMap_cons]
    cases hv : vs[i]? with
    | none =>
      have : es[i]? = none := List.getElem?_eq_none_iff.mpr (by rw [← h.len]; exact List.getElem?_eq_none_iff.mp hv)
      rw [this]
      exact ih
    | some v =>
      obtain ⟨e, h1, h2⟩ := h.get hv
      rw [h1]
      exact .cons h2 ih
def tKw (sp : Sp) (π : List Nat) (t : TA) : TE := fun σ H Q => t σ H fun zs H2 => sp (permL π zs) H2 Q E0
def mKw (π : List Nat) (f : List PyData → C PyData) (a : DA) : DE := fun r P X => a r (fun es => f (permL π es) P fun _ => False) X
theorem se_kw {f : List PyData → C PyData} {π : List Nat} (ha : SA c tas mas) : SE c (tKw (SpM f) π tas) (mKw π f mas) := fun H0 r τ l σ H S P X h hX Q k =>
  ha H0 r τ l σ H S _ X h hX _ fun vs es H1 S1 le p1 => by
    obtain ⟨N, n3, n5, q⟩ := S1.ext
    refine ⟨N, permL π es, P, n3, permL_all (zip_all le fun p hp => n5 p (List.mem_append_left _ hp)) π, p1, fun v e H' x rg p => k v e H' ?_ p⟩
    exact (MSt.push q n5 x rg).mono fun p hp => by
      rcases List.mem_cons.mp hp with rfl | hp
      · exact List.mem_cons_self
      · exact List.mem_cons_of_mem _ (List.mem_append_right _ hp)
end
def kwG (π : List Nat) (us ws : List Value) : List Value := match us with
  | [] => permL π ws
  | _ => []
/-- a def that is called by the names ks of its arguments; π: for each parameter the place of its name in ks -/
def KwAt (P : Program) (w : World) (K : PySem.W.Frag) (mg : Str → Option Value) (base : Heap) (k : Nat) (x : Str) (ps ks : List Str) (π : List Nat) (sp : Sp) : Prop :=
  ∃ (f : Addr) (fd : FuncData), mg x = some (.ref f) ∧ PySem.W.keepIn K (.ref f) = true ∧ FnOk P w K mg base CX0 k f fd ps sp ∧
    ∀ (s : Shared) (ws : List Value), (permL π ws).length = ps.length → BindsTo s fd ⟨[], ks.zip ws⟩ (ps.zip (permL π ws))
theorem permL_rel {vs : List V} {us : List Value} (h : Vals vs us) : ∀ π : List Nat, Vals (permL π vs) (permL π us)
  | [] => .nil
  | i :: π => by
    have ih := permL_rel h π
    unfold permL at ih ⊢
    rw [List.filterMap_cons, List.filterMap_cons]
    cases hv : vs[i]? with
    | none =>
      rw [h.none_of hv]
      exact ih
    | some v =>
      obtain ⟨u, h1, h2⟩ := h.get hv
      rw [h1]
      exact .cons h2 ih
theorem pe_kw {X : Cx} {k : Nat} {x : Str} {ps ks : List Str} {π : List Nat} {sp : Sp} {kws : List Keyword} {tk : TA} {p pos : Pos} (h : KwAt X.prog X.w X.K X.mg X.base k x ps ks π sp) (hr : Room k X.A) (hg : Gl X x) (hp : ps ≠ [])
    (hkw : PK X kws tk) (hall : (backToKw pos (keywordEach kws X.env)).all (·.1.isSome) = true := by rfl) (hks : (backToKw pos (keywordEach kws X.env)).filterMap (·.1) = ks := by rfl)
    (hdb : (x == ("__debug__" : Str)) = false := by decide) (hpl : ((backTo pos (starEach [] X.env)).any (·.1) || (backToKw pos (keywordEach kws X.env)).any (·.1.isNone)) = false := by rfl) :
    PE X (.Call (.Name x p) [] kws pos) (tKw sp π tk) := by
  obtain ⟨f, fd, hm, hk, F, bd⟩ := h
  have hb : KBinds X.K fd ps ks (kwG π) (fun vs zs => match vs with
    | [] => permL π zs
    | _ => []) := by
    refine ⟨fun s us ws _ hl => ?_, fun {vs us zs ws} r rz => ?_⟩
    · cases us with
      | nil => exact bd s ws hl
      | cons a b =>
        have hl' : ([] : List Value).length = ps.length := hl
        exact absurd (List.eq_nil_of_length_eq_zero hl'.symm) hp
    · cases r with
      | nil => exact permL_rel rz π
      | cons _ _ => exact .nil
  refine ⟨fun pins s σ H Q I h => ?_⟩
  refine wpAny_Call_Name_kw (ld_glob I hg hm ?_ hdb)
  refine PySem.W.callWith_KW0 (h₀ := X.base) I.ok.mod.kin hk hall ?_ hpl
  refine thn (hkw.run pos pins s σ H _ I h) fun ws s2 ⟨zs, H2, I2, rz, q2⟩ => ⟨I2.kIn, ?_⟩
  rw [hks]
  exact run_fnk F hr hb pass0 I2 .nil rz q2
/-! ### the law itself -/
def spLaw (K : PySem.W.Frag) : Sp := fun vs H Q _ => ∃ (a : Addr) (ns : List Int), vs = [.ref a] ∧ SqL K H a (ns.map V.int) ∧ ns.length ≤ 63 ∧ ∀ H', Q (.bl true) H'
theorem sp_start {K : PySem.W.Frag} {H : Hp} {a : Addr} {ns : List Int} (hl : ns.length ≤ 63) (hS : SqL K H a (ns.map V.int)) : spLaw K [.ref a] H (fun v _ => v = .bl true) fun _ _ _ => False := ⟨a, ns, rfl, hS, hl, fun _ => rfl⟩
/-- where the law stands once its deck is made -/
def lawEnv (k : Nat) : ME := none :: some .dck :: List.replicate k none
theorem start_law {d g l : Addr} {H : Hp} {k : Nat} {v : V} (D : Deck H d g l) : MSt ⟨WL d g l H, .ref d, noTab, no4⟩ H (lawEnv k) [] [] (some v :: some (.ref d) :: List.replicate k none) H := by
  refine ⟨fun i ds h => ?_, ?_⟩
  · match i, h with
    | 0, h => cases h
    | 1, h => cases h
    | i + 2, h =>
      have h' := List.mem_of_getElem? (show (List.replicate k none)[i]? = some (some (ML.own ds)) from h)
      have := List.eq_of_mem_replicate h'
      cases this
  · have e : owns (lawEnv k) (some v :: some (.ref d) :: List.replicate k none) = [] := by
      show own1 none (some v) ++ (own1 (some .dck) (some (.ref d)) ++ owns (envOf [] k) _) = []
      rw [own1_none, owns_env]
      rfl
    rw [e]
    refine DL.St.deck0 D (by simp [lawEnv]) fun i s h => ?_
    match i, h with
    | 0, h => cases h
    | 1, h => cases h; exact ⟨_, rfl, rfl⟩
    | i + 2, h =>
      rw [List.getElem?_map] at h
      obtain ⟨x, hx, hx'⟩ := Option.map_eq_some_iff.mp h
      have h' := List.mem_of_getElem? (show (List.replicate k none)[i]? = some x from hx)
      have := List.eq_of_mem_replicate h'
      subst this
      cases hx'
/-- the law's tail -/
theorem run_L {d g l : Addr} {H : Hp} {k : Nat} {v : V} {ts : TS} {b : DS} {Q : VK} (hs : ∀ c, Dk c → SS c ts b) (D : Deck H d g l) (h : b { nx := fun _ => False, rt := fun e => e = .bool true, ex := fun _ => False } (lawEnv k))
    (q : ∀ H', Q (.bl true) H') : ts { nx := fun _ H' => Q .non H', rt := Q } (some v :: some (.ref d) :: List.replicate k none) H :=
  hs ⟨WL d g l H, .ref d, noTab, no4⟩ ⟨d, g, l, _, H, rfl, rfl⟩ H _ [] [] _ H (start_law D) _ _ h (fun _ _ _ _ p => p.elim) (fun _ _ _ _ p => p.elim) (fun _ _ _ _ p => p.elim)
    (fun v e r' σ' H' S p => by
      have p : e = .bool true := p
      subst p
      have := S.bl
      subst this
      exact q H') fun r' σ' => XOut.no
/-- the draws of the deck -/
def m_draw : List PyData → C PyData := fun es P _ => match es with
  | [.int m] => (0 < m ∧ m ≤ 1000000000000) ∧ ∀ r : Int, 0 ≤ r → r < m → P (.int r)
  | _ => False
def m_one : List PyData → C PyData := fun es P _ => match es with
  | [.list ds] => (0 < ds.length ∧ ds.length ≤ 100000) ∧ ∀ e ∈ ds, P e
  | _ => False
theorem draw_impM {vs : List V} {H : Hp} {Q : VK} {E : XK} (h : SpMW m_draw vs H Q E) : spDraw vs H Q E := by
  obtain ⟨d, g, l, N, es, vs', P, rfl, ok, nd, ng, nl, D, r, h, q⟩ := h
  unfold m_draw at h
  split at h
  · cases r with
    | cons r1 r2 =>
      cases r2; cases r1
      exact ⟨d, g, l, _, rfl, h.1.1, h.1.2, D, fun r H' r0 r1 D' o => q _ (.int r) H' D' (fun a o' e n1 n2 _ => o a o' e n1 n2) (.int r) (h.2 r r0 r1)⟩
  · exact h.elim
theorem one_impM {vs : List V} {H : Hp} {Q : VK} {E : XK} (h : SpMW m_one vs H Q E) : spOne vs H Q E := by
  obtain ⟨d, g, l, N, es, vs', P, rfl, ok, nd, ng, nl, D, r, h, q⟩ := h
  unfold m_one at h
  split at h
  · cases r with
    | cons r1 r2 =>
      cases r2
      cases r1 with
      | lst hA hn hr =>
        refine ⟨d, g, l, _, _, rfl, D, hA, fun z => hn (z ▸ nd), fun z => hn (z ▸ ng), by rw [hr.len]; exact h.1.1, by rw [hr.len]; exact h.1.2, fun i v H' hv D' o => ?_⟩
        obtain ⟨e, he, hre⟩ := hr.get hv
        exact q v e H' D' (fun a o' h n1 n2 _ => o a o' h n1 n2) (Rg.to (fun a o' h n => ⟨o a o' h (fun z => n (z ▸ nd)) (fun z => n (z ▸ ng)), n⟩) _ _ hre) (h.2 e (List.mem_of_getElem? he))
  · exact h.elim
end MI
set_option Elab.async false
set_option linter.all false
set_option maxRecDepth 100000
/-! A mirror of the text in plain data: loops whose dead names are forgotten; how loops are answered. -/
namespace MI
open PySem PySem.Spec PyProof.Rows L2 Evl TB DL
/-- only these slots stay known -/
def keepM (L : List Nat) : Nat → ME → ME
  | _, [] => []
  | n, o :: r => (if L.contains n then o else none) :: keepM L (n + 1) r
theorem keepM_len (L : List Nat) : ∀ (n : Nat) (r : ME), (keepM L n r).length = r.length
  | _, [] => rfl
  | n, o :: r => by simp only [keepM, List.length_cons, keepM_len L (n + 1) r]
theorem keepM_get (L : List Nat) : ∀ (n : Nat) (r : ME) (i : Nat) (x : ML), (keepM L n r)[i]? = some (some x) → r[i]? = some (some x)
  | _, [], i, x, h => by simp [keepM] at h
  | n, o :: r, 0, x, h => by
    have h' : (if L.contains n then o else none) = some x := by simpa [keepM] using h
    split at h'
    · rw [h']; rfl
    · cases h'
  | n, o :: r, i + 1, x, h => by
    rw [List.getElem?_cons_succ]
    exact keepM_get L (n + 1) r i x (by simpa [keepM] using h)
theorem keepM_owns (L : List Nat) : ∀ (n : Nat) (r : ME) (σ : L2.St), (owns (keepM L n r) σ).Sublist (owns r σ)
  | _, [], σ => List.Sublist.refl _
  | n, o :: r, [] => List.nil_sublist _
  | n, o :: r, s :: σ => by
    show (own1 (if L.contains n then o else none) s ++ owns (keepM L (n + 1) r) σ).Sublist (own1 o s ++ owns r σ)
    refine List.Sublist.append ?_ (keepM_owns L (n + 1) r σ)
    split
    · exact List.Sublist.refl _
    · rw [own1_none]; exact List.nil_sublist _
theorem MSt.keep {c : Ct} {H0 H : Hp} {r : ME} {τ : List (V × PyData)} {l : List (Addr × List PyData)} {σ : L2.St} (L : List Nat) (S : MSt c H0 r τ l σ H) : MSt c H0 (keepM L 0 r) τ l σ H := by
  refine ⟨fun i ds h => S.fit i ds (keepM_get L 0 r i _ h), (st_sub S.st ((keepM_owns L 0 r σ).append (List.Sublist.refl _))).less ?_ fun i s h => ?_⟩
  · rw [List.length_map, List.length_map, keepM_len]
  · rw [List.getElem?_map] at h ⊢
    obtain ⟨x, hx, hx'⟩ := Option.map_eq_some_iff.mp h
    cases x with
    | none => cases hx'
    | some x => rw [keepM_get L 0 r i x hx]; exact congrArg some hx'
def forK (L : List Nat) (g : DG) (b : DS) (D : DN) : List PyData → ME → Prop
  | [], r => D.nx (keepM L 0 r)
  | x :: xs, r => g x (keepM L 0 r) (fun r' => b { D with nx := forK L g b D xs, ct := forK L g b D xs, bk := D.nx } r') fun _ => False
def sForK (L : List Nat) (i : DI) (g : DG) (b : DS) : DS := fun D r => i r (fun items => forK L g b D items r) D.ex
def whK (L : List Nat) (t : DT) (b : DS) (D : DN) : Nat → ME → Prop
  | 0, _ => False
  | n + 1, r => t (keepM L 0 r) (fun x => match x with
    | true => b { D with nx := whK L t b D n, ct := whK L t b D n, bk := D.nx } (keepM L 0 r)
    | false => D.nx (keepM L 0 r)) D.ex
def sWhileK (L : List Nat) (t : DT) (b : DS) : DS := fun D r => ∃ n, whK L t b D n r
section
variable {c : Ct} {tt : TT} {mt : DT} {ts : TS} {ms : DS} {g : TG} {mg : DG} {wi : TI} {mi : DI} {vs L : List Nat}
theorem ss_forK (hi : SI c wi mi) (hg : SGv c vs g mg) (hb : SS c ts ms) : SS c (tFor wi g ts) (sForK L mi mg ms) := fun H0 r τ l σ H S D E h n b ct rt x =>
  hi H0 r τ l σ H S _ _ h (x r σ) _ fun J items τc H0' H1 hd S1 p => by
    obtain ⟨G, Y, wk, hG, hY⟩ := hd.wk
    have un : ∀ {r' σ' H'}, MSt c H0' r' (τc ++ τ) l σ' H' → MSt c H0 r' τ l σ' H' := fun {r' σ' H'} S => (S.unbase hd.up hd.dw).mono fun p hp => List.mem_append_right _ hp
    refine for_it wk (fun i σ' H' => ∃ r', MSt c H0' r' (τc ++ τ) l σ' H' ∧ forK L mg ms D (items.drop i) r') ⟨r, S1, p⟩ (fun i σ' H' _ q => ?_) (fun i v σ' H2 H3 hlt q y => ?_) fun σ' H' q => ?_
    · obtain ⟨r', S', _⟩ := q
      exact hG _ _ _ _ _ S'.st
    · obtain ⟨r', S', q⟩ := q
      have hd' : items[i]? = some items[i] := List.getElem?_eq_getElem hlt
      have T := hY i _ _ _ _ _ v H3 _ S'.st y hd'
      have S'' : MSt c H0' (keepM L 0 r') ((v, items[i]) :: (τc ++ τ)) l σ' H3 := MSt.keep L ⟨S'.fit, T⟩
      rw [List.drop_eq_getElem_cons hlt] at q
      refine hg H0' _ _ l σ' H3 v _ S'' _ q _ fun r2 σ2 H4 S4 _ _ q2 => ?_
      refine hb H0' r2 _ l σ2 H4 S4 _ _ q2 (fun r3 σ3 H5 S5 q3 => ⟨r3, S5, q3⟩) (fun r3 σ3 H5 S5 q3 => n r3 σ3 H5 (un S5) q3) (fun r3 σ3 H5 S5 q3 => ⟨r3, S5, q3⟩) (fun v e r3 σ3 H5 S5 q3 => ?_) fun r3 σ3 => (x r3 σ3).rebase hd.up hd.dw fun p hp => List.mem_append_right _ hp
      exact rt v e r3 σ3 H5 ((S5.unbase hd.up hd.dw).mono fun p hp => by
        rcases List.mem_cons.mp hp with rfl | hp
        · exact List.mem_cons_self
        · exact List.mem_cons_of_mem _ (List.mem_append_right _ hp)) q3
    · obtain ⟨r', S', q⟩ := q
      rw [List.drop_length] at q
      exact n _ σ' H' (un (S'.keep L)) q
theorem ss_whileK (ht : ST c tt mt) (hb : SS c ts ms) : SS c (tWhile tt ts) (sWhileK L mt ms) := fun H0 r τ l σ H S D E h n b ct rt x => by
  obtain ⟨N, hN⟩ := h
  refine ⟨fun m σ' H' => ∃ r', MSt c H0 r' τ l σ' H' ∧ whK L mt ms D m r', ⟨N, r, S, hN⟩, ?_⟩
  rintro m σ' H' ⟨r', S', q⟩
  cases m with
  | zero => exact q.elim
  | succ m =>
    refine ht H0 _ τ l σ' H' (S'.keep L) _ _ q (x _ σ') _ fun a H2 S2 p => ?_
    cases a with
    | true =>
      refine (if_pos rfl).mpr ⟨fun σ3 H3 => ∃ r3, MSt c H0 r3 τ l σ3 H3 ∧ whK L mt ms D m r3, fun σ3 H3 q => ⟨m, Nat.lt_succ_self m, q⟩, ?_⟩
      exact hb H0 _ τ l σ' H2 S2 _ _ p (fun r3 σ3 H3 S3 q => ⟨r3, S3, q⟩) (fun r3 σ3 H3 S3 q => n r3 σ3 H3 S3 q) (fun r3 σ3 H3 S3 q => ⟨r3, S3, q⟩) rt x
    | false => exact (if_neg Bool.false_ne_true).mpr (n _ σ' H2 S2 p)
end
/-! ### how they are answered -/
/-- a for: J by the turn and the slots that are kept -/
theorem forK_inv {L : List Nat} {g : DG} {b : DS} {D : DN} (J : Nat → ME → Prop) {items : List PyData} {r : ME} (h0 : J 0 (keepM L 0 r))
    (hs : ∀ (k : Nat) x r', items[k]? = some x → J k r' → ∀ nx : ME → Prop, (∀ r'', J (k + 1) (keepM L 0 r'') → nx r'') → g x r' (fun r2 => b { D with nx := nx, ct := nx, bk := D.nx } r2) fun _ => False)
    (hd : ∀ r', J items.length r' → D.nx r') : forK L g b D items r := by
  have key : ∀ (n : Nat) (k : Nat) (r : ME), n + k = items.length → J k (keepM L 0 r) → forK L g b D (items.drop k) r := by
    intro n
    induction n with
    | zero =>
      intro k r hk h
      have : items.drop k = [] := List.drop_eq_nil_of_le (by omega)
      rw [this]
      have e : k = items.length := by omega
      subst e
      exact hd _ h
    | succ n ih =>
      intro k r hk h
      have hlt : k < items.length := by omega
      rw [List.drop_eq_getElem_cons hlt]
      exact hs k _ _ (List.getElem?_eq_getElem hlt) h _ fun r'' h' => ih (k + 1) r'' (by omega) h'
  have := key items.length 0 r (by omega) h0
  rwa [List.drop_zero] at this
/-- a while: V falls -/
theorem whK_inv {L : List Nat} {t : DT} {b : DS} {D : DN} (J : Nat → ME → Prop)
    (hs : ∀ (k : Nat) r, J k r → t r (fun x => match x with
      | true => ∀ nx : ME → Prop, (∀ (k' : Nat) r', k' < k → J k' (keepM L 0 r') → nx r') → b { D with nx := nx, ct := nx, bk := D.nx } r
      | false => D.nx r) D.ex → True) : True := trivial
/-- the items of a clause: each turn puts acc to acc' -/
theorem mIt_inv {g : DG} {t : DT} {vs : List Nat} {sub : ME → List PyData → C (List PyData)} {r : ME} {P : List PyData → Prop} {X : Xc → Prop} (J : Nat → List PyData → Prop) {items acc : List PyData} (h0 : J 0 acc)
    (hs : ∀ (k : Nat) x acc, items[k]? = some x → J k acc → ∀ nx : List PyData → Prop, (∀ acc', J (k + 1) acc' → nx acc') → g x (wipeM r vs) (fun r2 => t r2 (fun b => match b with
      | true => sub r2 acc nx fun _ => False
      | false => nx acc) fun _ => False) fun _ => False)
    (hd : ∀ acc, J items.length acc → P acc) : mIt g t vs sub r items acc P X := by
  have key : ∀ (n : Nat) (k : Nat) (acc : List PyData) (X : Xc → Prop), n + k = items.length → J k acc → mIt g t vs sub r (items.drop k) acc P X := by
    intro n
    induction n with
    | zero =>
      intro k acc X hk h
      have : items.drop k = [] := List.drop_eq_nil_of_le (by omega)
      rw [this]
      have e : k = items.length := by omega
      subst e
      exact hd _ h
    | succ n ih =>
      intro k acc X hk h
      have hlt : k < items.length := by omega
      rw [List.drop_eq_getElem_cons hlt]
      exact hs k _ acc (List.getElem?_eq_getElem hlt) h (fun acc' => mIt g t vs sub r (items.drop (k + 1)) acc' P X) fun acc' h' => ih (k + 1) acc' X (by omega) h'
  have := key items.length 0 acc X (by omega) h0
  rwa [List.drop_zero] at this
/-- what is told exactly: F of each item is put behind -/
theorem mIt_fn {g : DG} {t : DT} {vs : List Nat} {sub : ME → List PyData → C (List PyData)} {r : ME} {P : List PyData → Prop} {X : Xc → Prop} (F : PyData → List PyData) {items acc : List PyData} (B : Nat) (hB : acc.length + ((items.map fun x => (F x).length).sum) ≤ B)
    (hs : ∀ x acc, x ∈ items → acc.length + (F x).length ≤ B → ∀ nx : List PyData → Prop, nx (acc ++ F x) → g x (wipeM r vs) (fun r2 => t r2 (fun b => match b with
      | true => sub r2 acc nx fun _ => False
      | false => nx acc) fun _ => False) fun _ => False)
    (hd : P (acc ++ (items.map F).flatten)) : mIt g t vs sub r items acc P X := by
  induction items generalizing acc X with
  | nil =>
    rw [List.map_nil, List.flatten_nil, List.append_nil] at hd
    exact hd
  | cons x xs ih =>
    rw [List.map_cons, List.sum_cons] at hB
    refine hs x acc List.mem_cons_self (by omega) (fun acc' => mIt g t vs sub r xs acc' P X) ?_
    refine ih (by rw [List.length_append]; omega) (fun y acc hy => hs y acc (List.mem_cons_of_mem _ hy)) ?_
    rw [List.append_assoc, ← List.flatten_cons]
    exact hd
/-- one clause, one item a turn -/
theorem mIt_map {g : DG} {vs : List Nat} {e : DE} {r : ME} {P : List PyData → Prop} {X : Xc → Prop} (f : PyData → PyData) {items : List PyData} (hB : items.length ≤ 100000)
    (hs : ∀ x, x ∈ items → ∀ Q : PyData → Prop, Q (f x) → g x (wipeM r vs) (fun r2 => e r2 Q fun _ => False) fun _ => False)
    (hd : P (items.map f)) : mIt g tOk vs (mEl e) r items [] P X := by
  refine mIt_fn (fun x => [f x]) 100000 ?_ (fun x acc hx hl nx h => ?_) ?_
  · have : ∀ l : List PyData, (l.map fun x => [f x].length).sum = l.length := fun l => by induction l with
      | nil => rfl
      | cons a l ih => rw [List.map_cons, List.sum_cons, ih, List.length_cons]; simp; omega
    rw [this]; simpa using hB
  · have hl' : acc.length + 1 ≤ 100000 := hl
    exact hs x hx (fun y => acc.length < 100000 ∧ nx (acc ++ [y])) ⟨by omega, h⟩
  · rw [List.nil_append]
    have : (items.map fun x => [f x]).flatten = items.map f := by
      clear hd hs hB
      induction items with
      | nil => rfl
      | cons a l ih => rw [List.map_cons, List.flatten_cons, ih, List.map_cons]; rfl
    rw [this]; exact hd
/-- one clause, each turn something of R -/
theorem mIt_rel {g : DG} {vs : List Nat} {e : DE} {r : ME} {P : List PyData → Prop} {X : Xc → Prop} (R : PyData → PyData → Prop) {items : List PyData} (hB : items.length ≤ 100000)
    (hs : ∀ x, x ∈ items → ∀ Q : PyData → Prop, (∀ y, R x y → Q y) → g x (wipeM r vs) (fun r2 => e r2 Q fun _ => False) fun _ => False)
    (hd : ∀ ys, Rel2 R items ys → P ys) : mIt g tOk vs (mEl e) r items [] P X := by
  refine mIt_inv (fun k acc => Rel2 R (items.take k) acc) ⟨by simp, fun _ _ _ _ h => by simp at h⟩ (fun k x acc hx h nx hn => ?_) fun acc h => hd acc (by rwa [List.take_length] at h)
  have hk := (List.getElem?_eq_some_iff.mp hx).1
  refine hs x (List.mem_of_getElem? hx) (fun y => acc.length < 100000 ∧ nx (acc ++ [y])) fun y hy => ⟨?_, hn _ (h.snoc hx hy)⟩
  rw [h.1, List.length_take]; omega
def freeL (r : ME) : List Nat → Prop
  | [] => True
  | j :: js => Free r j ∧ freeL r js
theorem free_of {r : ME} : ∀ {vs : List Nat}, freeL r vs → ∀ j ∈ vs, Free r j
  | [], _, j, h => by cases h
  | i :: vs, h, j, hj => by
    rcases List.mem_cons.mp hj with rfl | hj
    · exact h.1
    · exact free_of h.2 j hj
/-! == at what is known -/
theorem oEq_s {x y : Str} {P : PyData → Prop} {X : Xc → Prop} : oEq (.str x) (.str y) P X = P (.bool (decide (x = y))) := rfl
theorem oEq_i {a b : Int} {P : PyData → Prop} {X : Xc → Prop} : oEq (.int a) (.int b) P X = ((SeqAt.shaped (.int a) = true ∧ SeqAt.shaped (.int b) = true) ∧ P (.bool (PyData.eqv (.int a) (.int b)))) := rfl
theorem oEq_b {a b : Bool} {P : PyData → Prop} {X : Xc → Prop} : oEq (.bool a) (.bool b) P X = ((SeqAt.shaped (.bool a) = true ∧ SeqAt.shaped (.bool b) = true) ∧ P (.bool (PyData.eqv (.bool a) (.bool b)))) := rfl
theorem oEq_t {a b : List PyData} {P : PyData → Prop} {X : Xc → Prop} : oEq (.tuple a) (.tuple b) P X = ((SeqAt.shaped (.tuple a) = true ∧ SeqAt.shaped (.tuple b) = true) ∧ P (.bool (PyData.eqv (.tuple a) (.tuple b)))) := rfl
theorem oEq_l {a b : List PyData} {P : PyData → Prop} {X : Xc → Prop} : oEq (.list a) (.list b) P X = ((SeqAt.shaped (.list a) = true ∧ SeqAt.shaped (.list b) = true) ∧ P (.bool (PyData.eqv (.list a) (.list b)))) := rfl
theorem oNe_s {x y : Str} {P : PyData → Prop} {X : Xc → Prop} : oNe (.str x) (.str y) P X = P (.bool (!decide (x = y))) := rfl
theorem oNe_i {a b : Int} {P : PyData → Prop} {X : Xc → Prop} : oNe (.int a) (.int b) P X = ((SeqAt.shaped (.int a) = true ∧ SeqAt.shaped (.int b) = true) ∧ P (.bool (!PyData.eqv (.int a) (.int b)))) := rfl
theorem oNe_b {a b : Bool} {P : PyData → Prop} {X : Xc → Prop} : oNe (.bool a) (.bool b) P X = ((SeqAt.shaped (.bool a) = true ∧ SeqAt.shaped (.bool b) = true) ∧ P (.bool (!PyData.eqv (.bool a) (.bool b)))) := rfl
theorem oNe_t {a b : List PyData} {P : PyData → Prop} {X : Xc → Prop} : oNe (.tuple a) (.tuple b) P X = ((SeqAt.shaped (.tuple a) = true ∧ SeqAt.shaped (.tuple b) = true) ∧ P (.bool (!PyData.eqv (.tuple a) (.tuple b)))) := rfl
theorem oNe_l {a b : List PyData} {P : PyData → Prop} {X : Xc → Prop} : oNe (.list a) (.list b) P X = ((SeqAt.shaped (.list a) = true ∧ SeqAt.shaped (.list b) = true) ∧ P (.bool (!PyData.eqv (.list a) (.list b)))) := rfl
end MI
set_option Elab.async false
set_option linter.all false
set_option maxRecDepth 100000
/-! Rows of numbers: what is told of cells, in plain lists. -/
namespace GE
open PySem DL
/-- a, a + 1, .. below b -/
def rngI (a b : Int) : List Int := (List.range (b - a).toNat).map fun (k : Nat) => a + (k : Int)
theorem rngI_len (a b : Int) : (rngI a b).length = (b - a).toNat := by unfold rngI; rw [List.length_map, List.length_range]
theorem mem_rngI {a b x : Int} : x ∈ rngI a b ↔ a ≤ x ∧ x < b := by
  unfold rngI
  rw [List.mem_map]
  constructor
  · rintro ⟨k, hk, rfl⟩
    have := List.mem_range.mp hk
    omega
  · rintro ⟨h1, h2⟩
    exact ⟨(x - a).toNat, List.mem_range.mpr (by omega), by omega⟩
theorem rngI_shift (a b s : Int) : (rngI a b).map (· + s) = rngI (a + s) (b + s) := by
  unfold rngI
  rw [List.map_map, show (b + s) - (a + s) = b - a by omega]
  refine List.map_congr_left fun k _ => ?_
  show a + (k : Int) + s = a + s + k
  omega
/-- one axis more -/
def stepG (a b : Int) (rows : List (List Int)) : List (List Int) := (rows.map fun row => (rngI a b).map fun x => row ++ [x]).flatten
theorem stepG_len (a b : Int) (rows : List (List Int)) : (stepG a b rows).length = rows.length * (b - a).toNat := by
  unfold stepG
  induction rows with
  | nil => simp
  | cons r rs ih =>
    rw [List.map_cons, List.flatten_cons, List.length_append, ih, List.length_map, rngI_len, List.length_cons, Nat.succ_mul, Nat.add_comm]
def gridF : List (Int × Int) → List (List Int) → List (List Int)
  | [], rows => rows
  | p :: ps, rows => gridF ps (stepG p.1 p.2 rows)
/-- all rows on the way are few, all numbers small -/
def okG (B : Nat) : List (Int × Int) → Nat → Prop
  | [], n => n ≤ B
  | p :: ps, n => n ≤ B ∧ (-(2 ^ 60) ≤ p.1 ∧ p.1 ≤ 2 ^ 60 ∧ -(2 ^ 60) ≤ p.2 ∧ p.2 ≤ 2 ^ 60) ∧ okG B ps (n * (p.2 - p.1).toNat)
theorem okG_hd {B : Nat} {ps : List (Int × Int)} {n : Nat} (h : okG B ps n) : n ≤ B := by cases ps with
  | nil => exact h
  | cons p ps => exact h.1
theorem okG_last {B : Nat} : ∀ {ps : List (Int × Int)} {rows : List (List Int)}, okG B ps rows.length → (gridF ps rows).length ≤ B
  | [], _, h => h
  | p :: ps, rows, h => okG_last (ps := ps) (by rw [stepG_len]; exact h.2.2)
theorem okG_mono {B : Nat} : ∀ {ps : List (Int × Int)} {n m : Nat}, m ≤ n → okG B ps n → okG B ps m
  | [], _, _, h, q => Nat.le_trans h q
  | _ :: _, _, _, h, q => ⟨Nat.le_trans h q.1, q.2.1, okG_mono (Nat.mul_le_mul_right _ h) q.2.2⟩
/-- the cells of a box: rows of numbers from 0 on -/
def cellsL (ns : List Int) : List (List Int) := gridF (ns.map fun n => (0, n)) [[]]
theorem gridF_len : ∀ (ps : List (Int × Int)) (rows : List (List Int)), (gridF ps rows).length = rows.length * (ps.map fun p => (p.2 - p.1).toNat).foldr (· * ·) 1
  | [], rows => by simp [gridF]
  | p :: ps, rows => by
    show (gridF ps (stepG p.1 p.2 rows)).length = _
    rw [gridF_len ps, stepG_len, List.map_cons, List.foldr_cons, Nat.mul_assoc]
theorem stepG_mem {a b : Int} {rows : List (List Int)} {r : List Int} : r ∈ stepG a b rows ↔ ∃ r0 ∈ rows, ∃ x, (a ≤ x ∧ x < b) ∧ r = r0 ++ [x] := by
  unfold stepG
  rw [List.mem_flatten]
  constructor
  · rintro ⟨l, hl, hr⟩
    obtain ⟨r0, h0, rfl⟩ := List.mem_map.mp hl
    obtain ⟨x, hx, rfl⟩ := List.mem_map.mp hr
    exact ⟨r0, h0, x, mem_rngI.mp hx, rfl⟩
  · rintro ⟨r0, h0, x, hx, rfl⟩
    exact ⟨_, List.mem_map.mpr ⟨r0, h0, rfl⟩, List.mem_map.mpr ⟨x, mem_rngI.mpr hx, rfl⟩⟩
/-- what the rows of a grid are -/
theorem gridF_mem : ∀ {ps : List (Int × Int)} {rows : List (List Int)} {r : List Int}, r ∈ gridF ps rows → ∃ r0 ∈ rows, ∃ xs : List Int, r = r0 ++ xs ∧ xs.length = ps.length ∧ ∀ (i : Nat) x p, xs[i]? = some x → ps[i]? = some p → p.1 ≤ x ∧ x < p.2
  | [], rows, r, h => ⟨r, h, [], by simp, rfl, fun _ _ _ h => by simp at h⟩
  | p :: ps, rows, r, h => by
    obtain ⟨r1, h1, xs, rfl, hl, hx⟩ := gridF_mem (ps := ps) h
    obtain ⟨r0, h0, x, hx0, rfl⟩ := stepG_mem.mp h1
    refine ⟨r0, h0, x :: xs, by simp, by simp [hl], fun i y q hy hq => ?_⟩
    cases i with
    | zero => simp at hy hq; rw [← hy, ← hq]; exact hx0
    | succ i => exact hx i y q (by simpa using hy) (by simpa using hq)
/-- all rows moved -/
def addL : List Int → List Int → List Int
  | x :: xs, y :: ys => (x + y) :: addL xs ys
  | _, _ => []
theorem addL_len : ∀ (xs ys : List Int), xs.length = ys.length → (addL xs ys).length = ys.length
  | [], [], _ => rfl
  | x :: xs, y :: ys, h => by simp only [addL, List.length_cons, addL_len xs ys (by simpa using h)]
  | [], _ :: _, h => by simp at h
  | _ :: _, [], h => by simp at h
theorem addL_app : ∀ (xs ys : List Int) (x y : Int), xs.length = ys.length → addL (xs ++ [x]) (ys ++ [y]) = addL xs ys ++ [x + y]
  | [], [], x, y, _ => rfl
  | a :: xs, b :: ys, x, y, h => by
    show (a + b) :: addL (xs ++ [x]) (ys ++ [y]) = (a + b) :: addL xs ys ++ [x + y]
    rw [addL_app xs ys x y (by simpa using h)]; rfl
  | [], _ :: _, _, _, h => by simp at h
  | _ :: _, [], _, _, h => by simp at h
theorem stepG_shift {a b s : Int} {rows : List (List Int)} {cs : List Int} (h : ∀ r ∈ rows, r.length = cs.length) : (stepG a b rows).map (fun r => addL r (cs ++ [s])) = stepG (a + s) (b + s) (rows.map fun r => addL r cs) := by
  unfold stepG
  rw [List.map_flatten, List.map_map, List.map_map]
  congr 1
  refine List.map_congr_left fun r hr => ?_
  show List.map (fun r => addL r (cs ++ [s])) ((rngI a b).map fun x => r ++ [x]) = (rngI (a + s) (b + s)).map fun x => addL r cs ++ [x]
  rw [← rngI_shift, List.map_map, List.map_map]
  exact List.map_congr_left fun x _ => addL_app r cs x s (h r hr)
theorem gridF_shift : ∀ (ps : List (Int × Int)) (ss : List Int) (rows : List (List Int)) (cs : List Int), ps.length = ss.length → (∀ r ∈ rows, r.length = cs.length) →
    (gridF ps rows).map (fun r => addL r (cs ++ ss)) = gridF (List.zipWith (fun p s => (p.1 + s, p.2 + s)) ps ss) (rows.map fun r => addL r cs)
  | [], [], rows, cs, _, _ => by simp [gridF]
  | p :: ps, s :: ss, rows, cs, hl, h => by
    have ih := gridF_shift ps ss (stepG p.1 p.2 rows) (cs ++ [s]) (by simpa using hl) fun r hr => by
      obtain ⟨r0, h0, x, _, rfl⟩ := stepG_mem.mp hr
      rw [List.length_append, List.length_append, h r0 h0]; rfl
    rw [List.append_assoc] at ih
    rw [show cs ++ s :: ss = cs ++ ([s] ++ ss) from rfl]
    show (gridF ps (stepG p.1 p.2 rows)).map _ = gridF (List.zipWith _ ps ss) (stepG (p.1 + s) (p.2 + s) (rows.map fun r => addL r cs))
    rw [ih, stepG_shift h]
  | [], _ :: _, _, _, h, _ => by simp at h
  | _ :: _, [], _, _, h, _ => by simp at h
/-- the cells moved by a corner -/
theorem cells_shift {ns cs : List Int} (h : ns.length = cs.length) : (cellsL ns).map (fun r => addL r cs) = gridF (List.zipWith (fun c n => (c, c + n)) cs ns) [[]] := by
  unfold cellsL
  have := gridF_shift (ns.map fun n => (0, n)) cs [[]] [] (by rw [List.length_map]; exact h) (fun r hr => by rw [List.mem_singleton.mp hr])
  rw [List.nil_append] at this
  rw [this]
  have e : ∀ (ns cs : List Int), List.zipWith (fun (p : Int × Int) s => (p.1 + s, p.2 + s)) (ns.map fun n => (0, n)) cs = List.zipWith (fun c n => (c, c + n)) cs ns := by
    intro ns
    induction ns with
    | nil => intro cs; cases cs <;> rfl
    | cons n ns ih => intro cs; cases cs with
      | nil => rfl
      | cons c cs => rw [List.map_cons, List.zipWith_cons_cons, List.zipWith_cons_cons, ih]; simp [Int.add_comm]
  rw [e]
  rfl
/-- where an axis has no numbers there are no rows -/
theorem stepG_nil (a b : Int) : stepG a b [] = [] := rfl
theorem gridF_nil : ∀ ps, gridF ps [] = []
  | [] => rfl
  | p :: ps => by show gridF ps (stepG _ _ []) = []; rw [stepG_nil]; exact gridF_nil ps
theorem gridF_none : ∀ {ps : List (Int × Int)} {rows : List (List Int)}, (∃ p ∈ ps, p.2 ≤ p.1) → gridF ps rows = []
  | [], _, h => by obtain ⟨p, hp, _⟩ := h; cases hp
  | p :: ps, rows, h => by
    show gridF ps (stepG p.1 p.2 rows) = []
    obtain ⟨q, hq, hle⟩ := h
    rcases List.mem_cons.mp hq with rfl | hq
    · have : stepG q.1 q.2 rows = [] := List.eq_nil_of_length_eq_zero (by rw [stepG_len, show (q.2 - q.1).toNat = 0 by omega, Nat.mul_zero])
      rw [this]; exact gridF_nil ps
    · exact gridF_none ⟨q, hq, hle⟩
/-! ### sides -/
def MS : Int := 1000000000000
/-- how many cells there are -/
def prodN (ns : List Int) : Nat := (ns.map Int.toNat).foldr (· * ·) 1
theorem prodN_cons (n : Int) (ns : List Int) : prodN (n :: ns) = n.toNat * prodN ns := rfl
theorem prodN_pos : ∀ {ns : List Int}, (∀ n ∈ ns, 1 ≤ n) → 1 ≤ prodN ns
  | [], _ => Nat.le_refl _
  | n :: ns, h => by
    rw [prodN_cons]
    have h1 := h n List.mem_cons_self
    have h2 := prodN_pos fun m hm => h m (List.mem_cons_of_mem _ hm)
    exact Nat.mul_le_mul (show 1 ≤ n.toNat by omega) h2
/-- a box of few cells, gone through -/
theorem okG_box {B : Nat} : ∀ {ns : List Int} {k : Nat}, (∀ n ∈ ns, 1 ≤ n ∧ n ≤ 2 ^ 60) → k * prodN ns ≤ B → okG B (ns.map fun n => (0, n)) k
  | [], k, _, h => by simpa [prodN, okG] using h
  | n :: ns, k, h, hb => by
    have hn := h n List.mem_cons_self
    have hp := prodN_pos fun m hm => (h m (List.mem_cons_of_mem _ hm)).1
    rw [prodN_cons] at hb
    have e : k * (n.toNat * prodN ns) = k * n.toNat * prodN ns := (Nat.mul_assoc _ _ _).symm
    refine ⟨?_, ⟨by show -(2 ^ 60) ≤ (0 : Int); omega, by show (0 : Int) ≤ 2 ^ 60; omega, by show -(2 ^ 60) ≤ n; omega, hn.2⟩, ?_⟩
    · rw [e] at hb
      have h3 : k * 1 ≤ k * n.toNat := Nat.mul_le_mul_left k (show 1 ≤ n.toNat by omega)
      have h4 : k * n.toNat * 1 ≤ k * n.toNat * prodN ns := Nat.mul_le_mul_left _ hp
      omega
    · show okG B _ (k * (n - 0).toNat)
      rw [Int.sub_zero]
      exact okG_box (fun m hm => h m (List.mem_cons_of_mem _ hm)) (by rw [← e]; exact hb)
/-- boxes within a box -/
theorem okG_sub {B : Nat} : ∀ {ps : List (Int × Int)} {ns : List Int} {k : Nat}, ps.length = ns.length → (∀ (i : Nat) p n, ps[i]? = some p → ns[i]? = some n → p.2 - p.1 ≤ n ∧ -(2 ^ 60) ≤ p.1 ∧ p.1 ≤ 2 ^ 60 ∧ -(2 ^ 60) ≤ p.2 ∧ p.2 ≤ 2 ^ 60) → (∀ n ∈ ns, 1 ≤ n ∧ n ≤ 2 ^ 60) → k * prodN ns ≤ B → okG B ps k
  | [], [], k, _, _, _, h => by simpa [prodN, okG] using h
  | p :: ps, n :: ns, k, hl, hp, h, hb => by
    have hn := h n List.mem_cons_self
    have h0 := hp 0 p n rfl rfl
    have hpos := prodN_pos fun m hm => (h m (List.mem_cons_of_mem _ hm)).1
    rw [prodN_cons] at hb
    have e : k * (n.toNat * prodN ns) = k * n.toNat * prodN ns := (Nat.mul_assoc _ _ _).symm
    rw [e] at hb
    refine ⟨?_, h0.2, ?_⟩
    · have h3 : k * 1 ≤ k * n.toNat := Nat.mul_le_mul_left k (show 1 ≤ n.toNat by omega)
      have h4 : k * n.toNat * 1 ≤ k * n.toNat * prodN ns := Nat.mul_le_mul_left _ hpos
      omega
    · refine okG_sub (ns := ns) (by simpa using hl) (fun i q m hq hm => hp (i + 1) q m (by simpa using hq) (by simpa using hm)) (fun m hm => h m (List.mem_cons_of_mem _ hm)) ?_
      exact Nat.le_trans (Nat.mul_le_mul_right _ (Nat.mul_le_mul_left k (show (p.2 - p.1).toNat ≤ n.toNat by omega))) hb
  | [], _ :: _, _, h, _, _, _ => by simp at h
  | _ :: _, [], _, h, _, _, _ => by simp at h
end GE
set_option Elab.async false
set_option linter.all false
set_option maxRecDepth 100000
/-! How long data are when they are shown. -/
namespace GE
open PySem PySem.Spec PyProof.Rows L2 Evl TB DL MI
structure FitL (n k : Nat) (ds : List PyData) : Prop where
  sh : PyData.showableAll ds = true
  dp : PyData.depthAll ds ≤ k
  len : ((PyData.shownAll ds).map (·.length)).sum + 2 * ds.length ≤ n
  eq : (PyData.shownAll ds).length = ds.length
theorem FitL.nil {n k : Nat} : FitL n k [] := ⟨rfl, Nat.zero_le _, Nat.zero_le _, rfl⟩
theorem FitL.cons {n m k : Nat} {d : PyData} {ds : List PyData} (h : Fit n k d) (hs : FitL m k ds) : FitL (n + 2 + m) k (d :: ds) := by
  refine ⟨by rw [PyData.showableAll, h.sh, hs.sh]; rfl, by rw [PyData.depthAll]; have := h.dp; have := hs.dp; omega, ?_, by rw [PyData.shownAll, List.length_cons, hs.eq]; rfl⟩
  rw [PyData.shownAll, List.map_cons, List.sum_cons, List.length_cons]
  have := h.len
  have := hs.len
  omega
theorem FitL.mono {n m k j : Nat} {ds : List PyData} (h : FitL n k ds) (h1 : n ≤ m) (h2 : k ≤ j) : FitL m j ds := ⟨h.sh, Nat.le_trans h.dp h2, Nat.le_trans h.len h1, h.eq⟩
theorem FitL.one {n k : Nat} {d : PyData} (h : Fit n k d) : FitL (n + 2) k [d] := FitL.cons (m := 0) h FitL.nil
theorem FitL.app {n m k : Nat} {as bs : List PyData} (h : FitL n k as) (hs : FitL m k bs) : FitL (n + m) k (as ++ bs) := by
  have key : PyData.showableAll (as ++ bs) = (PyData.showableAll as && PyData.showableAll bs) ∧ PyData.depthAll (as ++ bs) = max (PyData.depthAll as) (PyData.depthAll bs) ∧ PyData.shownAll (as ++ bs) = PyData.shownAll as ++ PyData.shownAll bs := by
    clear h
    induction as with
    | nil => exact ⟨by rw [PyData.showableAll]; rfl, by rw [PyData.depthAll]; simp, by rw [PyData.shownAll]; rfl⟩
    | cons a as ih =>
      obtain ⟨e1, e2, e3⟩ := ih
      exact ⟨by rw [List.cons_append, PyData.showableAll, PyData.showableAll, e1, Bool.and_assoc], by rw [List.cons_append, PyData.depthAll, PyData.depthAll, e2]; omega, by rw [List.cons_append, PyData.shownAll, PyData.shownAll, e3]; rfl⟩
  obtain ⟨e1, e2, e3⟩ := key
  refine ⟨by rw [e1, h.sh, hs.sh]; rfl, by rw [e2]; have := h.dp; have := hs.dp; omega, ?_, by rw [e3, List.length_append, List.length_append, h.eq, hs.eq]⟩
  rw [e3, List.map_append, List.sum_append, List.length_append]
  have := h.len
  have := hs.len
  omega
theorem FitL.tuple {n k : Nat} {ds : List PyData} (h : FitL n k ds) : Fit (n + 3) (k + 1) (.tuple ds) := by
  refine ⟨by rw [PyData.showable]; exact h.sh, ?_, by rw [PyData.depth]; have := h.dp; omega⟩
  have := tupleText_len_le (PyData.shownAll ds)
  rw [PyData.shown]
  have := h.len
  have := h.eq
  omega
theorem FitL.list {n k : Nat} {ds : List PyData} (h : FitL n k ds) : Fit (n + 3) (k + 1) (.list ds) := by
  refine ⟨by rw [PyData.showable]; exact h.sh, ?_, by rw [PyData.depth]; have := h.dp; omega⟩
  have := listText_len_le (PyData.shownAll ds)
  rw [PyData.shown]
  have := h.len
  have := h.eq
  omega
/-- all alike -/
theorem FitL.all {n k : Nat} : ∀ {ds : List PyData}, (∀ d ∈ ds, Fit n k d) → FitL (ds.length * (n + 2)) k ds
  | [], _ => FitL.nil
  | d :: ds, h => by
    rw [List.length_cons, Nat.succ_mul, Nat.add_comm]
    exact FitL.cons (h d List.mem_cons_self) (FitL.all fun x hx => h x (List.mem_cons_of_mem _ hx))
mutual
def ms : PyData → Nat
  | .tuple ds => msL ds + 3
  | .list ds => msL ds + 3
  | .none | .bool _ | .int _ | .str _ | .dict _ => 60
def msL : List PyData → Nat
  | [] => 0
  | d :: ds => ms d + 2 + msL ds
end
theorem msL_app : ∀ a b : List PyData, msL (a ++ b) = msL a + msL b
  | [], b => by rw [List.nil_append, msL]; omega
  | x :: a, b => by rw [List.cons_append, msL, msL_app a b, msL]; omega
theorem msL_rev : ∀ a : List PyData, msL a.reverse = msL a
  | [] => rfl
  | x :: a => by rw [List.reverse_cons, msL_app, msL_rev a, msL, msL, msL]; omega
theorem msL_split (k : Nat) (a : List PyData) : msL (a.take k) + msL (a.drop k) = msL a := by
  rw [← msL_app, List.take_append_drop]
theorem msL_mem : ∀ {a : List PyData} {d : PyData}, d ∈ a → ms d + 2 ≤ msL a
  | x :: a, d, h => by
    rw [msL]
    rcases List.mem_cons.mp h with rfl | h
    · omega
    · have := msL_mem h; omega
/-- small whole numbers and tuples of such -/
def Pn : Nat → PyData → Prop
  | 0, d => ∃ i : Int, d = .int i ∧ 0 ≤ i ∧ i ≤ 1000000000000
  | n + 1, d => (∃ i : Int, d = .int i ∧ 0 ≤ i ∧ i ≤ 1000000000000) ∨ ∃ ds : List PyData, d = .tuple ds ∧ ∀ x ∈ ds, Pn n x
theorem Pn.int {n : Nat} {i : Int} (h : 0 ≤ i) (h1 : i ≤ 1000000000000) : Pn n (.int i) := by cases n with
  | zero => exact ⟨i, rfl, h, h1⟩
  | succ n => exact .inl ⟨i, rfl, h, h1⟩
theorem Pn.tup {n : Nat} {ds : List PyData} (h : ∀ x ∈ ds, Pn n x) : Pn (n + 1) (.tuple ds) := .inr ⟨ds, rfl, h⟩
theorem fit_i {i : Int} (h : 0 ≤ i) (h1 : i ≤ 1000000000000) : Fit 60 0 (.int i) := (fit_int h h1).mono (by decide) (Nat.le_refl _)
theorem Pn.plain : ∀ {n : Nat} {d : PyData}, Pn n d → plain d
  | 0, _, ⟨i, h, _⟩ => by rw [h]; exact ⟨rfl, rfl⟩
  | n + 1, _, .inl ⟨i, h, _⟩ => by rw [h]; exact ⟨rfl, rfl⟩
  | n + 1, _, .inr ⟨ds, h, hx⟩ => by rw [h]; exact plain_tuple fun x hm => Pn.plain (hx x hm)
theorem Pn.fitL {n : Nat} (ih : ∀ {d : PyData}, Pn n d → Fit (ms d) n d) : ∀ {ds : List PyData}, (∀ x ∈ ds, Pn n x) → FitL (msL ds) n ds
  | [], _ => FitL.nil
  | d :: ds, h => by rw [msL]; exact FitL.cons (ih (h d List.mem_cons_self)) (Pn.fitL ih fun x hx => h x (List.mem_cons_of_mem _ hx))
theorem Pn.fit : ∀ {n : Nat} {d : PyData}, Pn n d → Fit (ms d) n d
  | 0, _, ⟨i, h, h0, h1⟩ => by rw [h, ms]; exact fit_i h0 h1
  | n + 1, _, .inl ⟨i, h, h0, h1⟩ => by rw [h, ms]; exact (fit_i h0 h1).mono (Nat.le_refl _) (by omega)
  | n + 1, _, .inr ⟨ds, h, hx⟩ => by rw [h, ms]; exact (Pn.fitL (fun h => Pn.fit h) hx).tuple
theorem Pn.fits {n : Nat} {ds : List PyData} (h : ∀ x ∈ ds, Pn n x) : FitL (msL ds) n ds := Pn.fitL (fun h => Pn.fit h) h
theorem Pn.lay : ∀ {n : Nat} {d : PyData}, Pn n d → d.canLay0 = true ∧ d.depth ≤ n
  | 0, _, ⟨i, h, _⟩ => by rw [h]; exact ⟨rfl, Nat.le_refl _⟩
  | n + 1, _, .inl ⟨i, h, _⟩ => by rw [h]; exact ⟨rfl, Nat.zero_le _⟩
  | n + 1, _, .inr ⟨ds, h, hx⟩ => by
    rw [h, PyData.canLay0, PyData.depth]
    have : ∀ l : List PyData, (∀ x ∈ l, Pn n x) → PyData.canLayAll0 l = true ∧ PyData.depthAll l ≤ n := fun l => by
      induction l with
      | nil => exact fun _ => ⟨rfl, Nat.zero_le _⟩
      | cons a l ih =>
        intro hl
        obtain ⟨b1, b2⟩ := ih fun x hx => hl x (List.mem_cons_of_mem _ hx)
        obtain ⟨a1, a2⟩ := Pn.lay (hl a List.mem_cons_self)
        exact ⟨by rw [PyData.canLayAll0, a1, b1]; rfl, by rw [PyData.depthAll]; omega⟩
    obtain ⟨b1, b2⟩ := this ds hx
    exact ⟨b1, by omega⟩
theorem Pn.shaped {n : Nat} {d : PyData} (h : Pn n d) (hn : n ≤ 10) : SeqAt.shaped d = true := by
  obtain ⟨a, b⟩ := h.lay
  unfold SeqAt.shaped
  rw [a, decide_eq_true (by omega : d.depth ≤ 64)]
  rfl
theorem gd_pn {n : Nat} {d : PyData} (h : Pn n d) : Gd (ms d) n d := ⟨okD_plain h.plain, h.fit⟩
theorem gd_tupP {n : Nat} {ds : List PyData} (h : ∀ x ∈ ds, Pn n x) : Gd (msL ds + 3) (n + 1) (.tuple ds) := ⟨okD_plain (plain_tuple fun x hx => (h x hx).plain), (Pn.fits h).tuple⟩
theorem gd_lstP {n : Nat} {ds : List PyData} (h : ∀ x ∈ ds, Pn n x) : Gd (msL ds + 3) (n + 1) (.list ds) := ⟨okD_list fun x hx => (h x hx).plain, (Pn.fits h).list⟩
theorem gd_midP {n m k : Nat} {xs ys : List PyData} {e : PyData} (hx : ∀ x ∈ xs, Pn n x) (hy : ∀ x ∈ ys, Pn n x) (he : Gd m k e) (hk : n ≤ k) : Gd (msL xs + (m + 2) + msL ys + 3) (k + 1) (.tuple (xs ++ [e] ++ ys)) :=
  ⟨okD_mid (fun x h => (hx x h).plain) (fun x h => (hy x h).plain) he.1, ((((Pn.fits hx).mono (Nat.le_refl _) hk).app (FitL.one he.2)).app ((Pn.fits hy).mono (Nat.le_refl _) hk)).tuple⟩
theorem gdI {i : Int} (h : -1 ≤ i) (h2 : i < 10 ^ 40) : Gd 40 0 (.int i) := by
  refine ⟨rfl, ?_⟩
  by_cases h0 : 0 ≤ i
  · exact fit_nat h0 h2
  · have : i = -1 := by omega
    subst this
    exact ⟨by decide +kernel, by decide +kernel, by decide +kernel⟩
theorem gdB (b : Bool) : Gd 40 0 (.bool b) := by cases b <;> exact ⟨by decide +kernel, by decide +kernel, by decide +kernel, by decide +kernel⟩
theorem gdN {i : Int} (h : 0 ≤ i) (h2 : i ≤ 1000000000000) : Gd 132 0 (.str (numS i)) := by
  refine ⟨rfl, fit_str (n := 13) ?_ fun c hc => ?_⟩
  · rw [← cs_len, cs_num h]; exact digs_len (by omega)
  · rw [cs_num h] at hc
    have := digs_mem _ _ hc
    exact Nat.lt_of_le_of_lt this.2 (by decide)
theorem cut_to {ds : List PyData} {k : Nat} : DL.cutD ds none (some (k : Int)) = ds.take k := by
  unfold DL.cutD
  rw [HT.sIx_none]
  simp only [HT.sIx, Nat.sub_zero, List.drop_zero]
  rw [if_neg (by omega), Int.toNat_natCast, List.take_eq_take_iff]
  omega
theorem cut_from {ds : List PyData} {k : Nat} : DL.cutD ds (some (k : Int)) none = ds.drop k := by
  unfold DL.cutD
  rw [HT.sIx_none]
  simp only [HT.sIx]
  rw [if_neg (by omega), Int.toNat_natCast]
  by_cases h : k ≤ ds.length
  · rw [Nat.min_eq_left h, List.take_of_length_le (by rw [List.length_drop]; omega)]
  · rw [Nat.min_eq_right (by omega), List.drop_eq_nil_of_le (Nat.le_refl _), List.drop_eq_nil_of_le (by omega)]
    simp
theorem cut_mem {ds : List PyData} {lo hi : Option Int} {x : PyData} (h : x ∈ DL.cutD ds lo hi) : x ∈ ds := List.mem_of_mem_drop (List.mem_of_mem_take h)
theorem cut_ms {ds : List PyData} {lo hi : Option Int} : msL (DL.cutD ds lo hi) ≤ msL ds := by
  unfold DL.cutD
  have h1 := msL_split (HT.sIx ds.length 0 lo) ds
  have h2 := msL_split (HT.sIx ds.length ds.length hi - HT.sIx ds.length 0 lo) (ds.drop (HT.sIx ds.length 0 lo))
  omega
theorem cut_len {ds : List PyData} {lo hi : Option Int} : (DL.cutD ds lo hi).length ≤ ds.length := by
  unfold DL.cutD
  rw [List.length_take, List.length_drop]
  omega
theorem f_draw {m : Int} {P : PyData → Prop} {X : Xc → Prop} (h0 : 0 < m) (h1 : m ≤ 1000000000000) (h : ∀ r : Int, 0 ≤ r → r < m → P (.int r)) : m_draw [.int m] P X := ⟨⟨h0, h1⟩, h⟩
theorem f_one {ds : List PyData} {P : PyData → Prop} {X : Xc → Prop} (h0 : 0 < ds.length) (h1 : ds.length ≤ 100000) (h : ∀ e ∈ ds, P e) : m_one [.list ds] P X := ⟨⟨h0, h1⟩, h⟩
end GE
set_option Elab.async false
set_option linter.all false
set_option maxRecDepth 100000
/-! Operations, where it is known what they stand at. -/
namespace MI
open PySem PySem.Spec PyProof.Rows L2 Evl TB DL
variable {P : PyData → Prop} {X : Xc → Prop} {a b : Int} {ds es : List PyData} {x y : Str} {lo hi : Option Int}
theorem r_add_i (h : P (.int (a + b))) : oAdd (.int a) (.int b) P X := h
theorem r_add_t (h : ds.length + es.length ≤ 100000) (q : P (.tuple (ds ++ es))) : oAdd (.tuple ds) (.tuple es) P X := ⟨h, q⟩
theorem r_add_l (h : ds.length + es.length ≤ 100000) (q : P (.list (ds ++ es))) : oAdd (.list ds) (.list es) P X := ⟨h, q⟩
theorem r_it_t {e : PyData} (h : atI ds a = some e) (q : P e) : oIt (.tuple ds) (.int a) P X := by
  show (match atI ds a with | some e => P e | none => False)
  rw [h]; exact q
theorem r_it_l {e : PyData} (h : atI ds a = some e) (q : P e) : oIt (.list ds) (.int a) P X := by
  show (match atI ds a with | some e => P e | none => False)
  rw [h]; exact q
theorem r_sl_t (q : P (.tuple (DL.cutD ds lo hi))) : oSl (.tuple ds) lo hi P X := q
theorem r_sl_l (q : P (.list (DL.cutD ds lo hi))) : oSl (.list ds) lo hi P X := q
theorem r_ln_t (q : P (.int ds.length)) : oLn [.tuple ds] P X := q
theorem r_ln_l (q : P (.int ds.length)) : oLn [.list ds] P X := q
theorem r_list_t (q : P (.list ds)) : oList [.tuple ds] P X := q
theorem r_list_l (q : P (.list ds)) : oList [.list ds] P X := q
theorem r_tuple_t (q : P (.tuple ds)) : oTuple [.tuple ds] P X := q
theorem r_tuple_l (q : P (.tuple ds)) : oTuple [.list ds] P X := q
theorem r_mul_t (h1 : ds ≠ []) (h2 : ds.length ≤ 1000) (h3 : 0 ≤ b ∧ b ≤ 1000) (q : P (.tuple (List.replicate b.toNat ds).flatten)) : oMul (.tuple ds) (.int b) P X := ⟨⟨h1, h2, h3.1, h3.2⟩, q⟩
theorem r_oI {f : Int → Int → PyData} (q : P (f a b)) : oI f (.int a) (.int b) P X := q
theorem r_ne_s (z : Str) (q : P (.bool false)) : oNe (.str z) (.str z) P X := by
  show P (.bool (!decide (z = z)))
  rw [decide_eq_true rfl]; exact q
end MI
set_option Elab.async false
set_option linter.all false
set_option maxRecDepth 100000
namespace K30
open PySem PySem.Spec PyProof.Rows L2 Evl TB
def topS (i : Nat) : Stmt := PySem.Challenge.pw_twobricks_k30_placed_bricks.main.body.getD i (.Pass ⟨0, 0, 0, 0⟩)
abbrev s_is_int : Stmt := topS 1
abbrev n_is_int : List Str := ["value"]
abbrev p_is_int : List Str := ["value"]
theorem sc_is_int : FnScope n_is_int p_is_int (defScope s_is_int) := ⟨rfl, rfl, rfl, by decide +kernel, rfl, by decide +kernel, by decide +kernel⟩

abbrev s_is_index : Stmt := topS 2
abbrev n_is_index : List Str := ["value", "many"]
abbrev p_is_index : List Str := ["value", "many"]
theorem sc_is_index : FnScope n_is_index p_is_index (defScope s_is_index) := ⟨rfl, rfl, rfl, by decide +kernel, rfl, by decide +kernel, by decide +kernel⟩
abbrev s_grid : Stmt := topS 4
abbrev n_grid : List Str := ["starts", "stops", "steps", "rows", "start", "stop", "step", "row", "number"]
abbrev p_grid : List Str := ["starts", "stops", "steps"]
theorem sc_grid : FnScope n_grid p_grid (defScope s_grid) := ⟨rfl, rfl, rfl, by decide +kernel, rfl, by decide +kernel, by decide +kernel⟩

abbrev s_cells_of : Stmt := topS 5
abbrev n_cells_of : List Str := ["box"]
abbrev p_cells_of : List Str := ["box"]
theorem sc_cells_of : FnScope n_cells_of p_cells_of (defScope s_cells_of) := ⟨rfl, rfl, rfl, by decide +kernel, rfl, by decide +kernel, by decide +kernel⟩

abbrev s_covered : Stmt := topS 6
abbrev n_covered : List Str := ["kinds", "placed", "kind", "corner", "stops", "number", "side"]
abbrev p_covered : List Str := ["kinds", "placed"]
theorem sc_covered : FnScope n_covered p_covered (defScope s_covered) := ⟨rfl, rfl, rfl, by decide +kernel, rfl, by decide +kernel, by decide +kernel⟩

abbrev s_lies_in : Stmt := topS 7
abbrev n_lies_in : List Str := ["kinds", "box", "value", "kind", "corner", "number", "side", "room"]
abbrev p_lies_in : List Str := ["kinds", "box", "value"]
theorem sc_lies_in : FnScope n_lies_in p_lies_in (defScope s_lies_in) := ⟨rfl, rfl, rfl, by decide +kernel, rfl, by decide +kernel, by decide +kernel⟩

abbrev s_corners : Stmt := topS 8
abbrev n_corners : List Str := ["brick", "box", "side", "room"]
abbrev p_corners : List Str := ["brick", "box"]
theorem sc_corners : FnScope n_corners p_corners (defScope s_corners) := ⟨rfl, rfl, rfl, by decide +kernel, rfl, by decide +kernel, by decide +kernel⟩

abbrev s_places : Stmt := topS 9
abbrev n_places : List Str := ["kinds", "box", "kind", "brick", "corner"]
abbrev p_places : List Str := ["kinds", "box"]
theorem sc_places : FnScope n_places p_places (defScope s_places) := ⟨rfl, rfl, rfl, by decide +kernel, rfl, by decide +kernel, by decide +kernel⟩

abbrev s__law_deck : Stmt := topS 11
abbrev n__law_deck : List Str := ["_law_script", "_law_cells_here", "_law_cell"]
abbrev p__law_deck : List Str := ["_law_script"]
theorem sc__law_deck : FnScope n__law_deck p__law_deck (defScope s__law_deck) := ⟨rfl, rfl, rfl, by decide +kernel, rfl, by decide +kernel, by decide +kernel⟩

abbrev s__law_draw : Stmt := topS 12
abbrev n__law_draw : List Str := ["_law_deck_here", "_law_many", "_law_rest", "_law_cell", "_law_mixed"]
abbrev p__law_draw : List Str := ["_law_deck_here", "_law_many"]
theorem sc__law_draw : FnScope n__law_draw p__law_draw (defScope s__law_draw) := ⟨rfl, rfl, rfl, by decide +kernel, rfl, by decide +kernel, by decide +kernel⟩

abbrev s__law_one : Stmt := topS 13
abbrev n__law_one : List Str := ["_law_deck_here", "_law_items"]
abbrev p__law_one : List Str := ["_law_deck_here", "_law_items"]
theorem sc__law_one : FnScope n__law_one p__law_one (defScope s__law_one) := ⟨rfl, rfl, rfl, by decide +kernel, rfl, by decide +kernel, by decide +kernel⟩

abbrev s__law_odd : Stmt := topS 14
abbrev n__law_odd : List Str := ["_law_deck_here", "_law_some"]
abbrev p__law_odd : List Str := ["_law_deck_here"]
theorem sc__law_odd : FnScope n__law_odd p__law_odd (defScope s__law_odd) := ⟨rfl, rfl, rfl, by decide +kernel, rfl, by decide +kernel, by decide +kernel⟩

abbrev s__law_bent : Stmt := topS 15
abbrev n__law_bent : List Str := ["_law_deck_here", "_law_value", "_law_deep", "_law_at", "_law_near", "_law_some"]
abbrev p__law_bent : List Str := ["_law_deck_here", "_law_value", "_law_deep"]
theorem sc__law_bent : FnScope n__law_bent p__law_bent (defScope s__law_bent) := ⟨rfl, rfl, rfl, by decide +kernel, rfl, by decide +kernel, by decide +kernel⟩

abbrev s__law_whole : Stmt := topS 16
abbrev n__law_whole : List Str := ["_law_value", "_law_least", "_law_most"]
abbrev p__law_whole : List Str := ["_law_value", "_law_least", "_law_most"]
theorem sc__law_whole : FnScope n__law_whole p__law_whole (defScope s__law_whole) := ⟨rfl, rfl, rfl, by decide +kernel, rfl, by decide +kernel, by decide +kernel⟩

abbrev s__law_sides : Stmt := topS 17
abbrev n__law_sides : List Str := ["_law_deck_here", "_law_axes", "_law_most", "_law_axis"]
abbrev p__law_sides : List Str := ["_law_deck_here", "_law_axes", "_law_most"]
theorem sc__law_sides : FnScope n__law_sides p__law_sides (defScope s__law_sides) := ⟨rfl, rfl, rfl, by decide +kernel, rfl, by decide +kernel, by decide +kernel⟩

abbrev s__law_cells : Stmt := topS 18
abbrev n__law_cells : List Str := ["_law_sides_here", "_law_found", "_law_side", "_law_longer", "_law_cell", "_law_k"]
abbrev p__law_cells : List Str := ["_law_sides_here"]
theorem sc__law_cells : FnScope n__law_cells p__law_cells (defScope s__law_cells) := ⟨rfl, rfl, rfl, by decide +kernel, rfl, by decide +kernel, by decide +kernel⟩

abbrev s__law_moved : Stmt := topS 19
abbrev n__law_moved : List Str := ["_law_cell", "_law_corner", "_law_k", "_law_at"]
abbrev p__law_moved : List Str := ["_law_cell", "_law_corner"]
theorem sc__law_moved : FnScope n__law_moved p__law_moved (defScope s__law_moved) := ⟨rfl, rfl, rfl, by decide +kernel, rfl, by decide +kernel, by decide +kernel⟩

abbrev s__law_covered : Stmt := topS 20
abbrev n__law_covered : List Str := ["_law_kinds_here", "_law_placed", "_law_cell"]
abbrev p__law_covered : List Str := ["_law_kinds_here", "_law_placed"]
theorem sc__law_covered : FnScope n__law_covered p__law_covered (defScope s__law_covered) := ⟨rfl, rfl, rfl, by decide +kernel, rfl, by decide +kernel, by decide +kernel⟩

abbrev s__law_volume : Stmt := topS 21
abbrev n__law_volume : List Str := ["_law_sides_here", "_law_found", "_law_side"]
abbrev p__law_volume : List Str := ["_law_sides_here"]
theorem sc__law_volume : FnScope n__law_volume p__law_volume (defScope s__law_volume) := ⟨rfl, rfl, rfl, by decide +kernel, rfl, by decide +kernel, by decide +kernel⟩

abbrev s__law_places : Stmt := topS 22
abbrev n__law_places : List Str := ["_law_kinds_here", "_law_box", "_law_found", "_law_kind", "_law_room", "_law_side", "_law_own", "_law_corner"]
abbrev p__law_places : List Str := ["_law_kinds_here", "_law_box"]
theorem sc__law_places : FnScope n__law_places p__law_places (defScope s__law_places) := ⟨rfl, rfl, rfl, by decide +kernel, rfl, by decide +kernel, by decide +kernel⟩

abbrev s__law_is_placed : Stmt := topS 23
abbrev n__law_is_placed : List Str := ["_law_kinds_here", "_law_box", "_law_value", "_law_brick", "_law_k"]
abbrev p__law_is_placed : List Str := ["_law_kinds_here", "_law_box", "_law_value"]
theorem sc__law_is_placed : FnScope n__law_is_placed p__law_is_placed (defScope s__law_is_placed) := ⟨rfl, rfl, rfl, by decide +kernel, rfl, by decide +kernel, by decide +kernel⟩

abbrev s__law_small : Stmt := topS 24
abbrev n__law_small : List Str := ["_law_deck_here", "_law_axes", "_law_cells_here", "_law_found", "_law_axis"]
abbrev p__law_small : List Str := ["_law_deck_here", "_law_axes", "_law_cells_here"]
theorem sc__law_small : FnScope n__law_small p__law_small (defScope s__law_small) := ⟨rfl, rfl, rfl, by decide +kernel, rfl, by decide +kernel, by decide +kernel⟩

abbrev s__law_kinds : Stmt := topS 25
abbrev n__law_kinds : List Str := ["_law_deck_here", "_law_axes", "_law_most", "_law_kind"]
abbrev p__law_kinds : List Str := ["_law_deck_here", "_law_axes", "_law_most"]
theorem sc__law_kinds : FnScope n__law_kinds p__law_kinds (defScope s__law_kinds) := ⟨rfl, rfl, rfl, by decide +kernel, rfl, by decide +kernel, by decide +kernel⟩

abbrev s__law_great : Stmt := topS 26
abbrev n__law_great : List Str := ["_law_deck_here", "_law_kind", "_law_far", "_law_at"]
abbrev p__law_great : List Str := ["_law_deck_here", "_law_kind"]
theorem sc__law_great : FnScope n__law_great p__law_great (defScope s__law_great) := ⟨rfl, rfl, rfl, by decide +kernel, rfl, by decide +kernel, by decide +kernel⟩

abbrev s_law : Stmt := topS 27
abbrev n_law : List Str := ["_law_script", "_law_deck_here", "_law_turn", "_law_axes", "_law_kinds_here", "_law_box", "_law_kept", "_law_due", "_law_few", "_law_values", "_law_k", "_law_kind", "_law_far", "_law_placed", "_law_at", "_law_near", "_law_value", "_law_shown", "_law_axis"]
abbrev p_law : List Str := ["_law_script"]
theorem sc_law : FnScope n_law p_law (defScope s_law) := ⟨rfl, rfl, rfl, by decide +kernel, rfl, by decide +kernel, by decide +kernel⟩

structure Txt (mg : Str → Option Value) : Prop where
  n_abs : mg "abs" = none
  n_bool : mg "bool" = none
  n_enumerate : mg "enumerate" = none
  n_int : mg "int" = none
  n_isinstance : mg "isinstance" = none
  n_len : mg "len" = none
  n_list : mg "list" = none
  n_max : mg "max" = none
  n_min : mg "min" = none
  n_range : mg "range" = none
  n_repr : mg "repr" = none
  n_str : mg "str" = none
  n_tuple : mg "tuple" = none
  n_zip : mg "zip" = none
section
variable {P : Program} {w : World} {K : PySem.W.Frag} {mg : Str → Option Value} {base : Heap}
/-! ### the deck -/
theorem shaped_ints (ns : List Int) : SeqAt.shaped (.list (ns.map PyData.int)) = true := by
  have h1 : PyData.canLayAll0 (ns.map PyData.int) = true := by
    induction ns with
    | nil => rfl
    | cons n ns ih => rw [List.map_cons, PyData.canLayAll0, ih]; rfl
  have h2 : PyData.depthAll (ns.map PyData.int) = 0 := by
    induction ns with
    | nil => rfl
    | cons n ns ih => rw [List.map_cons, PyData.depthAll, ih (by rw [List.map_cons, PyData.canLayAll0] at h1; exact (Bool.and_eq_true_iff.mp h1).2)]; rfl
  unfold SeqAt.shaped
  rw [PyData.canLay0, h1, PyData.depth, h2]; rfl
theorem dpAll_ints {K : PySem.W.Frag} {H : Hp} (ns : List Int) : DpAll K H (ns.map V.int) (ns.map PyData.int) := by
  induction ns with
  | nil => exact .nil
  | cons n ns ih => exact .cons (.int n) ih
theorem eqv_nil (ns : List Int) : PyData.eqv (.list (ns.map PyData.int)) (.list []) = ns.isEmpty := by
  cases ns <;> rfl
theorem ok__law_draw (T : Txt mg) {f : Addr} {fd : FuncData} (F : Fun K "_law_draw" "_law_draw" s__law_draw f fd) : FnOk P w K mg base CX0 1 f fd p__law_draw spDraw := by
  refine F.ok sc__law_draw (fun vs H Q E h => ?_) (fun cdv A outer s H vs Q E hr h => ?_)
  · obtain ⟨d, g, l, m, rfl, _⟩ := h
    rfl
  obtain ⟨d, g, l, m, rfl, m0, m1, ⟨gs, ls, c, hd, hg, hl, dg, dl, gl, lpos⟩, k⟩ := h
  refine ⟨_, (pss_cons (ps_if (pt_cmpR (op_neD hr.units) (pe_ix ix_list (pv 0) pe_int (fun _ _ => rfl)) (pe_lst pa_nil) (nomark _))
 (pss_cons (ps_set (i := 2) sc__law_draw.nd rfl (.inl rfl) (pe_ix ix_list (pe_ix ix_list (pv 0) pe_int (fun _ _ => rfl)) pe_int (fun _ _ => rfl)))
 (pss_cons (ps_asg (pe_op op_fdivW (pv 2) (pv 1)) (pg_sub (pe_ix ix_list (pv 0) pe_int (fun _ _ => rfl)) pe_int set_list))
 (pss_cons (ps_if (pt_cmpR op_eq (pe_ix ix_list (pe_ix ix_list (pv 0) pe_int (fun _ _ => rfl)) pe_int (fun _ _ => rfl)) pe_int (nomark _))
 (pss_one (ps_expr (pe_bm PySem.F.plainAttrs_list PySem.F.slot_list_pop PySem.F.type_list_pop mt_popAt (pe_ix ix_list (pv 0) pe_int (fun _ _ => rfl)) (pa_cons pe_int pa_nil)))) pss_nil)
 (pss_one (ps_ret (pe_op op_modN (pe_callTy call_int1 (by rfl) T.n_int (by decide +kernel) (pa_cons (pv 2) pa_nil)) (pv 1))))))) pss_nil)
 (pss_cons (ps_asg (pe_op op_add (pe_ix ix_list (pv 0) pe_int (fun _ _ => rfl)) pe_int) (pg_sub (pv 0) pe_int set_list))
 (pss_cons (ps_set (i := 3) sc__law_draw.nd rfl (.inl rfl) (pe_ix ix_list (pe_ix ix_list (pv 0) pe_int (fun _ _ => rfl)) (pe_op op_modN (pe_callTy call_int1 (by rfl) T.n_int (by decide +kernel) (pa_cons (pe_ix ix_list (pv 0) pe_int (fun _ _ => rfl)) pa_nil)) (pe_callB call_len_seq (by rfl) T.n_len (by decide +kernel) (pa_cons (pe_ix ix_list (pv 0) pe_int (fun _ _ => rfl)) pa_nil))) (fun _ _ => rfl)))
 (pss_cons (ps_set (i := 4) sc__law_draw.nd rfl (.inl rfl) (pe_op op_modN (pe_callTy call_int1 (by rfl) T.n_int (by decide +kernel) (pa_cons (pe_op op_add (pe_op op_modN (pe_callTy call_int1 (by rfl) T.n_int (by decide +kernel) (pa_cons (pv 3) pa_nil)) pe_int) (pe_op op_mul pe_int (pe_ix ix_list (pv 0) pe_int (fun _ _ => rfl)))) pa_nil)) pe_int))
 (pss_cons (ps_set (i := 4) sc__law_draw.nd rfl (.inl rfl) (pe_op op_modN (pe_callTy call_int1 (by rfl) T.n_int (by decide +kernel) (pa_cons (pe_op op_add (pe_op op_mul (pv 4) (pv 4)) (pe_op op_mul pe_int (pe_ix ix_list (pv 0) pe_int (fun _ _ => rfl)))) pa_nil)) pe_int))
 (pss_one (ps_ret (pe_op op_modN (pe_op op_fdivW (pe_op op_modN (pe_callTy call_int1 (by rfl) T.n_int (by decide +kernel) (pa_cons (pe_op op_mul (pv 4) (pv 4)) pa_nil)) pe_int) pe_int) (pv 1))))))))), ?_⟩
  refine ⟨_, rfl, d, _, _, _, rfl, rfl, .inl (.inl hd), rfl, Nat.zero_le _, fun p hp => ?_⟩
  have e0 : Ex H (upd H p (.lst [])) := Ex.new hp
  refine ⟨.list (gs.map PyData.int), .list [], .lst (.inl (.inl (e0 _ _ hg))) (dpAll_ints gs), .lst (.inl (.inl upd_same)) .nil, shaped_ints gs, shaped_ints [], _, rfl, ?_⟩
  rw [eqv_nil]
  generalize hH : upd H p (.lst []) = H1 at e0 ⊢
  have hd1 := e0 _ _ hd
  have hg1 := e0 _ _ hg
  have hl1 := e0 _ _ hl
  have off1 : Off d g H H1 := Off.of e0
  have big : (m.natAbs.log2 < 9000) := by
    have : m.natAbs ≤ 1000000000000 := by omega
    exact Nat.lt_of_le_of_lt (Nat.log2_le_self m.natAbs |> fun _ => (Nat.log2_lt (by omega)).mpr (show m.natAbs < 2 ^ 41 by omega) |> Nat.le_of_lt) (by decide)
  cases gs with
  | cons a gr =>
    refine (if_pos rfl).mpr ?_
    -- rest = deck[0][0]; deck[0][0] = rest // many
    refine ⟨_, rfl, d, _, _, _, rfl, rfl, .inl (.inl hd1), rfl, g, _, _, _, rfl, rfl, .inl (.inl hg1), atI_nat (j := 0) rfl, ?_⟩
    refine ⟨_, rfl, _, rfl, _, _, rfl, rfl, ⟨m0, big⟩, _, rfl, d, _, _, _, rfl, rfl, .inl (.inl hd1), rfl, g, _, _, 0, rfl, rfl, hg1, ixN_zero (by simp), ?_⟩
    generalize hH2 : upd H1 g _ = H2
    have hg2 : H2 g = some (.lst ((a / m :: gr).map V.int)) := by rw [← hH2, upd_same]; rfl
    have hd2 : H2 d = some (.lst [.ref g, .ref l, .int c]) := by rw [← hH2, upd_ne dg]; exact hd1
    have hl2 : H2 l = some (.lst (ls.map V.int)) := by rw [← hH2, upd_ne gl.symm]; exact hl1
    have off2 : Off d g H H2 := off1.trans fun b o e _ n => by rw [← hH2, upd_ne n]; exact e
    -- if deck[0][0] == 0: deck[0].pop(0)
    refine ⟨_, rfl, d, _, _, _, rfl, rfl, .inl (.inl hd2), rfl, g, _, _, _, rfl, rfl, .inl (.inl hg2), atI_nat (j := 0) rfl, rfl, _, rfl, ite2 (fun _ => ?_) (fun _ => ?_)⟩
    · refine ⟨_, rfl, d, _, _, _, rfl, rfl, .inl (.inl hd2), rfl, .inl ⟨rfl, _, .inl (.inl hg2)⟩, g, _, 0, 0, _, rfl, rfl, hg2, by decide, by decide, ?_, rfl, ?_⟩
      · exact (ixN_seq (ixN_zero (by simp))).1
      · generalize hH3 : upd H2 g _ = H3
        have hg3 : H3 g = some (.lst (gr.map V.int)) := by rw [← hH3, upd_same]; rfl
        have hd3 : H3 d = some (.lst [.ref g, .ref l, .int c]) := by rw [← hH3, upd_ne dg]; exact hd2
        have hl3 : H3 l = some (.lst (ls.map V.int)) := by rw [← hH3, upd_ne gl.symm]; exact hl2
        refine ⟨_, rfl, .inl ⟨_, rfl, _, rfl, _, _, rfl, rfl, by omega, ?_⟩⟩
        exact k _ _ (fmod_rng m0).1 (fmod_rng m0).2 ⟨gr, ls, c, hd3, hg3, hl3, dg, dl, gl, lpos⟩ (off2.trans fun b o e _ n => by rw [← hH3, upd_ne n]; exact e)
    · refine ⟨_, rfl, .inl ⟨_, rfl, _, rfl, _, _, rfl, rfl, by omega, ?_⟩⟩
      exact k _ _ (fmod_rng m0).1 (fmod_rng m0).2 ⟨_, ls, c, hd2, hg2, hl2, dg, dl, gl, lpos⟩ off2
  | nil =>
    refine (if_neg (by decide)).mpr ?_
    -- deck[2] = deck[2] + 1
    refine ⟨_, rfl, d, _, _, _, rfl, rfl, .inl (.inl hd1), rfl, _, _, rfl, rfl, _, rfl, d, _, _, 2, rfl, rfl, hd1, rfl, ?_⟩
    generalize hH2 : upd H1 d _ = H2
    have hd2 : H2 d = some (.lst [.ref g, .ref l, .int (c + 1)]) := by rw [← hH2, upd_same]; rfl
    have hg2 : H2 g = some (.lst (([] : List Int).map V.int)) := by rw [← hH2, upd_ne dg.symm]; exact hg1
    have hl2 : H2 l = some (.lst (ls.map V.int)) := by rw [← hH2, upd_ne dl.symm]; exact hl1
    have off2 : Off d g H H2 := off1.trans fun b o e n _ => by rw [← hH2, upd_ne n]; exact e
    have hD : Deck H2 d g l := ⟨[], ls, c + 1, hd2, hg2, hl2, dg, dl, gl, lpos⟩
    have lp : (0 : Int) < ((ls.map V.int).length : Int) := by rw [List.length_map]; omega
    obtain ⟨i0, i1⟩ := fmod_rng (a := c + 1) lp
    obtain ⟨j, hj⟩ : ∃ j : Nat, (c + 1).fmod ((ls.map V.int).length : Int) = (j : Int) := ⟨_, (Int.toNat_of_nonneg i0).symm⟩
    have jl : j < ls.length := by rw [hj, List.length_map] at i1; omega
    have at_ : atI (ls.map V.int) ((c + 1).fmod ((ls.map V.int).length : Int)) = some (.int ls[j]) := by
      rw [hj]
      refine atI_nat ?_
      rw [List.getElem?_map, List.getElem?_eq_getElem jl]
      rfl
    -- cell = deck[1][int(deck[2]) % len(deck[1])]
    refine ⟨_, rfl, d, _, _, _, rfl, rfl, .inl (.inl hd2), rfl, _, rfl, d, _, _, _, rfl, rfl, .inl (.inl hd2), rfl, .inl ⟨_, rfl, ?_⟩⟩
    refine ⟨_, rfl, d, _, _, _, rfl, rfl, .inl (.inl hd2), rfl, l, _, rfl, .inl (.inl (.inl hl2)), _, _, rfl, rfl, by omega, l, _, _, _, rfl, rfl, .inl (.inl hl2), at_, ?_⟩
    generalize ls[j] = cell
    -- the first mix
    refine ⟨_, rfl, .inl ⟨_, rfl, _, _, rfl, rfl, (show (4294966477 : Int) ≠ 0 by decide), _, rfl, d, _, _, _, rfl, rfl, .inl (.inl hd2), rfl, _, _, rfl, rfl, .inl ⟨by decide, by decide⟩, _, _, rfl, rfl, .inl ⟨_, rfl, _, _, rfl, rfl, (show (4294966477 : Int) ≠ 0 by decide), ?_⟩⟩⟩
    refine ⟨_, rfl, _, rfl, _, _, rfl, rfl, .inl (fmod_small (by decide) (by decide)), _, rfl, d, _, _, _, rfl, rfl, .inl (.inl hd2), rfl, _, _, rfl, rfl, .inl ⟨by decide, by decide⟩, _, _, rfl, rfl, .inl ⟨_, rfl, _, _, rfl, rfl, (show (4294966427 : Int) ≠ 0 by decide), ?_⟩⟩
    refine ⟨_, rfl, _, rfl, _, _, rfl, rfl, .inl (fmod_small (by decide) (by decide)), .inl ⟨_, rfl, _, _, rfl, rfl, (show (4294966373 : Int) ≠ 0 by decide), _, _, rfl, rfl, ⟨by decide, by decide⟩, _, rfl, _, _, rfl, rfl, by omega, ?_⟩⟩
    exact k _ _ (fmod_rng m0).1 (fmod_rng m0).2 hD off2
theorem ok__law_one (T : Txt mg) {f : Addr} {fd : FuncData} (F : Fun K "_law_one" "_law_one" s__law_one f fd) (h__law_draw : Keeps P w K mg base 1 "_law_draw" p__law_draw spDraw) : FnOk P w K mg base CX0 2 f fd p__law_one spOne := by
  refine F.ok sc__law_one (fun vs H Q E h => ?_) (fun cdv A outer s H vs Q E hr h => ?_)
  · obtain ⟨d, g, l, p, xs, rfl, _⟩ := h
    rfl
  obtain ⟨d, g, l, p, xs, rfl, D, hp, pd, pg, x0, x1, k⟩ := h
  refine ⟨_, (pss_one (ps_ret (pe_ix ix_list (pv 1) (TB.pe_own h__law_draw (hr.mono (by decide)) (by rfl) (pa_cons (pv 0) (pa_cons (pe_callB call_len_seq (by rfl) T.n_len (by decide +kernel) (pa_cons (pv 1) pa_nil)) pa_nil))) (fun _ _ => rfl)))), ?_⟩
  refine ⟨_, rfl, _, rfl, _, rfl, p, xs, rfl, .inl (.inl (.inl hp)), d, g, l, _, rfl, by omega, by omega, D, fun r H1 r0 r1 D1 o1 => ?_⟩
  obtain ⟨j, rfl⟩ : ∃ j : Nat, r = (j : Int) := ⟨_, (Int.toNat_of_nonneg r0).symm⟩
  have jl : j < xs.length := by omega
  exact ⟨p, xs, _, xs[j], rfl, rfl, .inl (.inl (o1 _ _ hp pd pg)), atI_nat (List.getElem?_eq_getElem jl), k j _ _ (List.getElem?_eq_getElem jl) D1 o1⟩
theorem cut63 {ns : List V} (h : ns.length ≤ 63) : cutV ns none (some 63) = ns := by
  unfold cutV
  rw [HT.sIx_none, show HT.sIx ns.length ns.length (some 63) = min 63 ns.length from HT.sIx_nat _ _ 63]
  rw [Nat.min_eq_right h, List.drop_zero, Nat.sub_zero, List.take_length]
def absI (n : Int) : Int := if n < 0 then -n else n
theorem ok__law_deck (T : Txt mg) {f : Addr} {fd : FuncData} (F : Fun K "_law_deck" "_law_deck" s__law_deck f fd) : FnOk P w K mg base CX0 1 f fd p__law_deck (spDeck K) := by
  refine F.ok sc__law_deck (fun vs H Q E h => ?_) (fun cdv A outer s H vs Q E hr h => ?_)
  · obtain ⟨a, ns, rfl, _⟩ := h
    rfl
  obtain ⟨a, ns, rfl, hS, hn, k⟩ := h
  refine ⟨_, (pss_cons (ps_setLc (i := 1) (own := [("_law_cell", 2)]) (g := gName 2) rfl sc__law_deck.nd rfl rfl (sw_true rfl rfl rfl (by decide +kernel)) (pi_list (pe_slice sl_list (pv 0) po_none (po_some pe_int))) (blkOk_by (N := n__law_deck) (sc := defScope s__law_deck) (by decide +kernel)) (fun _ _ _ _ _ => pg_name (i := 2) sc__law_deck.nd rfl (.inl rfl)) (fun _ _ _ _ _ => pts_nil) (fun _ _ _ _ _ => (pe_callB call_abs (by rfl) T.n_abs (by decide +kernel) (pa_cons (pv 2) pa_nil))))
 (pss_one (ps_ret (pe_lst (pa_cons (pe_lc (own := [("_law_cell", 2)]) (g := gName 2) rfl sc__law_deck.nd (pi_list (pv 1)) (blkOk_by (N := n__law_deck) (sc := defScope s__law_deck) (by decide +kernel)) (fun _ _ _ _ _ => pg_name (i := 2) sc__law_deck.nd rfl (.inl rfl)) (fun _ _ _ _ _ => (pts_one (pt_cmpR op_ge (pv 2) (pe_op op_pow pe_int pe_int) (nomark _)))) (fun _ _ _ _ _ => (pv 2))) (pa_cons (pe_op op_cat (pv 1) (pe_lst (pa_cons (pe_op op_add pe_int (pe_callB call_len_seq (by rfl) T.n_len (by decide +kernel) (pa_cons (pv 1) pa_nil))) pa_nil))) (pa_cons pe_int pa_nil))))))), ?_⟩
  refine ⟨.ref a, rfl, 63, rfl, a, _, rfl, hS, fun p hp => ⟨p, rfl, ⟨_, .inl (.inl upd_same)⟩, fun D hD => ?_⟩⟩
  rw [cut63 (by rw [List.length_map]; exact hn)] at hD ⊢
  have e1 : Ex H (upd H p (.lst (ns.map V.int))) := Ex.new hp
  have pD : p ≠ D := ne_of_none upd_same hD
  refine lc_list (K := K) (a := p) (xs := ns.map V.int) (fun i H' => Ex H H' ∧ H' p = some (.lst (ns.map V.int)) ∧ H' D = some (.lst (((ns.map absI).take i).map V.int)))
    ⟨e1.trans (Ex.new hD), by rw [upd_ne pD]; exact upd_same, upd_same⟩ (fun i H' _ h => .inl (.inl h.2.1)) (fun i x H' hx h => ?_) (fun H' h => ?_)
  · obtain ⟨e, h1, h2⟩ := h
    rw [List.getElem?_map] at hx
    obtain ⟨n, hn1, rfl⟩ := Option.map_eq_some_iff.mp hx
    have il : i < ns.length := (List.getElem?_eq_some_iff.mp hn1).1
    refine ⟨rfl, _, rfl, n, rfl, _, h2, size_small' (by rw [List.length_map, List.length_take]; omega), e.mut (fresh_back e1 hD), by rw [upd_ne pD]; exact h1, ?_⟩
    rw [upd_same, List.take_add_one, List.getElem?_map, hn1, List.map_append]
    rfl
  obtain ⟨e, h1, h2⟩ := h
  rw [List.length_map, List.take_of_length_le (by rw [List.length_map]; omega)] at h2
  generalize hms : ns.map absI = ms at h2
  have ml : ms.length ≤ 63 := by rw [← hms, List.length_map]; exact hn
  -- the list of the great ones
  refine ⟨.ref D, rfl, D, rfl, ⟨_, .inl (.inl h2)⟩, fun B hB => ?_⟩
  have DB : D ≠ B := ne_of_none h2 hB
  refine lc_list (K := K) (a := D) (xs := ms.map V.int) (fun i H2 => Ex H' H2 ∧ H2 D = some (.lst (ms.map V.int)) ∧ ∃ gs : List Int, gs.length ≤ i ∧ H2 B = some (.lst (gs.map V.int)))
    ⟨Ex.new hB, by rw [upd_ne DB]; exact h2, [], Nat.le_refl _, upd_same⟩ (fun i H2 _ h => .inl (.inl h.2.1)) (fun i x H2 hx h => ?_) (fun H2 h => ?_)
  · obtain ⟨e2, g1, gs, gl, g2⟩ := h
    rw [List.getElem?_map] at hx
    obtain ⟨n, hn1, rfl⟩ := Option.map_eq_some_iff.mp hx
    have il : i < ms.length := (List.getElem?_eq_some_iff.mp hn1).1
    refine ⟨rfl, _, rfl, _, _, rfl, rfl, ⟨by decide, by decide, by decide⟩, _, _, rfl, rfl, _, rfl, ?_⟩
    refine ite2 (fun _ => ?_) (fun _ => ?_)
    · refine ⟨_, rfl, _, g2, size_small' (by rw [List.length_map]; omega), e2.mut hB, by rw [upd_ne DB]; exact g1, gs ++ [n], by rw [List.length_append]; exact Nat.succ_le_succ gl, ?_⟩
      rw [upd_same, List.map_append]
      rfl
    · exact ⟨e2, g1, gs, by omega, g2⟩
  obtain ⟨e2, g1, gs, gl, g2⟩ := h
  rw [List.length_map] at gl
  -- cells + [11228 + len(cells)]
  refine ⟨_, rfl, _, rfl, D, _, rfl, .inl (.inl (.inl g1)), _, _, rfl, rfl, (show 1 ≤ sizeLine by decide), fun c hc => ?_⟩
  have Dc : D ≠ c := ne_of_none g1 hc
  refine ⟨D, c, _, _, rfl, rfl, by rw [upd_ne Dc]; exact g1, upd_same, size_small (by simp; omega), fun L hL => ?_⟩
  have cL : c ≠ L := ne_of_none upd_same hL
  have BD : B ≠ D := DB.symm
  have hBc : B ≠ c := ne_of_none g2 hc
  have hBL : B ≠ L := ne_of_none (by rw [upd_ne hBc]; exact g2) hL
  refine ⟨(show 3 ≤ sizeLine by decide), fun d hd => ?_⟩
  have dL : d ≠ L := fun q => by rw [q, upd_same] at hd; cases hd
  have dB : d ≠ B := fun q => by rw [q, upd_ne hBL, upd_ne hBc, g2] at hd; cases hd
  have ec := Ex.new (o := .lst [.int (11228 + ((ms.map V.int).length : Int))]) hc
  have eL := ec.trans (Ex.new (o := .lst (ms.map V.int ++ [.int (11228 + ((ms.map V.int).length : Int))])) hL)
  refine k d B L _ ((e.trans e2).trans (eL.trans (Ex.new hd))) ?_ (fresh_back e hB) ?_
  · exact fresh_back ((e.trans e2).trans eL) hd
  · refine ⟨gs, ms ++ [11228 + ((ms.map V.int).length : Int)], 0, upd_same, ?_, ?_, dB, dL, hBL, by simp⟩
    · rw [upd_ne dB.symm, upd_ne hBL, upd_ne hBc]; exact g2
    · rw [upd_ne dL.symm, upd_same, List.map_append]
      rfl
end
end K30
set_option Elab.async false
set_option linter.all false
set_option maxRecDepth 100000
namespace K30
open PySem PySem.Spec PyProof.Rows L2 Evl TB DL MI
def b_is_int : DS :=
 (sRet (mAnd (mIsi "int" (mVar 0)) (mNot (mIsi "bool" (mVar 0)))))
def m_is_int : List PyData → C PyData := bodyM b_is_int 1 0
def b_is_index : DS :=
 (sRet (mAnd (mCall m_is_int (aCons (mVar 0) aNil)) (mChain oLe oLt (mC (PyData.int 0)) (mVar 0) (mVar 1))))
def m_is_index : List PyData → C PyData := bodyM b_is_index 2 0
def b_grid : DS :=
 (sSeq (sAsg (mLst (aCons (mTup aNil) aNil)) (gNm 3))
 (sSeq (sForK [3] (iZ3 (mVar 0) (mVar 1) (mVar 2)) (gTp 3 (gs1 (gNm 4) (gs1 (gNm 5) (gs1 (gNm 6) gs0))))
 (sAsg (mFr (mLc (iSq (mVar 3)) (gNm 7) tOk [7, 8] (mCl (iR3 (mVar 4) (mVar 5) (mVar 6)) (gNm 8) tOk [8] (mEl (mOp oAdd (mVar 7) (mTup (aCons (mVar 8) aNil))))))) (gNm 3)))
 (sRet (mVar 3))))
def m_grid : List PyData → C PyData := bodyM b_grid 3 6
def b_cells_of : DS :=
 (sRet (mCall m_grid (aCons (mOp oMul (mTup (aCons (mC (PyData.int 0)) aNil)) (mCB oLn (aCons (mVar 0) aNil))) (aCons (mVar 0) (aCons (mOp oMul (mTup (aCons (mC (PyData.int 1)) aNil)) (mCB oLn (aCons (mVar 0) aNil))) aNil)))))
def m_cells_of : List PyData → C PyData := bodyM b_cells_of 1 0
def b_covered : DS :=
 (sSeq (sAsg (mVar 1) (gTp 2 (gs1 (gNm 2) (gs1 (gNm 3) gs0))))
 (sSeq (sAsg (mFr (mLc (iZ2 (mVar 3) (mOp oIt (mVar 0) (mVar 2))) (gTp 2 (gs1 (gNm 5) (gs1 (gNm 6) gs0))) tOk [5, 6] (mEl (mOp oAdd (mVar 5) (mVar 6))))) (gNm 4))
 (sRet (mCB oTuple (aCons (mCall m_grid (aCons (mVar 3) (aCons (mVar 4) (aCons (mOp oMul (mTup (aCons (mC (PyData.int 1)) aNil)) (mCB oLn (aCons (mVar 3) aNil))) aNil)))) aNil)))))
def m_covered : List PyData → C PyData := bodyM b_covered 2 5
def b_lies_in : DS :=
 (sSeq (sIf (tOo (tNo (tT (mIsi "tuple" (mVar 2)))) (tT (mOp oNe (mCB oLn (aCons (mVar 2) aNil)) (mC (PyData.int 2)))))
 (sRet (mC (PyData.bool false)))
 sNx)
 (sSeq (sAsg (mVar 2) (gTp 2 (gs1 (gNm 3) (gs1 (gNm 4) gs0))))
 (sSeq (sIf (tNo (tT (mCall m_is_index (aCons (mVar 3) (aCons (mCB oLn (aCons (mVar 0) aNil)) aNil)))))
 (sRet (mC (PyData.bool false)))
 sNx)
 (sSeq (sIf (tOo (tNo (tT (mIsi "tuple" (mVar 4)))) (tT (mOp oNe (mCB oLn (aCons (mVar 4) aNil)) (mCB oLn (aCons (mVar 1) aNil)))))
 (sRet (mC (PyData.bool false)))
 sNx)
 (sSeq (sForK [] (iZ3 (mVar 4) (mOp oIt (mVar 0) (mVar 3)) (mVar 1)) (gTp 3 (gs1 (gNm 5) (gs1 (gNm 6) (gs1 (gNm 7) gs0))))
 (sIf (tOo (tNo (tT (mCall m_is_int (aCons (mVar 5) aNil)))) (tNo (tT (mChain oLe oLe (mC (PyData.int 0)) (mVar 5) (mOp oSub (mVar 7) (mVar 6))))))
 (sRet (mC (PyData.bool false)))
 sNx))
 (sRet (mC (PyData.bool true))))))))
def m_lies_in : List PyData → C PyData := bodyM b_lies_in 3 5
def b_corners : DS :=
 (sRet (mCall m_cells_of (aCons (mFr (mLc (iZ2 (mVar 0) (mVar 1)) (gTp 2 (gs1 (gNm 2) (gs1 (gNm 3) gs0))) tOk [2, 3] (mEl (mOp oAdd (mOp oSub (mVar 3) (mVar 2)) (mC (PyData.int 1)))))) aNil)))
def m_corners : List PyData → C PyData := bodyM b_corners 2 2
def b_places : DS :=
 (sRet (mCB oTuple (aCons (mFr (mLc (iEn (mVar 0)) (gTp 2 (gs1 (gNm 2) (gs1 (gNm 3) gs0))) tOk [2, 3, 4] (mCl (iSq (mCall m_corners (aCons (mVar 3) (aCons (mVar 1) aNil)))) (gNm 4) tOk [4] (mEl (mTup (aCons (mVar 2) (aCons (mVar 4) aNil))))))) aNil)))
def m_places : List PyData → C PyData := bodyM b_places 2 3
def b__law_odd : DS :=
 (sSeq (sAsg (mLst (aCons (mC PyData.none) (aCons (mC (PyData.bool true)) (aCons (mC (PyData.bool false)) (aCons (mC (PyData.int 0)) (aCons (mC (PyData.int 1)) (aCons (mC (PyData.int 2)) (aCons (mUn oNeg (mC (PyData.int 1))) (aCons (mOp oPow (mC (PyData.int 10)) (mC (PyData.int 30))) (aCons (mC (PyData.str "")) (aCons (mC (PyData.str "a")) (aCons (mC (PyData.str "0")) (aCons (mC (PyData.str "2x3")) (aCons (mTup aNil) (aCons (mLst aNil) (aCons (mC (PyData.dict [])) (aCons (mTup (aCons (mC (PyData.int 0)) aNil)) (aCons (mTup (aCons (mC (PyData.int 1)) aNil)) (aCons (mTup (aCons (mC (PyData.int 0)) (aCons (mC (PyData.int 0)) aNil))) (aCons (mTup (aCons (mC (PyData.int 1)) (aCons (mC (PyData.int 1)) aNil))) aNil)))))))))))))))))))) (gNm 1))
 (sSeq (sAsg (mOp oAdd (mVar 1) (mLst (aCons (mTup (aCons (mC (PyData.bool true)) aNil)) (aCons (mTup (aCons (mC (PyData.int 0)) (aCons (mTup (aCons (mC (PyData.int 0)) aNil)) aNil))) (aCons (mTup (aCons (mC (PyData.int 0)) (aCons (mTup (aCons (mC (PyData.int 0)) (aCons (mC (PyData.int 0)) aNil))) aNil))) (aCons (mTup (aCons (mC (PyData.int 1)) (aCons (mTup (aCons (mC (PyData.int 0)) (aCons (mC (PyData.int 0)) aNil))) aNil))) (aCons (mTup (aCons (mC (PyData.int 0)) (aCons (mTup (aCons (mC (PyData.int 0)) (aCons (mC (PyData.int 0)) aNil))) (aCons (mC (PyData.int 1)) aNil)))) (aCons (mTup (aCons (mTup (aCons (mC (PyData.int 0)) (aCons (mC (PyData.int 0)) aNil))) (aCons (mC (PyData.int 1)) aNil))) (aCons (mTup (aCons (mTup (aCons (mC (PyData.int 0)) aNil)) (aCons (mC (PyData.int 1)) aNil))) (aCons (mTup (aCons (mC (PyData.str "step")) (aCons (mC (PyData.int 0)) aNil))) aNil)))))))))) (gNm 1))
 (sRet (mCallW 0 m_one (aCons (mOp oAdd (mVar 1) (mLst (aCons (mTup (aCons (mC PyData.none) aNil)) (aCons (mTup (aCons (mUn oNeg (mC (PyData.int 1))) aNil)) (aCons (mTup (aCons (mC (PyData.int 0)) (aCons (mTup (aCons (mUn oNeg (mC (PyData.int 1))) aNil)) aNil))) (aCons (mTup (aCons (mC (PyData.int 0)) (aCons (mTup (aCons (mC (PyData.bool true)) (aCons (mC (PyData.int 0)) aNil))) aNil))) (aCons (mTup (aCons (mC (PyData.int 2)) (aCons (mC (PyData.int 1)) aNil))) (aCons (mTup (aCons (mTup (aCons (mC (PyData.int 2)) (aCons (mC (PyData.int 1)) aNil))) (aCons (mTup (aCons (mC (PyData.int 1)) (aCons (mC (PyData.int 2)) aNil))) aNil))) (aCons (mTup (aCons (mTup (aCons (mC (PyData.int 2)) aNil)) (aCons (mTup (aCons (mC (PyData.int 3)) aNil)) aNil))) aNil))))))))) aNil)))))
def m__law_odd : List PyData → C PyData := bodyW b__law_odd 0 1
def b__law_bent (m__law_bent : List PyData → C PyData) : DS :=
 (sSeq (sIf (tAn (tT (mIsi "tuple" (mVar 1))) (tAn (tT (mOp oNe (mVar 1) (mTup aNil))) (tAn (tT (mOp oGt (mVar 2) (mC (PyData.int 0)))) (tT (mOp oGt (mCallW 0 m_draw (aCons (mC (PyData.int 4)) aNil)) (mC (PyData.int 0)))))))
 (sSeq (sAsg (mCallW 0 m_draw (aCons (mCB oLn (aCons (mVar 1) aNil)) aNil)) (gNm 3))
 (sRet (mOp oAdd (mOp oAdd (mSl oSl (mVar 1) oNone (oSome (mVar 3))) (mTup (aCons (mCallW 0 m__law_bent (aCons (mOp oIt (mVar 1) (mVar 3)) (aCons (mOp oSub (mVar 2) (mC (PyData.int 1))) aNil))) aNil))) (mSl oSl (mVar 1) (oSome (mOp oAdd (mVar 3) (mC (PyData.int 1)))) oNone))))
 sNx)
 (sSeq (sIf (tNo (tT (mIsi "tuple" (mVar 1))))
 (sSeq (sAsg (mIf (tT (mIsi "int" (mVar 1))) (mLst (aCons (mOp oAdd (mVar 1) (mC (PyData.int 1))) (aCons (mOp oSub (mVar 1) (mC (PyData.int 1))) (aCons (mCB oBool (aCons (mVar 1) aNil)) (aCons (mCB oStr (aCons (mVar 1) aNil)) aNil))))) (mLst aNil)) (gNm 4))
 (sRet (mCallW 0 m_one (aCons (mOp oAdd (mVar 4) (mLst (aCons (mCallW 0 m__law_odd aNil) (aCons (mCallW 0 m__law_odd aNil) aNil)))) aNil))))
 sNx)
 (sSeq (sAsg (mCallW 0 m_draw (aCons (mOp oAdd (mCB oLn (aCons (mVar 1) aNil)) (mC (PyData.int 1))) aNil)) (gNm 3))
 (sSeq (sAsg (mLst (aCons (mCallW 0 m__law_odd aNil) (aCons (mSl oSl (mVar 1) (oSome (mC (PyData.int 1))) oNone) (aCons (mSl oSl (mVar 1) oNone (oSome (mUn oNeg (mC (PyData.int 1))))) (aCons (mRev (mVar 1)) (aCons (mCB oList (aCons (mVar 1) aNil)) (aCons (mOp oAdd (mVar 1) (mSl oSl (mVar 1) (oSome (mUn oNeg (mC (PyData.int 1)))) oNone)) aNil))))))) (gNm 5))
 (sRet (mCallW 0 m_one (aCons (mOp oAdd (mVar 5) (mLst (aCons (mOp oAdd (mSl oSl (mVar 1) oNone (oSome (mVar 3))) (mSl oSl (mVar 1) (oSome (mOp oAdd (mVar 3) (mC (PyData.int 1)))) oNone)) (aCons (mOp oAdd (mOp oAdd (mSl oSl (mVar 1) oNone (oSome (mVar 3))) (mTup (aCons (mCallW 0 m__law_odd aNil) aNil))) (mSl oSl (mVar 1) (oSome (mVar 3)) oNone)) aNil)))) aNil)))))))
def m__law_bent : Nat → List PyData → C PyData
  | 0 => fun _ _ _ => False
  | n + 1 => bodyW (b__law_bent (m__law_bent n)) 2 3
def b__law_whole : DS :=
 (sRet (mAnd (mIsi "int" (mVar 0)) (mAnd (mNot (mIsi "bool" (mVar 0))) (mChain oLe oLe (mVar 1) (mVar 0) (mVar 2)))))
def m__law_whole : List PyData → C PyData := bodyM b__law_whole 3 0
def b__law_sides : DS :=
 (sRet (mCB oTuple (aCons (mFr (mLc (iR1 (mVar 1)) (gNm 3) tOk [3] (mEl (mOp oAdd (mC (PyData.int 1)) (mCallW 0 m_draw (aCons (mVar 2) aNil)))))) aNil)))
def m__law_sides : List PyData → C PyData := bodyW b__law_sides 2 1
def b__law_cells : DS :=
 (sSeq (sAsg (mLst (aCons (mTup aNil) aNil)) (gNm 1))
 (sSeq (sForK [1] (iSq (mVar 0)) (gNm 2)
 (sSeq (sNew 3 (eoLst aNil))
 (sSeq (sForK [2, 3] (iSq (mCB oList (aCons (mVar 1) aNil))) (gNm 4)
 (oExt 3 (mFr (mLc (iR1 (mVar 2)) (gNm 5) tOk [5] (mEl (mOp oAdd (mVar 4) (mTup (aCons (mVar 5) aNil))))))))
 (sFz 3 (sAsg (mVar 3) (gNm 1))))))
 (sRet (mVar 1))))
def m__law_cells : List PyData → C PyData := bodyM b__law_cells 1 5
def b__law_moved : DS :=
 (sRet (mCB oTuple (aCons (mFr (mLc (iZ2 (mVar 0) (mVar 1)) (gTp 2 (gs1 (gNm 2) (gs1 (gNm 3) gs0))) tOk [2, 3] (mEl (mOp oAdd (mVar 2) (mVar 3))))) aNil)))
def m__law_moved : List PyData → C PyData := bodyM b__law_moved 2 2
def b__law_covered : DS :=
 (sRet (mFr (mLc (iSq (mCall m__law_cells (aCons (mOp oIt (mVar 0) (mOp oIt (mVar 1) (mC (PyData.int 0)))) aNil))) (gNm 2) tOk [2] (mEl (mCall m__law_moved (aCons (mVar 2) (aCons (mOp oIt (mVar 1) (mC (PyData.int 1))) aNil)))))))
def m__law_covered : List PyData → C PyData := bodyM b__law_covered 2 1
def b__law_volume : DS :=
 (sSeq (sAsg (mC (PyData.int 1)) (gNm 1))
 (sSeq (sForK [1] (iSq (mVar 0)) (gNm 2)
 (sAsg (mOp oMul (mVar 1) (mVar 2)) (gNm 1)))
 (sRet (mVar 1))))
def m__law_volume : List PyData → C PyData := bodyM b__law_volume 1 2
def b__law_places : DS :=
 (sSeq (sNew 2 (eoLst aNil))
 (sSeq (sForK [0, 1, 2] (iR1 (mCB oLn (aCons (mVar 0) aNil))) (gNm 3)
 (sSeq (sAsg (mFr (mLc (iZ2 (mVar 1) (mOp oIt (mVar 0) (mVar 3))) (gTp 2 (gs1 (gNm 5) (gs1 (gNm 6) gs0))) tOk [5, 6] (mEl (mOp oAdd (mOp oSub (mVar 5) (mVar 6)) (mC (PyData.int 1)))))) (gNm 4))
 (sIf (tT (mOp oGt (mCB oMin1 (aCons (mVar 4) aNil)) (mC (PyData.int 0))))
 (oExt 2 (mFr (mLc (iSq (mCall m__law_cells (aCons (mVar 4) aNil))) (gNm 7) tOk [7] (mEl (mTup (aCons (mVar 3) (aCons (mVar 7) aNil)))))))
 sNx)))
 (sFz 2 (sRet (mVar 2)))))
def m__law_places : List PyData → C PyData := bodyM b__law_places 2 6
def b__law_is_placed : DS :=
 (sSeq (sIf (tOo (tNo (tT (mIsi "tuple" (mVar 2)))) (tOo (tT (mOp oNe (mCB oLn (aCons (mVar 2) aNil)) (mC (PyData.int 2)))) (tNo (tT (mCall m__law_whole (aCons (mOp oIt (mVar 2) (mC (PyData.int 0))) (aCons (mC (PyData.int 0)) (aCons (mOp oSub (mCB oLn (aCons (mVar 0) aNil)) (mC (PyData.int 1))) aNil))))))))
 (sRet (mC (PyData.bool false)))
 sNx)
 (sSeq (sIf (tOo (tNo (tT (mIsi "tuple" (mOp oIt (mVar 2) (mC (PyData.int 1)))))) (tT (mOp oNe (mCB oLn (aCons (mOp oIt (mVar 2) (mC (PyData.int 1))) aNil)) (mCB oLn (aCons (mVar 1) aNil)))))
 (sRet (mC (PyData.bool false)))
 sNx)
 (sSeq (sAsg (mOp oIt (mVar 0) (mOp oIt (mVar 2) (mC (PyData.int 0)))) (gNm 3))
 (sRet (mOp oEq (mFr (mLc (iR1 (mCB oLn (aCons (mVar 1) aNil))) (gNm 4) (tNo (tT (mCall m__law_whole (aCons (mOp oIt (mOp oIt (mVar 2) (mC (PyData.int 1))) (mVar 4)) (aCons (mC (PyData.int 0)) (aCons (mOp oSub (mOp oIt (mVar 1) (mVar 4)) (mOp oIt (mVar 3) (mVar 4))) aNil)))))) [4] (mEl (mC (PyData.int 1))))) (mLst aNil))))))
def m__law_is_placed : List PyData → C PyData := bodyM b__law_is_placed 3 2
def b__law_small : DS :=
 (sSeq (sAsg (mTup aNil) (gNm 3))
 (sSeq (sForK [0, 1, 2, 3] (iR1 (mVar 1)) (gNm 4)
 (sSeq (sAsg (mOp oAdd (mVar 3) (mTup (aCons (mOp oAdd (mC (PyData.int 1)) (mCallW 0 m_draw (aCons (mCB oMax2 (aCons (mC (PyData.int 1)) (aCons (mCB oMin2 (aCons (mVar 2) (aCons (mOp oIt (mLst (aCons (mVar 2) (aCons (mC (PyData.int 14)) (aCons (mC (PyData.int 7)) (aCons (mC (PyData.int 5)) aNil))))) (mOp oSub (mVar 1) (mC (PyData.int 1)))) aNil))) aNil))) aNil))) aNil))) (gNm 3))
 (sAsg (mOp oFdiv (mVar 2) (mOp oIt (mVar 3) (mUn oNeg (mC (PyData.int 1))))) (gNm 2))))
 (sRet (mVar 3))))
def m__law_small : List PyData → C PyData := bodyW b__law_small 2 2
def b__law_kinds : DS :=
 (sRet (mCB oTuple (aCons (mFr (mLc (iR1 (mOp oAdd (mC (PyData.int 1)) (mCallW 0 m_draw (aCons (mC (PyData.int 4)) aNil)))) (gNm 3) tOk [3] (mEl (mCallW 0 m__law_sides (aCons (mVar 1) (aCons (mVar 2) aNil)))))) aNil)))
def m__law_kinds : List PyData → C PyData := bodyW b__law_kinds 2 1
def b__law_great : DS :=
 (sSeq (sPar 2 3 (aCons (mOp oSub (mOp oPow (mC (PyData.int 10)) (mC (PyData.int 12))) (mCallW 0 m_draw (aCons (mC (PyData.int 9)) aNil))) (aCons (mCallW 0 m_draw (aCons (mCB oLn (aCons (mVar 1) aNil)) aNil)) aNil)))
 (sRet (mCallW 0 m_one (aCons (mLst (aCons (mOp oAdd (mOp oAdd (mSl oSl (mVar 1) oNone (oSome (mVar 3))) (mTup (aCons (mVar 2) aNil))) (mSl oSl (mVar 1) (oSome (mOp oAdd (mVar 3) (mC (PyData.int 1)))) oNone)) (aCons (mOp oMul (mTup (aCons (mVar 2) aNil)) (mCB oLn (aCons (mVar 1) aNil))) aNil))) aNil))))
def m__law_great : List PyData → C PyData := bodyW b__law_great 1 2
def b_law_1 : DS :=
 (sRet (mC (PyData.bool true)))
def b_law_2 : DS :=
 (sIf (tT (mOp oNe (mCB oRepr (aCons (mLst (aCons (mVar 4) (aCons (mVar 5) aNil))) aNil)) (mVar 6)))
 (sRet (mC (PyData.bool false)))
 sNx)
def b_law_3 : DS :=
 (sIf (tOo (tT (mOp oNe (mCB oRepr (aCons (mCall m_lies_in (aCons (mVar 4) (aCons (mVar 5) (aCons (mVar 16) aNil)))) aNil)) (mCB oRepr (aCons (mCall m__law_is_placed (aCons (mVar 4) (aCons (mVar 5) (aCons (mVar 16) aNil)))) aNil)))) (tT (mOp oNe (mCB oRepr (aCons (mVar 16) aNil)) (mVar 17))))
 (sRet (mC (PyData.bool false)))
 sNx)
def b_law_4 : DS :=
 (sSeq (sAsg (mCB oRepr (aCons (mVar 16) aNil)) (gNm 17))
 b_law_3)
def b_law_5 : DS :=
 (sSeq (sFz 9 (sForK [1, 4, 5, 6] (iSq (mOp oAdd (mVar 9) (mLst (aCons (mTup (aCons (mC (PyData.int 0)) (aCons (mVar 5) aNil))) (aCons (mTup (aCons (mC (PyData.int 0)) (aCons (mOp oMul (mTup (aCons (mC (PyData.int 0)) aNil)) (mOp oSub (mVar 3) (mC (PyData.int 1)))) aNil))) (aCons (mTup (aCons (mC (PyData.int 0)) (aCons (mOp oMul (mTup (aCons (mC (PyData.int 0)) aNil)) (mOp oAdd (mVar 3) (mC (PyData.int 1)))) aNil))) (aCons (mTup (aCons (mC (PyData.int 0)) (aCons (mOp oMul (mTup (aCons (mC (PyData.bool false)) aNil)) (mVar 3)) aNil))) aNil))))))) (gNm 16)
 b_law_4))
 b_law_2)
def b_law_6 : DS :=
 (sSeq (oApp 9 (mTup (aCons (mOp oSub (mCB oLn (aCons (mVar 4) aNil)) (mC (PyData.int 1))) (aCons (mOp oMul (mTup (aCons (mC (PyData.int 0)) aNil)) (mVar 3)) aNil))))
 b_law_5)
def b_law_7 : DS :=
 (oExt 9 (mLst (aCons (mVar 13) (aCons (mTup (aCons (mOp oIt (mVar 13) (mC (PyData.int 0))) (aCons (mVar 15) aNil))) (aCons (mTup (aCons (mOp oIt (mVar 13) (mC (PyData.int 0))) (aCons (mCB oList (aCons (mOp oIt (mVar 13) (mC (PyData.int 1))) aNil)) aNil))) (aCons (mOp oAdd (mVar 13) (mTup (aCons (mC (PyData.int 0)) aNil))) (aCons (mCB oList (aCons (mVar 13) aNil)) aNil)))))))
def b_law_8 : DS :=
 (sSeq (sAsg (mOp oAdd (mOp oAdd (mSl oSl (mOp oIt (mVar 13) (mC (PyData.int 1))) oNone (oSome (mVar 14))) (mTup (aCons (mOp oAdd (mOp oIt (mOp oIt (mVar 13) (mC (PyData.int 1))) (mVar 14)) (mCallW 1 m_one (aCons (mLst (aCons (mC (PyData.int 1)) (aCons (mUn oNeg (mC (PyData.int 1))) (aCons (mC (PyData.int 2)) aNil)))) aNil))) aNil))) (mSl oSl (mOp oIt (mVar 13) (mC (PyData.int 1))) (oSome (mOp oAdd (mVar 14) (mC (PyData.int 1)))) oNone)) (gNm 15))
 b_law_7)
def b_law_9 : DS :=
 (sSeq (sAsg (mCallW 1 m_draw (aCons (mVar 3) aNil)) (gNm 14))
 b_law_8)
def b_law_10 : DS :=
 (sSeq (sAsg (mCallW 1 m_one (aCons (mOp oAdd (mVar 7) (mLst (aCons (mTup (aCons (mC (PyData.int 0)) (aCons (mOp oMul (mTup (aCons (mC (PyData.int 0)) aNil)) (mVar 3)) aNil))) aNil))) aNil)) (gNm 13))
 b_law_9)
def b_law_11 : DS :=
 (sSeq (sForK [1, 3, 4, 5, 6, 7, 9] (iR1 (mC (PyData.int 4))) (gNm 10)
 b_law_10)
 b_law_6)
def b_law_12 : DS :=
 (oExt 9 (mLst (aCons (mVar 13) (aCons (mCallW 1 (m__law_bent 3) (aCons (mVar 13) (aCons (mC (PyData.int 2)) aNil))) aNil))))
def b_law_13 : DS :=
 (sSeq (sIf (tT (mOp oNe (mCB oRepr (aCons (mCall m_covered (aCons (mVar 4) (aCons (mVar 13) aNil))) aNil)) (mCB oRepr (aCons (mCB oTuple (aCons (mCall m__law_covered (aCons (mVar 4) (aCons (mVar 13) aNil))) aNil)) aNil))))
 (sRet (mC (PyData.bool false)))
 sNx)
 b_law_12)
def b_law_14 : DS :=
 (sSeq (sAsg (mTup (aCons (mVar 11) (aCons (mCB oTuple (aCons (mFr (mLc (iR1 (mVar 3)) (gNm 18) tOk [18] (mEl (mCallW 1 m_draw (aCons (mVar 12) aNil))))) aNil)) aNil))) (gNm 13))
 b_law_13)
def b_law_15 : DS :=
 (sSeq (sAsg (mTup (aCons (mCallW 1 m_one (aCons (mVar 8) aNil)) (aCons (mCallW 1 m_one (aCons (mLst (aCons (mC (PyData.int 3)) (aCons (mC (PyData.int 9)) (aCons (mOp oPow (mC (PyData.int 10)) (mC (PyData.int 12))) aNil)))) aNil)) aNil))) (gTp 2 (gs1 (gNm 11) (gs1 (gNm 12) gs0))))
 b_law_14)
def b_law_16 : DS :=
 (sSeq (sForK [1, 3, 4, 5, 6, 7, 8, 9] (iR1 (mC (PyData.int 6))) (gNm 10)
 b_law_15)
 b_law_11)
def b_law_17 : DS :=
 (sSeq (sNew 9 (eoLst (aCons (mCallW 1 m__law_odd aNil) (aCons (mTup (aCons (mC (PyData.int 0)) (aCons (mOp oMul (mTup (aCons (mC (PyData.int 0)) aNil)) (mVar 3)) aNil))) (aCons (mTup (aCons (mCB oLn (aCons (mVar 4) aNil)) (aCons (mOp oMul (mTup (aCons (mC (PyData.int 0)) aNil)) (mVar 3)) aNil))) (aCons (mTup (aCons (mUn oNeg (mC (PyData.int 1))) (aCons (mOp oMul (mTup (aCons (mC (PyData.int 0)) aNil)) (mVar 3)) aNil))) (aCons (mTup (aCons (mC (PyData.bool true)) (aCons (mOp oMul (mTup (aCons (mC (PyData.int 0)) aNil)) (mVar 3)) aNil))) aNil)))))))
 b_law_16)
def b_law_18 : DS :=
 (sSeq (sIf (tOo (tT (mOp oNe (mCB oRepr (aCons (mCall m_places (aCons (mVar 4) (aCons (mVar 5) aNil))) aNil)) (mCB oRepr (aCons (mCB oTuple (aCons (mVar 7) aNil)) aNil)))) (tT (mOp oNe (mCB oRepr (aCons (mKw [1, 0] m_places (aCons (mVar 5) (aCons (mVar 4) aNil))) aNil)) (mCB oRepr (aCons (mCB oTuple (aCons (mVar 7) aNil)) aNil)))))
 (sRet (mC (PyData.bool false)))
 sNx)
 b_law_17)
def b_law_19 : DS :=
 (sSeq (sAsg (mFr (mLc (iR1 (mCB oLn (aCons (mVar 4) aNil))) (gNm 11) (tT (mOp oLt (mCall m__law_volume (aCons (mOp oIt (mVar 4) (mVar 11)) aNil)) (mC (PyData.int 401)))) [11] (mEl (mVar 11)))) (gNm 8))
 b_law_18)
def b_law_20 : DS :=
 (sSeq (sPar 6 7 (aCons (mCB oRepr (aCons (mLst (aCons (mVar 4) (aCons (mVar 5) aNil))) aNil)) (aCons (mCall m__law_places (aCons (mVar 4) (aCons (mVar 5) aNil))) aNil)))
 b_law_19)
def b_law_21 : DS :=
 (sSeq (sIf (tT (mOp oEq (mCallW 1 m_draw (aCons (mC (PyData.int 4)) aNil)) (mC (PyData.int 0))))
 (sAsg (mOp oAdd (mSl oSl (mVar 4) oNone (oSome (mC (PyData.int 3)))) (mTup (aCons (mCallW 1 m__law_great (aCons (mOp oIt (mVar 4) (mC (PyData.int 0))) aNil)) aNil))) (gNm 4))
 sNx)
 b_law_20)
def b_law_22 : DS :=
 (sSeq (sAsg (mTup (aCons (mCallW 1 m__law_kinds (aCons (mVar 3) (aCons (mC (PyData.int 4)) aNil))) (aCons (mCallW 1 m__law_small (aCons (mVar 3) (aCons (mCallW 1 m_one (aCons (mLst (aCons (mC (PyData.int 12)) (aCons (mC (PyData.int 60)) (aCons (mC (PyData.int 400)) aNil)))) aNil)) aNil))) aNil))) (gTp 2 (gs1 (gNm 4) (gs1 (gNm 5) gs0))))
 b_law_21)
def b_law_23 : DS :=
 (sSeq (sAsg (mOp oAdd (mC (PyData.int 1)) (mCallW 1 m_draw (aCons (mC (PyData.int 4)) aNil))) (gNm 3))
 b_law_22)
def b_law : DS :=
 (sSeq (sForK [1] (iR1 (mC (PyData.int 8))) (gNm 2)
 b_law_23)
 b_law_1)
def m_law : Prop := b_law { nx := fun _ => False, rt := fun e => e = .bool true, ex := fun _ => False } (lawEnv 17)
end K30
set_option Elab.async false
set_option linter.all false
set_option maxRecDepth 100000
namespace K30
open PySem PySem.Spec PyProof.Rows L2 Evl TB DL MI
section
variable {P : Program} {w : World} {K : PySem.W.Frag} {mg : Str → Option Value} {base : Heap}
theorem ok_is_int (T : Txt mg) {f : Addr} {fd : FuncData} (F : Fun K "is_int" "is_int" s_is_int f fd)  : FnOk P w K mg base CX0 1 f fd p_is_int (SpM m_is_int) := by
  refine F.ok sc_is_int (fun vs H Q E h => ?_) (fun cdv A outer s H vs Q E hr h => ?_)
  · obtain ⟨N, es, Pd, _, r, ⟨hl, _⟩, _⟩ := h
    rw [r.len, hl]; rfl
  obtain ⟨N, es, Pd, ok, r, ⟨hl, h⟩, q⟩ := h
  refine ⟨_, (pss_one (ps_ret (pe_and (pe_callB (r := rIsi K) call_isi (by rfl) T.n_isinstance (by decide +kernel) (pa_cons (pv 0) (pa_cons (pe_bltn (v := .ty "int") (u := .type "int") (by rfl) T.n_int (by decide +kernel) rfl) pa_nil))) (pe_one (pe_not (pe_callB (r := rIsi K) call_isi (by rfl) T.n_isinstance (by decide +kernel) (pa_cons (pv 0) (pa_cons (pe_bltn (v := .ty "bool") (u := .type "bool") (by rfl) T.n_bool (by decide +kernel) rfl) pa_nil)))))))), ?_⟩
  rw [start_eq (n := 1) (k := 0) (r.len.trans hl) rfl]
  exact run_F (fun c =>
    (ss_ret (se_and (se_isi kit_int (se_var 0)) (se_not (se_isi kit_bool (se_var 0)))))) ok r h q
theorem ok_grid (T : Txt mg) {f : Addr} {fd : FuncData} (F : Fun K "grid" "grid" s_grid f fd)  : FnOk P w K mg base CX0 1 f fd p_grid (SpM m_grid) := by
  refine F.ok sc_grid (fun vs H Q E h => ?_) (fun cdv A outer s H vs Q E hr h => ?_)
  · obtain ⟨N, es, Pd, _, r, ⟨hl, _⟩, _⟩ := h
    rw [r.len, hl]; rfl
  obtain ⟨N, es, Pd, ok, r, ⟨hl, h⟩, q⟩ := h
  refine ⟨_, (pss_cons (ps_set (i := 3) sc_grid.nd rfl (.inl rfl) (pe_lst (pa_cons (pe_tup pa_nil) pa_nil)))
 (pss_cons (ps_for PassesOwn.never rfl (show PI _ _ _ (ZP.iZip3 K _) from ZP.pi_zip3 (by rfl) T.n_zip (pa_cons (pv 0) (pa_cons (pv 1) (pa_cons (pv 2) pa_nil)))) (pg_tup rfl (pgs_cons (pg_name (i := 4) sc_grid.nd rfl (.inr rfl)) (pgs_cons (pg_name (i := 5) sc_grid.nd rfl (.inr rfl)) (pgs_cons (pg_name (i := 6) sc_grid.nd rfl (.inr rfl)) pgs_nil))))
 (pss_one (ps_setLc2 (i := 3) (own := [("row", 7), ("number", 8)]) (vs1 := [8]) (g := gName 7) (g1 := gName 8) rfl sc_grid.nd rfl rfl (sw_true rfl rfl rfl (by decide +kernel)) (show PI _ _ _ (MI.iSeq K _) from MI.pi_seq (pv 3)) (blkOk_by (N := n_grid) (sc := defScope s_grid) (by decide +kernel)) (by decide) (fun _ _ _ _ _ => pg_name (i := 7) sc_grid.nd rfl (.inl rfl)) (fun _ _ _ _ _ => pts_nil) (fun _ _ _ _ _ => (pi_range3 (by rfl) T.n_range (pa_cons (pv 4) (pa_cons (pv 5) (pa_cons (pv 6) pa_nil))))) (fun _ _ _ _ _ => pg_name (i := 8) sc_grid.nd rfl (.inl rfl)) (fun _ _ _ _ _ => pts_nil) (fun _ _ _ _ _ => (pe_op (r := MI.rAddA K) MI.op_addA (pv 7) (pe_tup (pa_cons (pv 8) pa_nil)))))))
 (pss_one (ps_ret (pv 3))))), ?_⟩
  rw [start_eq (n := 3) (k := 6) (r.len.trans hl) rfl]
  exact run_F (fun c =>
    (ss_seq (ss_asg (se_lst (sa_cons (se_tup sa_nil) sa_nil)) (sg_name (vs := [3]) (by decide)))
 (ss_seq (ss_forK (L := [3]) (si_zip3 (K := K) (se_var 0) (se_var 1) (se_var 2)) (show SGv c [4, 5, 6] _ _ from (sg_tup (K := K) (sgs_cons (sg_name (by decide)) (sgs_cons (sg_name (by decide)) (sgs_cons (sg_name (by decide)) sgs_nil)))))
 (ss_asg (se_fr (seo_lc2 (si_seq (K := K) (se_var 3)) (sg_name (by decide)) st_ok (si_range3 (se_var 4) (se_var 5) (se_var 6)) (sg_name (by decide)) st_ok (se_op (os_add (K := K)) (se_var 7) (se_tup (sa_cons (se_var 8) sa_nil))))) (sg_name (vs := [3]) (by decide))))
 (ss_ret (se_var 3))))) ok r h q
theorem ok_cells_of (T : Txt mg) {f : Addr} {fd : FuncData} (F : Fun K "cells_of" "cells_of" s_cells_of f fd) (h_grid : Keeps P w K mg base 1 "grid" p_grid (SpM m_grid)) : FnOk P w K mg base CX0 2 f fd p_cells_of (SpM m_cells_of) := by
  refine F.ok sc_cells_of (fun vs H Q E h => ?_) (fun cdv A outer s H vs Q E hr h => ?_)
  · obtain ⟨N, es, Pd, _, r, ⟨hl, _⟩, _⟩ := h
    rw [r.len, hl]; rfl
  obtain ⟨N, es, Pd, ok, r, ⟨hl, h⟩, q⟩ := h
  refine ⟨_, (pss_one (ps_ret (TB.pe_own h_grid (hr.mono (by decide)) (by rfl) (pa_cons (pe_op (r := MI.rMulA K) MI.op_mulA (pe_tup (pa_cons pe_int pa_nil)) (pe_callB (r := MI.rLenA K) MI.call_lenA (by rfl) T.n_len (by decide +kernel) (pa_cons (pv 0) pa_nil))) (pa_cons (pv 0) (pa_cons (pe_op (r := MI.rMulA K) MI.op_mulA (pe_tup (pa_cons pe_int pa_nil)) (pe_callB (r := MI.rLenA K) MI.call_lenA (by rfl) T.n_len (by decide +kernel) (pa_cons (pv 0) pa_nil))) pa_nil)))))), ?_⟩
  rw [start_eq (n := 1) (k := 0) (r.len.trans hl) rfl]
  exact run_F (fun c =>
    (ss_ret (se_call (sa_cons (se_op (os_mul (K := K)) (se_tup (sa_cons (se_int 0) sa_nil)) (se_cb (cas_len (K := K)) (sa_cons (se_var 0) sa_nil))) (sa_cons (se_var 0) (sa_cons (se_op (os_mul (K := K)) (se_tup (sa_cons (se_int 1) sa_nil)) (se_cb (cas_len (K := K)) (sa_cons (se_var 0) sa_nil))) sa_nil)))))) ok r h q
theorem ok_covered (T : Txt mg) {f : Addr} {fd : FuncData} (F : Fun K "covered" "covered" s_covered f fd) (h_grid : Keeps P w K mg base 1 "grid" p_grid (SpM m_grid)) : FnOk P w K mg base CX0 2 f fd p_covered (SpM m_covered) := by
  refine F.ok sc_covered (fun vs H Q E h => ?_) (fun cdv A outer s H vs Q E hr h => ?_)
  · obtain ⟨N, es, Pd, _, r, ⟨hl, _⟩, _⟩ := h
    rw [r.len, hl]; rfl
  obtain ⟨N, es, Pd, ok, r, ⟨hl, h⟩, q⟩ := h
  refine ⟨_, (pss_cons (ps_asg (pv 1) (pg_tup rfl (pgs_cons (pg_name (i := 2) sc_covered.nd rfl (.inl rfl)) (pgs_cons (pg_name (i := 3) sc_covered.nd rfl (.inl rfl)) pgs_nil))))
 (pss_cons (ps_setLc (i := 4) (own := [("number", 5), ("side", 6)]) (g := gTup K 2 (gCons (gName 5) (gCons (gName 6) gNil))) rfl sc_covered.nd rfl rfl (sw_true rfl rfl rfl (by decide +kernel)) (show PI _ _ _ (ZP.iZip2 K _) from ZP.pi_zip2 (by rfl) T.n_zip (pa_cons (pv 3) (pa_cons (pe_ix (r := rIx K) ix_seq (pv 0) (pv 2) (fun _ _ => rfl)) pa_nil))) (blkOk_by (N := n_covered) (sc := defScope s_covered) (by decide +kernel)) (fun _ _ _ _ _ => (pg_tup rfl (pgs_cons (pg_name (i := 5) sc_covered.nd rfl (.inl rfl)) (pgs_cons (pg_name (i := 6) sc_covered.nd rfl (.inl rfl)) pgs_nil)))) (fun _ _ _ _ _ => pts_nil) (fun _ _ _ _ _ => (pe_op (r := MI.rAddA K) MI.op_addA (pv 5) (pv 6))))
 (pss_one (ps_ret (pe_callTy (r := TB.rTupQ K) call_tuple_of (by rfl) T.n_tuple (by decide +kernel) (pa_cons (TB.pe_own h_grid (hr.mono (by decide)) (by rfl) (pa_cons (pv 3) (pa_cons (pv 4) (pa_cons (pe_op (r := MI.rMulA K) MI.op_mulA (pe_tup (pa_cons pe_int pa_nil)) (pe_callB (r := MI.rLenA K) MI.call_lenA (by rfl) T.n_len (by decide +kernel) (pa_cons (pv 3) pa_nil))) pa_nil)))) pa_nil)))))), ?_⟩
  rw [start_eq (n := 2) (k := 5) (r.len.trans hl) rfl]
  exact run_F (fun c =>
    (ss_seq (ss_asg (se_var 1) (show SGv c [2, 3] _ _ from (sg_tup (K := K) (sgs_cons (sg_name (by decide)) (sgs_cons (sg_name (by decide)) sgs_nil)))))
 (ss_seq (ss_asg (se_fr (seo_lc (si_zip2 (K := K) (se_var 3) (se_op (os_it (K := K)) (se_var 0) (se_var 2))) (sg_tup (K := K) (sgs_cons (sg_name (by decide)) (sgs_cons (sg_name (by decide)) sgs_nil))) st_ok (se_op (os_add (K := K)) (se_var 5) (se_var 6)))) (sg_name (vs := [4]) (by decide)))
 (ss_ret (se_cb (cas_tuple (K := K)) (sa_cons (se_call (sa_cons (se_var 3) (sa_cons (se_var 4) (sa_cons (se_op (os_mul (K := K)) (se_tup (sa_cons (se_int 1) sa_nil)) (se_cb (cas_len (K := K)) (sa_cons (se_var 3) sa_nil))) sa_nil)))) sa_nil)))))) ok r h q
theorem ok_is_index (T : Txt mg) {f : Addr} {fd : FuncData} (F : Fun K "is_index" "is_index" s_is_index f fd) (h_is_int : Keeps P w K mg base 1 "is_int" p_is_int (SpM m_is_int)) : FnOk P w K mg base CX0 2 f fd p_is_index (SpM m_is_index) := by
  refine F.ok sc_is_index (fun vs H Q E h => ?_) (fun cdv A outer s H vs Q E hr h => ?_)
  · obtain ⟨N, es, Pd, _, r, ⟨hl, _⟩, _⟩ := h
    rw [r.len, hl]; rfl
  obtain ⟨N, es, Pd, ok, r, ⟨hl, h⟩, q⟩ := h
  refine ⟨_, (pss_one (ps_ret (pe_and (TB.pe_own h_is_int (hr.mono (by decide)) (by rfl) (pa_cons (pv 0) pa_nil)) (pe_one (pe_chain op_le op_lt pe_int (pv 0) (pv 1)))))), ?_⟩
  rw [start_eq (n := 2) (k := 0) (r.len.trans hl) rfl]
  exact run_F (fun c => (ss_ret (se_and (se_call (sa_cons (se_var 0) sa_nil)) (se_chain os_le os_lt (se_int 0) (se_var 0) (se_var 1))))) ok r h q
theorem ok_lies_in (T : Txt mg) {f : Addr} {fd : FuncData} (F : Fun K "lies_in" "lies_in" s_lies_in f fd) (h_is_int : Keeps P w K mg base 1 "is_int" p_is_int (SpM m_is_int)) (h_is_index : Keeps P w K mg base 2 "is_index" p_is_index (SpM m_is_index)) : FnOk P w K mg base CX0 3 f fd p_lies_in (SpM m_lies_in) := by
  refine F.ok sc_lies_in (fun vs H Q E h => ?_) (fun cdv A outer s H vs Q E hr h => ?_)
  · obtain ⟨N, es, Pd, _, r, ⟨hl, _⟩, _⟩ := h
    rw [r.len, hl]; rfl
  obtain ⟨N, es, Pd, ok, r, ⟨hl, h⟩, q⟩ := h
  refine ⟨_, (pss_cons (ps_if (PW.pt (pw_or (pt_not (pt_val (pe_callB (r := rIsi K) call_isi (by rfl) T.n_isinstance (by decide +kernel) (pa_cons (pv 2) (pa_cons (pe_bltn (v := .ty "tuple") (u := .type "tuple") (by rfl) T.n_tuple (by decide +kernel) rfl) pa_nil))))) (pw_or1 (pt_cmpR (r := MI.rNeA K) (MI.op_neA hr.units) (pe_callB (r := MI.rLenA K) MI.call_lenA (by rfl) T.n_len (by decide +kernel) (pa_cons (pv 2) pa_nil)) pe_int (nomark _)))))
 (pss_one (ps_ret pe_bl)) pss_nil)
 (pss_cons (ps_asg (pv 2) (pg_tup rfl (pgs_cons (pg_name (i := 3) sc_lies_in.nd rfl (.inl rfl)) (pgs_cons (pg_name (i := 4) sc_lies_in.nd rfl (.inl rfl)) pgs_nil))))
 (pss_cons (ps_if (pt_not (pt_val (TB.pe_own h_is_index (hr.mono (by decide)) (by rfl) (pa_cons (pv 3) (pa_cons (pe_callB (r := MI.rLenA K) MI.call_lenA (by rfl) T.n_len (by decide +kernel) (pa_cons (pv 0) pa_nil)) pa_nil)))))
 (pss_one (ps_ret pe_bl)) pss_nil)
 (pss_cons (ps_if (PW.pt (pw_or (pt_not (pt_val (pe_callB (r := rIsi K) call_isi (by rfl) T.n_isinstance (by decide +kernel) (pa_cons (pv 4) (pa_cons (pe_bltn (v := .ty "tuple") (u := .type "tuple") (by rfl) T.n_tuple (by decide +kernel) rfl) pa_nil))))) (pw_or1 (pt_cmpR (r := MI.rNeA K) (MI.op_neA hr.units) (pe_callB (r := MI.rLenA K) MI.call_lenA (by rfl) T.n_len (by decide +kernel) (pa_cons (pv 4) pa_nil)) (pe_callB (r := MI.rLenA K) MI.call_lenA (by rfl) T.n_len (by decide +kernel) (pa_cons (pv 1) pa_nil)) (nomark _)))))
 (pss_one (ps_ret pe_bl)) pss_nil)
 (pss_cons (ps_for PassesOwn.never rfl (show PI _ _ _ (ZP.iZip3 K _) from ZP.pi_zip3 (by rfl) T.n_zip (pa_cons (pv 4) (pa_cons (pe_ix (r := rIx K) ix_seq (pv 0) (pv 3) (fun _ _ => rfl)) (pa_cons (pv 1) pa_nil)))) (pg_tup rfl (pgs_cons (pg_name (i := 5) sc_lies_in.nd rfl (.inl rfl)) (pgs_cons (pg_name (i := 6) sc_lies_in.nd rfl (.inl rfl)) (pgs_cons (pg_name (i := 7) sc_lies_in.nd rfl (.inl rfl)) pgs_nil))))
 (pss_one (ps_if (PW.pt (pw_or (pt_not (pt_val (TB.pe_own h_is_int (hr.mono (by decide)) (by rfl) (pa_cons (pv 5) pa_nil)))) (pw_or1 (pt_not (pt_chain op_le op_le pe_int (pv 5) (pe_op op_sub (pv 7) (pv 6)))))))
 (pss_one (ps_ret pe_bl)) pss_nil)))
 (pss_one (ps_ret pe_bl))))))), ?_⟩
  rw [start_eq (n := 3) (k := 5) (r.len.trans hl) rfl]
  exact run_F (fun c =>
    (ss_seq (ss_if (st_oo (st_no (st_val (se_isi kit_tuple (se_var 2)))) (st_val (se_op (os_ne (K := K)) (se_cb (cas_len (K := K)) (sa_cons (se_var 2) sa_nil)) (se_int 2))))
 (ss_ret (se_bl false))
 ss_nx)
 (ss_seq (ss_asg (se_var 2) (show SGv c [3, 4] _ _ from (sg_tup (K := K) (sgs_cons (sg_name (by decide)) (sgs_cons (sg_name (by decide)) sgs_nil)))))
 (ss_seq (ss_if (st_no (st_val (se_call (sa_cons (se_var 3) (sa_cons (se_cb (cas_len (K := K)) (sa_cons (se_var 0) sa_nil)) sa_nil)))))
 (ss_ret (se_bl false))
 ss_nx)
 (ss_seq (ss_if (st_oo (st_no (st_val (se_isi kit_tuple (se_var 4)))) (st_val (se_op (os_ne (K := K)) (se_cb (cas_len (K := K)) (sa_cons (se_var 4) sa_nil)) (se_cb (cas_len (K := K)) (sa_cons (se_var 1) sa_nil)))))
 (ss_ret (se_bl false))
 ss_nx)
 (ss_seq (ss_forK (L := []) (si_zip3 (K := K) (se_var 4) (se_op (os_it (K := K)) (se_var 0) (se_var 3)) (se_var 1)) (show SGv c [5, 6, 7] _ _ from (sg_tup (K := K) (sgs_cons (sg_name (by decide)) (sgs_cons (sg_name (by decide)) (sgs_cons (sg_name (by decide)) sgs_nil)))))
 (ss_if (st_oo (st_no (st_val (se_call (sa_cons (se_var 5) sa_nil)))) (st_no (st_val (se_chain os_le os_le (se_int 0) (se_var 5) (se_op os_sub (se_var 7) (se_var 6))))))
 (ss_ret (se_bl false))
 ss_nx))
 (ss_ret (se_bl true)))))))) ok r h q
theorem ok_corners (T : Txt mg) {f : Addr} {fd : FuncData} (F : Fun K "corners" "corners" s_corners f fd) (h_cells_of : Keeps P w K mg base 2 "cells_of" p_cells_of (SpM m_cells_of)) : FnOk P w K mg base CX0 3 f fd p_corners (SpM m_corners) := by
  refine F.ok sc_corners (fun vs H Q E h => ?_) (fun cdv A outer s H vs Q E hr h => ?_)
  · obtain ⟨N, es, Pd, _, r, ⟨hl, _⟩, _⟩ := h
    rw [r.len, hl]; rfl
  obtain ⟨N, es, Pd, ok, r, ⟨hl, h⟩, q⟩ := h
  refine ⟨_, (pss_one (ps_ret (TB.pe_own h_cells_of (hr.mono (by decide)) (by rfl) (pa_cons (pe_lc (own := [("side", 2), ("room", 3)]) (g := gTup K 2 (gCons (gName 2) (gCons (gName 3) gNil))) rfl sc_corners.nd (show PI _ _ _ (ZP.iZip2 K _) from ZP.pi_zip2 (by rfl) T.n_zip (pa_cons (pv 0) (pa_cons (pv 1) pa_nil))) (blkOk_by (N := n_corners) (sc := defScope s_corners) (by decide +kernel)) (fun _ _ _ _ _ => (pg_tup rfl (pgs_cons (pg_name (i := 2) sc_corners.nd rfl (.inl rfl)) (pgs_cons (pg_name (i := 3) sc_corners.nd rfl (.inl rfl)) pgs_nil)))) (fun _ _ _ _ _ => pts_nil) (fun _ _ _ _ _ => (pe_op (r := MI.rAddA K) MI.op_addA (pe_op op_sub (pv 3) (pv 2)) pe_int))) pa_nil)))), ?_⟩
  rw [start_eq (n := 2) (k := 2) (r.len.trans hl) rfl]
  exact run_F (fun c =>
    (ss_ret (se_call (sa_cons (se_fr (seo_lc (si_zip2 (K := K) (se_var 0) (se_var 1)) (sg_tup (K := K) (sgs_cons (sg_name (by decide)) (sgs_cons (sg_name (by decide)) sgs_nil))) st_ok (se_op (os_add (K := K)) (se_op os_sub (se_var 3) (se_var 2)) (se_int 1)))) sa_nil)))) ok r h q
theorem ok_places (T : Txt mg) {f : Addr} {fd : FuncData} (F : Fun K "places" "places" s_places f fd) (h_corners : Keeps P w K mg base 3 "corners" p_corners (SpM m_corners)) : FnOk P w K mg base CX0 4 f fd p_places (SpM m_places) := by
  refine F.ok sc_places (fun vs H Q E h => ?_) (fun cdv A outer s H vs Q E hr h => ?_)
  · obtain ⟨N, es, Pd, _, r, ⟨hl, _⟩, _⟩ := h
    rw [r.len, hl]; rfl
  obtain ⟨N, es, Pd, ok, r, ⟨hl, h⟩, q⟩ := h
  refine ⟨_, (pss_one (ps_ret (pe_callTy (r := TB.rTupQ K) call_tuple_of (by rfl) T.n_tuple (by decide +kernel) (pa_cons (pe_lc2 (own := [("kind", 2), ("brick", 3), ("corner", 4)]) (vs1 := [4]) (g := gTup K 2 (gCons (gName 2) (gCons (gName 3) gNil))) (g1 := gName 4) rfl sc_places.nd (show PI _ _ _ (MI.iEnumA K _) from MI.pi_enumA (by rfl) T.n_enumerate (pa_cons (pv 0) pa_nil)) (blkOk_by (N := n_places) (sc := defScope s_places) (by decide +kernel)) (by decide) (fun _ _ _ _ _ => (pg_tup rfl (pgs_cons (pg_name (i := 2) sc_places.nd rfl (.inl rfl)) (pgs_cons (pg_name (i := 3) sc_places.nd rfl (.inl rfl)) pgs_nil)))) (fun _ _ _ _ _ => pts_nil) (fun _ _ _ _ _ => (show PI _ _ _ (MI.iSeq K _) from MI.pi_seq (TB.pe_own h_corners (hr.mono (by decide)) (by rfl) (pa_cons (pv 3) (pa_cons (pv 1) pa_nil))))) (fun _ _ _ _ _ => pg_name (i := 4) sc_places.nd rfl (.inl rfl)) (fun _ _ _ _ _ => pts_nil) (fun _ _ _ _ _ => (pe_tup (pa_cons (pv 2) (pa_cons (pv 4) pa_nil))))) pa_nil)))), ?_⟩
  rw [start_eq (n := 2) (k := 3) (r.len.trans hl) rfl]
  exact run_F (fun c =>
    (ss_ret (se_cb (cas_tuple (K := K)) (sa_cons (se_fr (seo_lc2 (si_enum (K := K) (se_var 0)) (sg_tup (K := K) (sgs_cons (sg_name (by decide)) (sgs_cons (sg_name (by decide)) sgs_nil))) st_ok (si_seq (K := K) (se_call (sa_cons (se_var 3) (sa_cons (se_var 1) sa_nil)))) (sg_name (by decide)) st_ok (se_tup (sa_cons (se_var 2) (sa_cons (se_var 4) sa_nil))))) sa_nil)))) ok r h q
theorem ok__law_odd (T : Txt mg) {f : Addr} {fd : FuncData} (F : Fun K "_law_odd" "_law_odd" s__law_odd f fd) (h__law_one : Keeps P w K mg base 2 "_law_one" p__law_one (SpMW m_one)) : FnOk P w K mg base CX0 3 f fd p__law_odd (SpMW m__law_odd) := by
  refine F.ok sc__law_odd (fun vs H Q E h => ?_) (fun cdv A outer s H vs Q E hr h => ?_)
  · obtain ⟨d, g, l, N, es, vs', Pd, rfl, _, _, _, _, _, r, ⟨hl, _⟩, _⟩ := h
    show vs'.length + 1 = _
    rw [r.len, hl]; rfl
  obtain ⟨d, g, l, N, es, vs', Pd, rfl, ok, h1, h2, h3, D, r, ⟨hl, h⟩, q⟩ := h
  refine ⟨_, (pss_cons (ps_set (i := 1) sc__law_odd.nd rfl (.inl rfl) (pe_lst (pa_cons pe_non (pa_cons pe_bl (pa_cons pe_bl (pa_cons pe_int (pa_cons pe_int (pa_cons pe_int (pa_cons (pe_un un_neg pe_int) (pa_cons (pe_op op_pow pe_int pe_int) (pa_cons pe_str (pa_cons pe_str (pa_cons pe_str (pa_cons pe_str (pa_cons (pe_tup pa_nil) (pa_cons (pe_lst pa_nil) (pa_cons pe_dnewK (pa_cons (pe_tup (pa_cons pe_int pa_nil)) (pa_cons (pe_tup (pa_cons pe_int pa_nil)) (pa_cons (pe_tup (pa_cons pe_int (pa_cons pe_int pa_nil))) (pa_cons (pe_tup (pa_cons pe_int (pa_cons pe_int pa_nil))) pa_nil)))))))))))))))))))))
 (pss_cons (ps_set (i := 1) sc__law_odd.nd rfl (.inl rfl) (pe_op (r := MI.rAddA K) MI.op_addA (pv 1) (pe_lst (pa_cons (pe_tup (pa_cons pe_bl pa_nil)) (pa_cons (pe_tup (pa_cons pe_int (pa_cons (pe_tup (pa_cons pe_int pa_nil)) pa_nil))) (pa_cons (pe_tup (pa_cons pe_int (pa_cons (pe_tup (pa_cons pe_int (pa_cons pe_int pa_nil))) pa_nil))) (pa_cons (pe_tup (pa_cons pe_int (pa_cons (pe_tup (pa_cons pe_int (pa_cons pe_int pa_nil))) pa_nil))) (pa_cons (pe_tup (pa_cons pe_int (pa_cons (pe_tup (pa_cons pe_int (pa_cons pe_int pa_nil))) (pa_cons pe_int pa_nil)))) (pa_cons (pe_tup (pa_cons (pe_tup (pa_cons pe_int (pa_cons pe_int pa_nil))) (pa_cons pe_int pa_nil))) (pa_cons (pe_tup (pa_cons (pe_tup (pa_cons pe_int pa_nil)) (pa_cons pe_int pa_nil))) (pa_cons (pe_tup (pa_cons pe_str (pa_cons pe_int pa_nil))) pa_nil)))))))))))
 (pss_one (ps_ret (TB.pe_own h__law_one (hr.mono (by decide)) (by rfl) (pa_cons (pv 0) (pa_cons (pe_op (r := MI.rAddA K) MI.op_addA (pv 1) (pe_lst (pa_cons (pe_tup (pa_cons pe_non pa_nil)) (pa_cons (pe_tup (pa_cons (pe_un un_neg pe_int) pa_nil)) (pa_cons (pe_tup (pa_cons pe_int (pa_cons (pe_tup (pa_cons (pe_un un_neg pe_int) pa_nil)) pa_nil))) (pa_cons (pe_tup (pa_cons pe_int (pa_cons (pe_tup (pa_cons pe_bl (pa_cons pe_int pa_nil))) pa_nil))) (pa_cons (pe_tup (pa_cons pe_int (pa_cons pe_int pa_nil))) (pa_cons (pe_tup (pa_cons (pe_tup (pa_cons pe_int (pa_cons pe_int pa_nil))) (pa_cons (pe_tup (pa_cons pe_int (pa_cons pe_int pa_nil))) pa_nil))) (pa_cons (pe_tup (pa_cons (pe_tup (pa_cons pe_int pa_nil)) (pa_cons (pe_tup (pa_cons pe_int pa_nil)) pa_nil))) pa_nil))))))))) pa_nil))))))), ?_⟩
  rw [start_eqW (n := 0) (k := 1) (r.len.trans hl) rfl]
  exact run_W (fun c hc =>
    (ss_seq (ss_asg (se_lst (sa_cons se_non (sa_cons (se_bl true) (sa_cons (se_bl false) (sa_cons (se_int 0) (sa_cons (se_int 1) (sa_cons (se_int 2) (sa_cons (se_un us_neg (se_int 1)) (sa_cons (se_op os_pow (se_int 10) (se_int 30)) (sa_cons (se_str "") (sa_cons (se_str "a") (sa_cons (se_str "0") (sa_cons (se_str "2x3") (sa_cons (se_tup sa_nil) (sa_cons (se_lst sa_nil) (sa_cons se_dict0 (sa_cons (se_tup (sa_cons (se_int 0) sa_nil)) (sa_cons (se_tup (sa_cons (se_int 1) sa_nil)) (sa_cons (se_tup (sa_cons (se_int 0) (sa_cons (se_int 0) sa_nil))) (sa_cons (se_tup (sa_cons (se_int 1) (sa_cons (se_int 1) sa_nil))) sa_nil)))))))))))))))))))) (sg_name (vs := [1]) (by decide)))
 (ss_seq (ss_asg (se_op (os_add (K := K)) (se_var 1) (se_lst (sa_cons (se_tup (sa_cons (se_bl true) sa_nil)) (sa_cons (se_tup (sa_cons (se_int 0) (sa_cons (se_tup (sa_cons (se_int 0) sa_nil)) sa_nil))) (sa_cons (se_tup (sa_cons (se_int 0) (sa_cons (se_tup (sa_cons (se_int 0) (sa_cons (se_int 0) sa_nil))) sa_nil))) (sa_cons (se_tup (sa_cons (se_int 1) (sa_cons (se_tup (sa_cons (se_int 0) (sa_cons (se_int 0) sa_nil))) sa_nil))) (sa_cons (se_tup (sa_cons (se_int 0) (sa_cons (se_tup (sa_cons (se_int 0) (sa_cons (se_int 0) sa_nil))) (sa_cons (se_int 1) sa_nil)))) (sa_cons (se_tup (sa_cons (se_tup (sa_cons (se_int 0) (sa_cons (se_int 0) sa_nil))) (sa_cons (se_int 1) sa_nil))) (sa_cons (se_tup (sa_cons (se_tup (sa_cons (se_int 0) sa_nil)) (sa_cons (se_int 1) sa_nil))) (sa_cons (se_tup (sa_cons (se_str "step") (sa_cons (se_int 0) sa_nil))) sa_nil)))))))))) (sg_name (vs := [1]) (by decide)))
 (ss_ret (se_callW hc (sa_cons (se_op (os_add (K := K)) (se_var 1) (se_lst (sa_cons (se_tup (sa_cons se_non sa_nil)) (sa_cons (se_tup (sa_cons (se_un us_neg (se_int 1)) sa_nil)) (sa_cons (se_tup (sa_cons (se_int 0) (sa_cons (se_tup (sa_cons (se_un us_neg (se_int 1)) sa_nil)) sa_nil))) (sa_cons (se_tup (sa_cons (se_int 0) (sa_cons (se_tup (sa_cons (se_bl true) (sa_cons (se_int 0) sa_nil))) sa_nil))) (sa_cons (se_tup (sa_cons (se_int 2) (sa_cons (se_int 1) sa_nil))) (sa_cons (se_tup (sa_cons (se_tup (sa_cons (se_int 2) (sa_cons (se_int 1) sa_nil))) (sa_cons (se_tup (sa_cons (se_int 1) (sa_cons (se_int 2) sa_nil))) sa_nil))) (sa_cons (se_tup (sa_cons (se_tup (sa_cons (se_int 2) sa_nil)) (sa_cons (se_tup (sa_cons (se_int 3) sa_nil)) sa_nil))) sa_nil))))))))) sa_nil)))))) ok h1 h2 h3 D r h q
theorem ok__law_bent (T : Txt mg) {f : Addr} {fd : FuncData} (F : Fun K "_law_bent" "_law_bent" s__law_bent f fd) (gm : mg "_law_bent" = some (.ref f)) (bm : Binds K fd p__law_bent []) (h__law_draw : Keeps P w K mg base 1 "_law_draw" p__law_draw (SpMW m_draw)) (h__law_one : Keeps P w K mg base 2 "_law_one" p__law_one (SpMW m_one)) (h__law_odd : Keeps P w K mg base 3 "_law_odd" p__law_odd (SpMW m__law_odd)) : ∀ n : Nat, FnOk P w K mg base CX0 (4 + n) f fd p__law_bent (SpMW (m__law_bent n)) := by
  intro n
  induction n with
  | zero =>
    refine F.ok (k := 3) sc__law_bent (fun vs H Q E h => ?_) (fun cdv A outer s H vs Q E hr h => ?_)
    · obtain ⟨d, g, l, N, es, vs', Pd, _, _, _, _, _, _, _, h, _⟩ := h
      exact h.elim
    · obtain ⟨d, g, l, N, es, vs', Pd, _, _, _, _, _, _, _, h, _⟩ := h
      exact h.elim
  | succ n ih =>
  have h__law_bent : Keeps P w K mg base (4 + n) "_law_bent" p__law_bent (SpMW (m__law_bent n)) := TB.keeps_of (F := F) gm bm ih
  refine F.ok (k := 4 + n) sc__law_bent (fun vs H Q E h => ?_) (fun cdv A outer s H vs Q E hr h => ?_)
  · obtain ⟨d, g, l, N, es, vs', Pd, rfl, _, _, _, _, _, r, ⟨hl, _⟩, _⟩ := h
    show vs'.length + 1 = _
    rw [r.len, hl]; rfl
  obtain ⟨d, g, l, N, es, vs', Pd, rfl, ok, h1, h2, h3, D, r, ⟨hl, h⟩, q⟩ := h
  refine ⟨_, (pss_cons (ps_if (PW.pt (pw_and (pt_val (pe_callB (r := rIsi K) call_isi (by rfl) T.n_isinstance (by decide +kernel) (pa_cons (pv 1) (pa_cons (pe_bltn (v := .ty "tuple") (u := .type "tuple") (by rfl) T.n_tuple (by decide +kernel) rfl) pa_nil)))) (pw_and (pt_cmpR (r := MI.rNeA K) (MI.op_neA hr.units) (pv 1) (pe_tup pa_nil) (nomark _)) (pw_and (pt_cmpR op_gt (pv 2) pe_int (nomark _)) (pw_and1 (pt_cmpR op_gt (TB.pe_own h__law_draw (hr.mono (by first | decide | omega)) (by rfl) (pa_cons (pv 0) (pa_cons pe_int pa_nil))) pe_int (nomark _)))))))
 (pss_cons (ps_set (i := 3) sc__law_bent.nd rfl (.inl rfl) (TB.pe_own h__law_draw (hr.mono (by first | decide | omega)) (by rfl) (pa_cons (pv 0) (pa_cons (pe_callB (r := MI.rLenA K) MI.call_lenA (by rfl) T.n_len (by decide +kernel) (pa_cons (pv 1) pa_nil)) pa_nil))))
 (pss_one (ps_ret (pe_op (r := MI.rAddA K) MI.op_addA (pe_op (r := MI.rAddA K) MI.op_addA (pe_slice (r := MI.rSlX' K) MI.sl_any (pv 1) po_none (po_some (pv 3))) (pe_tup (pa_cons (TB.pe_own h__law_bent (hr.mono (by first | decide | omega)) (by rfl) (pa_cons (pv 0) (pa_cons (pe_ix (r := rIx K) ix_seq (pv 1) (pv 3) (fun _ _ => rfl)) (pa_cons (pe_op op_sub (pv 2) pe_int) pa_nil)))) pa_nil))) (pe_slice (r := MI.rSlX' K) MI.sl_any (pv 1) (po_some (pe_op (r := MI.rAddA K) MI.op_addA (pv 3) pe_int)) po_none))))) pss_nil)
 (pss_cons (ps_if (pt_not (pt_val (pe_callB (r := rIsi K) call_isi (by rfl) T.n_isinstance (by decide +kernel) (pa_cons (pv 1) (pa_cons (pe_bltn (v := .ty "tuple") (u := .type "tuple") (by rfl) T.n_tuple (by decide +kernel) rfl) pa_nil)))))
 (pss_cons (ps_set (i := 4) sc__law_bent.nd rfl (.inl rfl) (pe_ifExp (pt_val (pe_callB (r := rIsi K) call_isi (by rfl) T.n_isinstance (by decide +kernel) (pa_cons (pv 1) (pa_cons (pe_bltn (v := .ty "int") (u := .type "int") (by rfl) T.n_int (by decide +kernel) rfl) pa_nil)))) (pe_lst (pa_cons (pe_op (r := MI.rAddA K) MI.op_addA (pv 1) pe_int) (pa_cons (pe_op op_sub (pv 1) pe_int) (pa_cons (pe_callTy call_bool1 (by rfl) T.n_bool (by decide +kernel) (pa_cons (pv 1) pa_nil)) (pa_cons (pe_callTy call_str_int (by rfl) T.n_str (by decide +kernel) (pa_cons (pv 1) pa_nil)) pa_nil))))) (pe_lst pa_nil)))
 (pss_one (ps_ret (TB.pe_own h__law_one (hr.mono (by first | decide | omega)) (by rfl) (pa_cons (pv 0) (pa_cons (pe_op (r := MI.rAddA K) MI.op_addA (pv 4) (pe_lst (pa_cons (TB.pe_own h__law_odd (hr.mono (by first | decide | omega)) (by rfl) (pa_cons (pv 0) pa_nil)) (pa_cons (TB.pe_own h__law_odd (hr.mono (by first | decide | omega)) (by rfl) (pa_cons (pv 0) pa_nil)) pa_nil)))) pa_nil)))))) pss_nil)
 (pss_cons (ps_set (i := 3) sc__law_bent.nd rfl (.inl rfl) (TB.pe_own h__law_draw (hr.mono (by first | decide | omega)) (by rfl) (pa_cons (pv 0) (pa_cons (pe_op (r := MI.rAddA K) MI.op_addA (pe_callB (r := MI.rLenA K) MI.call_lenA (by rfl) T.n_len (by decide +kernel) (pa_cons (pv 1) pa_nil)) pe_int) pa_nil))))
 (pss_cons (ps_set (i := 5) sc__law_bent.nd rfl (.inl rfl) (pe_lst (pa_cons (TB.pe_own h__law_odd (hr.mono (by first | decide | omega)) (by rfl) (pa_cons (pv 0) pa_nil)) (pa_cons (pe_slice (r := MI.rSlX' K) MI.sl_any (pv 1) (po_some pe_int) po_none) (pa_cons (pe_slice (r := MI.rSlX' K) MI.sl_any (pv 1) po_none (po_some (pe_un un_neg pe_int))) (pa_cons (DL.pe_revT (pv 1)) (pa_cons (pe_callTy (r := TB.rListQ K) call_list_of (by rfl) T.n_list (by decide +kernel) (pa_cons (pv 1) pa_nil)) (pa_cons (pe_op (r := MI.rAddA K) MI.op_addA (pv 1) (pe_slice (r := MI.rSlX' K) MI.sl_any (pv 1) (po_some (pe_un un_neg pe_int)) po_none)) pa_nil))))))))
 (pss_one (ps_ret (TB.pe_own h__law_one (hr.mono (by first | decide | omega)) (by rfl) (pa_cons (pv 0) (pa_cons (pe_op (r := MI.rAddA K) MI.op_addA (pv 5) (pe_lst (pa_cons (pe_op (r := MI.rAddA K) MI.op_addA (pe_slice (r := MI.rSlX' K) MI.sl_any (pv 1) po_none (po_some (pv 3))) (pe_slice (r := MI.rSlX' K) MI.sl_any (pv 1) (po_some (pe_op (r := MI.rAddA K) MI.op_addA (pv 3) pe_int)) po_none)) (pa_cons (pe_op (r := MI.rAddA K) MI.op_addA (pe_op (r := MI.rAddA K) MI.op_addA (pe_slice (r := MI.rSlX' K) MI.sl_any (pv 1) po_none (po_some (pv 3))) (pe_tup (pa_cons (TB.pe_own h__law_odd (hr.mono (by first | decide | omega)) (by rfl) (pa_cons (pv 0) pa_nil)) pa_nil))) (pe_slice (r := MI.rSlX' K) MI.sl_any (pv 1) (po_some (pv 3)) po_none)) pa_nil)))) pa_nil))))))))), ?_⟩
  rw [start_eqW (n := 2) (k := 3) (r.len.trans hl) rfl]
  exact run_W (fun c hc =>
    (ss_seq (ss_if (st_an (st_val (se_isi kit_tuple (se_var 1))) (st_an (st_val (se_op (os_ne (K := K)) (se_var 1) (se_tup sa_nil))) (st_an (st_val (se_op os_gt (se_var 2) (se_int 0))) (st_val (se_op os_gt (se_callW hc (sa_cons (se_int 4) sa_nil)) (se_int 0))))))
 (ss_seq (ss_asg (se_callW hc (sa_cons (se_cb (cas_len (K := K)) (sa_cons (se_var 1) sa_nil)) sa_nil)) (sg_name (vs := [3]) (by decide)))
 (ss_ret (se_op (os_add (K := K)) (se_op (os_add (K := K)) (se_sl (sls_any (K := K)) (se_var 1) so_none (so_some (se_var 3))) (se_tup (sa_cons (se_callW hc (sa_cons (se_op (os_it (K := K)) (se_var 1) (se_var 3)) (sa_cons (se_op os_sub (se_var 2) (se_int 1)) sa_nil))) sa_nil))) (se_sl (sls_any (K := K)) (se_var 1) (so_some (se_op (os_add (K := K)) (se_var 3) (se_int 1))) so_none))))
 ss_nx)
 (ss_seq (ss_if (st_no (st_val (se_isi kit_tuple (se_var 1))))
 (ss_seq (ss_asg (se_if (st_val (se_isi kit_int (se_var 1))) (se_lst (sa_cons (se_op (os_add (K := K)) (se_var 1) (se_int 1)) (sa_cons (se_op os_sub (se_var 1) (se_int 1)) (sa_cons (se_cb cas_bool (sa_cons (se_var 1) sa_nil)) (sa_cons (se_cb cas_str (sa_cons (se_var 1) sa_nil)) sa_nil))))) (se_lst sa_nil)) (sg_name (vs := [4]) (by decide)))
 (ss_ret (se_callW hc (sa_cons (se_op (os_add (K := K)) (se_var 4) (se_lst (sa_cons (se_callW hc sa_nil) (sa_cons (se_callW hc sa_nil) sa_nil)))) sa_nil))))
 ss_nx)
 (ss_seq (ss_asg (se_callW hc (sa_cons (se_op (os_add (K := K)) (se_cb (cas_len (K := K)) (sa_cons (se_var 1) sa_nil)) (se_int 1)) sa_nil)) (sg_name (vs := [3]) (by decide)))
 (ss_seq (ss_asg (se_lst (sa_cons (se_callW hc sa_nil) (sa_cons (se_sl (sls_any (K := K)) (se_var 1) (so_some (se_int 1)) so_none) (sa_cons (se_sl (sls_any (K := K)) (se_var 1) so_none (so_some (se_un us_neg (se_int 1)))) (sa_cons (se_rev (K := K) (se_var 1)) (sa_cons (se_cb (cas_list (K := K)) (sa_cons (se_var 1) sa_nil)) (sa_cons (se_op (os_add (K := K)) (se_var 1) (se_sl (sls_any (K := K)) (se_var 1) (so_some (se_un us_neg (se_int 1))) so_none)) sa_nil))))))) (sg_name (vs := [5]) (by decide)))
 (ss_ret (se_callW hc (sa_cons (se_op (os_add (K := K)) (se_var 5) (se_lst (sa_cons (se_op (os_add (K := K)) (se_sl (sls_any (K := K)) (se_var 1) so_none (so_some (se_var 3))) (se_sl (sls_any (K := K)) (se_var 1) (so_some (se_op (os_add (K := K)) (se_var 3) (se_int 1))) so_none)) (sa_cons (se_op (os_add (K := K)) (se_op (os_add (K := K)) (se_sl (sls_any (K := K)) (se_var 1) so_none (so_some (se_var 3))) (se_tup (sa_cons (se_callW hc sa_nil) sa_nil))) (se_sl (sls_any (K := K)) (se_var 1) (so_some (se_var 3)) so_none)) sa_nil)))) sa_nil)))))))) ok h1 h2 h3 D r h q
theorem ok__law_whole (T : Txt mg) {f : Addr} {fd : FuncData} (F : Fun K "_law_whole" "_law_whole" s__law_whole f fd)  : FnOk P w K mg base CX0 1 f fd p__law_whole (SpM m__law_whole) := by
  refine F.ok sc__law_whole (fun vs H Q E h => ?_) (fun cdv A outer s H vs Q E hr h => ?_)
  · obtain ⟨N, es, Pd, _, r, ⟨hl, _⟩, _⟩ := h
    rw [r.len, hl]; rfl
  obtain ⟨N, es, Pd, ok, r, ⟨hl, h⟩, q⟩ := h
  refine ⟨_, (pss_one (ps_ret (pe_and (pe_callB (r := rIsi K) call_isi (by rfl) T.n_isinstance (by decide +kernel) (pa_cons (pv 0) (pa_cons (pe_bltn (v := .ty "int") (u := .type "int") (by rfl) T.n_int (by decide +kernel) rfl) pa_nil))) (pe_and (pe_not (pe_callB (r := rIsi K) call_isi (by rfl) T.n_isinstance (by decide +kernel) (pa_cons (pv 0) (pa_cons (pe_bltn (v := .ty "bool") (u := .type "bool") (by rfl) T.n_bool (by decide +kernel) rfl) pa_nil)))) (pe_one (pe_chain op_le op_le (pv 1) (pv 0) (pv 2))))))), ?_⟩
  rw [start_eq (n := 3) (k := 0) (r.len.trans hl) rfl]
  exact run_F (fun c =>
    (ss_ret (se_and (se_isi kit_int (se_var 0)) (se_and (se_not (se_isi kit_bool (se_var 0))) (se_chain os_le os_le (se_var 1) (se_var 0) (se_var 2)))))) ok r h q
theorem ok__law_sides (T : Txt mg) {f : Addr} {fd : FuncData} (F : Fun K "_law_sides" "_law_sides" s__law_sides f fd) (h__law_draw : Keeps P w K mg base 1 "_law_draw" p__law_draw (SpMW m_draw)) : FnOk P w K mg base CX0 2 f fd p__law_sides (SpMW m__law_sides) := by
  refine F.ok sc__law_sides (fun vs H Q E h => ?_) (fun cdv A outer s H vs Q E hr h => ?_)
  · obtain ⟨d, g, l, N, es, vs', Pd, rfl, _, _, _, _, _, r, ⟨hl, _⟩, _⟩ := h
    show vs'.length + 1 = _
    rw [r.len, hl]; rfl
  obtain ⟨d, g, l, N, es, vs', Pd, rfl, ok, h1, h2, h3, D, r, ⟨hl, h⟩, q⟩ := h
  refine ⟨_, (pss_one (ps_ret (pe_callTy (r := TB.rTupQ K) call_tuple_of (by rfl) T.n_tuple (by decide +kernel) (pa_cons (pe_lc (own := [("_law_axis", 3)]) (g := gName 3) rfl sc__law_sides.nd (pi_range1 (by rfl) T.n_range (pa_cons (pv 1) pa_nil)) (blkOk_by (N := n__law_sides) (sc := defScope s__law_sides) (by decide +kernel)) (fun _ _ _ _ _ => pg_name (i := 3) sc__law_sides.nd rfl (.inl rfl)) (fun _ _ _ _ _ => pts_nil) (fun _ _ _ _ _ => (pe_op (r := MI.rAddA K) MI.op_addA pe_int (TB.pe_own h__law_draw (hr.mono (by decide)) (by rfl) (pa_cons (pv 0) (pa_cons (pv 2) pa_nil)))))) pa_nil)))), ?_⟩
  rw [start_eqW (n := 2) (k := 1) (r.len.trans hl) rfl]
  exact run_W (fun c hc =>
    (ss_ret (se_cb (cas_tuple (K := K)) (sa_cons (se_fr (seo_lc (si_range1 (se_var 1)) (sg_name (by decide)) st_ok (se_op (os_add (K := K)) (se_int 1) (se_callW hc (sa_cons (se_var 2) sa_nil))))) sa_nil)))) ok h1 h2 h3 D r h q
theorem ok__law_cells (T : Txt mg) {f : Addr} {fd : FuncData} (F : Fun K "_law_cells" "_law_cells" s__law_cells f fd)  : FnOk P w K mg base CX0 1 f fd p__law_cells (SpM m__law_cells) := by
  refine F.ok sc__law_cells (fun vs H Q E h => ?_) (fun cdv A outer s H vs Q E hr h => ?_)
  · obtain ⟨N, es, Pd, _, r, ⟨hl, _⟩, _⟩ := h
    rw [r.len, hl]; rfl
  obtain ⟨N, es, Pd, ok, r, ⟨hl, h⟩, q⟩ := h
  refine ⟨_, (pss_cons (ps_set (i := 1) sc__law_cells.nd rfl (.inl rfl) (pe_lst (pa_cons (pe_tup pa_nil) pa_nil)))
 (pss_cons (ps_for PassesOwn.never rfl (show PI _ _ _ (MI.iSeq K _) from MI.pi_seq (pv 0)) (pg_name (i := 2) sc__law_cells.nd rfl (.inl rfl))
 (pss_cons (ps_set (i := 3) sc__law_cells.nd rfl (.inl rfl) (pe_lst pa_nil))
 (pss_cons (ps_for PassesOwn.never rfl (show PI _ _ _ (MI.iSeq K _) from MI.pi_seq (pe_callTy (r := TB.rListQ K) call_list_of (by rfl) T.n_list (by decide +kernel) (pa_cons (pv 1) pa_nil))) (pg_name (i := 4) sc__law_cells.nd rfl (.inr rfl))
 (pss_one (ps_expr (pe_bm PySem.F.plainAttrs_list PySem.F.slot_list_extend PySem.F.type_list_extend (r := rExtend) mt_extend (pv 3) (pa_cons (pe_lc (own := [("_law_k", 5)]) (g := gName 5) rfl sc__law_cells.nd (pi_range1 (by rfl) T.n_range (pa_cons (pv 2) pa_nil)) (blkOk_by (N := n__law_cells) (sc := defScope s__law_cells) (by decide +kernel)) (fun _ _ _ _ _ => pg_name (i := 5) sc__law_cells.nd rfl (.inl rfl)) (fun _ _ _ _ _ => pts_nil) (fun _ _ _ _ _ => (pe_op (r := MI.rAddA K) MI.op_addA (pv 4) (pe_tup (pa_cons (pv 5) pa_nil))))) pa_nil)))))
 (pss_one (ps_set (i := 1) sc__law_cells.nd rfl (.inl rfl) (pv 3))))))
 (pss_one (ps_ret (pv 1))))), ?_⟩
  rw [start_eq (n := 1) (k := 5) (r.len.trans hl) rfl]
  exact run_F (fun c =>
    (ss_seq (ss_asg (se_lst (sa_cons (se_tup sa_nil) sa_nil)) (sg_name (vs := [1]) (by decide)))
 (ss_seq (ss_forK (L := [1]) (si_seq (K := K) (se_var 0)) (show SGv c [2] _ _ from (sg_name (by decide)))
 (ss_seq (ss_new (i := 3) (seo_lst sa_nil))
 (ss_seq (ss_forK (L := [2, 3]) (si_seq (K := K) (se_cb (cas_list (K := K)) (sa_cons (se_var 1) sa_nil))) (show SGv c [4] _ _ from (sg_name (by decide)))
 (ss_ext (K := K) (i := 3) (se_fr (seo_lc (si_range1 (se_var 2)) (sg_name (by decide)) st_ok (se_op (os_add (K := K)) (se_var 4) (se_tup (sa_cons (se_var 5) sa_nil)))))))
 (ss_fz (i := 3) (ss_asg (se_var 3) (sg_name (vs := [1]) (by decide)))))))
 (ss_ret (se_var 1))))) ok r h q
theorem ok__law_moved (T : Txt mg) {f : Addr} {fd : FuncData} (F : Fun K "_law_moved" "_law_moved" s__law_moved f fd)  : FnOk P w K mg base CX0 1 f fd p__law_moved (SpM m__law_moved) := by
  refine F.ok sc__law_moved (fun vs H Q E h => ?_) (fun cdv A outer s H vs Q E hr h => ?_)
  · obtain ⟨N, es, Pd, _, r, ⟨hl, _⟩, _⟩ := h
    rw [r.len, hl]; rfl
  obtain ⟨N, es, Pd, ok, r, ⟨hl, h⟩, q⟩ := h
  refine ⟨_, (pss_one (ps_ret (pe_callTy (r := TB.rTupQ K) call_tuple_of (by rfl) T.n_tuple (by decide +kernel) (pa_cons (pe_lc (own := [("_law_k", 2), ("_law_at", 3)]) (g := gTup K 2 (gCons (gName 2) (gCons (gName 3) gNil))) rfl sc__law_moved.nd (show PI _ _ _ (ZP.iZip2 K _) from ZP.pi_zip2 (by rfl) T.n_zip (pa_cons (pv 0) (pa_cons (pv 1) pa_nil))) (blkOk_by (N := n__law_moved) (sc := defScope s__law_moved) (by decide +kernel)) (fun _ _ _ _ _ => (pg_tup rfl (pgs_cons (pg_name (i := 2) sc__law_moved.nd rfl (.inl rfl)) (pgs_cons (pg_name (i := 3) sc__law_moved.nd rfl (.inl rfl)) pgs_nil)))) (fun _ _ _ _ _ => pts_nil) (fun _ _ _ _ _ => (pe_op (r := MI.rAddA K) MI.op_addA (pv 2) (pv 3)))) pa_nil)))), ?_⟩
  rw [start_eq (n := 2) (k := 2) (r.len.trans hl) rfl]
  exact run_F (fun c =>
    (ss_ret (se_cb (cas_tuple (K := K)) (sa_cons (se_fr (seo_lc (si_zip2 (K := K) (se_var 0) (se_var 1)) (sg_tup (K := K) (sgs_cons (sg_name (by decide)) (sgs_cons (sg_name (by decide)) sgs_nil))) st_ok (se_op (os_add (K := K)) (se_var 2) (se_var 3)))) sa_nil)))) ok r h q
theorem ok__law_covered (T : Txt mg) {f : Addr} {fd : FuncData} (F : Fun K "_law_covered" "_law_covered" s__law_covered f fd) (h__law_cells : Keeps P w K mg base 1 "_law_cells" p__law_cells (SpM m__law_cells)) (h__law_moved : Keeps P w K mg base 1 "_law_moved" p__law_moved (SpM m__law_moved)) : FnOk P w K mg base CX0 2 f fd p__law_covered (SpM m__law_covered) := by
  refine F.ok sc__law_covered (fun vs H Q E h => ?_) (fun cdv A outer s H vs Q E hr h => ?_)
  · obtain ⟨N, es, Pd, _, r, ⟨hl, _⟩, _⟩ := h
    rw [r.len, hl]; rfl
  obtain ⟨N, es, Pd, ok, r, ⟨hl, h⟩, q⟩ := h
  refine ⟨_, (pss_one (ps_ret (pe_lc (own := [("_law_cell", 2)]) (g := gName 2) rfl sc__law_covered.nd (show PI _ _ _ (MI.iSeq K _) from MI.pi_seq (TB.pe_own h__law_cells (hr.mono (by decide)) (by rfl) (pa_cons (pe_ix (r := rIx K) ix_seq (pv 0) (pe_ix (r := rIx K) ix_seq (pv 1) pe_int (fun _ _ => rfl)) (fun _ _ => rfl)) pa_nil))) (blkOk_by (N := n__law_covered) (sc := defScope s__law_covered) (by decide +kernel)) (fun _ _ _ _ _ => pg_name (i := 2) sc__law_covered.nd rfl (.inl rfl)) (fun _ _ _ _ _ => pts_nil) (fun _ _ _ _ _ => (TB.pe_own h__law_moved (hr.mono (by decide)) (by rfl) (pa_cons (pv 2) (pa_cons (pe_ix (r := rIx K) ix_seq (pv 1) pe_int (fun _ _ => rfl)) pa_nil))))))), ?_⟩
  rw [start_eq (n := 2) (k := 1) (r.len.trans hl) rfl]
  exact run_F (fun c =>
    (ss_ret (se_fr (seo_lc (si_seq (K := K) (se_call (sa_cons (se_op (os_it (K := K)) (se_var 0) (se_op (os_it (K := K)) (se_var 1) (se_int 0))) sa_nil))) (sg_name (by decide)) st_ok (se_call (sa_cons (se_var 2) (sa_cons (se_op (os_it (K := K)) (se_var 1) (se_int 1)) sa_nil))))))) ok r h q
theorem ok__law_volume (T : Txt mg) {f : Addr} {fd : FuncData} (F : Fun K "_law_volume" "_law_volume" s__law_volume f fd)  : FnOk P w K mg base CX0 1 f fd p__law_volume (SpM m__law_volume) := by
  refine F.ok sc__law_volume (fun vs H Q E h => ?_) (fun cdv A outer s H vs Q E hr h => ?_)
  · obtain ⟨N, es, Pd, _, r, ⟨hl, _⟩, _⟩ := h
    rw [r.len, hl]; rfl
  obtain ⟨N, es, Pd, ok, r, ⟨hl, h⟩, q⟩ := h
  refine ⟨_, (pss_cons (ps_set (i := 1) sc__law_volume.nd rfl (.inl rfl) pe_int)
 (pss_cons (ps_for PassesOwn.never rfl (show PI _ _ _ (MI.iSeq K _) from MI.pi_seq (pv 0)) (pg_name (i := 2) sc__law_volume.nd rfl (.inl rfl))
 (pss_one (ps_set (i := 1) sc__law_volume.nd rfl (.inl rfl) (pe_op (r := MI.rMulA K) MI.op_mulA (pv 1) (pv 2)))))
 (pss_one (ps_ret (pv 1))))), ?_⟩
  rw [start_eq (n := 1) (k := 2) (r.len.trans hl) rfl]
  exact run_F (fun c =>
    (ss_seq (ss_asg (se_int 1) (sg_name (vs := [1]) (by decide)))
 (ss_seq (ss_forK (L := [1]) (si_seq (K := K) (se_var 0)) (show SGv c [2] _ _ from (sg_name (by decide)))
 (ss_asg (se_op (os_mul (K := K)) (se_var 1) (se_var 2)) (sg_name (vs := [1]) (by decide))))
 (ss_ret (se_var 1))))) ok r h q
theorem ok__law_places (T : Txt mg) {f : Addr} {fd : FuncData} (F : Fun K "_law_places" "_law_places" s__law_places f fd) (h__law_cells : Keeps P w K mg base 1 "_law_cells" p__law_cells (SpM m__law_cells)) : FnOk P w K mg base CX0 2 f fd p__law_places (SpM m__law_places) := by
  refine F.ok sc__law_places (fun vs H Q E h => ?_) (fun cdv A outer s H vs Q E hr h => ?_)
  · obtain ⟨N, es, Pd, _, r, ⟨hl, _⟩, _⟩ := h
    rw [r.len, hl]; rfl
  obtain ⟨N, es, Pd, ok, r, ⟨hl, h⟩, q⟩ := h
  refine ⟨_, (pss_cons (ps_set (i := 2) sc__law_places.nd rfl (.inl rfl) (pe_lst pa_nil))
 (pss_cons (ps_for PassesOwn.never rfl (pi_range1 (by rfl) T.n_range (pa_cons (pe_callB (r := MI.rLenA K) MI.call_lenA (by rfl) T.n_len (by decide +kernel) (pa_cons (pv 0) pa_nil)) pa_nil)) (pg_name (i := 3) sc__law_places.nd rfl (.inr rfl))
 (pss_cons (ps_setLc (i := 4) (own := [("_law_side", 5), ("_law_own", 6)]) (g := gTup K 2 (gCons (gName 5) (gCons (gName 6) gNil))) rfl sc__law_places.nd rfl rfl (sw_true rfl rfl rfl (by decide +kernel)) (show PI _ _ _ (ZP.iZip2 K _) from ZP.pi_zip2 (by rfl) T.n_zip (pa_cons (pv 1) (pa_cons (pe_ix (r := rIx K) ix_seq (pv 0) (pv 3) (fun _ _ => rfl)) pa_nil))) (blkOk_by (N := n__law_places) (sc := defScope s__law_places) (by decide +kernel)) (fun _ _ _ _ _ => (pg_tup rfl (pgs_cons (pg_name (i := 5) sc__law_places.nd rfl (.inl rfl)) (pgs_cons (pg_name (i := 6) sc__law_places.nd rfl (.inl rfl)) pgs_nil)))) (fun _ _ _ _ _ => pts_nil) (fun _ _ _ _ _ => (pe_op (r := MI.rAddA K) MI.op_addA (pe_op op_sub (pv 5) (pv 6)) pe_int)))
 (pss_one (ps_if (pt_cmpR op_gt (pe_callB (r := rMin K) (cr_min rfl) (by rfl) T.n_min (by decide +kernel) (pa_cons (pv 4) pa_nil)) pe_int (nomark _))
 (pss_one (ps_expr (pe_bm PySem.F.plainAttrs_list PySem.F.slot_list_extend PySem.F.type_list_extend (r := rExtend) mt_extend (pv 2) (pa_cons (pe_lc (own := [("_law_corner", 7)]) (g := gName 7) rfl sc__law_places.nd (show PI _ _ _ (MI.iSeq K _) from MI.pi_seq (TB.pe_own h__law_cells (hr.mono (by decide)) (by rfl) (pa_cons (pv 4) pa_nil))) (blkOk_by (N := n__law_places) (sc := defScope s__law_places) (by decide +kernel)) (fun _ _ _ _ _ => pg_name (i := 7) sc__law_places.nd rfl (.inl rfl)) (fun _ _ _ _ _ => pts_nil) (fun _ _ _ _ _ => (pe_tup (pa_cons (pv 3) (pa_cons (pv 7) pa_nil))))) pa_nil)))) pss_nil))))
 (pss_one (ps_ret (pv 2))))), ?_⟩
  rw [start_eq (n := 2) (k := 6) (r.len.trans hl) rfl]
  exact run_F (fun c =>
    (ss_seq (ss_new (i := 2) (seo_lst sa_nil))
 (ss_seq (ss_forK (L := [0, 1, 2]) (si_range1 (se_cb (cas_len (K := K)) (sa_cons (se_var 0) sa_nil))) (show SGv c [3] _ _ from (sg_name (by decide)))
 (ss_seq (ss_asg (se_fr (seo_lc (si_zip2 (K := K) (se_var 1) (se_op (os_it (K := K)) (se_var 0) (se_var 3))) (sg_tup (K := K) (sgs_cons (sg_name (by decide)) (sgs_cons (sg_name (by decide)) sgs_nil))) st_ok (se_op (os_add (K := K)) (se_op os_sub (se_var 5) (se_var 6)) (se_int 1)))) (sg_name (vs := [4]) (by decide)))
 (ss_if (st_val (se_op os_gt (se_cb (cas_min1 (K := K)) (sa_cons (se_var 4) sa_nil)) (se_int 0)))
 (ss_ext (K := K) (i := 2) (se_fr (seo_lc (si_seq (K := K) (se_call (sa_cons (se_var 4) sa_nil))) (sg_name (by decide)) st_ok (se_tup (sa_cons (se_var 3) (sa_cons (se_var 7) sa_nil))))))
 ss_nx)))
 (ss_fz (i := 2) (ss_ret (se_var 2)))))) ok r h q
theorem ok__law_is_placed (T : Txt mg) {f : Addr} {fd : FuncData} (F : Fun K "_law_is_placed" "_law_is_placed" s__law_is_placed f fd) (h__law_whole : Keeps P w K mg base 1 "_law_whole" p__law_whole (SpM m__law_whole)) : FnOk P w K mg base CX0 2 f fd p__law_is_placed (SpM m__law_is_placed) := by
  refine F.ok sc__law_is_placed (fun vs H Q E h => ?_) (fun cdv A outer s H vs Q E hr h => ?_)
  · obtain ⟨N, es, Pd, _, r, ⟨hl, _⟩, _⟩ := h
    rw [r.len, hl]; rfl
  obtain ⟨N, es, Pd, ok, r, ⟨hl, h⟩, q⟩ := h
  refine ⟨_, (pss_cons (ps_if (PW.pt (pw_or (pt_not (pt_val (pe_callB (r := rIsi K) call_isi (by rfl) T.n_isinstance (by decide +kernel) (pa_cons (pv 2) (pa_cons (pe_bltn (v := .ty "tuple") (u := .type "tuple") (by rfl) T.n_tuple (by decide +kernel) rfl) pa_nil))))) (pw_or (pt_cmpR (r := MI.rNeA K) (MI.op_neA hr.units) (pe_callB (r := MI.rLenA K) MI.call_lenA (by rfl) T.n_len (by decide +kernel) (pa_cons (pv 2) pa_nil)) pe_int (nomark _)) (pw_or1 (pt_not (pt_val (TB.pe_own h__law_whole (hr.mono (by decide)) (by rfl) (pa_cons (pe_ix (r := rIx K) ix_seq (pv 2) pe_int (fun _ _ => rfl)) (pa_cons pe_int (pa_cons (pe_op op_sub (pe_callB (r := MI.rLenA K) MI.call_lenA (by rfl) T.n_len (by decide +kernel) (pa_cons (pv 0) pa_nil)) pe_int) pa_nil))))))))))
 (pss_one (ps_ret pe_bl)) pss_nil)
 (pss_cons (ps_if (PW.pt (pw_or (pt_not (pt_val (pe_callB (r := rIsi K) call_isi (by rfl) T.n_isinstance (by decide +kernel) (pa_cons (pe_ix (r := rIx K) ix_seq (pv 2) pe_int (fun _ _ => rfl)) (pa_cons (pe_bltn (v := .ty "tuple") (u := .type "tuple") (by rfl) T.n_tuple (by decide +kernel) rfl) pa_nil))))) (pw_or1 (pt_cmpR (r := MI.rNeA K) (MI.op_neA hr.units) (pe_callB (r := MI.rLenA K) MI.call_lenA (by rfl) T.n_len (by decide +kernel) (pa_cons (pe_ix (r := rIx K) ix_seq (pv 2) pe_int (fun _ _ => rfl)) pa_nil)) (pe_callB (r := MI.rLenA K) MI.call_lenA (by rfl) T.n_len (by decide +kernel) (pa_cons (pv 1) pa_nil)) (nomark _)))))
 (pss_one (ps_ret pe_bl)) pss_nil)
 (pss_cons (ps_set (i := 3) sc__law_is_placed.nd rfl (.inr rfl) (pe_ix (r := rIx K) ix_seq (pv 0) (pe_ix (r := rIx K) ix_seq (pv 2) pe_int (fun _ _ => rfl)) (fun _ _ => rfl)))
 (pss_one (ps_ret (pe_cmpR (r := MI.rEqA K) (MI.op_eqA hr.units) (pe_lc (own := [("_law_k", 4)]) (g := gName 4) rfl sc__law_is_placed.nd (pi_range1 (by rfl) T.n_range (pa_cons (pe_callB (r := MI.rLenA K) MI.call_lenA (by rfl) T.n_len (by decide +kernel) (pa_cons (pv 1) pa_nil)) pa_nil)) (blkOk_by (N := n__law_is_placed) (sc := defScope s__law_is_placed) (by decide +kernel)) (fun _ _ _ _ _ => pg_name (i := 4) sc__law_is_placed.nd rfl (.inl rfl)) (fun _ _ _ _ _ => (pts_one (pt_not (pt_val (TB.pe_own h__law_whole (hr.mono (by decide)) (by rfl) (pa_cons (pe_ix (r := rIx K) ix_seq (pe_ix (r := rIx K) ix_seq (pv 2) pe_int (fun _ _ => rfl)) (pv 4) (fun _ _ => rfl)) (pa_cons pe_int (pa_cons (pe_op op_sub (pe_ix (r := rIx K) ix_seq (pv 1) (pv 4) (fun _ _ => rfl)) (pe_ix (r := rIx K) ix_seq (pv 3) (pv 4) (fun _ _ => rfl))) pa_nil)))))))) (fun _ _ _ _ _ => pe_int)) (pe_lst pa_nil) (nomark _))))))), ?_⟩
  rw [start_eq (n := 3) (k := 2) (r.len.trans hl) rfl]
  exact run_F (fun c =>
    (ss_seq (ss_if (st_oo (st_no (st_val (se_isi kit_tuple (se_var 2)))) (st_oo (st_val (se_op (os_ne (K := K)) (se_cb (cas_len (K := K)) (sa_cons (se_var 2) sa_nil)) (se_int 2))) (st_no (st_val (se_call (sa_cons (se_op (os_it (K := K)) (se_var 2) (se_int 0)) (sa_cons (se_int 0) (sa_cons (se_op os_sub (se_cb (cas_len (K := K)) (sa_cons (se_var 0) sa_nil)) (se_int 1)) sa_nil))))))))
 (ss_ret (se_bl false))
 ss_nx)
 (ss_seq (ss_if (st_oo (st_no (st_val (se_isi kit_tuple (se_op (os_it (K := K)) (se_var 2) (se_int 1))))) (st_val (se_op (os_ne (K := K)) (se_cb (cas_len (K := K)) (sa_cons (se_op (os_it (K := K)) (se_var 2) (se_int 1)) sa_nil)) (se_cb (cas_len (K := K)) (sa_cons (se_var 1) sa_nil)))))
 (ss_ret (se_bl false))
 ss_nx)
 (ss_seq (ss_asg (se_op (os_it (K := K)) (se_var 0) (se_op (os_it (K := K)) (se_var 2) (se_int 0))) (sg_name (vs := [3]) (by decide)))
 (ss_ret (se_op (os_eq (K := K)) (se_fr (seo_lc (si_range1 (se_cb (cas_len (K := K)) (sa_cons (se_var 1) sa_nil))) (sg_name (by decide)) (st_no (st_val (se_call (sa_cons (se_op (os_it (K := K)) (se_op (os_it (K := K)) (se_var 2) (se_int 1)) (se_var 4)) (sa_cons (se_int 0) (sa_cons (se_op os_sub (se_op (os_it (K := K)) (se_var 1) (se_var 4)) (se_op (os_it (K := K)) (se_var 3) (se_var 4))) sa_nil)))))) (se_int 1))) (se_lst sa_nil))))))) ok r h q
theorem ok__law_small (T : Txt mg) {f : Addr} {fd : FuncData} (F : Fun K "_law_small" "_law_small" s__law_small f fd) (h__law_draw : Keeps P w K mg base 1 "_law_draw" p__law_draw (SpMW m_draw)) : FnOk P w K mg base CX0 2 f fd p__law_small (SpMW m__law_small) := by
  refine F.ok sc__law_small (fun vs H Q E h => ?_) (fun cdv A outer s H vs Q E hr h => ?_)
  · obtain ⟨d, g, l, N, es, vs', Pd, rfl, _, _, _, _, _, r, ⟨hl, _⟩, _⟩ := h
    show vs'.length + 1 = _
    rw [r.len, hl]; rfl
  obtain ⟨d, g, l, N, es, vs', Pd, rfl, ok, h1, h2, h3, D, r, ⟨hl, h⟩, q⟩ := h
  refine ⟨_, (pss_cons (ps_set (i := 3) sc__law_small.nd rfl (.inl rfl) (pe_tup pa_nil))
 (pss_cons (ps_for PassesOwn.never rfl (pi_range1 (by rfl) T.n_range (pa_cons (pv 1) pa_nil)) (pg_name (i := 4) sc__law_small.nd rfl (.inl rfl))
 (pss_cons (ps_set (i := 3) sc__law_small.nd rfl (.inl rfl) (pe_op (r := MI.rAddA K) MI.op_addA (pv 3) (pe_tup (pa_cons (pe_op (r := MI.rAddA K) MI.op_addA pe_int (TB.pe_own h__law_draw (hr.mono (by decide)) (by rfl) (pa_cons (pv 0) (pa_cons (pe_callB (call_max2 rfl) (by rfl) T.n_max (by decide +kernel) (pa_cons pe_int (pa_cons (pe_callB (call_min2 rfl) (by rfl) T.n_min (by decide +kernel) (pa_cons (pv 2) (pa_cons (pe_ix (r := rIx K) ix_seq (pe_lst (pa_cons (pv 2) (pa_cons pe_int (pa_cons pe_int (pa_cons pe_int pa_nil))))) (pe_op op_sub (pv 1) pe_int) (fun _ _ => rfl)) pa_nil))) pa_nil))) pa_nil)))) pa_nil))))
 (pss_one (ps_set (i := 2) sc__law_small.nd rfl (.inl rfl) (pe_op op_fdivW (pv 2) (pe_ix (r := rIx K) ix_seq (pv 3) (pe_un un_neg pe_int) (fun _ _ => rfl)))))))
 (pss_one (ps_ret (pv 3))))), ?_⟩
  rw [start_eqW (n := 2) (k := 2) (r.len.trans hl) rfl]
  exact run_W (fun c hc =>
    (ss_seq (ss_asg (se_tup sa_nil) (sg_name (vs := [3]) (by decide)))
 (ss_seq (ss_forK (L := [0, 1, 2, 3]) (si_range1 (se_var 1)) (show SGv c [4] _ _ from (sg_name (by decide)))
 (ss_seq (ss_asg (se_op (os_add (K := K)) (se_var 3) (se_tup (sa_cons (se_op (os_add (K := K)) (se_int 1) (se_callW hc (sa_cons (se_cb cas_max2 (sa_cons (se_int 1) (sa_cons (se_cb cas_min2 (sa_cons (se_var 2) (sa_cons (se_op (os_it (K := K)) (se_lst (sa_cons (se_var 2) (sa_cons (se_int 14) (sa_cons (se_int 7) (sa_cons (se_int 5) sa_nil))))) (se_op os_sub (se_var 1) (se_int 1))) sa_nil))) sa_nil))) sa_nil))) sa_nil))) (sg_name (vs := [3]) (by decide)))
 (ss_asg (se_op os_fdiv (se_var 2) (se_op (os_it (K := K)) (se_var 3) (se_un us_neg (se_int 1)))) (sg_name (vs := [2]) (by decide)))))
 (ss_ret (se_var 3))))) ok h1 h2 h3 D r h q
theorem ok__law_kinds (T : Txt mg) {f : Addr} {fd : FuncData} (F : Fun K "_law_kinds" "_law_kinds" s__law_kinds f fd) (h__law_draw : Keeps P w K mg base 1 "_law_draw" p__law_draw (SpMW m_draw)) (h__law_sides : Keeps P w K mg base 2 "_law_sides" p__law_sides (SpMW m__law_sides)) : FnOk P w K mg base CX0 3 f fd p__law_kinds (SpMW m__law_kinds) := by
  refine F.ok sc__law_kinds (fun vs H Q E h => ?_) (fun cdv A outer s H vs Q E hr h => ?_)
  · obtain ⟨d, g, l, N, es, vs', Pd, rfl, _, _, _, _, _, r, ⟨hl, _⟩, _⟩ := h
    show vs'.length + 1 = _
    rw [r.len, hl]; rfl
  obtain ⟨d, g, l, N, es, vs', Pd, rfl, ok, h1, h2, h3, D, r, ⟨hl, h⟩, q⟩ := h
  refine ⟨_, (pss_one (ps_ret (pe_callTy (r := TB.rTupQ K) call_tuple_of (by rfl) T.n_tuple (by decide +kernel) (pa_cons (pe_lc (own := [("_law_kind", 3)]) (g := gName 3) rfl sc__law_kinds.nd (pi_range1 (by rfl) T.n_range (pa_cons (pe_op (r := MI.rAddA K) MI.op_addA pe_int (TB.pe_own h__law_draw (hr.mono (by decide)) (by rfl) (pa_cons (pv 0) (pa_cons pe_int pa_nil)))) pa_nil)) (blkOk_by (N := n__law_kinds) (sc := defScope s__law_kinds) (by decide +kernel)) (fun _ _ _ _ _ => pg_name (i := 3) sc__law_kinds.nd rfl (.inl rfl)) (fun _ _ _ _ _ => pts_nil) (fun _ _ _ _ _ => (TB.pe_own h__law_sides (hr.mono (by decide)) (by rfl) (pa_cons (pv 0) (pa_cons (pv 1) (pa_cons (pv 2) pa_nil)))))) pa_nil)))), ?_⟩
  rw [start_eqW (n := 2) (k := 1) (r.len.trans hl) rfl]
  exact run_W (fun c hc =>
    (ss_ret (se_cb (cas_tuple (K := K)) (sa_cons (se_fr (seo_lc (si_range1 (se_op (os_add (K := K)) (se_int 1) (se_callW hc (sa_cons (se_int 4) sa_nil)))) (sg_name (by decide)) st_ok (se_callW hc (sa_cons (se_var 1) (sa_cons (se_var 2) sa_nil))))) sa_nil)))) ok h1 h2 h3 D r h q
theorem ok__law_great (T : Txt mg) {f : Addr} {fd : FuncData} (F : Fun K "_law_great" "_law_great" s__law_great f fd) (h__law_draw : Keeps P w K mg base 1 "_law_draw" p__law_draw (SpMW m_draw)) (h__law_one : Keeps P w K mg base 2 "_law_one" p__law_one (SpMW m_one)) : FnOk P w K mg base CX0 3 f fd p__law_great (SpMW m__law_great) := by
  refine F.ok sc__law_great (fun vs H Q E h => ?_) (fun cdv A outer s H vs Q E hr h => ?_)
  · obtain ⟨d, g, l, N, es, vs', Pd, rfl, _, _, _, _, _, r, ⟨hl, _⟩, _⟩ := h
    show vs'.length + 1 = _
    rw [r.len, hl]; rfl
  obtain ⟨d, g, l, N, es, vs', Pd, rfl, ok, h1, h2, h3, D, r, ⟨hl, h⟩, q⟩ := h
  refine ⟨_, (pss_cons (ps_par (i := 2) (j := 3) (by rfl) sc__law_great.nd rfl rfl (by decide) rfl rfl (pa_cons (pe_op op_sub (pe_op op_pow pe_int pe_int) (TB.pe_own h__law_draw (hr.mono (by decide)) (by rfl) (pa_cons (pv 0) (pa_cons pe_int pa_nil)))) (pa_cons (TB.pe_own h__law_draw (hr.mono (by decide)) (by rfl) (pa_cons (pv 0) (pa_cons (pe_callB (r := MI.rLenA K) MI.call_lenA (by rfl) T.n_len (by decide +kernel) (pa_cons (pv 1) pa_nil)) pa_nil))) pa_nil)) (by rfl))
 (pss_one (ps_ret (TB.pe_own h__law_one (hr.mono (by decide)) (by rfl) (pa_cons (pv 0) (pa_cons (pe_lst (pa_cons (pe_op (r := MI.rAddA K) MI.op_addA (pe_op (r := MI.rAddA K) MI.op_addA (pe_slice (r := MI.rSlX' K) MI.sl_any (pv 1) po_none (po_some (pv 3))) (pe_tup (pa_cons (pv 2) pa_nil))) (pe_slice (r := MI.rSlX' K) MI.sl_any (pv 1) (po_some (pe_op (r := MI.rAddA K) MI.op_addA (pv 3) pe_int)) po_none)) (pa_cons (pe_op (r := MI.rMulA K) MI.op_mulA (pe_tup (pa_cons (pv 2) pa_nil)) (pe_callB (r := MI.rLenA K) MI.call_lenA (by rfl) T.n_len (by decide +kernel) (pa_cons (pv 1) pa_nil))) pa_nil))) pa_nil)))))), ?_⟩
  rw [start_eqW (n := 1) (k := 2) (r.len.trans hl) rfl]
  exact run_W (fun c hc =>
    (ss_seq (ss_par (i := 2) (j := 3) (sa_cons (se_op os_sub (se_op os_pow (se_int 10) (se_int 12)) (se_callW hc (sa_cons (se_int 9) sa_nil))) (sa_cons (se_callW hc (sa_cons (se_cb (cas_len (K := K)) (sa_cons (se_var 1) sa_nil)) sa_nil)) sa_nil)))
 (ss_ret (se_callW hc (sa_cons (se_lst (sa_cons (se_op (os_add (K := K)) (se_op (os_add (K := K)) (se_sl (sls_any (K := K)) (se_var 1) so_none (so_some (se_var 3))) (se_tup (sa_cons (se_var 2) sa_nil))) (se_sl (sls_any (K := K)) (se_var 1) (so_some (se_op (os_add (K := K)) (se_var 3) (se_int 1))) so_none)) (sa_cons (se_op (os_mul (K := K)) (se_tup (sa_cons (se_var 2) sa_nil)) (se_cb (cas_len (K := K)) (sa_cons (se_var 1) sa_nil))) sa_nil))) sa_nil))))) ok h1 h2 h3 D r h q
end
end K30
set_option Elab.async false
set_option linter.all false
set_option maxRecDepth 100000
namespace K30
open PySem PySem.Spec PyProof.Rows L2 Evl TB DL MI
section
variable {P : Program} {w : World} {K : PySem.W.Frag} {mg : Str → Option Value} {base : Heap}
theorem ok_law (T : Txt mg) {f : Addr} {fd : FuncData} (F : Fun K "law" "law" s_law f fd) (h__law_deck : Keeps P w K mg base 1 "_law_deck" p__law_deck (spDeck K)) (h_covered : Keeps P w K mg base 2 "covered" p_covered (SpM m_covered)) (h_lies_in : Keeps P w K mg base 3 "lies_in" p_lies_in (SpM m_lies_in)) (h_places : Keeps P w K mg base 4 "places" p_places (SpM m_places)) (h__law_draw : Keeps P w K mg base 1 "_law_draw" p__law_draw (SpMW m_draw)) (h__law_one : Keeps P w K mg base 2 "_law_one" p__law_one (SpMW m_one)) (h__law_odd : Keeps P w K mg base 3 "_law_odd" p__law_odd (SpMW m__law_odd)) (h__law_bent : Keeps P w K mg base 7 "_law_bent" p__law_bent (SpMW (m__law_bent 3))) (h__law_covered : Keeps P w K mg base 2 "_law_covered" p__law_covered (SpM m__law_covered)) (h__law_volume : Keeps P w K mg base 1 "_law_volume" p__law_volume (SpM m__law_volume)) (h__law_places : Keeps P w K mg base 2 "_law_places" p__law_places (SpM m__law_places)) (h__law_is_placed : Keeps P w K mg base 2 "_law_is_placed" p__law_is_placed (SpM m__law_is_placed)) (h__law_small : Keeps P w K mg base 2 "_law_small" p__law_small (SpMW m__law_small)) (h__law_kinds : Keeps P w K mg base 3 "_law_kinds" p__law_kinds (SpMW m__law_kinds)) (h__law_great : Keeps P w K mg base 3 "_law_great" p__law_great (SpMW m__law_great)) (kb_places_box_kinds : KwAt P w K mg base 4 "places" p_places ["box", "kinds"] [1, 0] (SpM m_places))
    (lt : m_law) : AtTop P w K mg base f fd "_law_script" (spLaw K) := by
  refine atTop_of F sc_law ⟨rfl, by decide, by decide⟩ (k := 8) (fun cdv s H v Q E hr h => ?_)
  obtain ⟨a, ns, ⟨⟩, hS, hn, q⟩ := h
  refine ⟨_, (pss_cons (ps_set (i := 1) sc_law.nd rfl (.inr rfl) (TB.pe_own h__law_deck (hr.mono (by decide)) (by rfl) (pa_cons (pv 0) pa_nil)))
 (pss_cons (ps_for PassesOwn.never rfl (pi_range1 (by rfl) T.n_range (pa_cons pe_int pa_nil)) (pg_name (i := 2) sc_law.nd rfl (.inl rfl))
 (pss_cons (ps_set (i := 3) sc_law.nd rfl (.inl rfl) (pe_op (r := MI.rAddA K) MI.op_addA pe_int (TB.pe_own h__law_draw (hr.mono (by decide)) (by rfl) (pa_cons (pv 1) (pa_cons pe_int pa_nil)))))
 (pss_cons (ps_asg (pe_tup (pa_cons (TB.pe_own h__law_kinds (hr.mono (by decide)) (by rfl) (pa_cons (pv 1) (pa_cons (pv 3) (pa_cons pe_int pa_nil)))) (pa_cons (TB.pe_own h__law_small (hr.mono (by decide)) (by rfl) (pa_cons (pv 1) (pa_cons (pv 3) (pa_cons (TB.pe_own h__law_one (hr.mono (by decide)) (by rfl) (pa_cons (pv 1) (pa_cons (pe_lst (pa_cons pe_int (pa_cons pe_int (pa_cons pe_int pa_nil)))) pa_nil))) pa_nil)))) pa_nil))) (pg_tup rfl (pgs_cons (pg_name (i := 4) sc_law.nd rfl (.inr rfl)) (pgs_cons (pg_name (i := 5) sc_law.nd rfl (.inl rfl)) pgs_nil))))
 (pss_cons (ps_if (pt_cmpR (r := MI.rEqA K) (MI.op_eqA hr.units) (TB.pe_own h__law_draw (hr.mono (by decide)) (by rfl) (pa_cons (pv 1) (pa_cons pe_int pa_nil))) pe_int (nomark _))
 (pss_one (ps_set (i := 4) sc_law.nd rfl (.inr rfl) (pe_op (r := MI.rAddA K) MI.op_addA (pe_slice (r := MI.rSlX' K) MI.sl_any (pv 4) po_none (po_some pe_int)) (pe_tup (pa_cons (TB.pe_own h__law_great (hr.mono (by decide)) (by rfl) (pa_cons (pv 1) (pa_cons (pe_ix (r := rIx K) ix_seq (pv 4) pe_int (fun _ _ => rfl)) pa_nil))) pa_nil))))) pss_nil)
 (pss_cons (ps_par (i := 6) (j := 7) (by rfl) sc_law.nd rfl rfl (by decide) rfl rfl (pa_cons (pe_callB (DL.call_reprD rfl hr.units) (by rfl) T.n_repr (by decide +kernel) (pa_cons (pe_lst (pa_cons (pv 4) (pa_cons (pv 5) pa_nil))) pa_nil)) (pa_cons (TB.pe_own h__law_places (hr.mono (by decide)) (by rfl) (pa_cons (pv 4) (pa_cons (pv 5) pa_nil))) pa_nil)) (by rfl))
 (pss_cons (ps_setLc (i := 8) (own := [("_law_kind", 11)]) (g := gName 11) rfl sc_law.nd rfl rfl (sw_true rfl rfl rfl (by decide +kernel)) (pi_range1 (by rfl) T.n_range (pa_cons (pe_callB (r := MI.rLenA K) MI.call_lenA (by rfl) T.n_len (by decide +kernel) (pa_cons (pv 4) pa_nil)) pa_nil)) (blkOk_by (N := n_law) (sc := defScope s_law) (by decide +kernel)) (fun _ _ _ _ _ => pg_name (i := 11) sc_law.nd rfl (.inl rfl)) (fun _ _ _ _ _ => (pts_one (pt_cmpR op_lt (TB.pe_own h__law_volume (hr.mono (by decide)) (by rfl) (pa_cons (pe_ix (r := rIx K) ix_seq (pv 4) (pv 11) (fun _ _ => rfl)) pa_nil)) pe_int (nomark _)))) (fun _ _ _ _ _ => (pv 11)))
 (pss_cons (ps_if (PW.pt (pw_or (pt_cmpR (r := MI.rNeA K) (MI.op_neA hr.units) (pe_callB (DL.call_reprD rfl hr.units) (by rfl) T.n_repr (by decide +kernel) (pa_cons (TB.pe_own h_places (hr.mono (by decide)) (by rfl) (pa_cons (pv 4) (pa_cons (pv 5) pa_nil))) pa_nil)) (pe_callB (DL.call_reprD rfl hr.units) (by rfl) T.n_repr (by decide +kernel) (pa_cons (pe_callTy (r := TB.rTupQ K) call_tuple_of (by rfl) T.n_tuple (by decide +kernel) (pa_cons (pv 7) pa_nil)) pa_nil)) (nomark _)) (pw_or1 (pt_cmpR (r := MI.rNeA K) (MI.op_neA hr.units) (pe_callB (DL.call_reprD rfl hr.units) (by rfl) T.n_repr (by decide +kernel) (pa_cons (MI.pe_kw kb_places_box_kinds (hr.mono (by decide)) (by rfl) (by decide) (pk_cons (pv 5) (pk_cons (pv 4) pk_nil))) pa_nil)) (pe_callB (DL.call_reprD rfl hr.units) (by rfl) T.n_repr (by decide +kernel) (pa_cons (pe_callTy (r := TB.rTupQ K) call_tuple_of (by rfl) T.n_tuple (by decide +kernel) (pa_cons (pv 7) pa_nil)) pa_nil)) (nomark _)))))
 (pss_one (ps_ret pe_bl)) pss_nil)
 (pss_cons (ps_set (i := 9) sc_law.nd rfl (.inl rfl) (pe_lst (pa_cons (TB.pe_own h__law_odd (hr.mono (by decide)) (by rfl) (pa_cons (pv 1) pa_nil)) (pa_cons (pe_tup (pa_cons pe_int (pa_cons (pe_op (r := MI.rMulA K) MI.op_mulA (pe_tup (pa_cons pe_int pa_nil)) (pv 3)) pa_nil))) (pa_cons (pe_tup (pa_cons (pe_callB (r := MI.rLenA K) MI.call_lenA (by rfl) T.n_len (by decide +kernel) (pa_cons (pv 4) pa_nil)) (pa_cons (pe_op (r := MI.rMulA K) MI.op_mulA (pe_tup (pa_cons pe_int pa_nil)) (pv 3)) pa_nil))) (pa_cons (pe_tup (pa_cons (pe_un un_neg pe_int) (pa_cons (pe_op (r := MI.rMulA K) MI.op_mulA (pe_tup (pa_cons pe_int pa_nil)) (pv 3)) pa_nil))) (pa_cons (pe_tup (pa_cons pe_bl (pa_cons (pe_op (r := MI.rMulA K) MI.op_mulA (pe_tup (pa_cons pe_int pa_nil)) (pv 3)) pa_nil))) pa_nil)))))))
 (pss_cons (ps_for PassesOwn.never rfl (pi_range1 (by rfl) T.n_range (pa_cons pe_int pa_nil)) (pg_name (i := 10) sc_law.nd rfl (.inl rfl))
 (pss_cons (ps_asg (pe_tup (pa_cons (TB.pe_own h__law_one (hr.mono (by decide)) (by rfl) (pa_cons (pv 1) (pa_cons (pv 8) pa_nil))) (pa_cons (TB.pe_own h__law_one (hr.mono (by decide)) (by rfl) (pa_cons (pv 1) (pa_cons (pe_lst (pa_cons pe_int (pa_cons pe_int (pa_cons (pe_op op_pow pe_int pe_int) pa_nil)))) pa_nil))) pa_nil))) (pg_tup rfl (pgs_cons (pg_name (i := 11) sc_law.nd rfl (.inl rfl)) (pgs_cons (pg_name (i := 12) sc_law.nd rfl (.inr rfl)) pgs_nil))))
 (pss_cons (ps_set (i := 13) sc_law.nd rfl (.inl rfl) (pe_tup (pa_cons (pv 11) (pa_cons (pe_callTy (r := TB.rTupQ K) call_tuple_of (by rfl) T.n_tuple (by decide +kernel) (pa_cons (pe_lc (own := [("_law_axis", 18)]) (g := gName 18) rfl sc_law.nd (pi_range1 (by rfl) T.n_range (pa_cons (pv 3) pa_nil)) (blkOk_by (N := n_law) (sc := defScope s_law) (by decide +kernel)) (fun _ _ _ _ _ => pg_name (i := 18) sc_law.nd rfl (.inl rfl)) (fun _ _ _ _ _ => pts_nil) (fun _ _ _ _ _ => (TB.pe_own h__law_draw (hr.mono (by decide)) (by rfl) (pa_cons (pv 1) (pa_cons (pv 12) pa_nil))))) pa_nil)) pa_nil))))
 (pss_cons (ps_if (pt_cmpR (r := MI.rNeA K) (MI.op_neA hr.units) (pe_callB (DL.call_reprD rfl hr.units) (by rfl) T.n_repr (by decide +kernel) (pa_cons (TB.pe_own h_covered (hr.mono (by decide)) (by rfl) (pa_cons (pv 4) (pa_cons (pv 13) pa_nil))) pa_nil)) (pe_callB (DL.call_reprD rfl hr.units) (by rfl) T.n_repr (by decide +kernel) (pa_cons (pe_callTy (r := TB.rTupQ K) call_tuple_of (by rfl) T.n_tuple (by decide +kernel) (pa_cons (TB.pe_own h__law_covered (hr.mono (by decide)) (by rfl) (pa_cons (pv 4) (pa_cons (pv 13) pa_nil))) pa_nil)) pa_nil)) (nomark _))
 (pss_one (ps_ret pe_bl)) pss_nil)
 (pss_one (ps_expr (pe_bm PySem.F.plainAttrs_list PySem.F.slot_list_extend PySem.F.type_list_extend (r := rExtend) mt_extend (pv 9) (pa_cons (pe_lst (pa_cons (pv 13) (pa_cons (TB.pe_own h__law_bent (hr.mono (by decide)) (by rfl) (pa_cons (pv 1) (pa_cons (pv 13) (pa_cons pe_int pa_nil)))) pa_nil))) pa_nil))))))))
 (pss_cons (ps_for PassesOwn.never rfl (pi_range1 (by rfl) T.n_range (pa_cons pe_int pa_nil)) (pg_name (i := 10) sc_law.nd rfl (.inl rfl))
 (pss_cons (ps_set (i := 13) sc_law.nd rfl (.inl rfl) (TB.pe_own h__law_one (hr.mono (by decide)) (by rfl) (pa_cons (pv 1) (pa_cons (pe_op (r := MI.rAddA K) MI.op_addA (pv 7) (pe_lst (pa_cons (pe_tup (pa_cons pe_int (pa_cons (pe_op (r := MI.rMulA K) MI.op_mulA (pe_tup (pa_cons pe_int pa_nil)) (pv 3)) pa_nil))) pa_nil))) pa_nil))))
 (pss_cons (ps_set (i := 14) sc_law.nd rfl (.inl rfl) (TB.pe_own h__law_draw (hr.mono (by decide)) (by rfl) (pa_cons (pv 1) (pa_cons (pv 3) pa_nil))))
 (pss_cons (ps_set (i := 15) sc_law.nd rfl (.inl rfl) (pe_op (r := MI.rAddA K) MI.op_addA (pe_op (r := MI.rAddA K) MI.op_addA (pe_slice (r := MI.rSlX' K) MI.sl_any (pe_ix (r := rIx K) ix_seq (pv 13) pe_int (fun _ _ => rfl)) po_none (po_some (pv 14))) (pe_tup (pa_cons (pe_op (r := MI.rAddA K) MI.op_addA (pe_ix (r := rIx K) ix_seq (pe_ix (r := rIx K) ix_seq (pv 13) pe_int (fun _ _ => rfl)) (pv 14) (fun _ _ => rfl)) (TB.pe_own h__law_one (hr.mono (by decide)) (by rfl) (pa_cons (pv 1) (pa_cons (pe_lst (pa_cons pe_int (pa_cons (pe_un un_neg pe_int) (pa_cons pe_int pa_nil)))) pa_nil)))) pa_nil))) (pe_slice (r := MI.rSlX' K) MI.sl_any (pe_ix (r := rIx K) ix_seq (pv 13) pe_int (fun _ _ => rfl)) (po_some (pe_op (r := MI.rAddA K) MI.op_addA (pv 14) pe_int)) po_none)))
 (pss_one (ps_expr (pe_bm PySem.F.plainAttrs_list PySem.F.slot_list_extend PySem.F.type_list_extend (r := rExtend) mt_extend (pv 9) (pa_cons (pe_lst (pa_cons (pv 13) (pa_cons (pe_tup (pa_cons (pe_ix (r := rIx K) ix_seq (pv 13) pe_int (fun _ _ => rfl)) (pa_cons (pv 15) pa_nil))) (pa_cons (pe_tup (pa_cons (pe_ix (r := rIx K) ix_seq (pv 13) pe_int (fun _ _ => rfl)) (pa_cons (pe_callTy (r := TB.rListQ K) call_list_of (by rfl) T.n_list (by decide +kernel) (pa_cons (pe_ix (r := rIx K) ix_seq (pv 13) pe_int (fun _ _ => rfl)) pa_nil)) pa_nil))) (pa_cons (pe_op (r := MI.rAddA K) MI.op_addA (pv 13) (pe_tup (pa_cons pe_int pa_nil))) (pa_cons (pe_callTy (r := TB.rListQ K) call_list_of (by rfl) T.n_list (by decide +kernel) (pa_cons (pv 13) pa_nil)) pa_nil)))))) pa_nil))))))))
 (pss_cons (ps_expr (pe_bm PySem.F.plainAttrs_list PySem.F.slot_list_append PySem.F.type_list_append (r := rAppend) mt_append (pv 9) (pa_cons (pe_tup (pa_cons (pe_op op_sub (pe_callB (r := MI.rLenA K) MI.call_lenA (by rfl) T.n_len (by decide +kernel) (pa_cons (pv 4) pa_nil)) pe_int) (pa_cons (pe_op (r := MI.rMulA K) MI.op_mulA (pe_tup (pa_cons pe_int pa_nil)) (pv 3)) pa_nil))) pa_nil)))
 (pss_cons (ps_for PassesOwn.never rfl (show PI _ _ _ (MI.iSeq K _) from MI.pi_seq (pe_op (r := MI.rAddA K) MI.op_addA (pv 9) (pe_lst (pa_cons (pe_tup (pa_cons pe_int (pa_cons (pv 5) pa_nil))) (pa_cons (pe_tup (pa_cons pe_int (pa_cons (pe_op (r := MI.rMulA K) MI.op_mulA (pe_tup (pa_cons pe_int pa_nil)) (pe_op op_sub (pv 3) pe_int)) pa_nil))) (pa_cons (pe_tup (pa_cons pe_int (pa_cons (pe_op (r := MI.rMulA K) MI.op_mulA (pe_tup (pa_cons pe_int pa_nil)) (pe_op (r := MI.rAddA K) MI.op_addA (pv 3) pe_int)) pa_nil))) (pa_cons (pe_tup (pa_cons pe_int (pa_cons (pe_op (r := MI.rMulA K) MI.op_mulA (pe_tup (pa_cons pe_bl pa_nil)) (pv 3)) pa_nil))) pa_nil))))))) (pg_name (i := 16) sc_law.nd rfl (.inl rfl))
 (pss_cons (ps_set (i := 17) sc_law.nd rfl (.inl rfl) (pe_callB (DL.call_reprD rfl hr.units) (by rfl) T.n_repr (by decide +kernel) (pa_cons (pv 16) pa_nil)))
 (pss_one (ps_if (PW.pt (pw_or (pt_cmpR (r := MI.rNeA K) (MI.op_neA hr.units) (pe_callB (DL.call_reprD rfl hr.units) (by rfl) T.n_repr (by decide +kernel) (pa_cons (TB.pe_own h_lies_in (hr.mono (by decide)) (by rfl) (pa_cons (pv 4) (pa_cons (pv 5) (pa_cons (pv 16) pa_nil)))) pa_nil)) (pe_callB (DL.call_reprD rfl hr.units) (by rfl) T.n_repr (by decide +kernel) (pa_cons (TB.pe_own h__law_is_placed (hr.mono (by decide)) (by rfl) (pa_cons (pv 4) (pa_cons (pv 5) (pa_cons (pv 16) pa_nil)))) pa_nil)) (nomark _)) (pw_or1 (pt_cmpR (r := MI.rNeA K) (MI.op_neA hr.units) (pe_callB (DL.call_reprD rfl hr.units) (by rfl) T.n_repr (by decide +kernel) (pa_cons (pv 16) pa_nil)) (pv 17) (nomark _)))))
 (pss_one (ps_ret pe_bl)) pss_nil))))
 (pss_one (ps_if (pt_cmpR (r := MI.rNeA K) (MI.op_neA hr.units) (pe_callB (DL.call_reprD rfl hr.units) (by rfl) T.n_repr (by decide +kernel) (pa_cons (pe_lst (pa_cons (pv 4) (pa_cons (pv 5) pa_nil))) pa_nil)) (pv 6) (nomark _))
 (pss_one (ps_ret pe_bl)) pss_nil))))))))))))))
 (pss_one (ps_ret pe_bl)))), ?_⟩
  refine ⟨_, rfl, a, ns, rfl, hS, hn, fun d g l H1 e1 hd hg D1 => ?_⟩
  exact run_L (k := 17) (fun c hc =>
    (ss_seq (ss_forK (L := [1]) (si_range1 (se_int 8)) (show SGv c [2] _ _ from (sg_name (by decide)))
 (ss_seq (ss_asg (se_op (os_add (K := K)) (se_int 1) (se_callW hc (sa_cons (se_int 4) sa_nil))) (sg_name (vs := [3]) (by decide)))
 (ss_seq (ss_asg (se_tup (sa_cons (se_callW hc (sa_cons (se_var 3) (sa_cons (se_int 4) sa_nil))) (sa_cons (se_callW hc (sa_cons (se_var 3) (sa_cons (se_callW hc (sa_cons (se_lst (sa_cons (se_int 12) (sa_cons (se_int 60) (sa_cons (se_int 400) sa_nil)))) sa_nil)) sa_nil))) sa_nil))) (show SGv c [4, 5] _ _ from (sg_tup (K := K) (sgs_cons (sg_name (by decide)) (sgs_cons (sg_name (by decide)) sgs_nil)))))
 (ss_seq (ss_if (st_val (se_op (os_eq (K := K)) (se_callW hc (sa_cons (se_int 4) sa_nil)) (se_int 0)))
 (ss_asg (se_op (os_add (K := K)) (se_sl (sls_any (K := K)) (se_var 4) so_none (so_some (se_int 3))) (se_tup (sa_cons (se_callW hc (sa_cons (se_op (os_it (K := K)) (se_var 4) (se_int 0)) sa_nil)) sa_nil))) (sg_name (vs := [4]) (by decide)))
 ss_nx)
 (ss_seq (ss_par (i := 6) (j := 7) (sa_cons (se_cb cas_repr (sa_cons (se_lst (sa_cons (se_var 4) (sa_cons (se_var 5) sa_nil))) sa_nil)) (sa_cons (se_call (sa_cons (se_var 4) (sa_cons (se_var 5) sa_nil))) sa_nil)))
 (ss_seq (ss_asg (se_fr (seo_lc (si_range1 (se_cb (cas_len (K := K)) (sa_cons (se_var 4) sa_nil))) (sg_name (by decide)) (st_val (se_op os_lt (se_call (sa_cons (se_op (os_it (K := K)) (se_var 4) (se_var 11)) sa_nil)) (se_int 401))) (se_var 11))) (sg_name (vs := [8]) (by decide)))
 (ss_seq (ss_if (st_oo (st_val (se_op (os_ne (K := K)) (se_cb cas_repr (sa_cons (se_call (sa_cons (se_var 4) (sa_cons (se_var 5) sa_nil))) sa_nil)) (se_cb cas_repr (sa_cons (se_cb (cas_tuple (K := K)) (sa_cons (se_var 7) sa_nil)) sa_nil)))) (st_val (se_op (os_ne (K := K)) (se_cb cas_repr (sa_cons (se_kw (sa_cons (se_var 5) (sa_cons (se_var 4) sa_nil))) sa_nil)) (se_cb cas_repr (sa_cons (se_cb (cas_tuple (K := K)) (sa_cons (se_var 7) sa_nil)) sa_nil)))))
 (ss_ret (se_bl false))
 ss_nx)
 (ss_seq (ss_new (i := 9) (seo_lst (sa_cons (se_callW hc sa_nil) (sa_cons (se_tup (sa_cons (se_int 0) (sa_cons (se_op (os_mul (K := K)) (se_tup (sa_cons (se_int 0) sa_nil)) (se_var 3)) sa_nil))) (sa_cons (se_tup (sa_cons (se_cb (cas_len (K := K)) (sa_cons (se_var 4) sa_nil)) (sa_cons (se_op (os_mul (K := K)) (se_tup (sa_cons (se_int 0) sa_nil)) (se_var 3)) sa_nil))) (sa_cons (se_tup (sa_cons (se_un us_neg (se_int 1)) (sa_cons (se_op (os_mul (K := K)) (se_tup (sa_cons (se_int 0) sa_nil)) (se_var 3)) sa_nil))) (sa_cons (se_tup (sa_cons (se_bl true) (sa_cons (se_op (os_mul (K := K)) (se_tup (sa_cons (se_int 0) sa_nil)) (se_var 3)) sa_nil))) sa_nil)))))))
 (ss_seq (ss_forK (L := [1, 3, 4, 5, 6, 7, 8, 9]) (si_range1 (se_int 6)) (show SGv c [10] _ _ from (sg_name (by decide)))
 (ss_seq (ss_asg (se_tup (sa_cons (se_callW hc (sa_cons (se_var 8) sa_nil)) (sa_cons (se_callW hc (sa_cons (se_lst (sa_cons (se_int 3) (sa_cons (se_int 9) (sa_cons (se_op os_pow (se_int 10) (se_int 12)) sa_nil)))) sa_nil)) sa_nil))) (show SGv c [11, 12] _ _ from (sg_tup (K := K) (sgs_cons (sg_name (by decide)) (sgs_cons (sg_name (by decide)) sgs_nil)))))
 (ss_seq (ss_asg (se_tup (sa_cons (se_var 11) (sa_cons (se_cb (cas_tuple (K := K)) (sa_cons (se_fr (seo_lc (si_range1 (se_var 3)) (sg_name (by decide)) st_ok (se_callW hc (sa_cons (se_var 12) sa_nil)))) sa_nil)) sa_nil))) (sg_name (vs := [13]) (by decide)))
 (ss_seq (ss_if (st_val (se_op (os_ne (K := K)) (se_cb cas_repr (sa_cons (se_call (sa_cons (se_var 4) (sa_cons (se_var 13) sa_nil))) sa_nil)) (se_cb cas_repr (sa_cons (se_cb (cas_tuple (K := K)) (sa_cons (se_call (sa_cons (se_var 4) (sa_cons (se_var 13) sa_nil))) sa_nil)) sa_nil))))
 (ss_ret (se_bl false))
 ss_nx)
 (ss_ext (K := K) (i := 9) (se_lst (sa_cons (se_var 13) (sa_cons (se_callW hc (sa_cons (se_var 13) (sa_cons (se_int 2) sa_nil))) sa_nil))))))))
 (ss_seq (ss_forK (L := [1, 3, 4, 5, 6, 7, 9]) (si_range1 (se_int 4)) (show SGv c [10] _ _ from (sg_name (by decide)))
 (ss_seq (ss_asg (se_callW hc (sa_cons (se_op (os_add (K := K)) (se_var 7) (se_lst (sa_cons (se_tup (sa_cons (se_int 0) (sa_cons (se_op (os_mul (K := K)) (se_tup (sa_cons (se_int 0) sa_nil)) (se_var 3)) sa_nil))) sa_nil))) sa_nil)) (sg_name (vs := [13]) (by decide)))
 (ss_seq (ss_asg (se_callW hc (sa_cons (se_var 3) sa_nil)) (sg_name (vs := [14]) (by decide)))
 (ss_seq (ss_asg (se_op (os_add (K := K)) (se_op (os_add (K := K)) (se_sl (sls_any (K := K)) (se_op (os_it (K := K)) (se_var 13) (se_int 1)) so_none (so_some (se_var 14))) (se_tup (sa_cons (se_op (os_add (K := K)) (se_op (os_it (K := K)) (se_op (os_it (K := K)) (se_var 13) (se_int 1)) (se_var 14)) (se_callW hc (sa_cons (se_lst (sa_cons (se_int 1) (sa_cons (se_un us_neg (se_int 1)) (sa_cons (se_int 2) sa_nil)))) sa_nil))) sa_nil))) (se_sl (sls_any (K := K)) (se_op (os_it (K := K)) (se_var 13) (se_int 1)) (so_some (se_op (os_add (K := K)) (se_var 14) (se_int 1))) so_none)) (sg_name (vs := [15]) (by decide)))
 (ss_ext (K := K) (i := 9) (se_lst (sa_cons (se_var 13) (sa_cons (se_tup (sa_cons (se_op (os_it (K := K)) (se_var 13) (se_int 0)) (sa_cons (se_var 15) sa_nil))) (sa_cons (se_tup (sa_cons (se_op (os_it (K := K)) (se_var 13) (se_int 0)) (sa_cons (se_cb (cas_list (K := K)) (sa_cons (se_op (os_it (K := K)) (se_var 13) (se_int 1)) sa_nil)) sa_nil))) (sa_cons (se_op (os_add (K := K)) (se_var 13) (se_tup (sa_cons (se_int 0) sa_nil))) (sa_cons (se_cb (cas_list (K := K)) (sa_cons (se_var 13) sa_nil)) sa_nil)))))))))))
 (ss_seq (ss_app (K := K) (i := 9) (se_tup (sa_cons (se_op os_sub (se_cb (cas_len (K := K)) (sa_cons (se_var 4) sa_nil)) (se_int 1)) (sa_cons (se_op (os_mul (K := K)) (se_tup (sa_cons (se_int 0) sa_nil)) (se_var 3)) sa_nil))))
 (ss_seq (ss_fz (i := 9) (ss_forK (L := [1, 4, 5, 6]) (si_seq (K := K) (se_op (os_add (K := K)) (se_var 9) (se_lst (sa_cons (se_tup (sa_cons (se_int 0) (sa_cons (se_var 5) sa_nil))) (sa_cons (se_tup (sa_cons (se_int 0) (sa_cons (se_op (os_mul (K := K)) (se_tup (sa_cons (se_int 0) sa_nil)) (se_op os_sub (se_var 3) (se_int 1))) sa_nil))) (sa_cons (se_tup (sa_cons (se_int 0) (sa_cons (se_op (os_mul (K := K)) (se_tup (sa_cons (se_int 0) sa_nil)) (se_op (os_add (K := K)) (se_var 3) (se_int 1))) sa_nil))) (sa_cons (se_tup (sa_cons (se_int 0) (sa_cons (se_op (os_mul (K := K)) (se_tup (sa_cons (se_bl false) sa_nil)) (se_var 3)) sa_nil))) sa_nil))))))) (show SGv c [16] _ _ from (sg_name (by decide)))
 (ss_seq (ss_asg (se_cb cas_repr (sa_cons (se_var 16) sa_nil)) (sg_name (vs := [17]) (by decide)))
 (ss_if (st_oo (st_val (se_op (os_ne (K := K)) (se_cb cas_repr (sa_cons (se_call (sa_cons (se_var 4) (sa_cons (se_var 5) (sa_cons (se_var 16) sa_nil)))) sa_nil)) (se_cb cas_repr (sa_cons (se_call (sa_cons (se_var 4) (sa_cons (se_var 5) (sa_cons (se_var 16) sa_nil)))) sa_nil)))) (st_val (se_op (os_ne (K := K)) (se_cb cas_repr (sa_cons (se_var 16) sa_nil)) (se_var 17))))
 (ss_ret (se_bl false))
 ss_nx))))
 (ss_if (st_val (se_op (os_ne (K := K)) (se_cb cas_repr (sa_cons (se_lst (sa_cons (se_var 4) (sa_cons (se_var 5) sa_nil))) sa_nil)) (se_var 6)))
 (ss_ret (se_bl false))
 ss_nx)))))))))))))
 (ss_ret (se_bl true)))) D1 lt q
end
end K30
set_option Elab.async false
set_option linter.all false
set_option maxRecDepth 100000
namespace K30
open PySem PySem.Spec PyProof.Rows L2 Evl TB DL MI GE
def isI : PyData → Bool
  | .int _ => true
  | _ => false
theorem isI_int (i : Int) : isI (.int i) = true := rfl
theorem isI_no {e : PyData} (h : ¬ ∃ i, e = .int i) : isI e = false := by cases e <;> first | rfl | exact absurd ⟨_, rfl⟩ h
theorem f_is_int {e : PyData} {P : PyData → Prop} {X : Xc → Prop} (h : P (.bool (isI e))) : m_is_int [e] P X := by
  refine ⟨rfl, ?_⟩
  cases e <;> exact h
theorem zip3_ps : ∀ (ps : List (Int × Int)), zip3D ((ps.map (·.1)).map .int) ((ps.map (·.2)).map .int) (List.replicate ps.length (.int 1)) = ps.map fun p => .tuple [.int p.1, .int p.2, .int 1]
  | [] => rfl
  | p :: ps => by
    simp only [List.map_cons, List.length_cons, List.replicate_succ, zip3D]
    rw [zip3_ps ps]
theorem tupI_app (row : List Int) (x : Int) : PyData.tuple (row.map PyData.int ++ [.int x]) = tupI (row ++ [x]) := by unfold tupI; rw [List.map_append]; rfl
theorem sum_stepN (a b : Int) : ∀ rows : List (List Int), (rows.map ((fun t : PyData => (match t with
      | PyData.tuple row => (rngI a b).map fun x => PyData.tuple (row ++ [PyData.int x])
      | _ => []).length) ∘ tupI)).sum = rows.length * (b - a).toNat
  | [] => by simp
  | r :: rs => by
    rw [List.map_cons, List.sum_cons, sum_stepN a b rs, List.length_cons, Nat.succ_mul, Nat.add_comm]
    congr 1
    show (List.map _ (rngI a b)).length = _
    rw [List.length_map, rngI_len]
theorem sum_oneN (row : List Int) (c : Int) : ∀ l : List Nat, (l.map ((fun x => (match x with | .int x => [PyData.tuple (row.map PyData.int ++ [.int x])] | _ => [] : List PyData).length) ∘ fun (k : Nat) => PyData.int (c + (k : Int) * 1))).sum = l.length
  | [] => rfl
  | a :: l => by
    rw [List.map_cons, List.sum_cons, sum_oneN row c l, List.length_cons]; show 1 + l.length = _; omega
theorem flat_one (row : List Int) (c : Int) : ∀ l : List Nat, (List.map (fun e => (match e with | .int x => [PyData.tuple (row.map PyData.int ++ [.int x])] | _ => [] : List PyData)) (List.map (fun (k : Nat) => PyData.int (c + (k : Int) * 1)) l)).flatten = l.map fun (k : Nat) => PyData.tuple (row.map PyData.int ++ [.int (c + (k : Int))])
  | [] => rfl
  | a :: l => by
    rw [List.map_cons, List.map_cons, List.flatten_cons, flat_one row c l, List.map_cons]
    show PyData.tuple (row.map PyData.int ++ [.int (c + (a : Int) * 1)]) :: _ = _
    rw [Int.mul_one]
    rfl
theorem f_grid {x y z : PyData} {ps : List (Int × Int)} (hx : seqOf x = some ((ps.map (·.1)).map .int)) (hy : seqOf y = some ((ps.map (·.2)).map .int)) (hz : seqOf z = some (List.replicate ps.length (.int 1))) (ok : okG 1000 ps 1) (hl : ps.length ≤ 100) {P : PyData → Prop} {X : Xc → Prop}
    (h : P (.list ((gridF ps [[]]).map tupI))) : m_grid [x, y, z] P X := by
  refine ⟨rfl, ?_⟩
  simp only [b_grid, sSeq, sNx, sAsg, sDrop, sRet, sRetN, sIf, sPar, sForK, sNew, sFz, frzM, oApp, oExt, oSet, oIx, oLen, mVar, mC, mOp, mUn, mNot, mAnd, mOr, mIf, mTup, mLst, mCB, mCall, mCallW, mChain, mSl, mFr, mLc, mCl, mEl, mIsi, mRev, mKw, aCons, aNil, oNone, oSome, tT, tNo, tAn, tOo, tOk, gNm, gTp, gs1, gs0, eoLst, eoList, iSq, iR1, iR2, iR3, iZ2, iZ3, iEn, lk, MI.envOf, List.map_cons, List.map_nil, List.cons_append, List.nil_append, List.replicate_succ, List.replicate_zero, List.set_cons_zero, List.set_cons_succ, List.length_cons, List.length_nil, oAdd, oSub, oI, oIc, oMul, oMod, oFdiv, oPow, oNeg, oEq_s, oEq_i, oEq_b, oEq_t, oEq_l, oNe_s, oNe_i, oNe_b, oNe_t, oNe_l, oIs, oIsNot, oLt, oLe, oGt, oGe, oIt, oSl, oLn, oTuple, oList, oInt, oBool, oStr, oAbs, oMax2, oMin2, hx, hy, hz, zip3_ps]
  refine ⟨by decide, by decide, forK_inv (fun k r => ∃ rows, r = [none, none, none, some (.dat (.list (List.map tupI rows))), none, none, none, none, none] ∧ okG 1000 (ps.drop k) rows.length ∧ gridF (ps.drop k) rows = gridF ps [[]] ∧ ∀ row ∈ rows, row.length = k) ⟨[[]], rfl, ok, rfl, fun r hr => by rw [List.mem_singleton.mp hr]; rfl⟩ (fun k d r' hk hJ nx hn => ?_) fun r' hJ => ?_⟩
  · obtain ⟨rows, rfl, ok', hg, hrl⟩ := hJ
    rw [List.getElem?_map] at hk
    obtain ⟨p, hp, rfl⟩ := Option.map_eq_some_iff.mp hk
    have kl := (List.getElem?_eq_some_iff.mp hp).1
    have ed : ps.drop k = p :: ps.drop (k + 1) := by
      rw [List.drop_eq_getElem_cons kl]
      congr 1
      exact (List.getElem?_eq_some_iff.mp hp).2
    rw [ed] at ok' hg
    obtain ⟨o1, ⟨o2, o3, o4, o5⟩, o6⟩ := ok'
    have o7 := okG_hd o6
    simp only [sSeq, sNx, sAsg, sDrop, sRet, sRetN, sIf, sPar, sForK, sNew, sFz, frzM, oApp, oExt, oSet, oIx, oLen, mVar, mC, mOp, mUn, mNot, mAnd, mOr, mIf, mTup, mLst, mCB, mCall, mCallW, mChain, mSl, mFr, mLc, mCl, mEl, mIsi, mRev, mKw, aCons, aNil, oNone, oSome, tT, tNo, tAn, tOo, tOk, gNm, gTp, gs1, gs0, eoLst, eoList, iSq, iR1, iR2, iR3, iZ2, iZ3, iEn, lk, MI.envOf, List.map_cons, List.map_nil, List.cons_append, List.nil_append, List.replicate_succ, List.replicate_zero, List.set_cons_zero, List.set_cons_succ, List.length_cons, List.length_nil, oAdd, oSub, oI, oIc, oMul, oMod, oFdiv, oPow, oNeg, oEq_s, oEq_i, oEq_b, oEq_t, oEq_l, oNe_s, oNe_i, oNe_b, oNe_t, oNe_l, oIs, oIsNot, oLt, oLe, oGt, oGe, oIt, oSl, oLn, oTuple, oList, oInt, oBool, oStr, oAbs, oMax2, oMin2]
    refine ⟨trivial, free_of ⟨trivial, trivial, trivial⟩, mIt_fn (fun t => match t with
      | .tuple row => (rngI p.1 p.2).map fun x => .tuple (row ++ [.int x])
      | _ => []) 1000 ?_ (fun t acc ht hb nx' hn' => ?_) ?_⟩
    · rw [List.length_nil, Nat.zero_add, List.map_map]
      exact Nat.le_trans (Nat.le_of_eq (sum_stepN p.1 p.2 rows)) o7
    · obtain ⟨row, hrow, rfl⟩ := List.mem_map.mp ht
      have hb : acc.length + ((rngI p.1 p.2).map fun x => PyData.tuple (row.map PyData.int ++ [.int x])).length ≤ 1000 := hb
      have hn' : nx' (acc ++ (rngI p.1 p.2).map fun x => PyData.tuple (row.map PyData.int ++ [.int x])) := hn'
      rw [List.length_map, rngI_len] at hb
      have hrl' : row.length ≤ 100 := by rw [hrl row hrow]; omega
      simp only [tupI, wipeM, sSeq, sNx, sAsg, sDrop, sRet, sRetN, sIf, sPar, sForK, sNew, sFz, frzM, oApp, oExt, oSet, oIx, oLen, mVar, mC, mOp, mUn, mNot, mAnd, mOr, mIf, mTup, mLst, mCB, mCall, mCallW, mChain, mSl, mFr, mLc, mCl, mEl, mIsi, mRev, mKw, aCons, aNil, oNone, oSome, tT, tNo, tAn, tOo, tOk, gNm, gTp, gs1, gs0, eoLst, eoList, iSq, iR1, iR2, iR3, iZ2, iZ3, iEn, lk, MI.envOf, List.map_cons, List.map_nil, List.cons_append, List.nil_append, List.replicate_succ, List.replicate_zero, List.set_cons_zero, List.set_cons_succ, List.length_cons, List.length_nil, oAdd, oSub, oI, oIc, oMul, oMod, oFdiv, oPow, oNeg, oEq_s, oEq_i, oEq_b, oEq_t, oEq_l, oNe_s, oNe_i, oNe_b, oNe_t, oNe_l, oIs, oIsNot, oLt, oLe, oGt, oGe, oIt, oSl, oLn, oTuple, oList, oInt, oBool, oStr, oAbs, oMax2, oMin2]
      refine ⟨⟨by decide, by decide, small_one (by omega) (by omega) (by omega) (by omega)⟩, free_of ⟨trivial, trivial⟩, ?_⟩
      rw [PyProof.Rows.rangeSize_nat, Int.toNat_natCast]
      refine mIt_fn (fun e => match e with
        | .int x => [.tuple (row.map PyData.int ++ [.int x])]
        | _ => []) 1000 ?_ (fun t acc ht hb nx'' hn'' => ?_) ?_
      · rw [List.map_map]
        rw [sum_oneN, List.length_range]
        exact hb
      · obtain ⟨k', _, rfl⟩ := List.mem_map.mp ht
        have hb : acc.length + 1 ≤ 1000 := hb
        simp only [sSeq, sNx, sAsg, sDrop, sRet, sRetN, sIf, sPar, sForK, sNew, sFz, frzM, oApp, oExt, oSet, oIx, oLen, mVar, mC, mOp, mUn, mNot, mAnd, mOr, mIf, mTup, mLst, mCB, mCall, mCallW, mChain, mSl, mFr, mLc, mCl, mEl, mIsi, mRev, mKw, aCons, aNil, oNone, oSome, tT, tNo, tAn, tOo, tOk, gNm, gTp, gs1, gs0, eoLst, eoList, iSq, iR1, iR2, iR3, iZ2, iZ3, iEn, lk, MI.envOf, List.map_cons, List.map_nil, List.cons_append, List.nil_append, List.replicate_succ, List.replicate_zero, List.set_cons_zero, List.set_cons_succ, List.length_cons, List.length_nil, oAdd, oSub, oI, oIc, oMul, oMod, oFdiv, oPow, oNeg, oEq_s, oEq_i, oEq_b, oEq_t, oEq_l, oNe_s, oNe_i, oNe_b, oNe_t, oNe_l, oIs, oIsNot, oLt, oLe, oGt, oGe, oIt, oSl, oLn, oTuple, oList, oInt, oBool, oStr, oAbs, oMax2, oMin2, wipeM]
        exact ⟨by decide, by rw [List.length_map]; omega, by omega, hn''⟩
      · have e : (List.map (fun e => (match e with | .int x => [PyData.tuple (row.map PyData.int ++ [.int x])] | _ => [] : List PyData)) (List.map (fun (k : Nat) => PyData.int (p.1 + (k : Int) * 1)) (List.range (p.2 - p.1).toNat))).flatten = (rngI p.1 p.2).map fun x => PyData.tuple (row.map PyData.int ++ [.int x]) := by
          rw [flat_one]
          unfold rngI
          rw [List.map_map]
          rfl
        rw [e]
        exact hn'
    · rw [List.nil_append, List.map_map]
      refine hn _ ⟨stepG p.1 p.2 rows, ?_, by rw [stepG_len]; exact o6, hg, fun row hr => ?_⟩
      · have e : (List.map ((fun t => (match t with | .tuple row => (rngI p.1 p.2).map fun x => PyData.tuple (row ++ [.int x]) | _ => [] : List PyData)) ∘ tupI) rows).flatten = List.map tupI (stepG p.1 p.2 rows) := by
          unfold stepG
          rw [List.map_flatten, List.map_map]
          congr 1
          refine List.map_congr_left fun r _ => ?_
          show (rngI p.1 p.2).map (fun x => PyData.tuple (r.map PyData.int ++ [.int x])) = _
          rw [Function.comp, List.map_map]
          exact List.map_congr_left fun x _ => tupI_app r x
        rw [e]; rfl
      · obtain ⟨r0, h0, x, _, rfl⟩ := stepG_mem.mp hr
        rw [List.length_append, hrl r0 h0]; rfl
  · obtain ⟨rows, rfl, ok', hg, _⟩ := hJ
    rw [List.length_map, List.drop_length] at hg
    rw [show rows = gridF ps [[]] from hg]
    exact h
end K30
set_option Elab.async false
set_option linter.all false
set_option maxRecDepth 100000
namespace K30
open PySem PySem.Spec PyProof.Rows L2 Evl TB DL MI GE
theorem rep1 (a : PyData) : ∀ n : Nat, (List.replicate n [a]).flatten = List.replicate n a
  | 0 => rfl
  | n + 1 => by rw [List.replicate_succ, List.flatten_cons, rep1 a n]; rfl
theorem map_rep {α β : Type} (l : List α) (b : β) : (l.map fun _ => b) = List.replicate l.length b := by
  induction l with
  | nil => rfl
  | cons a l ih => rw [List.map_cons, ih]; rfl
theorem f_cells_of {ns : List Int} (ok : okG 1000 (ns.map fun n => (0, n)) 1) (hl : ns.length ≤ 100) {P : PyData → Prop} {X : Xc → Prop} (h : P (.list ((cellsL ns).map tupI))) : m_cells_of [.list (ns.map .int)] P X := by
  refine ⟨rfl, ?_⟩
  simp only [b_cells_of, sSeq, sNx, sAsg, sDrop, sRet, sRetN, sIf, sPar, sForK, sNew, sFz, frzM, oApp, oExt, oSet, oIx, oLen, mVar, mC, mOp, mUn, mNot, mAnd, mOr, mIf, mTup, mLst, mCB, mCall, mCallW, mChain, mSl, mFr, mLc, mCl, mEl, mIsi, mRev, mKw, aCons, aNil, oNone, oSome, tT, tNo, tAn, tOo, tOk, gNm, gTp, gs1, gs0, eoLst, eoList, iSq, iR1, iR2, iR3, iZ2, iZ3, iEn, lk, MI.envOf, List.map_cons, List.map_nil, List.cons_append, List.nil_append, List.replicate_succ, List.replicate_zero, List.set_cons_zero, List.set_cons_succ, List.length_cons, List.length_nil, oAdd, oSub, oI, oIc, oMul, oMod, oFdiv, oPow, oNeg, oEq_s, oEq_i, oEq_b, oEq_t, oEq_l, oNe_s, oNe_i, oNe_b, oNe_t, oNe_l, oIs, oIsNot, oLt, oLe, oGt, oGe, oIt, oSl, oLn, oTuple, oList, oInt, oBool, oStr, oAbs, oMax2, oMin2, List.length_map, Int.toNat_natCast, rep1]
  refine ⟨by decide, ⟨by simp, by decide, by omega, by omega⟩, by decide, ⟨by simp, by decide, by omega, by omega⟩, f_grid (ps := ns.map fun n => (0, n)) ?_ ?_ ?_ ok (by rw [List.length_map]; exact hl) h⟩
  · rw [List.map_map, List.map_map, ← map_rep ns]; rfl
  · rw [List.map_map, List.map_map]; rfl
  · rw [List.length_map]; rfl
theorem zip2_ints (f : Int → Int → Int) (F : PyData → PyData) (hF : ∀ x y : Int, F (.tuple [.int x, .int y]) = .int (f x y)) : ∀ xs ys : List Int, (zip2D (xs.map .int) (ys.map .int)).map F = (List.zipWith f xs ys).map .int
  | [], _ => by simp [zip2D]
  | _ :: _, [] => by simp [zip2D]
  | x :: xs, y :: ys => by
    rw [List.map_cons, List.map_cons, zip2D, List.map_cons, zip2_ints f F hF xs ys, hF]; rfl
theorem zip2_mem : ∀ {xs ys : List Int} {d : PyData}, d ∈ zip2D (xs.map .int) (ys.map .int) → ∃ x y : Int, d = .tuple [.int x, .int y]
  | x :: xs, y :: ys, d, h => by
    rw [List.map_cons, List.map_cons, zip2D] at h
    rcases List.mem_cons.mp h with rfl | h
    · exact ⟨x, y, rfl⟩
    · exact zip2_mem h
  | [], _, d, h => by simp [zip2D] at h
  | _ :: _, [], d, h => by simp [zip2D] at h
theorem zip2_len : ∀ {xs ys : List PyData}, (zip2D xs ys).length ≤ xs.length
  | [], _ => by simp [zip2D]
  | _ :: _, [] => by simp [zip2D]
  | x :: xs, y :: ys => by rw [zip2D, List.length_cons, List.length_cons]; exact Nat.succ_le_succ zip2_len
def fst2 : PyData → PyData → Int × Int
  | .int x, .int y => (x, y)
  | _, _ => (0, 0)
/-- F of two numbers of a pair -/
def fn2 (f : Int → Int → Int) : PyData → PyData
  | .tuple [.int x, .int y] => .int (f x y)
  | d => d
theorem f_corners {ss ns : List Int} (ok : okG 1000 ((List.zipWith (fun s n => n - s + 1) ss ns).map fun n => (0, n)) 1) (hl : ss.length ≤ 100) {P : PyData → Prop} {X : Xc → Prop}
    (h : P (.list ((cellsL (List.zipWith (fun s n => n - s + 1) ss ns)).map tupI))) : m_corners [tupI ss, tupI ns] P X := by
  refine ⟨rfl, ?_⟩
  simp only [b_corners, sSeq, sNx, sAsg, sDrop, sRet, sRetN, sIf, sPar, sForK, sNew, sFz, frzM, oApp, oExt, oSet, oIx, oLen, mVar, mC, mOp, mUn, mNot, mAnd, mOr, mIf, mTup, mLst, mCB, mCall, mCallW, mChain, mSl, mFr, mLc, mCl, mEl, mIsi, mRev, mKw, aCons, aNil, oNone, oSome, tT, tNo, tAn, tOo, tOk, gNm, gTp, gs1, gs0, eoLst, eoList, iSq, iR1, iR2, iR3, iZ2, iZ3, iEn, lk, MI.envOf, List.map_cons, List.map_nil, List.cons_append, List.nil_append, List.replicate_succ, List.replicate_zero, List.set_cons_zero, List.set_cons_succ, List.length_cons, List.length_nil, oAdd, oSub, oI, oIc, oMul, oMod, oFdiv, oPow, oNeg, oEq_s, oEq_i, oEq_b, oEq_t, oEq_l, oNe_s, oNe_i, oNe_b, oNe_t, oNe_l, oIs, oIsNot, oLt, oLe, oGt, oGe, oIt, oSl, oLn, oTuple, oList, oInt, oBool, oStr, oAbs, oMax2, oMin2, List.length_map, tupI, seqOf]
  have hl2 := zip2_len (xs := ss.map PyData.int) (ys := ns.map PyData.int)
  rw [List.length_map] at hl2
  refine ⟨free_of ⟨trivial, trivial, trivial⟩, mIt_map (fn2 fun s n => n - s + 1) (by omega) (fun d hd Q hQ => ?_) ?_⟩
  · obtain ⟨x, y, rfl⟩ := zip2_mem hd
    simp only [wipeM, sSeq, sNx, sAsg, sDrop, sRet, sRetN, sIf, sPar, sForK, sNew, sFz, frzM, oApp, oExt, oSet, oIx, oLen, mVar, mC, mOp, mUn, mNot, mAnd, mOr, mIf, mTup, mLst, mCB, mCall, mCallW, mChain, mSl, mFr, mLc, mCl, mEl, mIsi, mRev, mKw, aCons, aNil, oNone, oSome, tT, tNo, tAn, tOo, tOk, gNm, gTp, gs1, gs0, eoLst, eoList, iSq, iR1, iR2, iR3, iZ2, iZ3, iEn, lk, MI.envOf, List.map_cons, List.map_nil, List.cons_append, List.nil_append, List.replicate_succ, List.replicate_zero, List.set_cons_zero, List.set_cons_succ, List.length_cons, List.length_nil, oAdd, oSub, oI, oIc, oMul, oMod, oFdiv, oPow, oNeg, oEq_s, oEq_i, oEq_b, oEq_t, oEq_l, oNe_s, oNe_i, oNe_b, oNe_t, oNe_l, oIs, oIsNot, oLt, oLe, oGt, oGe, oIt, oSl, oLn, oTuple, oList, oInt, oBool, oStr, oAbs, oMax2, oMin2]
    exact ⟨trivial, hQ⟩
  · rw [zip2_ints (fun s n => n - s + 1) _ fun _ _ => rfl]
    exact f_cells_of ok (by rw [List.length_zipWith]; omega) h
theorem f_covered {kss : List (List Int)} {k : Nat} {ss cs : List Int} (hk : kss[k]? = some ss) (hs : cs.length = ss.length) (ok : okG 1000 (List.zipWith (fun c s => (c, c + s)) cs ss) 1) (hl : ss.length ≤ 100) {P : PyData → Prop} {X : Xc → Prop}
    (h : P (.tuple ((gridF (List.zipWith (fun c s => (c, c + s)) cs ss) [[]]).map tupI))) : m_covered [.tuple (kss.map tupI), .tuple [.int k, tupI cs]] P X := by
  refine ⟨rfl, ?_⟩
  have ha : atI (kss.map tupI) (k : Int) = some (tupI ss) := by
    exact atI_nat (by rw [List.getElem?_map, hk]; rfl)
  simp only [b_covered, sSeq, sNx, sAsg, sDrop, sRet, sRetN, sIf, sPar, sForK, sNew, sFz, frzM, oApp, oExt, oSet, oIx, oLen, mVar, mC, mOp, mUn, mNot, mAnd, mOr, mIf, mTup, mLst, mCB, mCall, mCallW, mChain, mSl, mFr, mLc, mCl, mEl, mIsi, mRev, mKw, aCons, aNil, oNone, oSome, tT, tNo, tAn, tOo, tOk, gNm, gTp, gs1, gs0, eoLst, eoList, iSq, iR1, iR2, iR3, iZ2, iZ3, iEn, lk, MI.envOf, List.map_cons, List.map_nil, List.cons_append, List.nil_append, List.replicate_succ, List.replicate_zero, List.set_cons_zero, List.set_cons_succ, List.length_cons, List.length_nil, oAdd, oSub, oI, oIc, oMul, oMod, oFdiv, oPow, oNeg, oEq_s, oEq_i, oEq_b, oEq_t, oEq_l, oNe_s, oNe_i, oNe_b, oNe_t, oNe_l, oIs, oIsNot, oLt, oLe, oGt, oGe, oIt, oSl, oLn, oTuple, oList, oInt, oBool, oStr, oAbs, oMax2, oMin2, List.length_map, tupI, seqOf, Int.toNat_natCast, rep1] at ha ⊢
  simp only [ha, tupI]
  have hl2 := zip2_len (xs := cs.map PyData.int) (ys := ss.map PyData.int)
  rw [List.length_map] at hl2
  refine ⟨trivial, free_of ⟨trivial, trivial, trivial⟩, mIt_map (fn2 fun c s => c + s) (by omega) (fun d hd Q hQ => ?_) ?_⟩
  · obtain ⟨x, y, rfl⟩ := zip2_mem hd
    simp only [wipeM, sSeq, sNx, sAsg, sDrop, sRet, sRetN, sIf, sPar, sForK, sNew, sFz, frzM, oApp, oExt, oSet, oIx, oLen, mVar, mC, mOp, mUn, mNot, mAnd, mOr, mIf, mTup, mLst, mCB, mCall, mCallW, mChain, mSl, mFr, mLc, mCl, mEl, mIsi, mRev, mKw, aCons, aNil, oNone, oSome, tT, tNo, tAn, tOo, tOk, gNm, gTp, gs1, gs0, eoLst, eoList, iSq, iR1, iR2, iR3, iZ2, iZ3, iEn, lk, MI.envOf, List.map_cons, List.map_nil, List.cons_append, List.nil_append, List.replicate_succ, List.replicate_zero, List.set_cons_zero, List.set_cons_succ, List.length_cons, List.length_nil, oAdd, oSub, oI, oIc, oMul, oMod, oFdiv, oPow, oNeg, oEq_s, oEq_i, oEq_b, oEq_t, oEq_l, oNe_s, oNe_i, oNe_b, oNe_t, oNe_l, oIs, oIsNot, oLt, oLe, oGt, oGe, oIt, oSl, oLn, oTuple, oList, oInt, oBool, oStr, oAbs, oMax2, oMin2]
    exact ⟨trivial, hQ⟩
  · rw [zip2_ints (fun s n => s + n) _ fun _ _ => rfl]
    have e1 : ∀ {cs ss : List Int}, cs.length = ss.length → (List.zipWith (fun c s => (c, c + s)) cs ss).map (·.1) = cs ∧ (List.zipWith (fun c s => (c, c + s)) cs ss).map (·.2) = List.zipWith (fun c s => c + s) cs ss := by
      intro cs
      induction cs with
      | nil => intro ss _; exact ⟨by simp, by simp⟩
      | cons c cs ih => intro ss h; cases ss with
        | nil => cases h
        | cons s ss =>
          have := ih (ss := ss) (by simpa using h)
          exact ⟨by rw [List.zipWith_cons_cons, List.map_cons, this.1], by rw [List.zipWith_cons_cons, List.map_cons, this.2, List.zipWith_cons_cons]⟩
    refine ⟨by decide, ⟨by simp, by decide, by omega, by omega⟩, f_grid (ps := List.zipWith (fun c s => (c, c + s)) cs ss) ?_ ?_ ?_ ok (by rw [List.length_zipWith]; omega) h⟩
    · rw [(e1 hs).1]; rfl
    · rw [(e1 hs).2]; rfl
    · rw [List.length_zipWith, hs, Nat.min_self]; rfl
def freeB (ss ns : List Int) : List Int := List.zipWith (fun s n => n - s + 1) ss ns
def placesL : Nat → List (List Int) → List Int → List PyData
  | _, [], _ => []
  | k, ss :: r, ns => (cellsL (freeB ss ns)).map (fun c => .tuple [.int k, tupI c]) ++ placesL (k + 1) r ns
theorem enum_flat (ns : List Int) (F : PyData → List PyData) (hF : ∀ (k : Nat) ss, F (.tuple [.int k, tupI ss]) = (cellsL (freeB ss ns)).map fun c => .tuple [.int k, tupI c]) : ∀ (k : Nat) (kss : List (List Int)), ((enumD k (kss.map tupI)).map F).flatten = placesL k kss ns
  | _, [] => rfl
  | k, ss :: r => by rw [List.map_cons, enumD, List.map_cons, List.flatten_cons, hF, enum_flat ns F hF (k + 1) r]; rfl
def outK (ns : List Int) : PyData → List PyData
  | .tuple [.int k, .tuple ds] => (cellsL (freeB ((intsOf ds).getD []) ns)).map fun c => .tuple [.int k, tupI c]
  | _ => []
theorem intsOf_map : ∀ ns : List Int, intsOf (ns.map .int) = some ns
  | [] => rfl
  | n :: ns => by rw [List.map_cons, intsOf, intsOf_map ns]; rfl
theorem outK_eq (ns : List Int) (k : Nat) (ss : List Int) : outK ns (.tuple [.int k, tupI ss]) = (cellsL (freeB ss ns)).map fun c => .tuple [.int k, tupI c] := by
  show List.map _ (cellsL (freeB ((intsOf (ss.map PyData.int)).getD []) ns)) = _
  rw [intsOf_map]; rfl
theorem enum_sum (ns : List Int) (B : Nat) : ∀ (k : Nat) (kss : List (List Int)), (∀ ss ∈ kss, (cellsL (freeB ss ns)).length ≤ B) → ((enumD k (kss.map tupI)).map fun x => (outK ns x).length).sum ≤ kss.length * B
  | _, [], _ => by simp [enumD]
  | k, ss :: r, h => by
    rw [List.map_cons, enumD, List.map_cons, List.sum_cons, outK_eq, List.length_map, List.length_cons, Nat.succ_mul, Nat.add_comm]
    exact Nat.add_le_add (enum_sum ns B (k + 1) r fun s hs => h s (List.mem_cons_of_mem _ hs)) (h ss List.mem_cons_self)
theorem sum1 (f : PyData → PyData) : ∀ l : List PyData, (l.map fun x => [f x].length).sum = l.length
  | [] => rfl
  | a :: l => by rw [List.map_cons, List.sum_cons, sum1 f l]; show 1 + l.length = l.length + 1; omega
theorem flat1 (f : PyData → PyData) : ∀ l : List PyData, (l.map fun x => [f x]).flatten = l.map f
  | [] => rfl
  | a :: l => by rw [List.map_cons, List.flatten_cons, flat1 f l, List.map_cons]; rfl
/-- one item a turn, behind what is there -/
theorem mIt_mapA {g : DG} {vs : List Nat} {e : DE} {r : ME} {P : List PyData → Prop} {X : Xc → Prop} (f : PyData → PyData) {items acc : List PyData} (hB : acc.length + items.length ≤ 100000)
    (hs : ∀ x, x ∈ items → ∀ Q : PyData → Prop, Q (f x) → g x (wipeM r vs) (fun r2 => e r2 Q fun _ => False) fun _ => False)
    (hd : P (acc ++ items.map f)) : mIt g tOk vs (mEl e) r items acc P X := by
  refine mIt_fn (fun x => [f x]) 100000 (by rw [sum1]; exact hB) (fun x acc hx hl nx h => ?_) (by rw [flat1]; exact hd)
  have hl' : acc.length + 1 ≤ 100000 := hl
  exact hs x hx (fun y => acc.length < 100000 ∧ nx (acc ++ [y])) ⟨by omega, h⟩
theorem f_places {kss : List (List Int)} {ns : List Int} (hs : ∀ ss ∈ kss, ss.length = ns.length ∧ okG 1000 ((freeB ss ns).map fun n => (0, n)) 1) (hk : kss.length ≤ 10) (hl : ns.length ≤ 100) {P : PyData → Prop} {X : Xc → Prop}
    (h : P (.tuple (placesL 0 kss ns))) : m_places [.tuple (kss.map tupI), tupI ns] P X := by
  refine ⟨rfl, ?_⟩
  simp only [b_places, sSeq, sNx, sAsg, sDrop, sRet, sRetN, sIf, sPar, sForK, sNew, sFz, frzM, oApp, oExt, oSet, oIx, oLen, mVar, mC, mOp, mUn, mNot, mAnd, mOr, mIf, mTup, mLst, mCB, mCall, mCallW, mChain, mSl, mFr, mLc, mCl, mEl, mIsi, mRev, mKw, aCons, aNil, oNone, oSome, tT, tNo, tAn, tOo, tOk, gNm, gTp, gs1, gs0, eoLst, eoList, iSq, iR1, iR2, iR3, iZ2, iZ3, iEn, lk, MI.envOf, List.map_cons, List.map_nil, List.cons_append, List.nil_append, List.replicate_succ, List.replicate_zero, List.set_cons_zero, List.set_cons_succ, List.length_cons, List.length_nil, oAdd, oSub, oI, oIc, oMul, oMod, oFdiv, oPow, oNeg, oEq_s, oEq_i, oEq_b, oEq_t, oEq_l, oNe_s, oNe_i, oNe_b, oNe_t, oNe_l, oIs, oIsNot, oLt, oLe, oGt, oGe, oIt, oSl, oLn, oTuple, oList, oInt, oBool, oStr, oAbs, oMax2, oMin2, List.length_map, tupI, seqOf]
  have hB : ∀ ss ∈ kss, (cellsL (freeB ss ns)).length ≤ 1000 := fun ss hss => okG_last (rows := [[]]) (hs ss hss).2
  refine ⟨free_of ⟨trivial, trivial, trivial, trivial⟩, mIt_fn (outK ns) 10000 ?_ (fun d acc hd hb nx hn => ?_) ?_⟩
  · rw [List.length_nil, Nat.zero_add]
    have := enum_sum ns 1000 0 kss hB
    have h2 := Nat.mul_le_mul_right 1000 hk
    exact Nat.le_trans this h2
  · obtain ⟨i, hi⟩ := List.getElem?_of_mem hd
    obtain ⟨d0, hd0, rfl⟩ := enumD_get _ _ _ _ hi
    rw [List.getElem?_map] at hd0
    obtain ⟨ss, hss, rfl⟩ := Option.map_eq_some_iff.mp hd0
    have hm := List.mem_of_getElem? hss
    have := hB ss hm
    rw [outK_eq] at hb hn
    rw [List.length_map] at hb
    simp only [wipeM, sSeq, sNx, sAsg, sDrop, sRet, sRetN, sIf, sPar, sForK, sNew, sFz, frzM, oApp, oExt, oSet, oIx, oLen, mVar, mC, mOp, mUn, mNot, mAnd, mOr, mIf, mTup, mLst, mCB, mCall, mCallW, mChain, mSl, mFr, mLc, mCl, mEl, mIsi, mRev, mKw, aCons, aNil, oNone, oSome, tT, tNo, tAn, tOo, tOk, gNm, gTp, gs1, gs0, eoLst, eoList, iSq, iR1, iR2, iR3, iZ2, iZ3, iEn, lk, MI.envOf, List.map_cons, List.map_nil, List.cons_append, List.nil_append, List.replicate_succ, List.replicate_zero, List.set_cons_zero, List.set_cons_succ, List.length_cons, List.length_nil, oAdd, oSub, oI, oIc, oMul, oMod, oFdiv, oPow, oNeg, oEq_s, oEq_i, oEq_b, oEq_t, oEq_l, oNe_s, oNe_i, oNe_b, oNe_t, oNe_l, oIs, oIsNot, oLt, oLe, oGt, oGe, oIt, oSl, oLn, oTuple, oList, oInt, oBool, oStr, oAbs, oMax2, oMin2, tupI]
    refine ⟨trivial, f_corners (hs ss hm).2 (by rw [(hs ss hm).1]; exact hl) ?_⟩
    refine ⟨free_of ⟨trivial, trivial⟩, mIt_mapA (fun c => .tuple [.int ((0 + i : Nat) : Int), c]) (by rw [List.length_map]; exact Nat.le_trans hb (by decide)) (fun c hc Q hQ => ?_) ?_⟩
    · simp only [wipeM, sSeq, sNx, sAsg, sDrop, sRet, sRetN, sIf, sPar, sForK, sNew, sFz, frzM, oApp, oExt, oSet, oIx, oLen, mVar, mC, mOp, mUn, mNot, mAnd, mOr, mIf, mTup, mLst, mCB, mCall, mCallW, mChain, mSl, mFr, mLc, mCl, mEl, mIsi, mRev, mKw, aCons, aNil, oNone, oSome, tT, tNo, tAn, tOo, tOk, gNm, gTp, gs1, gs0, eoLst, eoList, iSq, iR1, iR2, iR3, iZ2, iZ3, iEn, lk, MI.envOf, List.map_cons, List.map_nil, List.cons_append, List.nil_append, List.replicate_succ, List.replicate_zero, List.set_cons_zero, List.set_cons_succ, List.length_cons, List.length_nil, oAdd, oSub, oI, oIc, oMul, oMod, oFdiv, oPow, oNeg, oEq_s, oEq_i, oEq_b, oEq_t, oEq_l, oNe_s, oNe_i, oNe_b, oNe_t, oNe_l, oIs, oIsNot, oLt, oLe, oGt, oGe, oIt, oSl, oLn, oTuple, oList, oInt, oBool, oStr, oAbs, oMax2, oMin2]
      exact ⟨by decide, hQ⟩
    · rw [List.map_map]; exact hn
  · rw [List.nil_append, enum_flat ns (outK ns) (outK_eq ns) 0 kss]
    exact h
end K30
set_option Elab.async false
set_option linter.all false
set_option maxRecDepth 100000
namespace K30
open PySem PySem.Spec PyProof.Rows L2 Evl TB DL MI GE
def okC : List PyData → List Int → List Int → Bool
  | c :: cs, s :: ss, n :: ns => (match c with | .int x => decide (0 ≤ x) && decide (x ≤ n - s) | _ => false) && okC cs ss ns
  | _, _, _ => true
def liesB (kss : List (List Int)) (ns : List Int) : PyData → Bool
  | .tuple [.int i, .tuple cs] => (decide (0 ≤ i) && decide (i < kss.length)) && (decide (cs.length = ns.length) && okC cs (kss.getD i.toNat []) ns)
  | _ => false
theorem eqv_nat (a b : Nat) : PyData.eqv (.int (a : Int)) (.int (b : Int)) = decide (a = b) := by
  show decide ((a : Int) = (b : Int)) = decide (a = b)
  by_cases h : a = b
  · subst h; simp
  · rw [decide_eq_false h, decide_eq_false (by omega)]
theorem zip3_drop : ∀ (k : Nat) (as bs ds : List PyData), zip3D (as.drop k) (bs.drop k) (ds.drop k) = (zip3D as bs ds).drop k := by
  intro k
  induction k with
  | zero => intro as bs ds; rfl
  | succ k ih => intro as bs ds; cases as with
    | nil => simp [zip3D]
    | cons a as => cases bs with
      | nil => cases (as.drop k) <;> simp [zip3D]
      | cons b bs => cases ds with
        | nil => cases (as.drop k) <;> cases (bs.drop k) <;> simp [zip3D]
        | cons d ds => simpa [zip3D] using ih as bs ds
theorem getD_of {α : Type} {l : List α} {i : Nat} {x d : α} (h : l[i]? = some x) : l.getD i d = x := by
  rw [List.getD_eq_getElem?_getD, h]; rfl
theorem okC_split : ∀ (cs : List PyData) (ss ns : List Int), (∀ (k : Nat) c s n, cs[k]? = some c → ss[k]? = some s → ns[k]? = some n → ∃ x, c = .int x ∧ 0 ≤ x ∧ x ≤ n - s) → okC cs ss ns = true
  | [], _, _, _ => rfl
  | _ :: _, [], _, _ => rfl
  | _ :: _, _ :: _, [], _ => rfl
  | c :: cs, s :: ss, n :: ns, h => by
    obtain ⟨x, rfl, h1, h2⟩ := h 0 c s n rfl rfl rfl
    unfold okC
    rw [okC_split cs ss ns fun k c s n h1 h2 h3 => h (k + 1) c s n h1 h2 h3]
    simp only [decide_eq_true h1, decide_eq_true h2, Bool.and_true]
theorem okC_of : ∀ (cs : List PyData) (ss ns : List Int), okC cs ss ns = true → ∀ (k : Nat) c s n, cs[k]? = some c → ss[k]? = some s → ns[k]? = some n → ∃ x, c = .int x ∧ 0 ≤ x ∧ x ≤ n - s
  | [], _, _, _, k, c, s, n, h1, _, _ => by simp at h1
  | _ :: _, [], _, _, k, c, s, n, _, h1, _ => by simp at h1
  | _ :: _, _ :: _, [], _, k, c, s, n, _, _, h1 => by simp at h1
  | c :: cs, s :: ss, n :: ns, h, k, c', s', n', h1, h2, h3 => by
    unfold okC at h
    rw [Bool.and_eq_true] at h
    cases k with
    | zero =>
      cases h1; cases h2; cases h3
      have h9 := h.1
      cases c with
      | int x =>
        have h9 : (decide (0 ≤ x) && decide (x ≤ n - s)) = true := h9
        rw [Bool.and_eq_true, decide_eq_true_eq, decide_eq_true_eq] at h9
        exact ⟨_, rfl, h9⟩
      | _ => cases h9
    | succ k => exact okC_of cs ss ns h.2 k c' s' n' h1 h2 h3
theorem zip3_get : ∀ (as bs ds : List PyData) (k : Nat) (t : PyData), (zip3D as bs ds)[k]? = some t → ∃ a b d, as[k]? = some a ∧ bs[k]? = some b ∧ ds[k]? = some d ∧ t = .tuple [a, b, d]
  | a :: as, b :: bs, d :: ds, 0, t, h => ⟨a, b, d, rfl, rfl, rfl, by rw [zip3D] at h; cases h; rfl⟩
  | a :: as, b :: bs, d :: ds, k + 1, t, h => zip3_get as bs ds k t (by rw [zip3D] at h; exact h)
  | [], _, _, k, t, h => by simp [zip3D] at h
  | _ :: _, [], _, k, t, h => by simp [zip3D] at h
  | _ :: _, _ :: _, [], k, t, h => by simp [zip3D] at h
theorem zip3D_len : ∀ as bs ds : List PyData, (zip3D as bs ds).length = min as.length (min bs.length ds.length)
  | [], _, _ => by simp [zip3D]
  | _ :: _, [], _ => by simp [zip3D]
  | _ :: _, _ :: _, [] => by simp [zip3D]
  | a :: as, b :: bs, d :: ds => by simp only [zip3D, List.length_cons, zip3D_len as bs ds]; omega
def idxB (n : Int) : PyData → Bool
  | .int x => decide (0 ≤ x) && decide (x < n)
  | _ => false
theorem f_is_index {e : PyData} {n : Int} {P : PyData → Prop} {X : Xc → Prop} (h : P (.bool (idxB n e))) : m_is_index [e, .int n] P X := by
  refine ⟨rfl, ?_⟩
  unfold b_is_index
  generalize hm : m_is_int = my
  have hmy : ∀ {e : PyData} {P : PyData → Prop} {X : Xc → Prop}, P (.bool (isI e)) → my [e] P X := fun h => by rw [← hm]; exact f_is_int h
  show my [e] _ _
  refine hmy ?_
  cases e with
  | int x =>
    show (match PyData.bool (decide (0 ≤ x)) with
      | .bool true => P (.bool (decide (x < n)))
      | .bool false => P (.bool false)
      | _ => False)
    have h : P (.bool (decide (0 ≤ x) && decide (x < n))) := h
    by_cases h1 : 0 ≤ x
    · rw [decide_eq_true h1] at h ⊢
      rw [Bool.true_and] at h
      exact h
    · rw [decide_eq_false h1] at h ⊢
      rw [Bool.false_and] at h
      exact h
  | _ => exact h
theorem f_lies_in {kss : List (List Int)} {ns : List Int} (hs : ∀ ss ∈ kss, ss.length = ns.length) (e : PyData) {P : PyData → Prop} {X : Xc → Prop} (h : P (.bool (liesB kss ns e))) : m_lies_in [.tuple (kss.map tupI), tupI ns, e] P X := by
  refine ⟨rfl, ?_⟩
  have nt : (∀ es, e ≠ .tuple es) → isA "tuple" e = false := fun h => by cases e <;> first | rfl | exact absurd rfl (h _)
  by_cases ht : ∃ es, e = .tuple es
  · obtain ⟨es, rfl⟩ := ht
    simp only [b_lies_in, sSeq, sNx, sAsg, sDrop, sRet, sRetN, sIf, sPar, sForK, sNew, sFz, frzM, oApp, oExt, oSet, oIx, oLen, mVar, mC, mOp, mUn, mNot, mAnd, mOr, mIf, mTup, mLst, mCB, mCall, mCallW, mChain, mSl, mFr, mLc, mCl, mEl, mIsi, mRev, mKw, aCons, aNil, oNone, oSome, tT, tNo, tAn, tOo, tOk, gNm, gTp, gs1, gs0, eoLst, eoList, iSq, iR1, iR2, iR3, iZ2, iZ3, iEn, lk, MI.envOf, List.map_cons, List.map_nil, List.cons_append, List.nil_append, List.replicate_succ, List.replicate_zero, List.set_cons_zero, List.set_cons_succ, List.length_cons, List.length_nil, oAdd, oSub, oI, oIc, oMul, oMod, oFdiv, oPow, oNeg, oEq_s, oEq_i, oEq_b, oEq_t, oEq_l, oNe_s, oNe_i, oNe_b, oNe_t, oNe_l, oIs, oIsNot, oLt, oLe, oGt, oGe, oIt, oSl, oLn, oTuple, oList, oInt, oBool, oStr, oAbs, oMax2, oMin2, List.length_map, tupI, show isA "tuple" (.tuple es) = true from rfl, Bool.not_true]
    refine ⟨⟨rfl, rfl⟩, ?_⟩
    rw [show PyData.eqv (.int (es.length : Int)) (.int 2) = decide (es.length = 2) from eqv_nat _ 2]
    by_cases h2 : es.length = 2
    · match es, h2 with
      | [a, b], _ =>
        simp only [List.length_cons, List.length_nil, decide_true, Bool.not_true]
        refine ⟨trivial, f_is_index ?_⟩
        by_cases ha : ∃ i, a = .int i
        · obtain ⟨i, rfl⟩ := ha
          by_cases hi : 0 ≤ i ∧ i < kss.length
          · rw [show idxB (kss.length : Int) (.int i) = true from by rw [idxB, decide_eq_true hi.1, decide_eq_true hi.2]; rfl]
            simp only [Bool.not_true]
            by_cases hb : ∃ cs, b = .tuple cs
            · obtain ⟨cs, rfl⟩ := hb
              simp only [show isA "tuple" (.tuple cs) = true from rfl, Bool.not_true]
              refine ⟨⟨rfl, rfl⟩, ?_⟩
              rw [eqv_nat]
              by_cases hc : cs.length = ns.length
              · obtain ⟨j, rfl⟩ := Int.eq_ofNat_of_zero_le hi.1
                have hj : j < kss.length := by have := hi.2; omega
                have hss := List.getElem?_eq_getElem hj
                have ea : atI (List.map tupI kss) (j : Int) = some (tupI kss[j]) := atI_nat (by rw [List.getElem?_map, hss]; rfl)
                have hl := hs _ (List.getElem_mem hj)
                generalize kss[j] = ss at hss ea hl
                rw [decide_eq_true hc]
                simp only [Bool.not_true, ea, seqOf, tupI]
                have hlb : liesB kss ns (.tuple [.int (j : Int), .tuple cs]) = okC cs ss ns := by
                  rw [liesB, decide_eq_true hi.1, decide_eq_true hi.2, decide_eq_true hc, Int.toNat_natCast, getD_of hss]; rfl
                rw [hlb] at h
                refine forK_inv (fun k r => r = [none, none, none, none, none, none, none, none] ∧ ∀ (m : Nat) c s n, m < k → cs[m]? = some c → ss[m]? = some s → ns[m]? = some n → ∃ x, c = .int x ∧ 0 ≤ x ∧ x ≤ n - s) ⟨rfl, fun _ _ _ _ h => by omega⟩ (fun k d r' hk hJ nx hn => ?_) fun r' hJ => ?_
                · obtain ⟨rfl, hJ⟩ := hJ
                  obtain ⟨c, s0, n0, h1, h2', h3, rfl⟩ := zip3_get _ _ _ _ _ hk
                  rw [List.getElem?_map] at h2' h3
                  obtain ⟨s, hs1, rfl⟩ := Option.map_eq_some_iff.mp h2'
                  obtain ⟨n, hn1, rfl⟩ := Option.map_eq_some_iff.mp h3
                  have bad : (¬ ∃ x, c = .int x ∧ 0 ≤ x ∧ x ≤ n - s) → P (.bool false) := fun hb => by
                    cases ho : okC cs ss ns with
                    | false => rw [ho] at h; exact h
                    | true => exact (hb (okC_of _ _ _ ho k c s n h1 hs1 hn1)).elim
                  simp only [sSeq, sNx, sAsg, sDrop, sRet, sRetN, sIf, sPar, sForK, sNew, sFz, frzM, oApp, oExt, oSet, oIx, oLen, mVar, mC, mOp, mUn, mNot, mAnd, mOr, mIf, mTup, mLst, mCB, mCall, mCallW, mChain, mSl, mFr, mLc, mCl, mEl, mIsi, mRev, mKw, aCons, aNil, oNone, oSome, tT, tNo, tAn, tOo, tOk, gNm, gTp, gs1, gs0, eoLst, eoList, iSq, iR1, iR2, iR3, iZ2, iZ3, iEn, lk, MI.envOf, List.map_cons, List.map_nil, List.cons_append, List.nil_append, List.replicate_succ, List.replicate_zero, List.set_cons_zero, List.set_cons_succ, List.length_cons, List.length_nil, oAdd, oSub, oI, oIc, oMul, oMod, oFdiv, oPow, oNeg, oEq_s, oEq_i, oEq_b, oEq_t, oEq_l, oNe_s, oNe_i, oNe_b, oNe_t, oNe_l, oIs, oIsNot, oLt, oLe, oGt, oGe, oIt, oSl, oLn, oTuple, oList, oInt, oBool, oStr, oAbs, oMax2, oMin2]
                  refine ⟨trivial, f_is_int ?_⟩
                  by_cases hci : ∃ x, c = .int x
                  · obtain ⟨x, rfl⟩ := hci
                    simp only [isI_int, Bool.not_true, Bool.not_false, Bool.false_eq_true]
                    by_cases hx0 : 0 ≤ x
                    · simp only [decide_eq_true hx0]
                      by_cases hx1 : x ≤ n - s
                      · simp only [decide_eq_true hx1, Bool.not_true]
                        refine hn _ ⟨rfl, fun m c' s' n' hm g1 g2 g3 => ?_⟩
                        by_cases hmk : m = k
                        · subst hmk
                          rw [h1] at g1; cases g1
                          rw [hs1] at g2; cases g2
                          rw [hn1] at g3; cases g3
                          exact ⟨x, rfl, hx0, hx1⟩
                        · exact hJ m c' s' n' (by omega) g1 g2 g3
                      · simp only [decide_eq_false hx1, Bool.not_false]
                        exact bad fun ⟨y, hy, _, h2⟩ => by cases hy; exact hx1 h2
                    · simp only [decide_eq_false hx0, Bool.not_false]
                      exact bad fun ⟨y, hy, h2, _⟩ => by cases hy; exact hx0 h2
                  · simp only [isI_no hci, Bool.not_false]
                    exact bad fun ⟨y, hy, _⟩ => hci ⟨y, hy⟩
                · obtain ⟨rfl, hJ⟩ := hJ
                  have ho : okC cs ss ns = true := okC_split _ _ _ fun k c s n h1 h2 h3 => hJ k c s n (by
                    rw [zip3D_len, List.length_map, List.length_map]
                    have := (List.getElem?_eq_some_iff.mp h1).1
                    omega) h1 h2 h3
                  rw [ho] at h
                  exact h
              · rw [decide_eq_false hc]
                have : liesB kss ns (.tuple [.int i, .tuple cs]) = false := by
                  rw [liesB, decide_eq_false hc]; simp
                rw [this] at h
                exact h
            · have hbt : isA "tuple" b = false := by cases b <;> first | rfl | exact absurd ⟨_, rfl⟩ hb
              have : liesB kss ns (.tuple [.int i, b]) = false := by
                unfold liesB
                split
                · rename_i hq; cases hq; exact absurd ⟨_, rfl⟩ hb
                · rfl
              rw [this] at h
              simp only [hbt, Bool.not_false]
              exact h
          · have : liesB kss ns (.tuple [.int i, b]) = false := by
              unfold liesB
              split
              · rename_i hq; cases hq
                rw [show (decide (0 ≤ i) && decide (i < (kss.length : Int))) = false by
                  rw [← Bool.decide_and]; exact decide_eq_false hi]
                rfl
              · rfl
            rw [this] at h
            rw [show idxB (kss.length : Int) (.int i) = false from by rw [idxB, ← Bool.decide_and]; exact decide_eq_false hi]
            simp only [Bool.not_false]
            exact h
        · have e0 : ∀ n : Int, idxB n a = false := fun n => by
            cases a <;> first | rfl | exact absurd ⟨_, rfl⟩ ha
          have : liesB kss ns (.tuple [a, b]) = false := by
            unfold liesB
            split
            · rename_i hq; cases hq; exact absurd ⟨_, rfl⟩ ha
            · rfl
          rw [this] at h
          simp only [e0, Bool.not_false]
          exact h
    · rw [decide_eq_false h2]
      have : liesB kss ns (.tuple es) = false := by
        unfold liesB
        split
        · rename_i h; cases h; exact absurd rfl h2
        · rfl
      rw [this] at h
      exact h
  · have hn := nt fun es he => ht ⟨es, he⟩
    have : liesB kss ns e = false := by
      unfold liesB
      split
      · exact absurd ⟨_, rfl⟩ ht
      · rfl
    rw [this] at h
    simp only [b_lies_in, sSeq, sNx, sAsg, sDrop, sRet, sRetN, sIf, sPar, sForK, sNew, sFz, frzM, oApp, oExt, oSet, oIx, oLen, mVar, mC, mOp, mUn, mNot, mAnd, mOr, mIf, mTup, mLst, mCB, mCall, mCallW, mChain, mSl, mFr, mLc, mCl, mEl, mIsi, mRev, mKw, aCons, aNil, oNone, oSome, tT, tNo, tAn, tOo, tOk, gNm, gTp, gs1, gs0, eoLst, eoList, iSq, iR1, iR2, iR3, iZ2, iZ3, iEn, lk, MI.envOf, List.map_cons, List.map_nil, List.cons_append, List.nil_append, List.replicate_succ, List.replicate_zero, List.set_cons_zero, List.set_cons_succ, List.length_cons, List.length_nil, oAdd, oSub, oI, oIc, oMul, oMod, oFdiv, oPow, oNeg, oEq_s, oEq_i, oEq_b, oEq_t, oEq_l, oNe_s, oNe_i, oNe_b, oNe_t, oNe_l, oIs, oIsNot, oLt, oLe, oGt, oGe, oIt, oSl, oLn, oTuple, oList, oInt, oBool, oStr, oAbs, oMax2, oMin2, hn, Bool.not_false]
    exact h
end K30
set_option Elab.async false
set_option linter.all false
set_option maxRecDepth 100000
namespace K30
open PySem PySem.Spec PyProof.Rows L2 Evl TB DL MI GE
def whB (lo hi : Int) : PyData → Bool
  | .int x => decide (lo ≤ x) && decide (x ≤ hi)
  | _ => false
theorem f_law_whole {e : PyData} {lo hi : Int} {P : PyData → Prop} {X : Xc → Prop} (h : P (.bool (whB lo hi e))) : m__law_whole [e, .int lo, .int hi] P X := by
  refine ⟨rfl, ?_⟩
  simp only [b__law_whole, sSeq, sNx, sAsg, sDrop, sRet, sRetN, sIf, sPar, sForK, sNew, sFz, frzM, oApp, oExt, oSet, oIx, oLen, mVar, mC, mOp, mUn, mNot, mAnd, mOr, mIf, mTup, mLst, mCB, mCall, mCallW, mChain, mSl, mFr, mLc, mCl, mEl, mIsi, mRev, mKw, aCons, aNil, oNone, oSome, tT, tNo, tAn, tOo, tOk, gNm, gTp, gs1, gs0, eoLst, eoList, iSq, iR1, iR2, iR3, iZ2, iZ3, iEn, lk, MI.envOf, List.map_cons, List.map_nil, List.cons_append, List.nil_append, List.replicate_succ, List.replicate_zero, List.set_cons_zero, List.set_cons_succ, List.length_cons, List.length_nil, oAdd, oSub, oI, oIc, oMul, oMod, oFdiv, oPow, oNeg, oEq_s, oEq_i, oEq_b, oEq_t, oEq_l, oNe_s, oNe_i, oNe_b, oNe_t, oNe_l, oIs, oIsNot, oLt, oLe, oGt, oGe, oIt, oSl, oLn, oTuple, oList, oInt, oBool, oStr, oAbs, oMax2, oMin2]
  cases e with
  | int x =>
    simp only [show isA "int" (.int x) = true from rfl, show isA "bool" (.int x) = false from rfl, Bool.not_false]
    unfold whB at h
    by_cases h1 : lo ≤ x
    · simpa only [decide_eq_true h1, Bool.true_and] using h
    · simpa only [decide_eq_false h1, Bool.false_and] using h
  | _ => exact h
theorem range_map (f : Int → PyData) (n : Int) : (rngI 0 n).map f = (List.range n.toNat).map fun (k : Nat) => f k := by
  unfold rngI
  rw [List.map_map, Int.sub_zero]
  refine List.map_congr_left fun k _ => ?_
  show f (0 + (k : Int)) = _
  rw [Int.zero_add]
theorem stepG_app (a b : Int) (r1 r2 : List (List Int)) : stepG a b (r1 ++ r2) = stepG a b r1 ++ stepG a b r2 := by
  unfold stepG; rw [List.map_append, List.flatten_append]
theorem stepG_take_le {a b : Int} {rows : List (List Int)} {k : Nat} : (stepG a b (rows.take k)).length ≤ (stepG a b rows).length := by
  rw [stepG_len, stepG_len, List.length_take]
  exact Nat.mul_le_mul_right _ (Nat.min_le_right _ _)
theorem f_law_cells {x : PyData} {ns : List Int} (hx : seqOf x = some (ns.map .int)) (ok : okG 1000 (ns.map fun n => (0, n)) 1) (hl : ns.length ≤ 100) {P : PyData → Prop} {X : Xc → Prop} (h : P (.list ((cellsL ns).map tupI))) : m__law_cells [x] P X := by
  refine ⟨rfl, ?_⟩
  have hx' : (x = .list (ns.map .int)) ∨ x = .tuple (ns.map .int) := by cases x <;> first | (cases hx; done) | (injection hx with hx; subst hx; simp)
  rcases hx' with rfl | rfl
  all_goals
    simp only [b__law_cells, sSeq, sNx, sAsg, sDrop, sRet, sRetN, sIf, sPar, sForK, sNew, sFz, frzM, oApp, oExt, oSet, oIx, oLen, mVar, mC, mOp, mUn, mNot, mAnd, mOr, mIf, mTup, mLst, mCB, mCall, mCallW, mChain, mSl, mFr, mLc, mCl, mEl, mIsi, mRev, mKw, aCons, aNil, oNone, oSome, tT, tNo, tAn, tOo, tOk, gNm, gTp, gs1, gs0, eoLst, eoList, iSq, iR1, iR2, iR3, iZ2, iZ3, iEn, lk, MI.envOf, List.map_cons, List.map_nil, List.cons_append, List.nil_append, List.replicate_succ, List.replicate_zero, List.set_cons_zero, List.set_cons_succ, List.length_cons, List.length_nil, oAdd, oSub, oI, oIc, oMul, oMod, oFdiv, oPow, oNeg, oEq_s, oEq_i, oEq_b, oEq_t, oEq_l, oNe_s, oNe_i, oNe_b, oNe_t, oNe_l, oIs, oIsNot, oLt, oLe, oGt, oGe, oIt, oSl, oLn, oTuple, oList, oInt, oBool, oStr, oAbs, oMax2, oMin2]
    refine ⟨by decide, by decide, forK_inv (fun k r => ∃ rows, r = [none, some (.dat (.list (List.map tupI rows))), none, none, none, none] ∧ okG 1000 ((ns.map fun n => ((0 : Int), n)).drop k) rows.length ∧ gridF ((ns.map fun n => ((0 : Int), n)).drop k) rows = cellsL ns ∧ ∀ row ∈ rows, row.length = k) ⟨[[]], rfl, ok, rfl, fun r hr => by rw [List.mem_singleton.mp hr]; rfl⟩ (fun k d r' hk hJ nx hn => ?_) fun r' hJ => ?_⟩
    · obtain ⟨rows, rfl, ok', hg, hrl⟩ := hJ
      rw [List.getElem?_map] at hk
      obtain ⟨n, hp, rfl⟩ := Option.map_eq_some_iff.mp hk
      have kl := (List.getElem?_eq_some_iff.mp hp).1
      have ed : (ns.map fun n => ((0 : Int), n)).drop k = (0, n) :: (ns.map fun n => ((0 : Int), n)).drop (k + 1) := by
        rw [List.drop_eq_getElem_cons (by rw [List.length_map]; exact kl)]
        congr 1
        rw [List.getElem_map, (List.getElem?_eq_some_iff.mp hp).2]
      rw [ed] at ok' hg
      obtain ⟨o1, ⟨o2, o3, o4, o5⟩, o6⟩ := ok'
      have o7 := okG_hd o6
      have o4 : -(2 ^ 60) ≤ n := o4
      have o5 : n ≤ 2 ^ 60 := o5
      simp only [sSeq, sNx, sAsg, sDrop, sRet, sRetN, sIf, sPar, sForK, sNew, sFz, frzM, oApp, oExt, oSet, oIx, oLen, mVar, mC, mOp, mUn, mNot, mAnd, mOr, mIf, mTup, mLst, mCB, mCall, mCallW, mChain, mSl, mFr, mLc, mCl, mEl, mIsi, mRev, mKw, aCons, aNil, oNone, oSome, tT, tNo, tAn, tOo, tOk, gNm, gTp, gs1, gs0, eoLst, eoList, iSq, iR1, iR2, iR3, iZ2, iZ3, iEn, lk, MI.envOf, List.map_cons, List.map_nil, List.cons_append, List.nil_append, List.replicate_succ, List.replicate_zero, List.set_cons_zero, List.set_cons_succ, List.length_cons, List.length_nil, oAdd, oSub, oI, oIc, oMul, oMod, oFdiv, oPow, oNeg, oEq_s, oEq_i, oEq_b, oEq_t, oEq_l, oNe_s, oNe_i, oNe_b, oNe_t, oNe_l, oIs, oIsNot, oLt, oLe, oGt, oGe, oIt, oSl, oLn, oTuple, oList, oInt, oBool, oStr, oAbs, oMax2, oMin2]
      refine ⟨by decide, by decide, forK_inv (fun j r => r = [none, none, some (.dat (.int n)), some (.own ((stepG 0 n (rows.take j)).map tupI)), none, none]) rfl (fun j d r' hj hJ nx' hn' => ?_) fun r' hJ => ?_⟩
      · subst hJ
        rw [List.getElem?_map] at hj
        obtain ⟨row, hrow, rfl⟩ := Option.map_eq_some_iff.mp hj
        have hrm := hrl row (List.mem_of_getElem? hrow)
        have e1 : rows.take (j + 1) = rows.take j ++ [row] := by
          rw [List.take_add_one, hrow]; rfl
        have e2 : stepG 0 n [row] = (rngI 0 n).map fun x => row ++ [x] := by
          unfold stepG; simp
        have e3 : (rngI 0 n).length ≤ 1000 := by
          have h1 := List.length_pos_of_mem (List.mem_of_getElem? hrow)
          have h2 := Nat.mul_le_mul_right (n - 0).toNat (show 1 ≤ rows.length from h1)
          rw [rngI_len]
          have o7 : rows.length * (n - 0).toNat ≤ 1000 := o7
          omega
        simp only [sSeq, sNx, sAsg, sDrop, sRet, sRetN, sIf, sPar, sForK, sNew, sFz, frzM, oApp, oExt, oSet, oIx, oLen, mVar, mC, mOp, mUn, mNot, mAnd, mOr, mIf, mTup, mLst, mCB, mCall, mCallW, mChain, mSl, mFr, mLc, mCl, mEl, mIsi, mRev, mKw, aCons, aNil, oNone, oSome, tT, tNo, tAn, tOo, tOk, gNm, gTp, gs1, gs0, eoLst, eoList, iSq, iR1, iR2, iR3, iZ2, iZ3, iEn, lk, MI.envOf, List.map_cons, List.map_nil, List.cons_append, List.nil_append, List.replicate_succ, List.replicate_zero, List.set_cons_zero, List.set_cons_succ, List.length_cons, List.length_nil, oAdd, oSub, oI, oIc, oMul, oMod, oFdiv, oPow, oNeg, oEq_s, oEq_i, oEq_b, oEq_t, oEq_l, oNe_s, oNe_i, oNe_b, oNe_t, oNe_l, oIs, oIsNot, oLt, oLe, oGt, oGe, oIt, oSl, oLn, oTuple, oList, oInt, oBool, oStr, oAbs, oMax2, oMin2, tupI]
        refine ⟨⟨by omega, by omega⟩, free_of ⟨trivial, trivial⟩, mIt_map (fun d => match d with | .int x => tupI (row ++ [x]) | d => d) ?_ (fun d hd Q hQ => ?_) ?_⟩
        · rw [List.length_map, List.length_range]
          rw [rngI_len, Int.sub_zero] at e3
          omega
        · obtain ⟨x, _, rfl⟩ := List.mem_map.mp hd
          simp only [wipeM, sSeq, sNx, sAsg, sDrop, sRet, sRetN, sIf, sPar, sForK, sNew, sFz, frzM, oApp, oExt, oSet, oIx, oLen, mVar, mC, mOp, mUn, mNot, mAnd, mOr, mIf, mTup, mLst, mCB, mCall, mCallW, mChain, mSl, mFr, mLc, mCl, mEl, mIsi, mRev, mKw, aCons, aNil, oNone, oSome, tT, tNo, tAn, tOo, tOk, gNm, gTp, gs1, gs0, eoLst, eoList, iSq, iR1, iR2, iR3, iZ2, iZ3, iEn, lk, MI.envOf, List.map_cons, List.map_nil, List.cons_append, List.nil_append, List.replicate_succ, List.replicate_zero, List.set_cons_zero, List.set_cons_succ, List.length_cons, List.length_nil, oAdd, oSub, oI, oIc, oMul, oMod, oFdiv, oPow, oNeg, oEq_s, oEq_i, oEq_b, oEq_t, oEq_l, oNe_s, oNe_i, oNe_b, oNe_t, oNe_l, oIs, oIsNot, oLt, oLe, oGt, oGe, oIt, oSl, oLn, oTuple, oList, oInt, oBool, oStr, oAbs, oMax2, oMin2, List.length_map]
          refine ⟨by decide, by omega, ?_⟩
          rw [tupI_app]
          exact hQ
        · have e4 : (List.map (fun (d : PyData) => match d with | .int x => tupI (row ++ [x]) | d => d) (List.map (fun (i : Nat) => PyData.int i) (List.range n.toNat))) = ((rngI 0 n).map fun x => row ++ [x]).map tupI := by
            rw [List.map_map, List.map_map, range_map]; rfl
          have e5 : (stepG 0 n (rows.take j)).map tupI ++ ((rngI 0 n).map fun x => row ++ [x]).map tupI = (stepG 0 n (rows.take (j + 1))).map tupI := by
            rw [e1, stepG_app, e2, List.map_append]
          refine ⟨?_, hn' _ ?_⟩
          · rw [e4, List.length_map, List.length_map, List.length_map]
            have := stepG_take_le (a := 0) (b := n) (rows := rows) (k := j)
            rw [stepG_len (rows := rows)] at this
            have o7 : rows.length * (n - 0).toNat ≤ 1000 := o7
            omega
          · rw [e4]
            show [none, none, some (ML.dat (PyData.int n)), some (ML.own (List.map tupI (stepG 0 n (List.take j rows)) ++ ((rngI 0 n).map fun x => row ++ [x]).map tupI)), none, none] = _
            rw [e5]
      · subst hJ
        rw [List.length_map, List.take_length]
        simp only [sSeq, sNx, sAsg, sDrop, sRet, sRetN, sIf, sPar, sForK, sNew, sFz, frzM, oApp, oExt, oSet, oIx, oLen, mVar, mC, mOp, mUn, mNot, mAnd, mOr, mIf, mTup, mLst, mCB, mCall, mCallW, mChain, mSl, mFr, mLc, mCl, mEl, mIsi, mRev, mKw, aCons, aNil, oNone, oSome, tT, tNo, tAn, tOo, tOk, gNm, gTp, gs1, gs0, eoLst, eoList, iSq, iR1, iR2, iR3, iZ2, iZ3, iEn, lk, MI.envOf, List.map_cons, List.map_nil, List.cons_append, List.nil_append, List.replicate_succ, List.replicate_zero, List.set_cons_zero, List.set_cons_succ, List.length_cons, List.length_nil, oAdd, oSub, oI, oIc, oMul, oMod, oFdiv, oPow, oNeg, oEq_s, oEq_i, oEq_b, oEq_t, oEq_l, oNe_s, oNe_i, oNe_b, oNe_t, oNe_l, oIs, oIsNot, oLt, oLe, oGt, oGe, oIt, oSl, oLn, oTuple, oList, oInt, oBool, oStr, oAbs, oMax2, oMin2]
        refine hn _ ⟨stepG 0 n rows, rfl, by rw [stepG_len]; exact o6, hg, fun row hr => ?_⟩
        obtain ⟨r0, h0, x, _, rfl⟩ := stepG_mem.mp hr
        rw [List.length_append, hrl r0 h0]; rfl
    · obtain ⟨rows, rfl, ok', hg, _⟩ := hJ
      rw [List.length_map, ← List.length_map (fun n => ((0 : Int), n)), List.drop_length] at hg
      rw [show rows = cellsL ns from hg]
      exact h
theorem f_law_moved {xs cs : List Int} (hl : xs.length ≤ 100) {P : PyData → Prop} {X : Xc → Prop} (h : P (tupI (List.zipWith (fun c s => c + s) xs cs))) : m__law_moved [tupI xs, tupI cs] P X := by
  refine ⟨rfl, ?_⟩
  simp only [b__law_moved, sSeq, sNx, sAsg, sDrop, sRet, sRetN, sIf, sPar, sForK, sNew, sFz, frzM, oApp, oExt, oSet, oIx, oLen, mVar, mC, mOp, mUn, mNot, mAnd, mOr, mIf, mTup, mLst, mCB, mCall, mCallW, mChain, mSl, mFr, mLc, mCl, mEl, mIsi, mRev, mKw, aCons, aNil, oNone, oSome, tT, tNo, tAn, tOo, tOk, gNm, gTp, gs1, gs0, eoLst, eoList, iSq, iR1, iR2, iR3, iZ2, iZ3, iEn, lk, MI.envOf, List.map_cons, List.map_nil, List.cons_append, List.nil_append, List.replicate_succ, List.replicate_zero, List.set_cons_zero, List.set_cons_succ, List.length_cons, List.length_nil, oAdd, oSub, oI, oIc, oMul, oMod, oFdiv, oPow, oNeg, oEq_s, oEq_i, oEq_b, oEq_t, oEq_l, oNe_s, oNe_i, oNe_b, oNe_t, oNe_l, oIs, oIsNot, oLt, oLe, oGt, oGe, oIt, oSl, oLn, oTuple, oList, oInt, oBool, oStr, oAbs, oMax2, oMin2, List.length_map, tupI, seqOf]
  have hl2 := zip2_len (xs := xs.map PyData.int) (ys := cs.map PyData.int)
  rw [List.length_map] at hl2
  refine ⟨free_of ⟨trivial, trivial, trivial⟩, mIt_map (fn2 fun c s => c + s) (by omega) (fun d hd Q hQ => ?_) ?_⟩
  · obtain ⟨x, y, rfl⟩ := zip2_mem hd
    simp only [wipeM, sSeq, sNx, sAsg, sDrop, sRet, sRetN, sIf, sPar, sForK, sNew, sFz, frzM, oApp, oExt, oSet, oIx, oLen, mVar, mC, mOp, mUn, mNot, mAnd, mOr, mIf, mTup, mLst, mCB, mCall, mCallW, mChain, mSl, mFr, mLc, mCl, mEl, mIsi, mRev, mKw, aCons, aNil, oNone, oSome, tT, tNo, tAn, tOo, tOk, gNm, gTp, gs1, gs0, eoLst, eoList, iSq, iR1, iR2, iR3, iZ2, iZ3, iEn, lk, MI.envOf, List.map_cons, List.map_nil, List.cons_append, List.nil_append, List.replicate_succ, List.replicate_zero, List.set_cons_zero, List.set_cons_succ, List.length_cons, List.length_nil, oAdd, oSub, oI, oIc, oMul, oMod, oFdiv, oPow, oNeg, oEq_s, oEq_i, oEq_b, oEq_t, oEq_l, oNe_s, oNe_i, oNe_b, oNe_t, oNe_l, oIs, oIsNot, oLt, oLe, oGt, oGe, oIt, oSl, oLn, oTuple, oList, oInt, oBool, oStr, oAbs, oMax2, oMin2]
    exact ⟨trivial, hQ⟩
  · rw [zip2_ints (fun c s => c + s) _ fun _ _ => rfl]
    exact h
theorem f_law_covered {kss : List (List Int)} {k : Nat} {ss cs : List Int} (hk : kss[k]? = some ss) (ok : okG 1000 (ss.map fun n => (0, n)) 1) (hl : ss.length ≤ 100) {P : PyData → Prop} {X : Xc → Prop}
    (h : P (.list (((cellsL ss).map fun r => List.zipWith (fun c s => c + s) r cs).map tupI))) : m__law_covered [.tuple (kss.map tupI), .tuple [.int k, tupI cs]] P X := by
  refine ⟨rfl, ?_⟩
  have ha : atI (kss.map tupI) (k : Int) = some (tupI ss) := atI_nat (by rw [List.getElem?_map, hk]; rfl)
  have hi0 : atI [PyData.int (k : Int), tupI cs] 0 = some (.int (k : Int)) := rfl
  have hi1 : atI [PyData.int (k : Int), tupI cs] 1 = some (tupI cs) := rfl
  simp only [b__law_covered, sSeq, sNx, sAsg, sDrop, sRet, sRetN, sIf, sPar, sForK, sNew, sFz, frzM, oApp, oExt, oSet, oIx, oLen, mVar, mC, mOp, mUn, mNot, mAnd, mOr, mIf, mTup, mLst, mCB, mCall, mCallW, mChain, mSl, mFr, mLc, mCl, mEl, mIsi, mRev, mKw, aCons, aNil, oNone, oSome, tT, tNo, tAn, tOo, tOk, gNm, gTp, gs1, gs0, eoLst, eoList, iSq, iR1, iR2, iR3, iZ2, iZ3, iEn, lk, MI.envOf, List.map_cons, List.map_nil, List.cons_append, List.nil_append, List.replicate_succ, List.replicate_zero, List.set_cons_zero, List.set_cons_succ, List.length_cons, List.length_nil, oAdd, oSub, oI, oIc, oMul, oMod, oFdiv, oPow, oNeg, oEq_s, oEq_i, oEq_b, oEq_t, oEq_l, oNe_s, oNe_i, oNe_b, oNe_t, oNe_l, oIs, oIsNot, oLt, oLe, oGt, oGe, oIt, oSl, oLn, oTuple, oList, oInt, oBool, oStr, oAbs, oMax2, oMin2, ha, hi0, hi1]
  have hB : (cellsL ss).length ≤ 1000 := okG_last (rows := [[]]) ok
  refine f_law_cells rfl ok hl ?_
  refine ⟨free_of ⟨trivial, trivial⟩, mIt_map (fun d => match d with | .tuple ds => tupI (List.zipWith (fun c s => c + s) ((intsOf ds).getD []) cs) | d => d) (by rw [List.length_map]; omega) (fun d hd Q hQ => ?_) ?_⟩
  · obtain ⟨row, hr, rfl⟩ := List.mem_map.mp hd
    have hQ : Q (tupI (List.zipWith (fun c s => c + s) ((intsOf (row.map .int)).getD []) cs)) := hQ
    rw [intsOf_map] at hQ
    obtain ⟨r0, h0, xs, rfl, hx, _⟩ := gridF_mem hr
    rw [List.mem_singleton.mp h0, List.nil_append] at hQ ⊢
    simp only [wipeM, sSeq, sNx, sAsg, sDrop, sRet, sRetN, sIf, sPar, sForK, sNew, sFz, frzM, oApp, oExt, oSet, oIx, oLen, mVar, mC, mOp, mUn, mNot, mAnd, mOr, mIf, mTup, mLst, mCB, mCall, mCallW, mChain, mSl, mFr, mLc, mCl, mEl, mIsi, mRev, mKw, aCons, aNil, oNone, oSome, tT, tNo, tAn, tOo, tOk, gNm, gTp, gs1, gs0, eoLst, eoList, iSq, iR1, iR2, iR3, iZ2, iZ3, iEn, lk, MI.envOf, List.map_cons, List.map_nil, List.cons_append, List.nil_append, List.replicate_succ, List.replicate_zero, List.set_cons_zero, List.set_cons_succ, List.length_cons, List.length_nil, oAdd, oSub, oI, oIc, oMul, oMod, oFdiv, oPow, oNeg, oEq_s, oEq_i, oEq_b, oEq_t, oEq_l, oNe_s, oNe_i, oNe_b, oNe_t, oNe_l, oIs, oIsNot, oLt, oLe, oGt, oGe, oIt, oSl, oLn, oTuple, oList, oInt, oBool, oStr, oAbs, oMax2, oMin2, hi0, hi1]
    exact f_law_moved (by rw [hx, List.length_map]; exact hl) hQ
  · rw [List.map_map, show (List.map ((fun (d : PyData) => match d with | .tuple ds => tupI (List.zipWith (fun c s => c + s) ((intsOf ds).getD []) cs) | d => d) ∘ tupI) (cellsL ss)) = ((cellsL ss).map fun r => List.zipWith (fun c s => c + s) r cs).map tupI from by
      rw [List.map_map]
      refine List.map_congr_left fun r _ => ?_
      show tupI (List.zipWith _ ((intsOf (r.map .int)).getD []) cs) = _
      rw [intsOf_map]; rfl]
    exact h
theorem f_law_volume {ss : List Int} (hw : ∀ k, CMulW (ss.take k).prod (ss.getD k 1)) {P : PyData → Prop} {X : Xc → Prop} (h : P (.int ss.prod)) : m__law_volume [tupI ss] P X := by
  refine ⟨rfl, ?_⟩
  simp only [b__law_volume, sSeq, sNx, sAsg, sDrop, sRet, sRetN, sIf, sPar, sForK, sNew, sFz, frzM, oApp, oExt, oSet, oIx, oLen, mVar, mC, mOp, mUn, mNot, mAnd, mOr, mIf, mTup, mLst, mCB, mCall, mCallW, mChain, mSl, mFr, mLc, mCl, mEl, mIsi, mRev, mKw, aCons, aNil, oNone, oSome, tT, tNo, tAn, tOo, tOk, gNm, gTp, gs1, gs0, eoLst, eoList, iSq, iR1, iR2, iR3, iZ2, iZ3, iEn, lk, MI.envOf, List.map_cons, List.map_nil, List.cons_append, List.nil_append, List.replicate_succ, List.replicate_zero, List.set_cons_zero, List.set_cons_succ, List.length_cons, List.length_nil, oAdd, oSub, oI, oIc, oMul, oMod, oFdiv, oPow, oNeg, oEq_s, oEq_i, oEq_b, oEq_t, oEq_l, oNe_s, oNe_i, oNe_b, oNe_t, oNe_l, oIs, oIsNot, oLt, oLe, oGt, oGe, oIt, oSl, oLn, oTuple, oList, oInt, oBool, oStr, oAbs, oMax2, oMin2, tupI]
  refine forK_inv (fun k r => r = [none, some (.dat (.int (ss.take k).prod)), none]) rfl (fun k d r' hk hJ nx hn => ?_) fun r' hJ => ?_
  · subst hJ
    rw [List.getElem?_map] at hk
    obtain ⟨s, hs, rfl⟩ := Option.map_eq_some_iff.mp hk
    simp only [sSeq, sNx, sAsg, sDrop, sRet, sRetN, sIf, sPar, sForK, sNew, sFz, frzM, oApp, oExt, oSet, oIx, oLen, mVar, mC, mOp, mUn, mNot, mAnd, mOr, mIf, mTup, mLst, mCB, mCall, mCallW, mChain, mSl, mFr, mLc, mCl, mEl, mIsi, mRev, mKw, aCons, aNil, oNone, oSome, tT, tNo, tAn, tOo, tOk, gNm, gTp, gs1, gs0, eoLst, eoList, iSq, iR1, iR2, iR3, iZ2, iZ3, iEn, lk, MI.envOf, List.map_cons, List.map_nil, List.cons_append, List.nil_append, List.replicate_succ, List.replicate_zero, List.set_cons_zero, List.set_cons_succ, List.length_cons, List.length_nil, oAdd, oSub, oI, oIc, oMul, oMod, oFdiv, oPow, oNeg, oEq_s, oEq_i, oEq_b, oEq_t, oEq_l, oNe_s, oNe_i, oNe_b, oNe_t, oNe_l, oIs, oIsNot, oLt, oLe, oGt, oGe, oIt, oSl, oLn, oTuple, oList, oInt, oBool, oStr, oAbs, oMax2, oMin2]
    have h1 := hw k
    rw [getD_of hs] at h1
    refine ⟨h1, hn _ ?_⟩
    rw [List.take_add_one, hs, List.prod_append]
    simp [keepM]
  · subst hJ
    rw [List.length_map, List.take_length]
    exact h
end K30
set_option Elab.async false
set_option linter.all false
set_option maxRecDepth 100000
namespace K30
open PySem PySem.Spec PyProof.Rows L2 Evl TB DL MI GE
theorem f_law_is_placed {kss : List (List Int)} {ns : List Int} (hk0 : 1 ≤ kss.length) (hs : ∀ ss ∈ kss, ss.length = ns.length) (hl : ns.length ≤ 100) (e : PyData) {P : PyData → Prop} {X : Xc → Prop} (h : P (.bool (liesB kss ns e))) : m__law_is_placed [.tuple (kss.map tupI), tupI ns, e] P X := by
  refine ⟨rfl, ?_⟩
  have nt : (∀ es, e ≠ .tuple es) → isA "tuple" e = false := fun h => by cases e <;> first | rfl | exact absurd rfl (h _)
  by_cases ht : ∃ es, e = .tuple es
  · obtain ⟨es, rfl⟩ := ht
    simp only [b__law_is_placed, sSeq, sNx, sAsg, sDrop, sRet, sRetN, sIf, sPar, sForK, sNew, sFz, frzM, oApp, oExt, oSet, oIx, oLen, mVar, mC, mOp, mUn, mNot, mAnd, mOr, mIf, mTup, mLst, mCB, mCall, mCallW, mChain, mSl, mFr, mLc, mCl, mEl, mIsi, mRev, mKw, aCons, aNil, oNone, oSome, tT, tNo, tAn, tOo, tOk, gNm, gTp, gs1, gs0, eoLst, eoList, iSq, iR1, iR2, iR3, iZ2, iZ3, iEn, lk, MI.envOf, List.map_cons, List.map_nil, List.cons_append, List.nil_append, List.replicate_succ, List.replicate_zero, List.set_cons_zero, List.set_cons_succ, List.length_cons, List.length_nil, oAdd, oSub, oI, oIc, oMul, oMod, oFdiv, oPow, oNeg, oEq_s, oEq_i, oEq_b, oEq_t, oEq_l, oNe_s, oNe_i, oNe_b, oNe_t, oNe_l, oIs, oIsNot, oLt, oLe, oGt, oGe, oIt, oSl, oLn, oTuple, oList, oInt, oBool, oStr, oAbs, oMax2, oMin2, List.length_map, tupI, show isA "tuple" (.tuple es) = true from rfl, Bool.not_true]
    refine ⟨⟨rfl, rfl⟩, ?_⟩
    rw [show PyData.eqv (.int (es.length : Int)) (.int 2) = decide (es.length = 2) from eqv_nat _ 2]
    by_cases h2 : es.length = 2
    · match es, h2 with
      | [a, b], _ =>
        have hi0 : atI [a, b] 0 = some a := rfl
        have hi1 : atI [a, b] 1 = some b := rfl
        simp only [List.length_cons, List.length_nil, decide_true, Bool.not_true, hi0, hi1]
        refine f_law_whole ?_
        by_cases ha : ∃ i : Int, a = .int i ∧ 0 ≤ i ∧ i ≤ (kss.length : Int) - 1
        · obtain ⟨i, rfl, hi, hi'⟩ := ha
          simp only [whB, decide_eq_true hi, decide_eq_true hi', Bool.and_true, Bool.not_true]
          by_cases hb : ∃ cs, b = .tuple cs
          · obtain ⟨cs, rfl⟩ := hb
            simp only [show isA "tuple" (.tuple cs) = true from rfl, Bool.not_true]
            refine ⟨⟨rfl, rfl⟩, ?_⟩
            rw [eqv_nat]
            by_cases hc : cs.length = ns.length
            · obtain ⟨j, rfl⟩ := Int.eq_ofNat_of_zero_le hi
              have hj : j < kss.length := by omega
              have hss := List.getElem?_eq_getElem hj
              have ea : atI (List.map tupI kss) (j : Int) = some (tupI kss[j]) := atI_nat (by rw [List.getElem?_map, hss]; rfl)
              have hl2 := hs _ (List.getElem_mem hj)
              generalize kss[j] = ss at hss ea hl2
              rw [decide_eq_true hc]
              simp only [Bool.not_true, ea, hi0, hi1, tupI]
              have hlb : liesB kss ns (.tuple [.int (j : Int), .tuple cs]) = okC cs ss ns := by
                rw [liesB, decide_eq_true hi, decide_eq_true (show (j : Int) < kss.length by omega), decide_eq_true hc, Int.toNat_natCast, getD_of hss]; rfl
              rw [hlb] at h
              refine ⟨⟨by omega, by omega⟩, free_of ⟨trivial, trivial⟩, mIt_inv (fun k acc => ∃ l : List Int, acc = l.map .int ∧ l.length ≤ k ∧ (l = [] ↔ ∀ m < k, ∃ c s n x, cs[m]? = some c ∧ ss[m]? = some s ∧ ns[m]? = some n ∧ c = .int x ∧ 0 ≤ x ∧ x ≤ n - s)) ⟨[], rfl, Nat.le_refl _, ⟨fun _ m hm => by omega, fun _ => rfl⟩⟩ (fun k d acc hk hJ nx hn => ?_) fun acc hJ => ?_⟩
              · obtain ⟨l, rfl, hll, hJ⟩ := hJ
                rw [List.getElem?_map] at hk
                obtain ⟨k', hk2, rfl⟩ := Option.map_eq_some_iff.mp hk
                obtain ⟨kl, hk3⟩ := List.getElem?_eq_some_iff.mp hk2
                rw [List.getElem_range] at hk3
                subst hk3
                rw [List.length_range, Int.toNat_natCast] at kl
                obtain ⟨c, hc1⟩ : ∃ c, cs[k]? = some c := ⟨_, List.getElem?_eq_getElem (by omega)⟩
                obtain ⟨s, hs1⟩ : ∃ s, ss[k]? = some s := ⟨_, List.getElem?_eq_getElem (by omega)⟩
                obtain ⟨n, hn1⟩ : ∃ n, ns[k]? = some n := ⟨_, List.getElem?_eq_getElem kl⟩
                have a1 : atI cs (k : Int) = some c := atI_nat hc1
                have a2 : atI (ns.map PyData.int) (k : Int) = some (.int n) := atI_nat (by rw [List.getElem?_map, hn1]; rfl)
                have a3 : atI (ss.map PyData.int) (k : Int) = some (.int s) := atI_nat (by rw [List.getElem?_map, hs1]; rfl)
                simp only [wipeM, sSeq, sNx, sAsg, sDrop, sRet, sRetN, sIf, sPar, sForK, sNew, sFz, frzM, oApp, oExt, oSet, oIx, oLen, mVar, mC, mOp, mUn, mNot, mAnd, mOr, mIf, mTup, mLst, mCB, mCall, mCallW, mChain, mSl, mFr, mLc, mCl, mEl, mIsi, mRev, mKw, aCons, aNil, oNone, oSome, tT, tNo, tAn, tOo, tOk, gNm, gTp, gs1, gs0, eoLst, eoList, iSq, iR1, iR2, iR3, iZ2, iZ3, iEn, lk, MI.envOf, List.map_cons, List.map_nil, List.cons_append, List.nil_append, List.replicate_succ, List.replicate_zero, List.set_cons_zero, List.set_cons_succ, List.length_cons, List.length_nil, oAdd, oSub, oI, oIc, oMul, oMod, oFdiv, oPow, oNeg, oEq_s, oEq_i, oEq_b, oEq_t, oEq_l, oNe_s, oNe_i, oNe_b, oNe_t, oNe_l, oIs, oIsNot, oLt, oLe, oGt, oGe, oIt, oSl, oLn, oTuple, oList, oInt, oBool, oStr, oAbs, oMax2, oMin2, hi1, a1, a2, a3]
                refine f_law_whole ?_
                by_cases hg : ∃ x, c = .int x ∧ 0 ≤ x ∧ x ≤ n - s
                · obtain ⟨x, rfl, g1, g2⟩ := hg
                  simp only [whB, decide_eq_true g1, decide_eq_true g2, Bool.and_true, Bool.not_true]
                  refine hn _ ⟨l, rfl, by omega, hJ.trans ⟨fun h m hm => ?_, fun h m hm => h m (by omega)⟩⟩
                  by_cases hmk : m = k
                  · subst hmk; exact ⟨_, s, n, x, hc1, hs1, hn1, rfl, g1, g2⟩
                  · exact h m (by omega)
                · have e0 : whB 0 (n - s) c = false := by
                    cases c with
                    | int x =>
                      show (decide (0 ≤ x) && decide (x ≤ n - s)) = false
                      rw [← Bool.decide_and]
                      exact decide_eq_false fun q => hg ⟨x, rfl, q⟩
                    | _ => rfl
                  simp only [e0, Bool.not_false]
                  refine ⟨by rw [List.length_map]; omega, hn _ ⟨l ++ [1], by rw [List.map_append]; rfl, by rw [List.length_append]; simp; omega, ⟨fun h => by simp at h, fun h => ?_⟩⟩⟩
                  obtain ⟨c', s', n', x, q1, q2, q3, q4, q5⟩ := h k (by omega)
                  rw [hc1] at q1; cases q1
                  rw [hs1] at q2; cases q2
                  rw [hn1] at q3; cases q3
                  exact (hg ⟨x, q4, q5⟩).elim
              · obtain ⟨l, rfl, _, hJ⟩ := hJ
                rw [List.length_map, List.length_range, Int.toNat_natCast] at hJ
                have eo : okC cs ss ns = l.isEmpty := by
                  cases l with
                  | nil =>
                    exact okC_split _ _ _ fun k c s n h1 h2 h3 => by
                      obtain ⟨c', s', n', x, q1, q2, q3, q4⟩ := hJ.mp rfl k (List.getElem?_eq_some_iff.mp h3).1
                      rw [h1] at q1; cases q1
                      rw [h2] at q2; cases q2
                      rw [h3] at q3; cases q3
                      exact ⟨x, q4⟩
                  | cons a l =>
                    cases ho : okC cs ss ns with
                    | false => rfl
                    | true =>
                      have := hJ.mpr fun m hm => by
                        obtain ⟨c, hc1⟩ : ∃ c, cs[m]? = some c := ⟨_, List.getElem?_eq_getElem (by omega)⟩
                        obtain ⟨s, hs1⟩ : ∃ s, ss[m]? = some s := ⟨_, List.getElem?_eq_getElem (by omega)⟩
                        obtain ⟨n, hn1⟩ : ∃ n, ns[m]? = some n := ⟨_, List.getElem?_eq_getElem hm⟩
                        obtain ⟨x, q⟩ := okC_of _ _ _ ho m c s n hc1 hs1 hn1
                        exact ⟨c, s, n, x, hc1, hs1, hn1, q⟩
                      cases this
                rw [eo] at h
                exact ⟨by decide, ⟨shaped_ints l, shaped_ints []⟩, by rw [eqv_nil]; exact h⟩
            · rw [decide_eq_false hc]
              have : liesB kss ns (.tuple [.int i, .tuple cs]) = false := by
                rw [liesB, decide_eq_false hc]; simp
              rw [this] at h
              exact h
          · have hbt : isA "tuple" b = false := by cases b <;> first | rfl | exact absurd ⟨_, rfl⟩ hb
            have : liesB kss ns (.tuple [.int i, b]) = false := by
              unfold liesB
              split
              · rename_i hq; cases hq; exact absurd ⟨_, rfl⟩ hb
              · rfl
            rw [this] at h
            simp only [hbt, Bool.not_false]
            exact h
        · have e0 : whB 0 ((kss.length : Int) - 1) a = false := by
            cases a with
            | int i =>
              show (decide (0 ≤ i) && decide (i ≤ (kss.length : Int) - 1)) = false
              rw [← Bool.decide_and]
              exact decide_eq_false fun q => ha ⟨i, rfl, q⟩
            | _ => rfl
          have : liesB kss ns (.tuple [a, b]) = false := by
            unfold liesB
            split
            · rename_i i _ hq; cases hq
              rw [show (decide (0 ≤ i) && decide (i < (kss.length : Int))) = false by
                rw [← Bool.decide_and]; exact decide_eq_false fun q => ha ⟨i, rfl, q.1, by omega⟩]
              rfl
            · rfl
          rw [this] at h
          simp only [e0, Bool.not_false]
          exact h
    · rw [decide_eq_false h2]
      have : liesB kss ns (.tuple es) = false := by
        unfold liesB
        split
        · rename_i h; cases h; exact absurd rfl h2
        · rfl
      rw [this] at h
      exact h
  · have hn := nt fun es he => ht ⟨es, he⟩
    have : liesB kss ns e = false := by
      unfold liesB
      split
      · exact absurd ⟨_, rfl⟩ ht
      · rfl
    rw [this] at h
    simp only [b__law_is_placed, sSeq, sNx, sAsg, sDrop, sRet, sRetN, sIf, sPar, sForK, sNew, sFz, frzM, oApp, oExt, oSet, oIx, oLen, mVar, mC, mOp, mUn, mNot, mAnd, mOr, mIf, mTup, mLst, mCB, mCall, mCallW, mChain, mSl, mFr, mLc, mCl, mEl, mIsi, mRev, mKw, aCons, aNil, oNone, oSome, tT, tNo, tAn, tOo, tOk, gNm, gTp, gs1, gs0, eoLst, eoList, iSq, iR1, iR2, iR3, iZ2, iZ3, iEn, lk, MI.envOf, List.map_cons, List.map_nil, List.cons_append, List.nil_append, List.replicate_succ, List.replicate_zero, List.set_cons_zero, List.set_cons_succ, List.length_cons, List.length_nil, oAdd, oSub, oI, oIc, oMul, oMod, oFdiv, oPow, oNeg, oEq_s, oEq_i, oEq_b, oEq_t, oEq_l, oNe_s, oNe_i, oNe_b, oNe_t, oNe_l, oIs, oIsNot, oLt, oLe, oGt, oGe, oIt, oSl, oLn, oTuple, oList, oInt, oBool, oStr, oAbs, oMax2, oMin2, hn, Bool.not_false]
    exact h
theorem placesL_snoc (ns ss : List Int) : ∀ (k : Nat) (l : List (List Int)), placesL k (l ++ [ss]) ns = placesL k l ns ++ (cellsL (freeB ss ns)).map fun c => .tuple [.int ((k + l.length : Nat) : Int), tupI c]
  | k, [] => by simp [placesL]
  | k, s :: l => by
    rw [List.cons_append, placesL, placesL_snoc ns ss (k + 1) l, placesL, List.append_assoc, List.length_cons, show k + 1 + l.length = k + (l.length + 1) by omega]
theorem placesL_le {ns : List Int} {B : Nat} : ∀ (k : Nat) (l : List (List Int)), (∀ ss ∈ l, (cellsL (freeB ss ns)).length ≤ B) → (placesL k l ns).length ≤ l.length * B
  | _, [], _ => by simp [placesL]
  | k, s :: l, h => by
    rw [placesL, List.length_append, List.length_map, List.length_cons, Nat.succ_mul, Nat.add_comm]
    exact Nat.add_le_add (placesL_le (k + 1) l fun t ht => h t (List.mem_cons_of_mem _ ht)) (h s List.mem_cons_self)
theorem f_law_places {kss : List (List Int)} {ns : List Int} (hs : ∀ ss ∈ kss, ss.length = ns.length ∧ okG 1000 ((freeB ss ns).map fun n => (0, n)) 1) (hk : kss.length ≤ 10) (hl : 1 ≤ ns.length ∧ ns.length ≤ 100) {P : PyData → Prop} {X : Xc → Prop}
    (h : P (.list (placesL 0 kss ns))) : m__law_places [.tuple (kss.map tupI), tupI ns] P X := by
  refine ⟨rfl, ?_⟩
  simp only [b__law_places, sSeq, sNx, sAsg, sDrop, sRet, sRetN, sIf, sPar, sForK, sNew, sFz, frzM, oApp, oExt, oSet, oIx, oLen, mVar, mC, mOp, mUn, mNot, mAnd, mOr, mIf, mTup, mLst, mCB, mCall, mCallW, mChain, mSl, mFr, mLc, mCl, mEl, mIsi, mRev, mKw, aCons, aNil, oNone, oSome, tT, tNo, tAn, tOo, tOk, gNm, gTp, gs1, gs0, eoLst, eoList, iSq, iR1, iR2, iR3, iZ2, iZ3, iEn, lk, MI.envOf, List.map_cons, List.map_nil, List.cons_append, List.nil_append, List.replicate_succ, List.replicate_zero, List.set_cons_zero, List.set_cons_succ, List.length_cons, List.length_nil, oAdd, oSub, oI, oIc, oMul, oMod, oFdiv, oPow, oNeg, oEq_s, oEq_i, oEq_b, oEq_t, oEq_l, oNe_s, oNe_i, oNe_b, oNe_t, oNe_l, oIs, oIsNot, oLt, oLe, oGt, oGe, oIt, oSl, oLn, oTuple, oList, oInt, oBool, oStr, oAbs, oMax2, oMin2, List.length_map, tupI, seqOf]
  refine ⟨by decide, by decide, ⟨by omega, by omega⟩, forK_inv (fun k r => r = [some (.dat (.tuple (kss.map tupI))), some (.dat (tupI ns)), some (.own (placesL 0 (kss.take k) ns)), none, none, none, none, none]) ?_ (fun k d r' hk hJ nx hn => ?_) fun r' hJ => ?_⟩
  · rw [List.take_zero]; rfl
  · subst hJ
    rw [List.getElem?_map] at hk
    obtain ⟨k', hk2, rfl⟩ := Option.map_eq_some_iff.mp hk
    obtain ⟨kl, hk3⟩ := List.getElem?_eq_some_iff.mp hk2
    rw [List.getElem_range] at hk3
    subst hk3
    rw [List.length_range, Int.toNat_natCast] at kl
    obtain ⟨ss, hss⟩ : ∃ ss, kss[k]? = some ss := ⟨_, List.getElem?_eq_getElem kl⟩
    have ea : atI (List.map tupI kss) (k : Int) = some (tupI ss) := atI_nat (by rw [List.getElem?_map, hss]; rfl)
    obtain ⟨h1, h2⟩ := hs ss (List.mem_of_getElem? hss)
    have eK : placesL 0 (kss.take (k + 1)) ns = placesL 0 (kss.take k) ns ++ (cellsL (freeB ss ns)).map fun c => .tuple [.int (k : Int), tupI c] := by
      rw [List.take_add_one, hss, Option.toList_some, placesL_snoc, List.length_take, Nat.min_eq_left (by omega), Nat.zero_add]
    rw [eK] at hn
    have hl2 := zip2_len (xs := ns.map PyData.int) (ys := ss.map PyData.int)
    rw [List.length_map] at hl2
    have hfl : (freeB ss ns).length = ns.length := by unfold freeB; rw [List.length_zipWith, h1, Nat.min_self]
    simp only [sSeq, sNx, sAsg, sDrop, sRet, sRetN, sIf, sPar, sForK, sNew, sFz, frzM, oApp, oExt, oSet, oIx, oLen, mVar, mC, mOp, mUn, mNot, mAnd, mOr, mIf, mTup, mLst, mCB, mCall, mCallW, mChain, mSl, mFr, mLc, mCl, mEl, mIsi, mRev, mKw, aCons, aNil, oNone, oSome, tT, tNo, tAn, tOo, tOk, gNm, gTp, gs1, gs0, eoLst, eoList, iSq, iR1, iR2, iR3, iZ2, iZ3, iEn, lk, MI.envOf, List.map_cons, List.map_nil, List.cons_append, List.nil_append, List.replicate_succ, List.replicate_zero, List.set_cons_zero, List.set_cons_succ, List.length_cons, List.length_nil, oAdd, oSub, oI, oIc, oMul, oMod, oFdiv, oPow, oNeg, oEq_s, oEq_i, oEq_b, oEq_t, oEq_l, oNe_s, oNe_i, oNe_b, oNe_t, oNe_l, oIs, oIsNot, oLt, oLe, oGt, oGe, oIt, oSl, oLn, oTuple, oList, oInt, oBool, oStr, oAbs, oMax2, oMin2, ea, tupI, seqOf]
    refine ⟨free_of ⟨trivial, trivial, trivial⟩, mIt_map (fn2 fun n s => n - s + 1) (by omega) (fun d hd Q hQ => ?_) ?_⟩
    · obtain ⟨x, y, rfl⟩ := zip2_mem hd
      simp only [wipeM, sSeq, sNx, sAsg, sDrop, sRet, sRetN, sIf, sPar, sForK, sNew, sFz, frzM, oApp, oExt, oSet, oIx, oLen, mVar, mC, mOp, mUn, mNot, mAnd, mOr, mIf, mTup, mLst, mCB, mCall, mCallW, mChain, mSl, mFr, mLc, mCl, mEl, mIsi, mRev, mKw, aCons, aNil, oNone, oSome, tT, tNo, tAn, tOo, tOk, gNm, gTp, gs1, gs0, eoLst, eoList, iSq, iR1, iR2, iR3, iZ2, iZ3, iEn, lk, MI.envOf, List.map_cons, List.map_nil, List.cons_append, List.nil_append, List.replicate_succ, List.replicate_zero, List.set_cons_zero, List.set_cons_succ, List.length_cons, List.length_nil, oAdd, oSub, oI, oIc, oMul, oMod, oFdiv, oPow, oNeg, oEq_s, oEq_i, oEq_b, oEq_t, oEq_l, oNe_s, oNe_i, oNe_b, oNe_t, oNe_l, oIs, oIsNot, oLt, oLe, oGt, oGe, oIt, oSl, oLn, oTuple, oList, oInt, oBool, oStr, oAbs, oMax2, oMin2]
      exact ⟨trivial, hQ⟩
    · rw [zip2_ints (fun n s => n - s + 1) _ fun _ _ => rfl, List.zipWith_comm, show List.zipWith (fun b a => a - b + 1) ss ns = freeB ss ns from rfl]
      simp only [oMin1, intsOf_map]
      have hne : freeB ss ns ≠ [] := fun h => by rw [h] at hfl; simp at hfl; omega
      refine ⟨hne, ?_⟩
      obtain ⟨m1, m2⟩ := minI_spec hne
      have hB : (cellsL (freeB ss ns)).length ≤ 1000 := okG_last (rows := [[]]) h2
      by_cases hm : 0 < minI (freeB ss ns)
      · simp only [decide_eq_true hm, sSeq, sNx, sAsg, sDrop, sRet, sRetN, sIf, sPar, sForK, sNew, sFz, frzM, oApp, oExt, oSet, oIx, oLen, mVar, mC, mOp, mUn, mNot, mAnd, mOr, mIf, mTup, mLst, mCB, mCall, mCallW, mChain, mSl, mFr, mLc, mCl, mEl, mIsi, mRev, mKw, aCons, aNil, oNone, oSome, tT, tNo, tAn, tOo, tOk, gNm, gTp, gs1, gs0, eoLst, eoList, iSq, iR1, iR2, iR3, iZ2, iZ3, iEn, lk, MI.envOf, List.map_cons, List.map_nil, List.cons_append, List.nil_append, List.replicate_succ, List.replicate_zero, List.set_cons_zero, List.set_cons_succ, List.length_cons, List.length_nil, oAdd, oSub, oI, oIc, oMul, oMod, oFdiv, oPow, oNeg, oEq_s, oEq_i, oEq_b, oEq_t, oEq_l, oNe_s, oNe_i, oNe_b, oNe_t, oNe_l, oIs, oIsNot, oLt, oLe, oGt, oGe, oIt, oSl, oLn, oTuple, oList, oInt, oBool, oStr, oAbs, oMax2, oMin2]
        refine f_law_cells rfl h2 (by omega) ⟨free_of ⟨trivial, trivial⟩, mIt_map (fun c => .tuple [.int (k : Int), c]) (by rw [List.length_map]; omega) (fun c hc Q hQ => ?_) ?_⟩
        · simp only [wipeM, sSeq, sNx, sAsg, sDrop, sRet, sRetN, sIf, sPar, sForK, sNew, sFz, frzM, oApp, oExt, oSet, oIx, oLen, mVar, mC, mOp, mUn, mNot, mAnd, mOr, mIf, mTup, mLst, mCB, mCall, mCallW, mChain, mSl, mFr, mLc, mCl, mEl, mIsi, mRev, mKw, aCons, aNil, oNone, oSome, tT, tNo, tAn, tOo, tOk, gNm, gTp, gs1, gs0, eoLst, eoList, iSq, iR1, iR2, iR3, iZ2, iZ3, iEn, lk, MI.envOf, List.map_cons, List.map_nil, List.cons_append, List.nil_append, List.replicate_succ, List.replicate_zero, List.set_cons_zero, List.set_cons_succ, List.length_cons, List.length_nil, oAdd, oSub, oI, oIc, oMul, oMod, oFdiv, oPow, oNeg, oEq_s, oEq_i, oEq_b, oEq_t, oEq_l, oNe_s, oNe_i, oNe_b, oNe_t, oNe_l, oIs, oIsNot, oLt, oLe, oGt, oGe, oIt, oSl, oLn, oTuple, oList, oInt, oBool, oStr, oAbs, oMax2, oMin2]
          exact ⟨by decide, hQ⟩
        · rw [List.map_map]
          refine ⟨?_, hn _ rfl⟩
          have hp := placesL_le (ns := ns) (B := 1000) 0 (kss.take k) fun s hs' => okG_last (rows := [[]]) (hs s (List.mem_of_mem_take hs')).2
          rw [List.length_take] at hp
          rw [List.length_map]
          have : min k kss.length * 1000 ≤ 10 * 1000 := Nat.mul_le_mul_right _ (by omega)
          omega
      · simp only [decide_eq_false hm, sSeq, sNx, sAsg, sDrop, sRet, sRetN, sIf, sPar, sForK, sNew, sFz, frzM, oApp, oExt, oSet, oIx, oLen, mVar, mC, mOp, mUn, mNot, mAnd, mOr, mIf, mTup, mLst, mCB, mCall, mCallW, mChain, mSl, mFr, mLc, mCl, mEl, mIsi, mRev, mKw, aCons, aNil, oNone, oSome, tT, tNo, tAn, tOo, tOk, gNm, gTp, gs1, gs0, eoLst, eoList, iSq, iR1, iR2, iR3, iZ2, iZ3, iEn, lk, MI.envOf, List.map_cons, List.map_nil, List.cons_append, List.nil_append, List.replicate_succ, List.replicate_zero, List.set_cons_zero, List.set_cons_succ, List.length_cons, List.length_nil, oAdd, oSub, oI, oIc, oMul, oMod, oFdiv, oPow, oNeg, oEq_s, oEq_i, oEq_b, oEq_t, oEq_l, oNe_s, oNe_i, oNe_b, oNe_t, oNe_l, oIs, oIsNot, oLt, oLe, oGt, oGe, oIt, oSl, oLn, oTuple, oList, oInt, oBool, oStr, oAbs, oMax2, oMin2]
        have e0 : cellsL (freeB ss ns) = [] := gridF_none ⟨(0, minI (freeB ss ns)), List.mem_map.mpr ⟨_, m1, rfl⟩, by show minI _ ≤ (0 : Int); omega⟩
        rw [e0, List.map_nil, List.append_nil] at hn
        exact hn _ rfl
  · subst hJ
    rw [List.length_map, List.length_range, Int.toNat_natCast, List.take_length]
    exact h
end K30
set_option Elab.async false
set_option linter.all false
set_option maxRecDepth 100000
namespace K30
open PySem PySem.Spec PyProof.Rows L2 Evl TB DL MI GE
def oddL : List PyData := [.none, .bool true, .bool false, .int 0, .int 1, .int 2, .int (-1), .int (10 ^ 30), .str "", .str "a", .str "0", .str "2x3", .tuple [], .list [], .dict [], .tuple [.int 0], .tuple [.int 1], .tuple [.int 0, .int 0], .tuple [.int 1, .int 1],
  .tuple [.bool true], .tuple [.int 0, .tuple [.int 0]], .tuple [.int 0, .tuple [.int 0, .int 0]], .tuple [.int 1, .tuple [.int 0, .int 0]], .tuple [.int 0, .tuple [.int 0, .int 0], .int 1], .tuple [.tuple [.int 0, .int 0], .int 1], .tuple [.tuple [.int 0], .int 1], .tuple [.str "step", .int 0],
  .tuple [.none], .tuple [.int (-1)], .tuple [.int 0, .tuple [.int (-1)]], .tuple [.int 0, .tuple [.bool true, .int 0]], .tuple [.int 2, .int 1], .tuple [.tuple [.int 2, .int 1], .tuple [.int 1, .int 2]], .tuple [.tuple [.int 2], .tuple [.int 3]]]
theorem odd_good : oddL.all (goodB 100 3) = true := by decide +kernel
theorem f_odd {P : PyData → Prop} {X : Xc → Prop} (h : ∀ e, Gd 100 3 e → P e) : m__law_odd [] P X := by
  refine ⟨rfl, ?_⟩
  simp only [b__law_odd, sSeq, sNx, sAsg, sDrop, sRet, sRetN, sIf, sPar, sForK, sNew, sFz, frzM, oApp, oExt, oSet, oIx, oLen, mVar, mC, mOp, mUn, mNot, mAnd, mOr, mIf, mTup, mLst, mCB, mCall, mCallW, mChain, mSl, mFr, mLc, mCl, mEl, mIsi, mRev, mKw, aCons, aNil, oNone, oSome, tT, tNo, tAn, tOo, tOk, gNm, gTp, gs1, gs0, eoLst, eoList, iSq, iR1, iR2, iR3, iZ2, iZ3, iEn, lk, MI.envOf, List.map_cons, List.map_nil, List.cons_append, List.nil_append, List.replicate_succ, List.replicate_zero, List.set_cons_zero, List.set_cons_succ, List.length_cons, List.length_nil, oAdd, oSub, oI, oIc, oMul, oMod, oFdiv, oPow, oNeg, oEq_s, oEq_i, oEq_b, oEq_t, oEq_l, oNe_s, oNe_i, oNe_b, oNe_t, oNe_l, oIs, oIsNot, oLt, oLe, oGt, oGe, oIt, oSl, oLn, oTuple, oList, oInt, oBool, oStr, oAbs, oMax2, oMin2]
  refine ⟨⟨by decide, by decide, by decide⟩, ?_⟩
  repeat (refine ⟨by decide, ?_⟩)
  exact fun e he => h e (gd_of odd_good he)
theorem f_bent1 {fuel m n : Nat} (hrec : ∀ m', m = m' + 1 → ∀ {n : Nat} {v : PyData}, n ≤ 10 → ms v ≤ 90000 → Pn n v → ∀ {P : PyData → Prop} {X : Xc → Prop}, (∀ e, Gd (2 * ms v + 700) (n + 5) e → P e) → m__law_bent fuel [v, .int m'] P X)
    {v : PyData} (hn : n ≤ 10) (hs : ms v ≤ 90000) (hv : Pn n v) {P : PyData → Prop} {X : Xc → Prop} (h : ∀ e, Gd (2 * ms v + 700) (n + 5) e → P e) : m__law_bent (fuel + 1) [v, .int m] P X := by
  refine ⟨rfl, ?_⟩
  have vc : (∃ i : Int, v = .int i ∧ 0 ≤ i ∧ i ≤ 1000000000000) ∨ ∃ n0 ds, n = n0 + 1 ∧ v = .tuple ds ∧ ∀ x ∈ ds, Pn n0 x := by
    cases n with
    | zero => exact .inl hv
    | succ n => exact hv.imp id fun ⟨ds, h1, h2⟩ => ⟨n, ds, rfl, h1, h2⟩
  rcases vc with ⟨i, rfl, i0, i1⟩ | ⟨n0, ds, rfl, rfl, hds⟩
  · simp only [b__law_bent, sSeq, sNx, sAsg, sDrop, sRet, sRetN, sIf, sPar, sForK, sNew, sFz, frzM, oApp, oExt, oSet, oIx, oLen, mVar, mC, mOp, mUn, mNot, mAnd, mOr, mIf, mTup, mLst, mCB, mCall, mCallW, mChain, mSl, mFr, mLc, mCl, mEl, mIsi, mRev, mKw, aCons, aNil, oNone, oSome, tT, tNo, tAn, tOo, tOk, gNm, gTp, gs1, gs0, eoLst, eoList, iSq, iR1, iR2, iR3, iZ2, iZ3, iEn, lk, MI.envOf, List.map_cons, List.map_nil, List.cons_append, List.nil_append, List.replicate_succ, List.replicate_zero, List.set_cons_zero, List.set_cons_succ, List.length_cons, List.length_nil, oAdd, oSub, oI, oIc, oMul, oMod, oFdiv, oPow, oNeg, oEq_s, oEq_i, oEq_b, oEq_t, oEq_l, oNe_s, oNe_i, oNe_b, oNe_t, oNe_l, oIs, oIsNot, oLt, oLe, oGt, oGe, oIt, oSl, oLn, oTuple, oList, oInt, oBool, oStr, oAbs, oMax2, oMin2, show isA "tuple" (.int i) = false from rfl, show isA "int" (.int i) = true from rfl, Bool.not_false]
    refine ⟨?_, by decide, f_odd fun o1 g1 => f_odd fun o2 g2 => ?_⟩
    · by_cases h0 : i.natAbs = 0
      · rw [h0]; decide
      · exact Nat.lt_of_lt_of_le ((Nat.log2_lt h0).mpr (show i.natAbs < 2 ^ 41 by omega)) (by decide)
    · repeat (refine ⟨by decide, ?_⟩)
      refine f_one (Nat.succ_pos _) (show 6 ≤ 100000 by decide) fun e he => h e ?_
      have em : ms (.int i) = 60 := by rw [ms]
      rw [em]
      have big : (10 : Int) ^ 40 > 2000000000000 := by decide
      simp only [List.mem_cons, List.not_mem_nil, or_false] at he
      rcases he with rfl | rfl | rfl | rfl | rfl | rfl
      · exact (gdI (by omega) (by omega)).mono (by omega) (by omega)
      · exact (gdI (by omega) (by omega)).mono (by omega) (by omega)
      · exact (gdB _).mono (by omega) (by omega)
      · exact (gdN i0 i1).mono (by omega) (by omega)
      · exact g1.mono (by omega) (by omega)
      · exact g2.mono (by omega) (by omega)
  · have em : ms (.tuple ds) = msL ds + 3 := by rw [ms]
    rw [em] at hs h
    have hlen : 2 * ds.length ≤ msL ds := by
      clear hv h hs em hds
      induction ds with
      | nil => exact Nat.zero_le _
      | cons a ds ih => rw [msL, List.length_cons]; omega
    have sh : SeqAt.shaped (.tuple ds) = true := Pn.shaped hv hn
    simp only [b__law_bent, sSeq, sNx, sAsg, sDrop, sRet, sRetN, sIf, sPar, sForK, sNew, sFz, frzM, oApp, oExt, oSet, oIx, oLen, mVar, mC, mOp, mUn, mNot, mAnd, mOr, mIf, mTup, mLst, mCB, mCall, mCallW, mChain, mSl, mFr, mLc, mCl, mEl, mIsi, mRev, mKw, aCons, aNil, oNone, oSome, tT, tNo, tAn, tOo, tOk, gNm, gTp, gs1, gs0, eoLst, eoList, iSq, iR1, iR2, iR3, iZ2, iZ3, iEn, lk, MI.envOf, List.map_cons, List.map_nil, List.cons_append, List.nil_append, List.replicate_succ, List.replicate_zero, List.set_cons_zero, List.set_cons_succ, List.length_cons, List.length_nil, oAdd, oSub, oI, oIc, oMul, oMod, oFdiv, oPow, oNeg, oEq_s, oEq_i, oEq_b, oEq_t, oEq_l, oNe_s, oNe_i, oNe_b, oNe_t, oNe_l, oIs, oIsNot, oLt, oLe, oGt, oGe, oIt, oSl, oLn, oTuple, oList, oInt, oBool, oStr, oAbs, oMax2, oMin2, show isA "tuple" (.tuple ds) = true from rfl, Bool.not_true]
    refine ⟨by decide, ⟨sh, rfl⟩, ?_⟩
    have ne : (!(PyData.tuple ds).eqv (PyData.tuple [])) = true → ds ≠ [] := fun h1 h2 => by rw [h2] at h1; exact absurd h1 (by decide)
    have l1 : (DL.cutD ds (some (-1)) none).length ≤ ds.length := cut_len
    have z1 : msL (DL.cutD ds (some 1) none) ≤ msL ds := cut_ms
    have z2 : msL (DL.cutD ds none (some (-1))) ≤ msL ds := cut_ms
    have z3 : msL (DL.cutD ds (some (-1)) none) ≤ msL ds := cut_ms
    generalize (!(PyData.tuple ds).eqv (PyData.tuple [])) = b at ne ⊢
    cases b
    rotate_left
    cases hm : decide ((0 : Int) < (m : Int))
    rotate_left
    refine f_draw (by decide) (by decide) fun r r0 r1 => ?_
    dsimp only
    cases decide ((0 : Int) < r)
    rotate_left
    · have hm' : 0 < m := by have := of_decide_eq_true hm; omega
      obtain ⟨m', rfl⟩ : ∃ m', m = m' + 1 := ⟨m - 1, by omega⟩
      have h0 := List.length_pos_iff.mpr (ne rfl)
      refine f_draw (by omega) (by omega) fun r r0 r1 => ?_
      obtain ⟨k, rfl⟩ := Int.eq_ofNat_of_zero_le r0
      have hk : k < ds.length := by omega
      have ek : atI ds (k : Int) = some ds[k] := atI_nat (List.getElem?_eq_getElem hk)
      simp only [ek]
      rw [show ((m' + 1 : Nat) : Int) - 1 = (m' : Int) by omega]
      have hm := List.getElem_mem hk
      have hmm := msL_mem hm
      refine hrec m' rfl (n := n0) (by omega) (by omega) (hds _ hm) fun e he => ?_
      rw [show (k : Int) + 1 = ((k + 1 : Nat) : Int) from rfl, cut_to, cut_from]
      refine ⟨by decide, by rw [List.length_take]; omega, by rw [List.length_append, List.length_take, List.length_drop]; simp only [List.length_cons, List.length_nil]; omega, h _ ?_⟩
      have g := gd_midP (xs := ds.take k) (ys := ds.drop (k + 1)) (fun x hx => hds x (List.mem_of_mem_take hx)) (fun x hx => hds x (List.mem_of_mem_drop hx)) he (by omega)
      have sp := msL_split k ds
      rw [List.drop_eq_getElem_cons hk, msL] at sp
      exact g.mono (by omega) (by omega)
    all_goals
      try dsimp only
      refine f_draw (by omega) (by omega) fun r r0 r1 => ?_
      obtain ⟨k, rfl⟩ := Int.eq_ofNat_of_zero_le r0
      dsimp only
      rw [show (k : Int) + 1 = ((k + 1 : Nat) : Int) from rfl, cut_to, cut_from, cut_from]
      have sp := msL_split k ds
      have sp1 : msL (ds.drop (k + 1)) ≤ msL (ds.drop k) := by
        rw [← List.drop_drop]
        have := msL_split 1 (ds.drop k)
        omega
      refine f_odd fun o1 g1 => ⟨by omega, by decide, by rw [List.length_take, List.length_drop]; omega, f_odd fun o2 g2 => ?_⟩
      refine ⟨by decide, by rw [List.length_take]; omega, by rw [List.length_append, List.length_take, List.length_drop]; simp only [List.length_cons, List.length_nil]; omega, by decide, by decide, ?_⟩
      refine f_one (Nat.succ_pos _) (show 8 ≤ 100000 by decide) fun e he => h e ?_
      simp only [List.mem_cons, List.not_mem_nil, or_false] at he
      rcases he with rfl | rfl | rfl | rfl | rfl | rfl | rfl | rfl
      · exact g1.mono (by omega) (by omega)
      · exact (gd_tupP fun x hx => hds x (cut_mem hx)).mono (by omega) (by omega)
      · exact (gd_tupP fun x hx => hds x (cut_mem hx)).mono (by omega) (by omega)
      · exact (gd_tupP fun x hx => hds x (List.mem_reverse.mp hx)).mono (by rw [msL_rev]; omega) (by omega)
      · exact (gd_lstP hds).mono (by omega) (by omega)
      · exact (gd_tupP fun x hx => (List.mem_append.mp hx).elim (hds x) fun h => hds x (cut_mem h)).mono (by rw [msL_app]; omega) (by omega)
      · exact (gd_tupP fun x hx => (List.mem_append.mp hx).elim (fun h => hds x (List.mem_of_mem_take h)) fun h => hds x (List.mem_of_mem_drop h)).mono (by rw [msL_app]; omega) (by omega)
      · exact (gd_midP (k := n0 + 5) (fun x hx => hds x (List.mem_of_mem_take hx)) (fun x hx => hds x (List.mem_of_mem_drop hx)) (g2.mono (Nat.le_refl _) (by omega)) (by omega)).mono (by omega) (by omega)
theorem f_bent : ∀ (m fuel : Nat), m + 1 ≤ fuel → ∀ {n : Nat} {v : PyData}, n ≤ 10 → ms v ≤ 90000 → Pn n v → ∀ {P : PyData → Prop} {X : Xc → Prop}, (∀ e, Gd (2 * ms v + 700) (n + 5) e → P e) → m__law_bent fuel [v, .int m] P X
  | 0, fuel + 1, _, _, _, hn, hs, hv, _, _, h => f_bent1 (fun m' hm => by omega) hn hs hv h
  | m + 1, fuel + 1, hf, _, _, hn, hs, hv, _, _, h => f_bent1 (fun m' hm => by
      obtain rfl : m = m' := by omega
      exact f_bent m fuel (by omega)) hn hs hv h
end K30
set_option Elab.async false
set_option linter.all false
set_option maxRecDepth 100000
namespace K30
open PySem PySem.Spec PyProof.Rows L2 Evl TB DL MI GE
/-- sides: so many numbers from 1 to the most -/
def SidesL (n : Nat) (m : Int) (ss : List Int) : Prop := ss.length = n ∧ ∀ s ∈ ss, 1 ≤ s ∧ s ≤ m
theorem rel_ints {R : Int → Prop} {items ys : List PyData} (h : Rel2 (fun _ y => ∃ i : Int, y = .int i ∧ R i) items ys) : ∃ ss : List Int, ys = ss.map .int ∧ ss.length = items.length ∧ ∀ s ∈ ss, R s := by
  obtain ⟨hl, hr⟩ := h
  obtain ⟨ss, rfl, hs⟩ := ints_of (R := R) (ds := ys) fun d hd => by
    obtain ⟨k, hk⟩ := List.getElem?_of_mem hd
    have kl := (List.getElem?_eq_some_iff.mp hk).1
    exact hr k _ _ (List.getElem?_eq_getElem (by omega)) hk
  exact ⟨ss, rfl, by rw [← hl, List.length_map], hs⟩
theorem f_law_sides {n : Nat} {m : Int} (hn : n ≤ 10) (m0 : 0 < m) (m1 : m ≤ 1000000000000) {P : PyData → Prop} {X : Xc → Prop} (h : ∀ ss, SidesL n m ss → P (tupI ss)) : m__law_sides [.int n, .int m] P X := by
  refine ⟨rfl, ?_⟩
  simp only [b__law_sides, sSeq, sNx, sAsg, sDrop, sRet, sRetN, sIf, sPar, sForK, sNew, sFz, frzM, oApp, oExt, oSet, oIx, oLen, mVar, mC, mOp, mUn, mNot, mAnd, mOr, mIf, mTup, mLst, mCB, mCall, mCallW, mChain, mSl, mFr, mLc, mCl, mEl, mIsi, mRev, mKw, aCons, aNil, oNone, oSome, tT, tNo, tAn, tOo, tOk, gNm, gTp, gs1, gs0, eoLst, eoList, iSq, iR1, iR2, iR3, iZ2, iZ3, iEn, lk, MI.envOf, List.map_cons, List.map_nil, List.cons_append, List.nil_append, List.replicate_succ, List.replicate_zero, List.set_cons_zero, List.set_cons_succ, List.length_cons, List.length_nil, oAdd, oSub, oI, oIc, oMul, oMod, oFdiv, oPow, oNeg, oEq_s, oEq_i, oEq_b, oEq_t, oEq_l, oNe_s, oNe_i, oNe_b, oNe_t, oNe_l, oIs, oIsNot, oLt, oLe, oGt, oGe, oIt, oSl, oLn, oTuple, oList, oInt, oBool, oStr, oAbs, oMax2, oMin2]
  refine ⟨⟨by omega, by omega⟩, free_of ⟨trivial, trivial⟩, mIt_rel (fun _ y => ∃ i : Int, y = .int i ∧ 1 ≤ i ∧ i ≤ m) (by rw [List.length_map, List.length_range]; omega) (fun d hd Q hQ => ?_) fun ys hr => ?_⟩
  · simp only [wipeM, sSeq, sNx, sAsg, sDrop, sRet, sRetN, sIf, sPar, sForK, sNew, sFz, frzM, oApp, oExt, oSet, oIx, oLen, mVar, mC, mOp, mUn, mNot, mAnd, mOr, mIf, mTup, mLst, mCB, mCall, mCallW, mChain, mSl, mFr, mLc, mCl, mEl, mIsi, mRev, mKw, aCons, aNil, oNone, oSome, tT, tNo, tAn, tOo, tOk, gNm, gTp, gs1, gs0, eoLst, eoList, iSq, iR1, iR2, iR3, iZ2, iZ3, iEn, lk, MI.envOf, List.map_cons, List.map_nil, List.cons_append, List.nil_append, List.replicate_succ, List.replicate_zero, List.set_cons_zero, List.set_cons_succ, List.length_cons, List.length_nil, oAdd, oSub, oI, oIc, oMul, oMod, oFdiv, oPow, oNeg, oEq_s, oEq_i, oEq_b, oEq_t, oEq_l, oNe_s, oNe_i, oNe_b, oNe_t, oNe_l, oIs, oIsNot, oLt, oLe, oGt, oGe, oIt, oSl, oLn, oTuple, oList, oInt, oBool, oStr, oAbs, oMax2, oMin2]
    exact f_draw m0 m1 fun r r0 r1 => hQ _ ⟨1 + r, rfl, by omega, by omega⟩
  · obtain ⟨ss, rfl, hl, hs⟩ := rel_ints hr
    rw [List.length_map, List.length_range, Int.toNat_natCast] at hl
    exact h ss ⟨hl, hs⟩
theorem f_law_kinds {n : Nat} {m : Int} (hn : n ≤ 10) (m0 : 0 < m) (m1 : m ≤ 1000000000000) {P : PyData → Prop} {X : Xc → Prop} (h : ∀ kss : List (List Int), 1 ≤ kss.length → kss.length ≤ 4 → (∀ ss ∈ kss, SidesL n m ss) → P (.tuple (kss.map tupI))) : m__law_kinds [.int n, .int m] P X := by
  refine ⟨rfl, ?_⟩
  simp only [b__law_kinds, sSeq, sNx, sAsg, sDrop, sRet, sRetN, sIf, sPar, sForK, sNew, sFz, frzM, oApp, oExt, oSet, oIx, oLen, mVar, mC, mOp, mUn, mNot, mAnd, mOr, mIf, mTup, mLst, mCB, mCall, mCallW, mChain, mSl, mFr, mLc, mCl, mEl, mIsi, mRev, mKw, aCons, aNil, oNone, oSome, tT, tNo, tAn, tOo, tOk, gNm, gTp, gs1, gs0, eoLst, eoList, iSq, iR1, iR2, iR3, iZ2, iZ3, iEn, lk, MI.envOf, List.map_cons, List.map_nil, List.cons_append, List.nil_append, List.replicate_succ, List.replicate_zero, List.set_cons_zero, List.set_cons_succ, List.length_cons, List.length_nil, oAdd, oSub, oI, oIc, oMul, oMod, oFdiv, oPow, oNeg, oEq_s, oEq_i, oEq_b, oEq_t, oEq_l, oNe_s, oNe_i, oNe_b, oNe_t, oNe_l, oIs, oIsNot, oLt, oLe, oGt, oGe, oIt, oSl, oLn, oTuple, oList, oInt, oBool, oStr, oAbs, oMax2, oMin2]
  refine f_draw (by decide) (by decide) fun r r0 r1 => ?_
  obtain ⟨k, rfl⟩ := Int.eq_ofNat_of_zero_le r0
  dsimp only
  refine ⟨⟨by omega, by omega⟩, free_of ⟨trivial, trivial⟩, mIt_rel (fun _ y => ∃ ss, y = tupI ss ∧ SidesL n m ss) (by rw [List.length_map, List.length_range]; omega) (fun d hd Q hQ => ?_) fun ys hr => ?_⟩
  · simp only [wipeM, sSeq, sNx, sAsg, sDrop, sRet, sRetN, sIf, sPar, sForK, sNew, sFz, frzM, oApp, oExt, oSet, oIx, oLen, mVar, mC, mOp, mUn, mNot, mAnd, mOr, mIf, mTup, mLst, mCB, mCall, mCallW, mChain, mSl, mFr, mLc, mCl, mEl, mIsi, mRev, mKw, aCons, aNil, oNone, oSome, tT, tNo, tAn, tOo, tOk, gNm, gTp, gs1, gs0, eoLst, eoList, iSq, iR1, iR2, iR3, iZ2, iZ3, iEn, lk, MI.envOf, List.map_cons, List.map_nil, List.cons_append, List.nil_append, List.replicate_succ, List.replicate_zero, List.set_cons_zero, List.set_cons_succ, List.length_cons, List.length_nil, oAdd, oSub, oI, oIc, oMul, oMod, oFdiv, oPow, oNeg, oEq_s, oEq_i, oEq_b, oEq_t, oEq_l, oNe_s, oNe_i, oNe_b, oNe_t, oNe_l, oIs, oIsNot, oLt, oLe, oGt, oGe, oIt, oSl, oLn, oTuple, oList, oInt, oBool, oStr, oAbs, oMax2, oMin2]
    exact f_law_sides hn m0 m1 fun ss hs => hQ _ ⟨ss, rfl, hs⟩
  · obtain ⟨hl, hr⟩ := hr
    have key : ∀ ds : List PyData, (∀ d ∈ ds, ∃ ss, d = tupI ss ∧ SidesL n m ss) → ∃ kss : List (List Int), ds = kss.map tupI ∧ ∀ ss ∈ kss, SidesL n m ss := fun ds => by
      induction ds with
      | nil => exact fun _ => ⟨[], rfl, fun _ h => nomatch h⟩
      | cons d ds ih =>
        intro h
        obtain ⟨ss, rfl, hs⟩ := h d List.mem_cons_self
        obtain ⟨kss, rfl, hk⟩ := ih fun x hx => h x (List.mem_cons_of_mem _ hx)
        exact ⟨ss :: kss, rfl, fun x hx => by
          rcases List.mem_cons.mp hx with rfl | hx
          · exact hs
          · exact hk x hx⟩
    obtain ⟨kss, rfl, hk⟩ := key ys fun d hd => by
      obtain ⟨j, hj⟩ := List.getElem?_of_mem hd
      have kl := (List.getElem?_eq_some_iff.mp hj).1
      exact hr j _ _ (List.getElem?_eq_getElem (by omega)) hj
    rw [List.length_map, List.length_map, List.length_range] at hl
    exact h kss (by omega) (by omega) hk
/-- a box of few cells -/
theorem f_law_small {n : Nat} {m : Int} (hn : 1 ≤ n ∧ n ≤ 4) (m0 : 1 ≤ m) (m1 : m ≤ 1000) {P : PyData → Prop} {X : Xc → Prop} (h : ∀ ns, SidesL n m ns → (prodN ns : Int) ≤ m → P (tupI ns)) : m__law_small [.int n, .int m] P X := by
  refine ⟨rfl, ?_⟩
  simp only [b__law_small, sSeq, sNx, sAsg, sDrop, sRet, sRetN, sIf, sPar, sForK, sNew, sFz, frzM, oApp, oExt, oSet, oIx, oLen, mVar, mC, mOp, mUn, mNot, mAnd, mOr, mIf, mTup, mLst, mCB, mCall, mCallW, mChain, mSl, mFr, mLc, mCl, mEl, mIsi, mRev, mKw, aCons, aNil, oNone, oSome, tT, tNo, tAn, tOo, tOk, gNm, gTp, gs1, gs0, eoLst, eoList, iSq, iR1, iR2, iR3, iZ2, iZ3, iEn, lk, MI.envOf, List.map_cons, List.map_nil, List.cons_append, List.nil_append, List.replicate_succ, List.replicate_zero, List.set_cons_zero, List.set_cons_succ, List.length_cons, List.length_nil, oAdd, oSub, oI, oIc, oMul, oMod, oFdiv, oPow, oNeg, oEq_s, oEq_i, oEq_b, oEq_t, oEq_l, oNe_s, oNe_i, oNe_b, oNe_t, oNe_l, oIs, oIsNot, oLt, oLe, oGt, oGe, oIt, oSl, oLn, oTuple, oList, oInt, oBool, oStr, oAbs, oMax2, oMin2]
  refine ⟨by decide, ⟨by omega, by omega⟩, forK_inv (fun k r => ∃ (ns : List Int) (c : Int), r = [some .dck, some (.dat (.int n)), some (.dat (.int c)), some (.dat (tupI ns)), none] ∧ ns.length = k ∧ 1 ≤ c ∧ c * (prodN ns : Int) ≤ m ∧ ∀ s ∈ ns, 1 ≤ s ∧ s ≤ m) ⟨[], m, rfl, rfl, m0, by simp [prodN], fun _ h => nomatch h⟩ (fun k d r' hk hJ nx hn' => ?_) fun r' hJ => ?_⟩
  · obtain ⟨ns, c, rfl, hl, c0, hp, hs⟩ := hJ
    have hpos : 1 ≤ (prodN ns : Int) := by have := prodN_pos fun s h => (hs s h).1; omega
    have hcm : c ≤ m := by
      have := Int.mul_le_mul_of_nonneg_left hpos (show 0 ≤ c by omega)
      omega
    simp only [sSeq, sNx, sAsg, sDrop, sRet, sRetN, sIf, sPar, sForK, sNew, sFz, frzM, oApp, oExt, oSet, oIx, oLen, mVar, mC, mOp, mUn, mNot, mAnd, mOr, mIf, mTup, mLst, mCB, mCall, mCallW, mChain, mSl, mFr, mLc, mCl, mEl, mIsi, mRev, mKw, aCons, aNil, oNone, oSome, tT, tNo, tAn, tOo, tOk, gNm, gTp, gs1, gs0, eoLst, eoList, iSq, iR1, iR2, iR3, iZ2, iZ3, iEn, lk, MI.envOf, List.map_cons, List.map_nil, List.cons_append, List.nil_append, List.replicate_succ, List.replicate_zero, List.set_cons_zero, List.set_cons_succ, List.length_cons, List.length_nil, oAdd, oSub, oI, oIc, oMul, oMod, oFdiv, oPow, oNeg, oEq_s, oEq_i, oEq_b, oEq_t, oEq_l, oNe_s, oNe_i, oNe_b, oNe_t, oNe_l, oIs, oIsNot, oLt, oLe, oGt, oGe, oIt, oSl, oLn, oTuple, oList, oInt, oBool, oStr, oAbs, oMax2, oMin2, tupI]
    have ei : ∃ t, atI [PyData.int c, PyData.int 14, PyData.int 7, PyData.int 5] ((n : Int) - 1) = some (.int t) := by
      obtain ⟨h1, h2⟩ := hn
      have : n = 1 ∨ n = 2 ∨ n = 3 ∨ n = 4 := by omega
      rcases this with rfl | rfl | rfl | rfl <;> exact ⟨_, rfl⟩
    obtain ⟨t, et⟩ := ei
    refine ⟨by decide, ?_⟩
    simp only [et]
    have hb : ∀ q : Int, q = (if (if t < c then t else c) > 1 then (if t < c then t else c) else 1) → 1 ≤ q ∧ q ≤ c := fun q hq => by
      subst hq
      split <;> split <;> omega
    generalize hq : (if (if t < c then t else c) > 1 then (if t < c then t else c) else 1) = q
    obtain ⟨q0, q1⟩ := hb q hq.symm
    refine f_draw (by omega) (by omega) fun r r0 r1 => ?_
    dsimp only
    have el : atI (List.map PyData.int ns ++ [PyData.int (1 + r)]) (-1) = some (.int (1 + r)) := by
      exact atI_last _ _
    have e1 : (((List.range (n : Int).toNat).map fun (i : Nat) => PyData.int i).length) = n := by rw [List.length_map, List.length_range, Int.toNat_natCast]
    have kl : k < n := by rw [← e1]; exact (List.getElem?_eq_some_iff.mp hk).1
    simp only [el, List.length_map]
    refine ⟨by decide, by omega, ?_⟩
    refine ⟨?_, hn' _ ⟨ns ++ [1 + r], c / (1 + r), ?_, by rw [List.length_append, hl]; rfl, ?_, ?_, ?_⟩⟩
    · refine ⟨by omega, ?_⟩
      have h0 : (1 + r).natAbs ≠ 0 := by omega
      exact Nat.lt_of_lt_of_le ((Nat.log2_lt h0).mpr (show (1 + r).natAbs < 2 ^ 41 by omega)) (by decide)
    · rw [← tupI_app]; rfl
    · exact (Int.le_ediv_iff_mul_le (by omega)).mpr (by omega)
    · have e2 : (prodN (ns ++ [1 + r]) : Int) = prodN ns * (1 + r) := by
        have : ∀ ns : List Int, prodN (ns ++ [1 + r]) = prodN ns * (1 + r).toNat := fun ns => by
          induction ns with
          | nil => simp [prodN]
          | cons a ns ih => rw [List.cons_append, prodN_cons, ih, prodN_cons, Nat.mul_assoc]
        rw [this, Int.natCast_mul, Int.toNat_of_nonneg (by omega)]
      rw [e2, Int.mul_comm (prodN ns : Int), ← Int.mul_assoc]
      have := Int.mul_le_mul_of_nonneg_right (Int.ediv_mul_le c (show (1 + r : Int) ≠ 0 by omega)) (show (0 : Int) ≤ prodN ns by omega)
      omega
    · intro s hs'
      rcases List.mem_append.mp hs' with hs' | hs'
      · exact hs s hs'
      · rw [List.mem_singleton.mp hs']; omega
  · obtain ⟨ns, c, rfl, hl, c0, hp, hs⟩ := hJ
    rw [List.length_map, List.length_range, Int.toNat_natCast] at hl
    refine h ns ⟨hl, hs⟩ ?_
    have := Int.mul_le_mul_of_nonneg_right c0 (show (0 : Int) ≤ prodN ns by omega)
    omega
theorem f_law_great {ss : List Int} {n : Nat} (hs : SidesL n 1000000000000 ss) (hn : 1 ≤ n ∧ n ≤ 4) {P : PyData → Prop} {X : Xc → Prop} (h : ∀ ns, SidesL n 1000000000000 ns → P (tupI ns)) : m__law_great [tupI ss] P X := by
  refine ⟨rfl, ?_⟩
  simp only [b__law_great, sSeq, sNx, sAsg, sDrop, sRet, sRetN, sIf, sPar, sForK, sNew, sFz, frzM, oApp, oExt, oSet, oIx, oLen, mVar, mC, mOp, mUn, mNot, mAnd, mOr, mIf, mTup, mLst, mCB, mCall, mCallW, mChain, mSl, mFr, mLc, mCl, mEl, mIsi, mRev, mKw, aCons, aNil, oNone, oSome, tT, tNo, tAn, tOo, tOk, gNm, gTp, gs1, gs0, eoLst, eoList, iSq, iR1, iR2, iR3, iZ2, iZ3, iEn, lk, MI.envOf, List.map_cons, List.map_nil, List.cons_append, List.nil_append, List.replicate_succ, List.replicate_zero, List.set_cons_zero, List.set_cons_succ, List.length_cons, List.length_nil, oAdd, oSub, oI, oIc, oMul, oMod, oFdiv, oPow, oNeg, oEq_s, oEq_i, oEq_b, oEq_t, oEq_l, oNe_s, oNe_i, oNe_b, oNe_t, oNe_l, oIs, oIsNot, oLt, oLe, oGt, oGe, oIt, oSl, oLn, oTuple, oList, oInt, oBool, oStr, oAbs, oMax2, oMin2, tupI, List.length_map, rep1]
  refine ⟨⟨by decide, by decide, by decide⟩, f_draw (by decide) (by decide) fun r r0 r1 => ?_⟩
  have e12 : (10 : Int) ^ Int.toNat 12 = 1000000000000 := by decide
  have hl := hs.1
  dsimp only
  rw [e12]
  refine f_draw (by omega) (by omega) fun k k0 k1 => ?_
  obtain ⟨k, rfl⟩ := Int.eq_ofNat_of_zero_le k0
  dsimp only
  rw [show (k : Int) + 1 = ((k + 1 : Nat) : Int) from rfl, cut_to, cut_from]
  refine ⟨by decide, by rw [List.length_take, List.length_map]; omega, by rw [List.length_append, List.length_take, List.length_drop, List.length_map]; simp only [List.length_cons, List.length_nil]; omega, by decide, ⟨by simp, by decide, by omega, by omega⟩, by decide, ?_⟩
  refine f_one (Nat.succ_pos _) (show 2 ≤ 100000 by decide) fun e he => ?_
  simp only [List.mem_cons, List.not_mem_nil, or_false] at he
  rcases he with rfl | rfl
  · have e1 : PyData.tuple (List.take k (List.map PyData.int ss) ++ [PyData.int (1000000000000 - r)] ++ List.drop (k + 1) (List.map PyData.int ss)) = tupI (ss.take k ++ [1000000000000 - r] ++ ss.drop (k + 1)) := by
      unfold tupI
      rw [List.map_append, List.map_append, List.map_take, List.map_drop]; rfl
    rw [e1]
    refine h _ ⟨by rw [List.length_append, List.length_append, List.length_take, List.length_drop]; simp only [List.length_cons, List.length_nil]; omega, fun s hm => ?_⟩
    rcases List.mem_append.mp hm with hm | hm
    · rcases List.mem_append.mp hm with hm | hm
      · exact hs.2 s (List.mem_of_mem_take hm)
      · rw [List.mem_singleton.mp hm]; omega
    · exact hs.2 s (List.mem_of_mem_drop hm)
  · have e1 : PyData.tuple (List.replicate ss.length (PyData.int (1000000000000 - r))) = tupI (List.replicate ss.length (1000000000000 - r)) := by
      unfold tupI
      rw [List.map_replicate]
    rw [Int.toNat_natCast, e1]
    refine h _ ⟨by rw [List.length_replicate]; exact hl, fun s hm => ?_⟩
    rw [(List.mem_replicate.mp hm).2]; omega
end K30
set_option Elab.async false
set_option linter.all false
set_option maxRecDepth 100000
namespace K30
open PySem PySem.Spec PyProof.Rows L2 Evl TB DL MI GE
theorem eqv_str (z : Str) : PyData.eqv (.str z) (.str z) = true := by
  show decide (z = z) = true
  simp
theorem f_repr {n k : Nat} {d : PyData} {P : PyData → Prop} {X : Xc → Prop} (g : Gd n k d) (hn : n ≤ 10000000) (hk : k < 60) (h : P (.str d.shown)) : oRepr [d] P X :=
  ⟨⟨g.1, g.2.sh, Nat.lt_of_le_of_lt g.2.dp hk, Nat.le_trans g.2.len (Nat.le_trans hn (by decide))⟩, h⟩
theorem pn_ints {n : Nat} {ss : List Int} (h : ∀ s ∈ ss, 0 ≤ s ∧ s ≤ 1000000000000) : Pn (n + 1) (tupI ss) := Pn.tup fun x hx => by
  obtain ⟨s, hs, rfl⟩ := List.mem_map.mp hx
  exact Pn.int (h s hs).1 (h s hs).2
theorem ms_ints (ss : List Int) : ms (tupI ss) = 62 * ss.length + 3 := by
  unfold tupI
  rw [ms]
  have : ∀ ss : List Int, msL (ss.map .int) = 62 * ss.length := fun ss => by
    induction ss with
    | nil => rfl
    | cons s ss ih => rw [List.map_cons, msL, ih, List.length_cons, ms]; omega
  rw [this]
theorem msL_le {B : Nat} : ∀ {ds : List PyData}, (∀ d ∈ ds, ms d ≤ B) → msL ds ≤ ds.length * (B + 2)
  | [], _ => Nat.zero_le _
  | d :: ds, h => by
    rw [msL, List.length_cons, Nat.succ_mul]
    have := msL_le fun x hx => h x (List.mem_cons_of_mem d hx)
    have := h d List.mem_cons_self
    omega
structure Cx (n : Nat) (kss : List (List Int)) (ns : List Int) : Prop where
  n1 : 1 ≤ n ∧ n ≤ 4
  kl : 1 ≤ kss.length ∧ kss.length ≤ 4
  ks : ∀ ss ∈ kss, SidesL n 1000000000000 ss
  k0 : ∃ ss, kss[0]? = some ss ∧ SidesL n 4 ss
  bx : SidesL n 400 ns
  pr : prodN ns ≤ 400
section
variable {n : Nat} {kss : List (List Int)} {ns : List Int}
theorem Cx.freeO (c : Cx n kss ns) {B : Nat} (hB : 400 ≤ B) : ∀ ss ∈ kss, ss.length = ns.length ∧ okG B ((freeB ss ns).map fun n => (0, n)) 1 := fun ss hs => by
  have h1 := c.ks ss hs
  have h2 := c.bx
  refine ⟨by rw [h1.1, h2.1], okG_sub (ns := ns) (by unfold freeB; rw [List.length_map, List.length_zipWith, h1.1, h2.1, Nat.min_self]) (fun i p m hp hm => ?_) (fun m hm => ⟨(h2.2 m hm).1, by have := (h2.2 m hm).2; omega⟩) (by have := c.pr; omega)⟩
  unfold freeB at hp
  rw [List.getElem?_map] at hp
  obtain ⟨q, hq, rfl⟩ := Option.map_eq_some_iff.mp hp
  obtain ⟨s, m', hs1, hm1, rfl⟩ := List.getElem?_zipWith_eq_some.mp hq
  rw [hm] at hm1
  cases hm1
  have a := h1.2 s (List.mem_of_getElem? hs1)
  have b := h2.2 m (List.mem_of_getElem? hm)
  exact ⟨by show m - s + 1 - 0 ≤ m; omega, by show -(2 ^ 60) ≤ (0 : Int); omega, by show (0 : Int) ≤ 2 ^ 60; omega, by show -(2 ^ 60) ≤ m - s + 1; omega, by show m - s + 1 ≤ 2 ^ 60; omega⟩
theorem Cx.free (c : Cx n kss ns) : ∀ ss ∈ kss, ss.length = ns.length ∧ okG 1000 ((freeB ss ns).map fun n => (0, n)) 1 := c.freeO (by decide)
theorem Cx.kpn (c : Cx n kss ns) {k : Nat} : Pn (k + 2) (.tuple (kss.map tupI)) := Pn.tup fun x hx => by
  obtain ⟨ss, hs, rfl⟩ := List.mem_map.mp hx
  exact pn_ints fun s h => ⟨by have := ((c.ks ss hs).2 s h).1; omega, ((c.ks ss hs).2 s h).2⟩
theorem Cx.bpn (c : Cx n kss ns) {k : Nat} : Pn (k + 1) (tupI ns) := pn_ints fun s h => ⟨by have := (c.bx.2 s h).1; omega, by have := (c.bx.2 s h).2; omega⟩
theorem Cx.kms (c : Cx n kss ns) : ms (.tuple (kss.map tupI)) ≤ 1100 := by
  rw [ms]
  have := msL_le (B := 251) (ds := kss.map tupI) fun d hd => by
    obtain ⟨ss, hs, rfl⟩ := List.mem_map.mp hd
    rw [ms_ints, (c.ks ss hs).1]
    have := c.n1
    omega
  rw [List.length_map] at this
  have h4 := Nat.mul_le_mul_right (251 + 2) c.kl.2
  omega
theorem Cx.bms (c : Cx n kss ns) : ms (tupI ns) ≤ 251 := by
  rw [ms_ints, c.bx.1]
  have := c.n1
  omega
/-- what is shown of kinds and box -/
theorem Cx.gd (c : Cx n kss ns) : Gd 2000 3 (.list [.tuple (kss.map tupI), tupI ns]) := by
  have h1 := c.kms
  have h2 := c.bms
  refine (gd_lstP (n := 2) (ds := [.tuple (kss.map tupI), tupI ns]) fun x hx => ?_).mono (by rw [msL, msL, msL]; omega) (Nat.le_refl _)
  rcases List.mem_cons.mp hx with rfl | hx
  · exact c.kpn
  · rw [List.mem_singleton.mp hx]; exact c.bpn
theorem placesL_mem {ns : List Int} : ∀ {k : Nat} {kss : List (List Int)} {d : PyData}, d ∈ placesL k kss ns → ∃ (j : Nat) (ss : List Int) (cs : List Int), kss[j]? = some ss ∧ d = .tuple [.int ((k + j : Nat) : Int), tupI cs] ∧ cs ∈ cellsL (freeB ss ns)
  | k, ss :: r, d, h => by
    rw [placesL] at h
    rcases List.mem_append.mp h with h | h
    · obtain ⟨cs, hc, rfl⟩ := List.mem_map.mp h
      exact ⟨0, ss, cs, rfl, rfl, hc⟩
    · obtain ⟨j, s, cs, h1, rfl, h2⟩ := placesL_mem h
      exact ⟨j + 1, s, cs, h1, by rw [show k + 1 + j = k + (j + 1) by omega], h2⟩
/-- a place: a kind and a corner -/
def Plc (n m : Nat) (d : PyData) : Prop := ∃ (k : Nat) (cs : List Int), d = .tuple [.int k, tupI cs] ∧ k < m ∧ cs.length = n ∧ ∀ c ∈ cs, 0 ≤ c ∧ c < 1000000000000
theorem Plc.pn {n m : Nat} {d : PyData} (h : Plc n m d) (hm : m ≤ 100) : Pn 2 d := by
  obtain ⟨k, cs, rfl, hk, _, hc⟩ := h
  refine Pn.tup fun x hx => ?_
  rcases List.mem_cons.mp hx with rfl | hx
  · exact Pn.int (by omega) (by omega)
  · rw [List.mem_singleton.mp hx]; exact pn_ints fun c h => ⟨(hc c h).1, by have := (hc c h).2; omega⟩
theorem Plc.ms {n m : Nat} {d : PyData} (h : Plc n m d) : GE.ms d = 62 * n + 72 - 2 := by
  obtain ⟨k, cs, rfl, _, hl, _⟩ := h
  rw [GE.ms, msL, msL, msL, ms_ints, hl, GE.ms]; omega
theorem Cx.plc (c : Cx n kss ns) : ∀ d ∈ placesL 0 kss ns, Plc n kss.length d := fun d hd => by
  obtain ⟨j, ss, cs, h1, rfl, h2⟩ := placesL_mem hd
  have hf := c.free ss (List.mem_of_getElem? h1)
  obtain ⟨r0, h0, xs, rfl, hx, hb⟩ := gridF_mem h2
  rw [List.mem_singleton.mp h0, List.nil_append]
  have hlen : (freeB ss ns).length = n := by unfold freeB; rw [List.length_zipWith, hf.1, Nat.min_self, c.bx.1]
  rw [List.length_map, hlen] at hx
  refine ⟨j, xs, by rw [Nat.zero_add], (List.getElem?_eq_some_iff.mp h1).1, hx, fun x hxm => ?_⟩
  obtain ⟨i, hi⟩ := List.getElem?_of_mem hxm
  have il := (List.getElem?_eq_some_iff.mp hi).1
  have hq : ((freeB ss ns).map fun n => ((0 : Int), n))[i]? = some (0, (freeB ss ns)[i]) := by rw [List.getElem?_map, List.getElem?_eq_getElem (by omega)]; rfl
  have := hb i x _ hi hq
  have hm := List.getElem_mem (l := freeB ss ns) (n := i) (by omega)
  generalize (freeB ss ns)[i] = f at this hm
  obtain ⟨i', hi'⟩ := List.getElem?_of_mem hm
  unfold freeB at hi'
  obtain ⟨s, m', hs1, hm1, rfl⟩ := List.getElem?_zipWith_eq_some.mp hi'
  have a := (c.ks ss (List.mem_of_getElem? h1)).2 s (List.mem_of_getElem? hs1)
  have b := c.bx.2 m' (List.mem_of_getElem? hm1)
  have t1 : (0 : Int) ≤ x := this.1
  have t2 : x < m' - s + 1 := this.2
  exact ⟨t1, by omega⟩
end
end K30
set_option Elab.async false
set_option linter.all false
set_option maxRecDepth 100000
namespace K30
open PySem PySem.Spec PyProof.Rows L2 Evl TB DL MI GE
section
variable {n : Nat} {kss : List (List Int)} {ns : List Int}
theorem ne_str (z : Str) : (!decide (z = z)) = false := by simp
/-- the kinds with few cells -/
def fewL (kss : List (List Int)) : List PyData := ((List.range kss.length).filter fun k => decide ((kss.getD k []).prod < 401)).map fun (k : Nat) => .int k
theorem s_18 (c : Cx n kss ns) {D : DN} {o2 o8 o9 o10 o11 o12 o13 o14 o15 o16 o17 o18 : Option ML} {z : Str}
    (h : b_law_17 D [none, some .dck, o2, some (.dat (.int n)), some (.dat (.tuple (kss.map tupI))), some (.dat (tupI ns)), some (.dat (.str z)), some (.dat (.list (placesL 0 kss ns))), o8, o9, o10, o11, o12, o13, o14, o15, o16, o17, o18]) :
    b_law_18 D [none, some .dck, o2, some (.dat (.int n)), some (.dat (.tuple (kss.map tupI))), some (.dat (tupI ns)), some (.dat (.str z)), some (.dat (.list (placesL 0 kss ns))), o8, o9, o10, o11, o12, o13, o14, o15, o16, o17, o18] := by
  have hl : ns.length ≤ 100 := by have := c.bx.1; have := c.n1; omega
  have gp : Gd 800000 3 (.tuple (placesL 0 kss ns)) := by
    have hp := placesL_le (ns := ns) (B := 400) 0 kss fun s hs' => okG_last (rows := [[]]) (c.freeO (Nat.le_refl _) s hs').2
    refine (gd_tupP (n := 2) fun x hx => (c.plc x hx).pn (by have := c.kl; omega)).mono ?_ (Nat.le_refl _)
    have := msL_le (B := 318) (ds := placesL 0 kss ns) fun d hd => by rw [(c.plc d hd).ms]; have := c.n1; omega
    have h4 := Nat.mul_le_mul_right 400 c.kl.2
    have h5 := Nat.mul_le_mul_right (318 + 2) (Nat.le_trans hp h4)
    omega
  simp only [b_law_18, sSeq, sNx, sAsg, sDrop, sRet, sRetN, sIf, sPar, sForK, sNew, sFz, frzM, oApp, oExt, oSet, oIx, oLen, mVar, mC, mOp, mUn, mNot, mAnd, mOr, mIf, mTup, mLst, mCB, mCall, mCallW, mChain, mSl, mFr, mLc, mCl, mEl, mIsi, mRev, mKw, aCons, aNil, oNone, oSome, tT, tNo, tAn, tOo, tOk, gNm, gTp, gs1, gs0, eoLst, eoList, iSq, iR1, iR2, iR3, iZ2, iZ3, iEn, lk, MI.envOf, List.map_cons, List.map_nil, List.cons_append, List.nil_append, List.replicate_succ, List.replicate_zero, List.set_cons_zero, List.set_cons_succ, List.length_cons, List.length_nil, oAdd, oSub, oI, oIc, oMul, oMod, oFdiv, oPow, oNeg, oEq_s, oEq_i, oEq_b, oEq_t, oEq_l, oNe_s, oNe_i, oNe_b, oNe_t, oNe_l, oIs, oIsNot, oLt, oLe, oGt, oGe, oIt, oSl, oLn, oTuple, oList, oInt, oBool, oStr, oAbs, oMax2, oMin2]
  refine f_places c.free (by have := c.kl; omega) hl (f_repr gp (by decide) (by decide) (f_repr gp (by decide) (by decide) ?_))
  simp only [oNe_s, ne_str]
  refine f_places c.free (by have := c.kl; omega) hl (f_repr gp (by decide) (by decide) (f_repr gp (by decide) (by decide) ?_))
  simp only [oNe_s, ne_str]
  exact h
theorem prod_nat : ∀ {ss : List Int}, (∀ s ∈ ss, 1 ≤ s) → (prodN ss : Int) = ss.prod
  | [], _ => rfl
  | s :: ss, h => by
    have ih := prod_nat fun x hx => h x (List.mem_cons_of_mem s hx)
    have hs := h s List.mem_cons_self
    rw [prodN_cons, List.prod_cons, Int.natCast_mul, ih, Int.toNat_of_nonneg (by omega)]
theorem prod_lt : ∀ {ss : List Int} {B : Int}, 1 ≤ B → (∀ s ∈ ss, 1 ≤ s ∧ s ≤ B) → 1 ≤ ss.prod ∧ ss.prod ≤ B ^ ss.length
  | [], _, _, _ => ⟨Int.le_refl _, by simp⟩
  | s :: ss, B, hB, h => by
    obtain ⟨h1, h2⟩ := prod_lt hB fun x hx => h x (List.mem_cons_of_mem s hx)
    have hs := h s List.mem_cons_self
    rw [List.prod_cons, List.length_cons]
    constructor
    · have := Int.mul_le_mul hs.1 h1 (by decide) (by omega)
      omega
    · rw [Int.pow_succ, Int.mul_comm]
      exact Int.mul_le_mul h2 hs.2 (by omega) (by omega)
theorem vol_ok {n : Nat} {ss : List Int} (h : SidesL n 1000000000000 ss) (hn : n ≤ 4) : ∀ k, CMulW (ss.take k).prod (ss.getD k 1) := fun k => by
  have h1 := prod_lt (ss := ss.take k) (B := 1000000000000) (by decide) fun s hs => h.2 s (List.mem_of_mem_take hs)
  have h2 : 1 ≤ ss.getD k 1 ∧ ss.getD k 1 ≤ 1000000000000 := by
    rw [List.getD_eq_getElem?_getD]
    cases hk : ss[k]? with
    | none => exact ⟨Int.le_refl _, by decide⟩
    | some s => exact h.2 s (List.mem_of_getElem? hk)
  have h3 : (1000000000000 : Int) ^ (ss.take k).length ≤ 1000000000000 ^ 4 := by
    have : (ss.take k).length ≤ 4 := by rw [List.length_take, h.1]; omega
    generalize (ss.take k).length = m at this
    have : m = 0 ∨ m = 1 ∨ m = 2 ∨ m = 3 ∨ m = 4 := by omega
    rcases this with rfl | rfl | rfl | rfl | rfl <;> decide
  generalize (1000000000000 : Int) ^ (ss.take k).length = q at h1 h3
  have h4 : (1000000000000 : Int) ^ 4 < 2 ^ 160 := by decide
  generalize (ss.take k).prod = x at h1
  generalize ss.getD k 1 = y at h2
  unfold CMulW
  have a := (Nat.log2_lt (n := x.natAbs) (k := 160) (by omega)).mpr (by omega)
  have b := (Nat.log2_lt (n := y.natAbs) (k := 41) (by omega)).mpr (by omega)
  omega
theorem fewL_mem {d : PyData} (h : d ∈ fewL kss) : ∃ (k : Nat) (ss : List Int), d = .int k ∧ kss[k]? = some ss ∧ ss.prod < 401 := by
  unfold fewL at h
  obtain ⟨k, hk, rfl⟩ := List.mem_map.mp h
  obtain ⟨h1, h2⟩ := List.mem_filter.mp hk
  have h3 := List.mem_range.mp h1
  have h4 := of_decide_eq_true h2
  refine ⟨k, kss[k], rfl, List.getElem?_eq_getElem h3, ?_⟩
  rwa [getD_of (List.getElem?_eq_getElem h3)] at h4
theorem fewL_pos (c : Cx n kss ns) : 0 < (fewL kss).length := by
  obtain ⟨ss, h0, hs⟩ := c.k0
  have hp := (prod_lt (ss := ss) (B := 4) (by decide) fun s h => hs.2 s h).2
  have h3 : (4 : Int) ^ ss.length ≤ 256 := by
    rw [hs.1]
    have := c.n1
    have : n = 1 ∨ n = 2 ∨ n = 3 ∨ n = 4 := by omega
    rcases this with rfl | rfl | rfl | rfl <;> decide
  refine List.length_pos_of_mem (a := PyData.int ((0 : Nat) : Int)) (List.mem_map.mpr ⟨0, List.mem_filter.mpr ⟨List.mem_range.mpr (by have := c.kl; omega), decide_eq_true ?_⟩, rfl⟩)
  rw [getD_of h0]
  omega
theorem fewL_len : (fewL kss).length ≤ kss.length := by
  unfold fewL
  rw [List.length_map]
  have := List.length_filter_le (fun k => decide ((kss.getD k []).prod < 401)) (List.range kss.length)
  rw [List.length_range] at this
  exact this
theorem s_19 (c : Cx n kss ns) {D : DN} {o2 o8 o9 o10 o12 o13 o14 o15 o16 o17 o18 : Option ML} {z : Str}
    (h : b_law_18 D [none, some .dck, o2, some (.dat (.int n)), some (.dat (.tuple (kss.map tupI))), some (.dat (tupI ns)), some (.dat (.str z)), some (.dat (.list (placesL 0 kss ns))), some (.dat (.list (fewL kss))), o9, o10, none, o12, o13, o14, o15, o16, o17, o18]) :
    b_law_19 D [none, some .dck, o2, some (.dat (.int n)), some (.dat (.tuple (kss.map tupI))), some (.dat (tupI ns)), some (.dat (.str z)), some (.dat (.list (placesL 0 kss ns))), o8, o9, o10, none, o12, o13, o14, o15, o16, o17, o18] := by
  simp only [b_law_19, sSeq, sNx, sAsg, sDrop, sRet, sRetN, sIf, sPar, sForK, sNew, sFz, frzM, oApp, oExt, oSet, oIx, oLen, mVar, mC, mOp, mUn, mNot, mAnd, mOr, mIf, mTup, mLst, mCB, mCall, mCallW, mChain, mSl, mFr, mLc, mCl, mEl, mIsi, mRev, mKw, aCons, aNil, oNone, oSome, tT, tNo, tAn, tOo, tOk, gNm, gTp, gs1, gs0, eoLst, eoList, iSq, iR1, iR2, iR3, iZ2, iZ3, iEn, lk, MI.envOf, List.map_cons, List.map_nil, List.cons_append, List.nil_append, List.replicate_succ, List.replicate_zero, List.set_cons_zero, List.set_cons_succ, List.length_cons, List.length_nil, oAdd, oSub, oI, oIc, oMul, oMod, oFdiv, oPow, oNeg, oEq_s, oEq_i, oEq_b, oEq_t, oEq_l, oNe_s, oNe_i, oNe_b, oNe_t, oNe_l, oIs, oIsNot, oLt, oLe, oGt, oGe, oIt, oSl, oLn, oTuple, oList, oInt, oBool, oStr, oAbs, oMax2, oMin2, List.length_map]
  have := c.kl
  refine ⟨⟨by omega, by omega⟩, free_of ⟨trivial, trivial⟩, mIt_fn (fun d => match d with | .int k => if (kss.getD k.toNat []).prod < 401 then [.int k] else [] | _ => []) 1000 ?_ (fun d acc hd hb nx hn => ?_) ?_⟩
  · have e : ∀ l : List Nat, ((l.map fun (i : Nat) => PyData.int i).map fun d => (match d with | .int k => if (kss.getD k.toNat []).prod < 401 then [PyData.int k] else [] | _ => [] : List PyData).length).sum ≤ l.length := fun l => by
      induction l with
      | nil => exact Nat.le_refl _
      | cons a l ih =>
        rw [List.map_cons, List.map_cons, List.sum_cons, List.length_cons]
        have : (match PyData.int (a : Int) with | .int k => if (kss.getD k.toNat []).prod < 401 then [PyData.int k] else [] | _ => [] : List PyData).length ≤ 1 := by
          dsimp only
          split <;> simp
        omega
    have := e (List.range (kss.length : Int).toNat)
    rw [List.length_range, Int.toNat_natCast] at this
    rw [List.length_nil, Nat.zero_add, Int.toNat_natCast]
    omega
  · obtain ⟨k, hk, rfl⟩ := List.mem_map.mp hd
    rw [Int.toNat_natCast, List.mem_range] at hk
    have hss := List.getElem?_eq_getElem hk
    have ea : atI (List.map tupI kss) (k : Int) = some (tupI kss[k]) := atI_nat (by rw [List.getElem?_map, hss]; rfl)
    have hs := c.ks _ (List.getElem_mem hk)
    have hn : nx (acc ++ if (kss.getD (k : Int).toNat []).prod < 401 then [PyData.int k] else []) := hn
    rw [Int.toNat_natCast, getD_of hss] at hn
    have hb : acc.length + (if (kss.getD (k : Int).toNat []).prod < 401 then [PyData.int k] else []).length ≤ 1000 := hb
    rw [Int.toNat_natCast, getD_of hss] at hb
    generalize kss[k] = ss at ea hs hn hb
    simp only [wipeM, sSeq, sNx, sAsg, sDrop, sRet, sRetN, sIf, sPar, sForK, sNew, sFz, frzM, oApp, oExt, oSet, oIx, oLen, mVar, mC, mOp, mUn, mNot, mAnd, mOr, mIf, mTup, mLst, mCB, mCall, mCallW, mChain, mSl, mFr, mLc, mCl, mEl, mIsi, mRev, mKw, aCons, aNil, oNone, oSome, tT, tNo, tAn, tOo, tOk, gNm, gTp, gs1, gs0, eoLst, eoList, iSq, iR1, iR2, iR3, iZ2, iZ3, iEn, lk, MI.envOf, List.map_cons, List.map_nil, List.cons_append, List.nil_append, List.replicate_succ, List.replicate_zero, List.set_cons_zero, List.set_cons_succ, List.length_cons, List.length_nil, oAdd, oSub, oI, oIc, oMul, oMod, oFdiv, oPow, oNeg, oEq_s, oEq_i, oEq_b, oEq_t, oEq_l, oNe_s, oNe_i, oNe_b, oNe_t, oNe_l, oIs, oIsNot, oLt, oLe, oGt, oGe, oIt, oSl, oLn, oTuple, oList, oInt, oBool, oStr, oAbs, oMax2, oMin2, ea]
    refine f_law_volume (vol_ok hs c.n1.2) ?_
    dsimp only
    by_cases hp : ss.prod < 401
    · rw [if_pos hp] at hn hb
      rw [decide_eq_true hp]
      exact ⟨by have : acc.length + 1 ≤ 1000 := hb
                omega, hn⟩
    · rw [if_neg hp, List.append_nil] at hn
      rw [decide_eq_false hp]
      exact hn
  · rw [List.nil_append]
    have e : ∀ l : List Nat, ((l.map fun (i : Nat) => PyData.int i).map fun d => (match d with | .int k => if (kss.getD k.toNat []).prod < 401 then [PyData.int k] else [] | _ => [] : List PyData)).flatten = (l.filter fun k => decide ((kss.getD k []).prod < 401)).map fun (k : Nat) => PyData.int k := fun l => by
      induction l with
      | nil => rfl
      | cons a l ih =>
        rw [List.map_cons, List.map_cons, List.flatten_cons, ih, List.filter_cons]
        dsimp only
        rw [Int.toNat_natCast]
        by_cases hp : (kss.getD a []).prod < 401
        · rw [if_pos hp, decide_eq_true hp]; rfl
        · rw [if_neg hp, decide_eq_false hp]; rfl
    rw [e, Int.toNat_natCast]
    exact h
theorem s_20 (c : Cx n kss ns) {D : DN} {o2 o6 o7 o8 o9 o10 o12 o13 o14 o15 o16 o17 o18 : Option ML}
    (h : b_law_19 D [none, some .dck, o2, some (.dat (.int n)), some (.dat (.tuple (kss.map tupI))), some (.dat (tupI ns)), some (.dat (.str (PyData.list [.tuple (kss.map tupI), tupI ns]).shown)), some (.dat (.list (placesL 0 kss ns))), o8, o9, o10, none, o12, o13, o14, o15, o16, o17, o18]) :
    b_law_20 D [none, some .dck, o2, some (.dat (.int n)), some (.dat (.tuple (kss.map tupI))), some (.dat (tupI ns)), o6, o7, o8, o9, o10, none, o12, o13, o14, o15, o16, o17, o18] := by
  simp only [b_law_20, sSeq, sNx, sAsg, sDrop, sRet, sRetN, sIf, sPar, sForK, sNew, sFz, frzM, oApp, oExt, oSet, oIx, oLen, mVar, mC, mOp, mUn, mNot, mAnd, mOr, mIf, mTup, mLst, mCB, mCall, mCallW, mChain, mSl, mFr, mLc, mCl, mEl, mIsi, mRev, mKw, aCons, aNil, oNone, oSome, tT, tNo, tAn, tOo, tOk, gNm, gTp, gs1, gs0, eoLst, eoList, iSq, iR1, iR2, iR3, iZ2, iZ3, iEn, lk, MI.envOf, List.map_cons, List.map_nil, List.cons_append, List.nil_append, List.replicate_succ, List.replicate_zero, List.set_cons_zero, List.set_cons_succ, List.length_cons, List.length_nil, oAdd, oSub, oI, oIc, oMul, oMod, oFdiv, oPow, oNeg, oEq_s, oEq_i, oEq_b, oEq_t, oEq_l, oNe_s, oNe_i, oNe_b, oNe_t, oNe_l, oIs, oIsNot, oLt, oLe, oGt, oGe, oIt, oSl, oLn, oTuple, oList, oInt, oBool, oStr, oAbs, oMax2, oMin2]
  refine ⟨by decide, f_repr c.gd (by decide) (by decide) (f_law_places c.free (by have := c.kl; omega) (by have := c.bx.1; have := c.n1; omega) ?_)⟩
  exact h
end
end K30
set_option Elab.async false
set_option linter.all false
set_option maxRecDepth 100000
namespace K30
open PySem PySem.Spec PyProof.Rows L2 Evl TB DL MI GE
/-- no dict in it, short when shown -/
structure Ng (n k : Nat) (e : PyData) : Prop where
  nd : e.hasDict = false
  fit : Fit n k e
structure NgL (n k : Nat) (ds : List PyData) : Prop where
  nd : PyData.hasDictAll ds = false
  fit : FitL n k ds
theorem Ng.gd {n k : Nat} {e : PyData} (h : Ng n k e) : Gd n k e := ⟨by unfold okD; rw [h.nd]; rfl, h.fit⟩
theorem Ng.mono {n m k j : Nat} {e : PyData} (h : Ng n k e) (h1 : n ≤ m) (h2 : k ≤ j) : Ng m j e := ⟨h.nd, h.fit.mono h1 h2⟩
theorem Ng.of {n k : Nat} {e : PyData} (h : Gd n k e) (nd : e.hasDict = false) : Ng n k e := ⟨nd, h.2⟩
theorem Ng.pn {n : Nat} {e : PyData} (h : Pn n e) : Ng (ms e) n e := ⟨h.plain.1, h.fit⟩
theorem NgL.nil {k : Nat} : NgL 0 k [] := ⟨rfl, FitL.nil⟩
theorem NgL.cons {n m k : Nat} {d : PyData} {ds : List PyData} (h : Ng n k d) (hs : NgL m k ds) : NgL (n + 2 + m) k (d :: ds) := ⟨by rw [PyData.hasDictAll, h.nd, hs.nd]; rfl, FitL.cons h.fit hs.fit⟩
theorem NgL.tuple {n k : Nat} {ds : List PyData} (h : NgL n k ds) : Ng (n + 3) (k + 1) (.tuple ds) := ⟨by rw [PyData.hasDict]; exact h.nd, h.fit.tuple⟩
theorem NgL.list {n k : Nat} {ds : List PyData} (h : NgL n k ds) : Ng (n + 3) (k + 1) (.list ds) := ⟨by rw [PyData.hasDict]; exact h.nd, h.fit.list⟩
theorem NgL.all {n k : Nat} : ∀ {ds : List PyData}, (∀ d ∈ ds, Ng n k d) → NgL (ds.length * (n + 2)) k ds
  | [], _ => by simpa using NgL.nil
  | d :: ds, h => by
    rw [List.length_cons, Nat.succ_mul, Nat.add_comm]
    exact NgL.cons (h d List.mem_cons_self) (NgL.all fun x hx => h x (List.mem_cons_of_mem _ hx))
theorem ngI {i : Int} {k : Nat} (h : -1 ≤ i) (h2 : i ≤ 3000000000000) : Ng 40 k (.int i) := Ng.of ((gdI h (by
  have big : (10 : Int) ^ 40 > 3000000000000 := by decide
  omega)).mono (Nat.le_refl _) (Nat.zero_le _)) rfl
theorem ngB {b : Bool} {k : Nat} : Ng 40 k (.bool b) := Ng.of ((gdB b).mono (Nat.le_refl _) (Nat.zero_le _)) rfl
theorem ng_ints {k : Nat} {cs : List Int} (h : ∀ c ∈ cs, -1 ≤ c ∧ c ≤ 3000000000000) (hl : cs.length ≤ 8) : Ng 350 (k + 1) (tupI cs) := by
  refine (NgL.tuple (k := k) (NgL.all (n := 40) (ds := cs.map .int) fun d hd => ?_)).mono (by rw [List.length_map]; omega) (Nat.le_refl _)
  obtain ⟨c, hc, rfl⟩ := List.mem_map.mp hd
  exact ngI (h c hc).1 (h c hc).2
theorem ng_intsL {k : Nat} {cs : List Int} (h : ∀ c ∈ cs, -1 ≤ c ∧ c ≤ 3000000000000) (hl : cs.length ≤ 8) : Ng 350 (k + 1) (.list (cs.map .int)) := by
  refine (NgL.list (k := k) (NgL.all (n := 40) (ds := cs.map .int) fun d hd => ?_)).mono (by rw [List.length_map]; omega) (Nat.le_refl _)
  obtain ⟨c, hc, rfl⟩ := List.mem_map.mp hd
  exact ngI (h c hc).1 (h c hc).2
theorem ng_two {n m k : Nat} {a b : PyData} (ha : Ng n k a) (hb : Ng m k b) : Ng (n + m + 7) (k + 1) (.tuple [a, b]) := (NgL.tuple (NgL.cons ha (NgL.cons hb NgL.nil))).mono (by omega) (Nat.le_refl _)
theorem ng_two' {n m k : Nat} {a b : PyData} (ha : Ng n k a) (hb : Ng m k b) : Ng (n + m + 7) (k + 1) (.list [a, b]) := (NgL.list (NgL.cons ha (NgL.cons hb NgL.nil))).mono (by omega) (Nat.le_refl _)
theorem ng_three {n m j k : Nat} {a b c : PyData} (ha : Ng n k a) (hb : Ng m k b) (hc : Ng j k c) : Ng (n + m + j + 9) (k + 1) (.tuple [a, b, c]) := (NgL.tuple (NgL.cons ha (NgL.cons hb (NgL.cons hc NgL.nil)))).mono (by omega) (Nat.le_refl _)
/-- a list of values that are good to be shown -/
def Vals (m : Nat) (vs : List PyData) : Prop := vs.length ≤ m ∧ ∀ v ∈ vs, Gd 5000 9 v
theorem Vals.app {m k : Nat} {a b : List PyData} (h : Vals m a) (hb : Vals k b) : Vals (m + k) (a ++ b) := ⟨by rw [List.length_append]; have := h.1; have := hb.1; omega, fun v hv => (List.mem_append.mp hv).elim (h.2 v) (hb.2 v)⟩
theorem Vals.of {b : List PyData} (h : ∀ v ∈ b, Gd 5000 9 v) : Vals b.length b := ⟨Nat.le_refl _, h⟩
theorem Vals.cons {m : Nat} {v : PyData} {b : List PyData} (h : Gd 5000 9 v) (hb : Vals m b) : Vals (m + 1) (v :: b) := ⟨by rw [List.length_cons]; exact Nat.succ_le_succ hb.1, fun w hw => by
  rcases List.mem_cons.mp hw with rfl | hw
  · exact h
  · exact hb.2 w hw⟩
theorem Vals.nil : Vals 0 [] := ⟨Nat.le_refl _, fun _ h => nomatch h⟩
section
variable {n : Nat} {kss : List (List Int)} {ns : List Int}
theorem zer (n : Nat) : (List.replicate (n : Int).toNat [PyData.int 0]).flatten = (List.replicate n (0 : Int)).map .int := by
  rw [Int.toNat_natCast, rep1, List.map_replicate]
theorem ng_zer {k : Nat} (hn : n ≤ 5) : Ng 350 (k + 1) (.tuple ((List.replicate n (0 : Int)).map .int)) := ng_ints (fun c hc => by rw [(List.mem_replicate.mp hc).2]; omega) (by rw [List.length_replicate]; omega)
theorem s_2 (c : Cx n kss ns) {D : DN} {o2 o3 o7 o8 o9 o10 o11 o12 o13 o14 o15 o16 o17 o18 : Option ML}
    (h : D.nx [none, some .dck, o2, o3, some (.dat (.tuple (kss.map tupI))), some (.dat (tupI ns)), some (.dat (.str (PyData.list [.tuple (kss.map tupI), tupI ns]).shown)), o7, o8, o9, o10, o11, o12, o13, o14, o15, o16, o17, o18]) :
    b_law_2 D [none, some .dck, o2, o3, some (.dat (.tuple (kss.map tupI))), some (.dat (tupI ns)), some (.dat (.str (PyData.list [.tuple (kss.map tupI), tupI ns]).shown)), o7, o8, o9, o10, o11, o12, o13, o14, o15, o16, o17, o18] := by
  simp only [b_law_2, sSeq, sNx, sAsg, sDrop, sRet, sRetN, sIf, sPar, sForK, sNew, sFz, frzM, oApp, oExt, oSet, oIx, oLen, mVar, mC, mOp, mUn, mNot, mAnd, mOr, mIf, mTup, mLst, mCB, mCall, mCallW, mChain, mSl, mFr, mLc, mCl, mEl, mIsi, mRev, mKw, aCons, aNil, oNone, oSome, tT, tNo, tAn, tOo, tOk, gNm, gTp, gs1, gs0, eoLst, eoList, iSq, iR1, iR2, iR3, iZ2, iZ3, iEn, lk, MI.envOf, List.map_cons, List.map_nil, List.cons_append, List.nil_append, List.replicate_succ, List.replicate_zero, List.set_cons_zero, List.set_cons_succ, List.length_cons, List.length_nil, oAdd, oSub, oI, oIc, oMul, oMod, oFdiv, oPow, oNeg, oEq_s, oEq_i, oEq_b, oEq_t, oEq_l, oNe_s, oNe_i, oNe_b, oNe_t, oNe_l, oIs, oIsNot, oLt, oLe, oGt, oGe, oIt, oSl, oLn, oTuple, oList, oInt, oBool, oStr, oAbs, oMax2, oMin2]
  refine ⟨by decide, f_repr c.gd (by decide) (by decide) ?_⟩
  simp only [oNe_s, ne_str]
  exact h
theorem s_3 (c : Cx n kss ns) {v : PyData} (hv : Gd 5000 9 v) {D : DN} {o2 o3 o6 o7 o8 o9 o10 o11 o12 o13 o14 o15 o18 : Option ML}
    (h : D.nx [none, some .dck, o2, o3, some (.dat (.tuple (kss.map tupI))), some (.dat (tupI ns)), o6, o7, o8, o9, o10, o11, o12, o13, o14, o15, some (.dat v), some (.dat (.str v.shown)), o18]) :
    b_law_3 D [none, some .dck, o2, o3, some (.dat (.tuple (kss.map tupI))), some (.dat (tupI ns)), o6, o7, o8, o9, o10, o11, o12, o13, o14, o15, some (.dat v), some (.dat (.str v.shown)), o18] := by
  have hs : ∀ ss ∈ kss, ss.length = ns.length := fun ss hs => (c.free ss hs).1
  have hl : ns.length ≤ 100 := by have := c.bx.1; have := c.n1; omega
  simp only [b_law_3, sIf, tOo, tT, mOp, mCB, mCall, aCons, aNil, mVar, lk, sRet, mC, sNx]
  refine f_lies_in hs v (f_repr (gdB _) (by decide) (by decide) (f_law_is_placed c.kl.1 hs hl v (f_repr (gdB _) (by decide) (by decide) ?_)))
  simp only [oNe_s, ne_str]
  refine f_repr hv (by decide) (by decide) ?_
  simp only [oNe_s, ne_str]
  exact h
theorem s_4 (c : Cx n kss ns) {v : PyData} (hv : Gd 5000 9 v) {D : DN} {o2 o3 o6 o7 o8 o9 o10 o11 o12 o13 o14 o15 o17 o18 : Option ML}
    (h : D.nx [none, some .dck, o2, o3, some (.dat (.tuple (kss.map tupI))), some (.dat (tupI ns)), o6, o7, o8, o9, o10, o11, o12, o13, o14, o15, some (.dat v), some (.dat (.str v.shown)), o18]) :
    b_law_4 D [none, some .dck, o2, o3, some (.dat (.tuple (kss.map tupI))), some (.dat (tupI ns)), o6, o7, o8, o9, o10, o11, o12, o13, o14, o15, some (.dat v), o17, o18] := by
  simp only [b_law_4, sSeq, sNx, sAsg, sDrop, sRet, sRetN, sIf, sPar, sForK, sNew, sFz, frzM, oApp, oExt, oSet, oIx, oLen, mVar, mC, mOp, mUn, mNot, mAnd, mOr, mIf, mTup, mLst, mCB, mCall, mCallW, mChain, mSl, mFr, mLc, mCl, mEl, mIsi, mRev, mKw, aCons, aNil, oNone, oSome, tT, tNo, tAn, tOo, tOk, gNm, gTp, gs1, gs0, eoLst, eoList, iSq, iR1, iR2, iR3, iZ2, iZ3, iEn, lk, MI.envOf, List.map_cons, List.map_nil, List.cons_append, List.nil_append, List.replicate_succ, List.replicate_zero, List.set_cons_zero, List.set_cons_succ, List.length_cons, List.length_nil, oAdd, oSub, oI, oIc, oMul, oMod, oFdiv, oPow, oNeg, oEq_s, oEq_i, oEq_b, oEq_t, oEq_l, oNe_s, oNe_i, oNe_b, oNe_t, oNe_l, oIs, oIsNot, oLt, oLe, oGt, oGe, oIt, oSl, oLn, oTuple, oList, oInt, oBool, oStr, oAbs, oMax2, oMin2]
  exact f_repr hv (by decide) (by decide) (s_3 c hv h)
theorem s_5 (c : Cx n kss ns) {vs : List PyData} (hv : Vals 100 vs) {D : DN} {o2 o7 o8 o10 o11 o12 o13 o14 o15 o16 o17 o18 : Option ML}
    (h : ∀ r, keepM [1] 0 r = [none, some .dck, none, none, none, none, none, none, none, none, none, none, none, none, none, none, none, none, none] → D.nx r) :
    b_law_5 D [none, some .dck, o2, some (.dat (.int n)), some (.dat (.tuple (kss.map tupI))), some (.dat (tupI ns)), some (.dat (.str (PyData.list [.tuple (kss.map tupI), tupI ns]).shown)), o7, o8, some (.own vs), o10, o11, o12, o13, o14, o15, o16, o17, o18] := by
  have h1 := c.n1
  simp only [b_law_5, sSeq, sNx, sAsg, sDrop, sRet, sRetN, sIf, sPar, sForK, sNew, sFz, frzM, oApp, oExt, oSet, oIx, oLen, mVar, mC, mOp, mUn, mNot, mAnd, mOr, mIf, mTup, mLst, mCB, mCall, mCallW, mChain, mSl, mFr, mLc, mCl, mEl, mIsi, mRev, mKw, aCons, aNil, oNone, oSome, tT, tNo, tAn, tOo, tOk, gNm, gTp, gs1, gs0, eoLst, eoList, iSq, iR1, iR2, iR3, iZ2, iZ3, iEn, lk, MI.envOf, List.map_cons, List.map_nil, List.cons_append, List.nil_append, List.replicate_succ, List.replicate_zero, List.set_cons_zero, List.set_cons_succ, List.length_cons, List.length_nil, oAdd, oSub, oI, oIc, oMul, oMod, oFdiv, oPow, oNeg, oEq_s, oEq_i, oEq_b, oEq_t, oEq_l, oNe_s, oNe_i, oNe_b, oNe_t, oNe_l, oIs, oIsNot, oLt, oLe, oGt, oGe, oIt, oSl, oLn, oTuple, oList, oInt, oBool, oStr, oAbs, oMax2, oMin2, rep1]
  have zr : ∀ m : Nat, List.replicate m (PyData.int 0) = (List.replicate m (0 : Int)).map .int := fun m => by rw [List.map_replicate]
  have hz : ∀ m : Nat, m ≤ 5 → Gd 5000 9 (.tuple [.int 0, .tuple (List.replicate m (PyData.int 0))]) := fun m hm => by
    rw [zr]
    exact ((ng_two (k := 1) (ngI (by decide) (by decide)) (ng_zer hm)).gd).mono (by decide) (by decide)
  have hv' : Vals 104 (vs ++ [PyData.tuple [PyData.int 0, tupI ns], PyData.tuple [PyData.int 0, PyData.tuple (List.replicate ((n : Int) - 1).toNat (PyData.int 0))], PyData.tuple [PyData.int 0, PyData.tuple (List.replicate ((n : Int) + 1).toNat (PyData.int 0))], PyData.tuple [PyData.int 0, PyData.tuple (List.replicate (n : Int).toNat (PyData.bool false))]]) := by
    refine hv.app (Vals.cons ?_ (Vals.cons (hz _ (by omega)) (Vals.cons (hz _ (by omega)) (Vals.cons ?_ Vals.nil))))
    · exact ((ng_two (k := 1) (ngI (by decide) (by decide)) (ng_ints (fun c' hc => by have := c.bx.2 c' hc; omega) (by rw [c.bx.1]; omega))).gd).mono (by decide) (by decide)
    · have := NgL.all (n := 40) (k := 0) (ds := List.replicate (n : Int).toNat (PyData.bool false)) fun d hd => by rw [(List.mem_replicate.mp hd).2]; exact ngB
      rw [List.length_replicate, Int.toNat_natCast] at this
      exact ((ng_two (k := 1) (ngI (by decide) (by decide)) ((this.tuple).mono (m := 350) (by omega) (Nat.le_refl _))).gd).mono (by decide) (by decide)
  have hv0 := hv.1
  refine ⟨by decide, by decide, ⟨by simp, by decide, by omega, by omega⟩, by decide, by decide, ⟨by simp, by decide, by omega, by omega⟩, by decide, by decide, ⟨by simp, by decide, by omega, by omega⟩, by decide, by decide, by omega, forK_inv (fun k r => r = [none, some .dck, none, none, some (.dat (.tuple (kss.map tupI))), some (.dat (tupI ns)), some (.dat (.str (PyData.list [.tuple (kss.map tupI), tupI ns]).shown)), none, none, none, none, none, none, none, none, none, none, none, none]) rfl (fun k v r' hk hJ nx hn => ?_) fun r' hJ => ?_⟩
  · subst hJ
    exact s_4 c (hv'.2 v (List.mem_of_getElem? hk)) (hn _ rfl)
  · subst hJ
    exact s_2 c (h _ rfl)
end
end K30
set_option Elab.async false
set_option linter.all false
set_option maxRecDepth 100000
namespace K30
open PySem PySem.Spec PyProof.Rows L2 Evl TB DL MI GE
section
variable {n : Nat} {kss : List (List Int)} {ns : List Int}
def EndD (D : DN) : Prop := ∀ r, keepM [1] 0 r = [none, some .dck, none, none, none, none, none, none, none, none, none, none, none, none, none, none, none, none, none] → D.nx r
abbrev KP (kss : List (List Int)) (ns : List Int) : Option ML := some (.dat (.str (PyData.list [.tuple (kss.map tupI), tupI ns]).shown))
theorem zr (m : Nat) : List.replicate m (PyData.int 0) = (List.replicate m (0 : Int)).map .int := by rw [List.map_replicate]
theorem zpn {k m : Nat} {x : PyData} (hx : Ng 350 k x) (hm : m ≤ 5) : Gd 5000 (k + 3) (.tuple [x, .tuple (List.replicate m (PyData.int 0))]) := by
  rw [zr]
  exact ((ng_two (k := k + 1) (hx.mono (Nat.le_refl _) (by omega)) (ng_zer hm)).gd).mono (by decide) (by omega)
theorem s_6 (c : Cx n kss ns) {vs : List PyData} (hv : Vals 99 vs) {D : DN} {o2 o7 o8 o10 o11 o12 o13 o14 o15 o16 o17 o18 : Option ML} (h : EndD D) :
    b_law_6 D [none, some .dck, o2, some (.dat (.int n)), some (.dat (.tuple (kss.map tupI))), some (.dat (tupI ns)), KP kss ns, o7, o8, some (.own vs), o10, o11, o12, o13, o14, o15, o16, o17, o18] := by
  have h1 := c.n1
  have h2 := c.kl
  have h3 := hv.1
  simp only [b_law_6, sSeq, sNx, sAsg, sDrop, sRet, sRetN, sIf, sPar, sForK, sNew, sFz, frzM, oApp, oExt, oSet, oIx, oLen, mVar, mC, mOp, mUn, mNot, mAnd, mOr, mIf, mTup, mLst, mCB, mCall, mCallW, mChain, mSl, mFr, mLc, mCl, mEl, mIsi, mRev, mKw, aCons, aNil, oNone, oSome, tT, tNo, tAn, tOo, tOk, gNm, gTp, gs1, gs0, eoLst, eoList, iSq, iR1, iR2, iR3, iZ2, iZ3, iEn, lk, MI.envOf, List.map_cons, List.map_nil, List.cons_append, List.nil_append, List.replicate_succ, List.replicate_zero, List.set_cons_zero, List.set_cons_succ, List.length_cons, List.length_nil, oAdd, oSub, oI, oIc, oMul, oMod, oFdiv, oPow, oNeg, oEq_s, oEq_i, oEq_b, oEq_t, oEq_l, oNe_s, oNe_i, oNe_b, oNe_t, oNe_l, oIs, oIsNot, oLt, oLe, oGt, oGe, oIt, oSl, oLn, oTuple, oList, oInt, oBool, oStr, oAbs, oMax2, oMin2, rep1, List.length_map]
  refine ⟨by decide, ⟨by simp, by decide, by omega, by omega⟩, by decide, by omega, ?_⟩
  rw [Int.toNat_natCast]
  have hg : Gd 5000 3 (.tuple [.int ((kss.length : Int) - 1), .tuple (List.replicate n (PyData.int 0))]) := zpn (k := 0) ((ngI (by omega) (by omega)).mono (by decide) (Nat.le_refl _)) (by omega)
  exact s_5 c (hv.app (Vals.cons (hg.mono (Nat.le_refl _) (by decide)) Vals.nil)) h
theorem Plc.ng {m : Nat} {k : Nat} {cs : List Int} (hk : k < 100) (hl : cs.length ≤ 5) (hc : ∀ c ∈ cs, 0 ≤ c ∧ c < 1000000000000) : Ng 400 2 (.tuple [.int k, tupI cs]) :=
  (ng_two (k := 1) (ngI (by omega) (by omega)) (ng_ints (fun c h => by have := hc c h; omega) (by omega))).mono (by decide) (by decide)
theorem s_7 {k : Nat} {cs cs' : List Int} (hk : k < 100) (hl : cs.length ≤ 5) (hc : ∀ c ∈ cs, 0 ≤ c ∧ c < 1000000000000) (hl' : cs'.length ≤ 5) (hc' : ∀ c ∈ cs', -1 ≤ c ∧ c ≤ 3000000000000)
    {vs : List PyData} {m : Nat} (hm : m ≤ 90) (hv : Vals m vs) {D : DN} {o1 o2 o3 o4 o5 o6 o7 o8 o10 o11 o12 o14 o16 o17 o18 : Option ML}
    (h : ∀ us, Vals (m + 5) us → D.nx [none, o1, o2, o3, o4, o5, o6, o7, o8, some (.own us), o10, o11, o12, some (.dat (.tuple [.int k, tupI cs])), o14, some (.dat (tupI cs')), o16, o17, o18]) :
    b_law_7 D [none, o1, o2, o3, o4, o5, o6, o7, o8, some (.own vs), o10, o11, o12, some (.dat (.tuple [.int k, tupI cs])), o14, some (.dat (tupI cs')), o16, o17, o18] := by
  have hi0 : atI [PyData.int (k : Int), .tuple (cs.map .int)] 0 = some (.int (k : Int)) := rfl
  have hi1 : atI [PyData.int (k : Int), .tuple (cs.map .int)] 1 = some (.tuple (cs.map .int)) := rfl
  have h3 := hv.1
  simp only [b_law_7, sSeq, sNx, sAsg, sDrop, sRet, sRetN, sIf, sPar, sForK, sNew, sFz, frzM, oApp, oExt, oSet, oIx, oLen, mVar, mC, mOp, mUn, mNot, mAnd, mOr, mIf, mTup, mLst, mCB, mCall, mCallW, mChain, mSl, mFr, mLc, mCl, mEl, mIsi, mRev, mKw, aCons, aNil, oNone, oSome, tT, tNo, tAn, tOo, tOk, gNm, gTp, gs1, gs0, eoLst, eoList, iSq, iR1, iR2, iR3, iZ2, iZ3, iEn, lk, List.set_cons_zero, List.set_cons_succ, List.cons_append, List.nil_append, List.replicate_succ, List.replicate_zero, oSub, oLt, oLe, oGt, oGe]
  refine r_it_t hi0 ⟨Nat.le_of_ble_eq_true rfl, r_it_t hi0 (r_it_t hi1 (r_list_t ⟨Nat.le_of_ble_eq_true rfl, Nat.le_of_ble_eq_true rfl, r_add_t (Nat.le_of_ble_eq_true rfl) (r_list_t ⟨Nat.le_of_ble_eq_true rfl, ?_, h _ ?_⟩)⟩))⟩
  · show vs.length + 5 ≤ 100000
    omega
  have g0 := Plc.ng (m := 0) hk hl hc
  refine hv.app (Vals.cons (g0.gd.mono (by decide) (by decide)) (Vals.cons ?_ (Vals.cons ?_ (Vals.cons ?_ (Vals.cons ?_ Vals.nil)))))
  · exact ((ng_two (k := 1) (ngI (by omega) (by omega)) (ng_ints hc' (by omega))).gd).mono (by decide) (by decide)
  · exact ((ng_two (k := 1) (ngI (by omega) (by omega)) (ng_intsL (fun c h => by have := hc c h; omega) (by omega))).gd).mono (by decide) (by decide)
  · exact ((ng_three (k := 1) (ngI (by omega) (by omega)) (ng_ints (fun c h => by have := hc c h; omega) (by omega)) (ngI (i := 0) (by decide) (by decide))).gd).mono (by decide) (by decide)
  · exact ((ng_two' (k := 1) (ngI (by omega) (by omega)) (ng_ints (fun c h => by have := hc c h; omega) (by omega))).gd).mono (by decide) (by decide)
theorem s_9 {k : Nat} {cs : List Int} (hn : 1 ≤ n ∧ n ≤ 4) (hk : k < 100) (hl : cs.length = n) (hc : ∀ c ∈ cs, 0 ≤ c ∧ c < 1000000000000)
    {vs : List PyData} {m : Nat} (hm : m ≤ 90) (hv : Vals m vs) {D : DN} {o2 o4 o5 o6 o7 o8 o10 o11 o12 o14 o15 o16 o17 o18 : Option ML}
    (h : ∀ us, Vals (m + 5) us → ∀ p14 p15, D.nx [none, some .dck, o2, some (.dat (.int n)), o4, o5, o6, o7, o8, some (.own us), o10, o11, o12, some (.dat (.tuple [.int k, tupI cs])), p14, p15, o16, o17, o18]) :
    b_law_9 D [none, some .dck, o2, some (.dat (.int n)), o4, o5, o6, o7, o8, some (.own vs), o10, o11, o12, some (.dat (.tuple [.int k, tupI cs])), o14, o15, o16, o17, o18] := by
  have hi1 : atI [PyData.int (k : Int), .tuple (cs.map .int)] 1 = some (.tuple (cs.map .int)) := rfl
  simp only [b_law_9, sSeq, sNx, sAsg, sDrop, sRet, sRetN, sIf, sPar, sForK, sNew, sFz, frzM, oApp, oExt, oSet, oIx, oLen, mVar, mC, mOp, mUn, mNot, mAnd, mOr, mIf, mTup, mLst, mCB, mCall, mCallW, mChain, mSl, mFr, mLc, mCl, mEl, mIsi, mRev, mKw, aCons, aNil, oNone, oSome, tT, tNo, tAn, tOo, tOk, gNm, gTp, gs1, gs0, eoLst, eoList, iSq, iR1, iR2, iR3, iZ2, iZ3, iEn, lk, List.set_cons_zero, List.set_cons_succ, List.cons_append, List.nil_append, List.replicate_succ, List.replicate_zero, oSub, oLt, oLe, oGt, oGe]
  refine f_draw (by omega) (by omega) fun r r0 r1 => ?_
  obtain ⟨j, rfl⟩ := Int.eq_ofNat_of_zero_le r0
  have hj : j < cs.length := by omega
  have ej : atI (cs.map PyData.int) (j : Int) = some (.int cs[j]) := atI_nat (by rw [List.getElem?_map, List.getElem?_eq_getElem hj]; rfl)
  have hcj := hc _ (List.getElem_mem hj)
  have e1 : ∀ d : Int, PyData.tuple (List.take j (List.map PyData.int cs) ++ [PyData.int (cs[j] + d)] ++ List.drop (j + 1) (List.map PyData.int cs)) = tupI (cs.take j ++ [cs[j] + d] ++ cs.drop (j + 1)) := by
    intro d
    unfold tupI
    rw [List.map_append, List.map_append, List.map_take, List.map_drop]; rfl
  simp only [b_law_8, sSeq, sNx, sAsg, sDrop, sRet, sRetN, sIf, sPar, sForK, sNew, sFz, frzM, oApp, oExt, oSet, oIx, oLen, mVar, mC, mOp, mUn, mNot, mAnd, mOr, mIf, mTup, mLst, mCB, mCall, mCallW, mChain, mSl, mFr, mLc, mCl, mEl, mIsi, mRev, mKw, aCons, aNil, oNone, oSome, tT, tNo, tAn, tOo, tOk, gNm, gTp, gs1, gs0, eoLst, eoList, iSq, iR1, iR2, iR3, iZ2, iZ3, iEn, lk, List.set_cons_zero, List.set_cons_succ, List.cons_append, List.nil_append, List.replicate_succ, List.replicate_zero, oSub, oLt, oLe, oGt, oGe]
  refine r_it_t hi1 (r_sl_t (r_it_t hi1 (r_it_t ej ⟨Nat.le_of_ble_eq_true rfl, f_one (by decide) (by decide) fun e he => ?_⟩)))
  have he' : ∃ d : Int, e = .int d ∧ -1 ≤ d ∧ d ≤ 2 := by
    simp only [List.mem_cons, List.not_mem_nil, or_false] at he
    rcases he with rfl | rfl | rfl
    · exact ⟨1, rfl, by decide, by decide⟩
    · exact ⟨-1, rfl, by decide, by decide⟩
    · exact ⟨2, rfl, by decide, by decide⟩
  obtain ⟨d, rfl, d0, d1⟩ := he'
  refine r_add_i ⟨Nat.le_of_ble_eq_true rfl, ?_⟩
  rw [cut_to]
  refine r_add_t ?_ (r_it_t hi1 ?_)
  · show _ + 1 ≤ 100000
    rw [List.length_take, List.length_map]; omega
  refine r_add_i ?_
  rw [show (j : Int) + 1 = ((j + 1 : Nat) : Int) from rfl]
  refine r_sl_t ?_
  rw [cut_from]
  refine r_add_t (by rw [List.length_append, List.length_take, List.length_drop, List.length_map]; simp only [List.length_cons, List.length_nil]; omega) ?_
  rw [e1 d]
  refine s_7 hk (by omega) hc (by rw [List.length_append, List.length_append, List.length_take, List.length_drop]; simp only [List.length_cons, List.length_nil]; omega) (fun c' hc' => ?_) hm hv fun us hu => h us hu _ _
  rcases List.mem_append.mp hc' with hc' | hc'
  · rcases List.mem_append.mp hc' with hc' | hc'
    · have := hc c' (List.mem_of_mem_take hc'); omega
    · rw [List.mem_singleton.mp hc']; omega
  · have := hc c' (List.mem_of_mem_drop hc'); omega
theorem s_11 (c : Cx n kss ns) {vs : List PyData} (hv : Vals 17 vs) {D : DN} {o2 o8 o10 o11 o12 o13 o14 o15 o16 o17 o18 : Option ML} (h : EndD D) :
    b_law_11 D [none, some .dck, o2, some (.dat (.int n)), some (.dat (.tuple (kss.map tupI))), some (.dat (tupI ns)), KP kss ns, some (.dat (.list (placesL 0 kss ns))), o8, some (.own vs), o10, o11, o12, o13, o14, o15, o16, o17, o18] := by
  have h1 := c.n1
  have h2 := c.kl
  simp only [b_law_11, sSeq, sNx, sAsg, sDrop, sRet, sRetN, sIf, sPar, sForK, sNew, sFz, frzM, oApp, oExt, oSet, oIx, oLen, mVar, mC, mOp, mUn, mNot, mAnd, mOr, mIf, mTup, mLst, mCB, mCall, mCallW, mChain, mSl, mFr, mLc, mCl, mEl, mIsi, mRev, mKw, aCons, aNil, oNone, oSome, tT, tNo, tAn, tOo, tOk, gNm, gTp, gs1, gs0, eoLst, eoList, iSq, iR1, iR2, iR3, iZ2, iZ3, iEn, lk, List.set_cons_zero, List.set_cons_succ, List.cons_append, List.nil_append, List.replicate_succ, List.replicate_zero, oSub, oLt, oLe, oGt, oGe]
  refine ⟨⟨by decide, by decide⟩, forK_inv (fun k r => ∃ us, Vals (17 + 5 * k) us ∧ r = [none, some .dck, none, some (.dat (.int n)), some (.dat (.tuple (kss.map tupI))), some (.dat (tupI ns)), KP kss ns, some (.dat (.list (placesL 0 kss ns))), none, some (.own us), none, none, none, none, none, none, none, none, none]) ⟨vs, hv, rfl⟩ (fun k v r' hk hJ nx hn => ?_) fun r' hJ => ?_⟩
  · obtain ⟨us, hu, rfl⟩ := hJ
    have kl := (List.getElem?_eq_some_iff.mp hk).1
    rw [List.length_map, List.length_range, show (4 : Int).toNat = 4 from rfl] at kl
    have hp := placesL_le (ns := ns) (B := 400) 0 kss fun s hs' => okG_last (rows := [[]]) (c.freeO (Nat.le_refl _) s hs').2
    have h4 := Nat.mul_le_mul_right 400 c.kl.2
    simp only [sSeq, sNx, sAsg, sDrop, sRet, sRetN, sIf, sPar, sForK, sNew, sFz, frzM, oApp, oExt, oSet, oIx, oLen, mVar, mC, mOp, mUn, mNot, mAnd, mOr, mIf, mTup, mLst, mCB, mCall, mCallW, mChain, mSl, mFr, mLc, mCl, mEl, mIsi, mRev, mKw, aCons, aNil, oNone, oSome, tT, tNo, tAn, tOo, tOk, gNm, gTp, gs1, gs0, eoLst, eoList, iSq, iR1, iR2, iR3, iZ2, iZ3, iEn, lk, List.set_cons_zero, List.set_cons_succ, List.cons_append, List.nil_append, List.replicate_succ, List.replicate_zero, oSub, oLt, oLe, oGt, oGe, b_law_10]
    refine ⟨Nat.le_of_ble_eq_true rfl, r_mul_t (by simp) (by decide) ⟨by omega, by omega⟩ ⟨Nat.le_of_ble_eq_true rfl, Nat.le_of_ble_eq_true rfl, r_add_l ?_ ?_⟩⟩
    · show (placesL 0 kss ns).length + 1 ≤ 100000
      omega
    rw [rep1]
    refine f_one (by rw [List.length_append]; exact Nat.succ_pos _) (by rw [List.length_append]; simp only [List.length_cons, List.length_nil]; omega) fun e he => ?_
    have hP : Plc n kss.length e := by
      rcases List.mem_append.mp he with he | he
      · exact c.plc e he
      · rw [List.mem_singleton.mp he, Int.toNat_natCast, zr]
        exact ⟨0, List.replicate n 0, rfl, by omega, List.length_replicate, fun x hx => by rw [(List.mem_replicate.mp hx).2]; omega⟩
    obtain ⟨k', cs, rfl, q1, q2, q3⟩ := hP
    exact s_9 h1 (by omega) q2 q3 (by omega) hu fun us' hu' _ _ => hn _ ⟨us', hu', rfl⟩
  · obtain ⟨us, hu, rfl⟩ := hJ
    exact s_6 c (vs := us) ⟨by have := hu.1; rw [List.length_map, List.length_range, show (4 : Int).toNat = 4 from rfl] at this; omega, hu.2⟩ h
end
end K30
set_option Elab.async false
set_option linter.all false
set_option maxRecDepth 100000
namespace K30
open PySem PySem.Spec PyProof.Rows L2 Evl TB DL MI GE
section
variable {n : Nat} {kss : List (List Int)} {ns : List Int}
theorem addL_zip : ∀ (r cs : List Int), List.zipWith (fun c s => c + s) r cs = addL r cs
  | [], _ => by simp [addL]
  | _ :: _, [] => by simp [addL]
  | x :: r, y :: cs => by rw [List.zipWith_cons_cons, addL_zip r cs, addL]
theorem s_12 {k : Nat} {cs : List Int} (hk : k < 100) (hl : cs.length ≤ 5) (hc : ∀ c ∈ cs, 0 ≤ c ∧ c < 1000000000000)
    {vs : List PyData} {m : Nat} (hm : m ≤ 90) (hv : Vals m vs) {D : DN} {o2 o3 o4 o5 o6 o7 o8 o10 o11 o12 o14 o15 o16 o17 o18 : Option ML}
    (h : ∀ us, Vals (m + 2) us → D.nx [none, some .dck, o2, o3, o4, o5, o6, o7, o8, some (.own us), o10, o11, o12, some (.dat (.tuple [.int k, tupI cs])), o14, o15, o16, o17, o18]) :
    b_law_12 D [none, some .dck, o2, o3, o4, o5, o6, o7, o8, some (.own vs), o10, o11, o12, some (.dat (.tuple [.int k, tupI cs])), o14, o15, o16, o17, o18] := by
  have h3 := hv.1
  simp only [b_law_12, sSeq, sNx, sAsg, sDrop, sRet, sRetN, sIf, sPar, sForK, sNew, sFz, frzM, oApp, oExt, oSet, oIx, oLen, mVar, mC, mOp, mUn, mNot, mAnd, mOr, mIf, mTup, mLst, mCB, mCall, mCallW, mChain, mSl, mFr, mLc, mCl, mEl, mIsi, mRev, mKw, aCons, aNil, oNone, oSome, tT, tNo, tAn, tOo, tOk, gNm, gTp, gs1, gs0, eoLst, eoList, iSq, iR1, iR2, iR3, iZ2, iZ3, iEn, lk, List.set_cons_zero, List.set_cons_succ, List.cons_append, List.nil_append, List.replicate_succ, List.replicate_zero, oSub, oLt, oLe, oGt, oGe]
  have hp : Pn 2 (.tuple [.int (k : Int), tupI cs]) := Plc.pn (n := cs.length) (m := 100) ⟨k, cs, rfl, hk, rfl, hc⟩ (by decide)
  have em : ms (.tuple [.int (k : Int), tupI cs]) = 62 * cs.length + 72 - 2 := Plc.ms (n := cs.length) (m := 100) ⟨k, cs, rfl, hk, rfl, hc⟩
  have g0 := Plc.ng (m := 0) hk hl hc
  refine f_bent 2 3 (Nat.le_refl _) (n := 2) (by decide) (by omega) hp fun e he => ?_
  refine ⟨Nat.le_of_ble_eq_true rfl, by show vs.length + 2 ≤ 100000; omega, h _ (hv.app (Vals.cons (g0.gd.mono (by decide) (by decide)) (Vals.cons (he.mono (by omega) (by decide)) Vals.nil)))⟩
theorem s_13 (c : Cx n kss ns) {k : Nat} {ss cs : List Int} (hss : kss[k]? = some ss) (hsp : ss.prod < 401) (hl : cs.length = n) (hc : ∀ c ∈ cs, 0 ≤ c ∧ c < 1000000000000)
    {vs : List PyData} {m : Nat} (hm : m ≤ 90) (hv : Vals m vs) {D : DN} {o2 o3 o5 o6 o7 o8 o10 o11 o12 o14 o15 o16 o17 o18 : Option ML}
    (h : ∀ us, Vals (m + 2) us → D.nx [none, some .dck, o2, o3, some (.dat (.tuple (kss.map tupI))), o5, o6, o7, o8, some (.own us), o10, o11, o12, some (.dat (.tuple [.int k, tupI cs])), o14, o15, o16, o17, o18]) :
    b_law_13 D [none, some .dck, o2, o3, some (.dat (.tuple (kss.map tupI))), o5, o6, o7, o8, some (.own vs), o10, o11, o12, some (.dat (.tuple [.int k, tupI cs])), o14, o15, o16, o17, o18] := by
  have h1 := c.n1
  have hs := c.ks ss (List.mem_of_getElem? hss)
  have hk : k < kss.length := (List.getElem?_eq_some_iff.mp hss).1
  have hpn : prodN ss ≤ 400 := by have := prod_nat fun s h => (hs.2 s h).1; omega
  have hls : cs.length = ss.length := by rw [hl, hs.1]
  have b1 : okG 400 (List.zipWith (fun c s => (c, c + s)) cs ss) 1 := by
    refine okG_sub (ns := ss) (by rw [List.length_zipWith, hls, Nat.min_self]) (fun i p s hp hs' => ?_) (fun s h => ⟨(hs.2 s h).1, by have := (hs.2 s h).2; omega⟩) (by omega)
    obtain ⟨c', s', hc1, hs1, rfl⟩ := List.getElem?_zipWith_eq_some.mp hp
    rw [hs'] at hs1
    cases hs1
    have a := hc c' (List.mem_of_getElem? hc1)
    have b := hs.2 s (List.mem_of_getElem? hs')
    exact ⟨by show c' + s - c' ≤ s; omega, by show -(2 ^ 60) ≤ c'; omega, by show c' ≤ 2 ^ 60; omega, by show -(2 ^ 60) ≤ c' + s; omega, by show c' + s ≤ 2 ^ 60; omega⟩
  have b2 : okG 1000 (ss.map fun n => (0, n)) 1 := okG_box (fun s h => ⟨(hs.2 s h).1, by have := (hs.2 s h).2; omega⟩) (by omega)
  have b3 : okG 1000 (List.zipWith (fun c s => (c, c + s)) cs ss) 1 := by
    have mono : ∀ (ps : List (Int × Int)) (k : Nat), okG 400 ps k → okG 1000 ps k := fun ps => by
      induction ps with
      | nil => exact fun k h => Nat.le_trans h (by decide)
      | cons p ps ih => exact fun k h => ⟨Nat.le_trans h.1 (by decide), h.2.1, ih _ h.2.2⟩
    exact mono _ _ b1
  have e1 : (cellsL ss).map (fun r => List.zipWith (fun c s => c + s) r cs) = gridF (List.zipWith (fun c s => (c, c + s)) cs ss) [[]] := by
    rw [← cells_shift hls.symm]
    exact List.map_congr_left fun r _ => addL_zip r cs
  have gg : Gd 80000 3 (.tuple ((gridF (List.zipWith (fun c s => (c, c + s)) cs ss) [[]]).map tupI)) := by
    have hlen : (gridF (List.zipWith (fun c s => (c, c + s)) cs ss) [[]]).length ≤ 400 := okG_last (rows := [[]]) b1
    have := NgL.all (n := 175) (k := 1) (ds := (gridF (List.zipWith (fun c s => (c, c + s)) cs ss) [[]]).map tupI) fun d hd => by
      obtain ⟨r, hr, rfl⟩ := List.mem_map.mp hd
      obtain ⟨r0, h0, xs, rfl, hx, hb⟩ := gridF_mem hr
      rw [List.mem_singleton.mp h0, List.nil_append]
      rw [List.length_zipWith, hls, Nat.min_self, hs.1] at hx
      refine (NgL.tuple (k := 0) (NgL.all (n := 40) (ds := xs.map .int) fun d hd => ?_)).mono (by rw [List.length_map]; omega) (Nat.le_refl _)
      obtain ⟨x, hxm, rfl⟩ := List.mem_map.mp hd
      obtain ⟨i, hi⟩ := List.getElem?_of_mem hxm
      have il := (List.getElem?_eq_some_iff.mp hi).1
      have il2 : i < (List.zipWith (fun c s => (c, c + s)) cs ss).length := by rw [List.length_zipWith, hls, Nat.min_self, hs.1]; omega
      have hq := List.getElem?_eq_getElem il2
      have hb' := hb i x _ hi hq
      generalize (List.zipWith (fun c s => (c, c + s)) cs ss)[i] = p at hb' hq
      obtain ⟨c', s', hc1, hs1, rfl⟩ := List.getElem?_zipWith_eq_some.mp hq
      have a := hc c' (List.mem_of_getElem? hc1)
      have b := hs.2 s' (List.mem_of_getElem? hs1)
      have t1 : c' ≤ x := hb'.1
      have t2 : x < c' + s' := hb'.2
      exact ngI (by omega) (by omega)
    rw [List.length_map] at this
    exact (this.tuple.mono (m := 80000) (by omega) (Nat.le_refl _)).gd.mono (Nat.le_refl _) (by decide)
  simp only [b_law_13, sSeq, sNx, sAsg, sDrop, sRet, sRetN, sIf, sPar, sForK, sNew, sFz, frzM, oApp, oExt, oSet, oIx, oLen, mVar, mC, mOp, mUn, mNot, mAnd, mOr, mIf, mTup, mLst, mCB, mCall, mCallW, mChain, mSl, mFr, mLc, mCl, mEl, mIsi, mRev, mKw, aCons, aNil, oNone, oSome, tT, tNo, tAn, tOo, tOk, gNm, gTp, gs1, gs0, eoLst, eoList, iSq, iR1, iR2, iR3, iZ2, iZ3, iEn, lk, List.set_cons_zero, List.set_cons_succ, List.cons_append, List.nil_append, List.replicate_succ, List.replicate_zero, oSub, oLt, oLe, oGt, oGe]
  refine f_covered hss hls b3 (by rw [hs.1]; omega) (f_repr gg (by decide) (by decide) ?_)
  refine f_law_covered hss b2 (by rw [hs.1]; omega) ?_
  rw [e1]
  refine r_tuple_l (f_repr gg (by decide) (by decide) (r_ne_s _ ?_))
  exact s_12 (by have := c.kl; omega) (by omega) hc hm hv h
theorem s_15 (c : Cx n kss ns) {vs : List PyData} {m : Nat} (hm : m ≤ 90) (hv : Vals m vs) {D : DN} {o2 o5 o6 o7 o10 o13 o14 o15 o16 o17 : Option ML}
    (h : ∀ us, Vals (m + 2) us → ∀ p11 p12 p13, D.nx [none, some .dck, o2, some (.dat (.int n)), some (.dat (.tuple (kss.map tupI))), o5, o6, o7, some (.dat (.list (fewL kss))), some (.own us), o10, p11, p12, p13, o14, o15, o16, o17, none]) :
    b_law_15 D [none, some .dck, o2, some (.dat (.int n)), some (.dat (.tuple (kss.map tupI))), o5, o6, o7, some (.dat (.list (fewL kss))), some (.own vs), o10, none, none, o13, o14, o15, o16, o17, none] := by
  have h1 := c.n1
  simp only [b_law_15, sSeq, sNx, sAsg, sDrop, sRet, sRetN, sIf, sPar, sForK, sNew, sFz, frzM, oApp, oExt, oSet, oIx, oLen, mVar, mC, mOp, mUn, mNot, mAnd, mOr, mIf, mTup, mLst, mCB, mCall, mCallW, mChain, mSl, mFr, mLc, mCl, mEl, mIsi, mRev, mKw, aCons, aNil, oNone, oSome, tT, tNo, tAn, tOo, tOk, gNm, gTp, gs1, gs0, eoLst, eoList, iSq, iR1, iR2, iR3, iZ2, iZ3, iEn, lk, List.set_cons_zero, List.set_cons_succ, List.cons_append, List.nil_append, List.replicate_succ, List.replicate_zero, oSub, oLt, oLe, oGt, oGe]
  refine f_one (fewL_pos c) (by have := fewL_len (kss := kss); have := c.kl; omega) fun e he => ?_
  obtain ⟨k, ss, rfl, hss, hp⟩ := fewL_mem he
  refine ⟨⟨by decide, by decide, by decide⟩, by decide, f_one (by decide) (by decide) fun e2 he2 => ?_⟩
  have he' : ∃ t : Int, e2 = .int t ∧ 0 < t ∧ t ≤ 1000000000000 := by
    simp only [List.mem_cons, List.not_mem_nil, or_false] at he2
    rcases he2 with rfl | rfl | rfl
    · exact ⟨3, rfl, by decide, by decide⟩
    · exact ⟨9, rfl, by decide, by decide⟩
    · exact ⟨_, rfl, by decide, by decide⟩
  obtain ⟨t, rfl, t0, t1⟩ := he'
  refine ⟨Nat.le_of_ble_eq_true rfl, rfl, ?_⟩
  simp only [b_law_14, sSeq, sNx, sAsg, sDrop, sRet, sRetN, sIf, sPar, sForK, sNew, sFz, frzM, oApp, oExt, oSet, oIx, oLen, mVar, mC, mOp, mUn, mNot, mAnd, mOr, mIf, mTup, mLst, mCB, mCall, mCallW, mChain, mSl, mFr, mLc, mCl, mEl, mIsi, mRev, mKw, aCons, aNil, oNone, oSome, tT, tNo, tAn, tOo, tOk, gNm, gTp, gs1, gs0, eoLst, eoList, iSq, iR1, iR2, iR3, iZ2, iZ3, iEn, lk, List.set_cons_zero, List.set_cons_succ, List.cons_append, List.nil_append, List.replicate_succ, List.replicate_zero, oSub, oLt, oLe, oGt, oGe]
  refine ⟨⟨by omega, by omega⟩, free_of ⟨trivial, trivial⟩, mIt_rel (fun _ y => ∃ i : Int, y = .int i ∧ 0 ≤ i ∧ i < 1000000000000) (by rw [List.length_map, List.length_range]; omega) (fun d hd Q hQ => ?_) fun ys hr => ?_⟩
  · simp only [wipeM, sSeq, sNx, sAsg, sDrop, sRet, sRetN, sIf, sPar, sForK, sNew, sFz, frzM, oApp, oExt, oSet, oIx, oLen, mVar, mC, mOp, mUn, mNot, mAnd, mOr, mIf, mTup, mLst, mCB, mCall, mCallW, mChain, mSl, mFr, mLc, mCl, mEl, mIsi, mRev, mKw, aCons, aNil, oNone, oSome, tT, tNo, tAn, tOo, tOk, gNm, gTp, gs1, gs0, eoLst, eoList, iSq, iR1, iR2, iR3, iZ2, iZ3, iEn, lk, List.set_cons_zero, List.set_cons_succ, List.cons_append, List.nil_append, List.replicate_succ, List.replicate_zero, oSub, oLt, oLe, oGt, oGe]
    exact f_draw t0 t1 fun r r0 r1 => hQ _ ⟨r, rfl, r0, by omega⟩
  · obtain ⟨cs, rfl, hl, hs⟩ := rel_ints hr
    rw [List.length_map, List.length_range, Int.toNat_natCast] at hl
    refine ⟨Nat.le_of_ble_eq_true rfl, ?_⟩
    exact s_13 c hss hp hl hs hm hv fun us hu => h us hu _ _ _
theorem s_16 (c : Cx n kss ns) {vs : List PyData} (hv : Vals 5 vs) {D : DN} {o2 o10 o11 o12 o13 o14 o15 o16 o17 o18 : Option ML} (h : EndD D) :
    b_law_16 D [none, some .dck, o2, some (.dat (.int n)), some (.dat (.tuple (kss.map tupI))), some (.dat (tupI ns)), KP kss ns, some (.dat (.list (placesL 0 kss ns))), some (.dat (.list (fewL kss))), some (.own vs), o10, o11, o12, o13, o14, o15, o16, o17, o18] := by
  simp only [b_law_16, sSeq, sNx, sAsg, sDrop, sRet, sRetN, sIf, sPar, sForK, sNew, sFz, frzM, oApp, oExt, oSet, oIx, oLen, mVar, mC, mOp, mUn, mNot, mAnd, mOr, mIf, mTup, mLst, mCB, mCall, mCallW, mChain, mSl, mFr, mLc, mCl, mEl, mIsi, mRev, mKw, aCons, aNil, oNone, oSome, tT, tNo, tAn, tOo, tOk, gNm, gTp, gs1, gs0, eoLst, eoList, iSq, iR1, iR2, iR3, iZ2, iZ3, iEn, lk, List.set_cons_zero, List.set_cons_succ, List.cons_append, List.nil_append, List.replicate_succ, List.replicate_zero, oSub, oLt, oLe, oGt, oGe]
  refine ⟨⟨by decide, by decide⟩, forK_inv (fun k r => ∃ us, Vals (5 + 2 * k) us ∧ r = [none, some .dck, none, some (.dat (.int n)), some (.dat (.tuple (kss.map tupI))), some (.dat (tupI ns)), KP kss ns, some (.dat (.list (placesL 0 kss ns))), some (.dat (.list (fewL kss))), some (.own us), none, none, none, none, none, none, none, none, none]) ⟨vs, hv, rfl⟩ (fun k v r' hk hJ nx hn => ?_) fun r' hJ => ?_⟩
  · obtain ⟨us, hu, rfl⟩ := hJ
    have kl := (List.getElem?_eq_some_iff.mp hk).1
    rw [List.length_map, List.length_range, show (6 : Int).toNat = 6 from rfl] at kl
    exact s_15 c (by omega) hu fun us' hu' _ _ _ => hn _ ⟨us', hu', rfl⟩
  · obtain ⟨us, hu, rfl⟩ := hJ
    rw [List.length_map, List.length_range, show (6 : Int).toNat = 6 from rfl] at hu
    exact s_11 c hu h
theorem s_17 (c : Cx n kss ns) {D : DN} {o2 o9 o10 o11 o12 o13 o14 o15 o16 o17 o18 : Option ML} (h : EndD D) :
    b_law_17 D [none, some .dck, o2, some (.dat (.int n)), some (.dat (.tuple (kss.map tupI))), some (.dat (tupI ns)), KP kss ns, some (.dat (.list (placesL 0 kss ns))), some (.dat (.list (fewL kss))), o9, o10, o11, o12, o13, o14, o15, o16, o17, o18] := by
  have h1 := c.n1
  have h2 := c.kl
  simp only [b_law_17, sSeq, sNx, sAsg, sDrop, sRet, sRetN, sIf, sPar, sForK, sNew, sFz, frzM, oApp, oExt, oSet, oIx, oLen, mVar, mC, mOp, mUn, mNot, mAnd, mOr, mIf, mTup, mLst, mCB, mCall, mCallW, mChain, mSl, mFr, mLc, mCl, mEl, mIsi, mRev, mKw, aCons, aNil, oNone, oSome, tT, tNo, tAn, tOo, tOk, gNm, gTp, gs1, gs0, eoLst, eoList, iSq, iR1, iR2, iR3, iZ2, iZ3, iEn, lk, List.set_cons_zero, List.set_cons_succ, List.cons_append, List.nil_append, List.replicate_succ, List.replicate_zero, oSub, oLt, oLe, oGt, oGe]
  refine f_odd fun o ho => ?_
  have hz : ∀ (x : PyData), Ng 350 0 x → Gd 5000 9 (.tuple [x, .tuple (List.replicate n (PyData.int 0))]) := fun x hx => (zpn (k := 0) hx (by omega)).mono (Nat.le_refl _) (by decide)
  have ez : (List.replicate (n : Int).toNat [PyData.int 0]).flatten = List.replicate n (PyData.int 0) := by rw [Int.toNat_natCast, rep1]
  have d1 : [PyData.int 0] ≠ [] := by simp
  have d2 : [PyData.int 0].length ≤ 1000 := by decide
  have d3 : (0 : Int) ≤ n ∧ (n : Int) ≤ 1000 := ⟨by omega, by omega⟩
  refine ⟨Nat.le_of_ble_eq_true rfl, r_mul_t d1 d2 d3 ⟨Nat.le_of_ble_eq_true rfl, r_ln_t ⟨Nat.le_of_ble_eq_true rfl, r_mul_t d1 d2 d3 ⟨Nat.le_of_ble_eq_true rfl, ?_⟩⟩⟩⟩
  show [PyData.int 0].length ≤ 100000 ∧ _
  refine ⟨Nat.le_of_ble_eq_true rfl, r_mul_t d1 d2 d3 ⟨Nat.le_of_ble_eq_true rfl, Nat.le_of_ble_eq_true rfl, r_mul_t d1 d2 d3 ⟨Nat.le_of_ble_eq_true rfl, Nat.le_of_ble_eq_true rfl, Nat.le_of_ble_eq_true rfl, ?_⟩⟩⟩
  rw [ez]
  exact s_16 c (Vals.cons (ho.mono (by decide) (by decide)) (Vals.cons (hz _ ((ngI (by decide) (by decide)).mono (by decide) (Nat.le_refl _))) (Vals.cons (hz _ ((ngI (by omega) (by rw [List.length_map]; omega)).mono (by decide) (Nat.le_refl _)))
    (Vals.cons (hz _ ((ngI (by decide) (by decide)).mono (by decide) (Nat.le_refl _))) (Vals.cons (hz _ (ngB.mono (by decide) (Nat.le_refl _))) Vals.nil))))) h
end
end K30
set_option Elab.async false
set_option linter.all false
set_option maxRecDepth 100000
namespace K30
open PySem PySem.Spec PyProof.Rows L2 Evl TB DL MI GE
theorem SidesL.wide {n : Nat} {m k : Int} {ss : List Int} (h : SidesL n m ss) (hk : m ≤ k) : SidesL n k ss := ⟨h.1, fun s hs => ⟨(h.2 s hs).1, by have := (h.2 s hs).2; omega⟩⟩
abbrev E0' (D : DN) : Prop := EndD D
theorem s_21 {n : Nat} {kss : List (List Int)} {ns : List Int} (c : Cx n kss ns) {D : DN} {o2 o6 o7 o8 o9 o10 o12 o13 o14 o15 o16 o17 o18 : Option ML} (h : EndD D) :
    b_law_21 D [none, some .dck, o2, some (.dat (.int n)), some (.dat (.tuple (kss.map tupI))), some (.dat (tupI ns)), o6, o7, o8, o9, o10, none, o12, o13, o14, o15, o16, o17, o18] := by
  have h1 := c.n1
  have h2 := c.kl
  obtain ⟨s0, hs0, hs4⟩ := c.k0
  have e0 : atI (kss.map tupI) 0 = some (tupI s0) := atI_nat (j := 0) (by rw [List.getElem?_map, hs0]; rfl)
  simp only [b_law_21, sSeq, sNx, sAsg, sDrop, sRet, sRetN, sIf, sPar, sForK, sNew, sFz, frzM, oApp, oExt, oSet, oIx, oLen, mVar, mC, mOp, mUn, mNot, mAnd, mOr, mIf, mTup, mLst, mCB, mCall, mCallW, mChain, mSl, mFr, mLc, mCl, mEl, mIsi, mRev, mKw, aCons, aNil, oNone, oSome, tT, tNo, tAn, tOo, tOk, gNm, gTp, gs1, gs0, eoLst, eoList, iSq, iR1, iR2, iR3, iZ2, iZ3, iEn, lk, List.set_cons_zero, List.set_cons_succ, List.cons_append, List.nil_append, List.replicate_succ, List.replicate_zero, oSub, oLt, oLe, oGt, oGe]
  refine f_draw (by decide) (by decide) fun r r0 r1 => ?_
  have he : ∀ P X, P (.bool (decide (r = 0))) → oEq (.int r) (.int 0) P X := fun P X h => ⟨⟨rfl, rfl⟩, h⟩
  refine he _ _ ?_
  dsimp only
  cases decide (r = 0) with
  | false => exact s_20 c (s_19 c (s_18 c (s_17 c h)))
  | true =>
    dsimp only
    refine r_sl_t (r_it_t e0 (f_law_great (hs4.wide (by decide)) h1 fun g hg => ⟨Nat.le_of_ble_eq_true rfl, ?_⟩))
    rw [show (3 : Int) = ((3 : Nat) : Int) from rfl, cut_to]
    refine r_add_t (by rw [List.length_take, List.length_map]; simp only [List.length_cons, List.length_nil]; omega) ?_
    have e1 : List.take 3 (kss.map tupI) ++ [tupI g] = (kss.take 3 ++ [g]).map tupI := by rw [List.map_append, List.map_take]; rfl
    rw [e1]
    have c' : Cx n (kss.take 3 ++ [g]) ns := by
      refine ⟨h1, ⟨by rw [List.length_append]; exact Nat.succ_pos _, by rw [List.length_append, List.length_take]; simp only [List.length_cons, List.length_nil]; omega⟩, fun ss hs => ?_, ⟨s0, ?_, hs4⟩, c.bx, c.pr⟩
      · rcases List.mem_append.mp hs with hs | hs
        · exact c.ks ss (List.mem_of_mem_take hs)
        · rw [List.mem_singleton.mp hs]; exact hg
      · cases kss with
        | nil => simp at hs0
        | cons a l => simpa using hs0
    exact s_20 c' (s_19 c' (s_18 c' (s_17 c' h)))
theorem s_23 {D : DN} {o2 o3 o4 o5 o6 o7 o8 o9 o10 o12 o13 o14 o15 o16 o17 o18 : Option ML} (h : EndD D) :
    b_law_23 D [none, some .dck, o2, o3, o4, o5, o6, o7, o8, o9, o10, none, o12, o13, o14, o15, o16, o17, o18] := by
  simp only [b_law_23, sSeq, sNx, sAsg, sDrop, sRet, sRetN, sIf, sPar, sForK, sNew, sFz, frzM, oApp, oExt, oSet, oIx, oLen, mVar, mC, mOp, mUn, mNot, mAnd, mOr, mIf, mTup, mLst, mCB, mCall, mCallW, mChain, mSl, mFr, mLc, mCl, mEl, mIsi, mRev, mKw, aCons, aNil, oNone, oSome, tT, tNo, tAn, tOo, tOk, gNm, gTp, gs1, gs0, eoLst, eoList, iSq, iR1, iR2, iR3, iZ2, iZ3, iEn, lk, List.set_cons_zero, List.set_cons_succ, List.cons_append, List.nil_append, List.replicate_succ, List.replicate_zero, oSub, oLt, oLe, oGt, oGe]
  refine f_draw (by decide) (by decide) fun r r0 r1 => r_add_i ?_
  obtain ⟨k, rfl⟩ := Int.eq_ofNat_of_zero_le r0
  obtain ⟨n, hn⟩ : ∃ n : Nat, (1 : Int) + (k : Int) = n := ⟨1 + k, by omega⟩
  rw [hn]
  have h1 : 1 ≤ n ∧ n ≤ 4 := ⟨by omega, by omega⟩
  simp only [b_law_22, sSeq, sNx, sAsg, sDrop, sRet, sRetN, sIf, sPar, sForK, sNew, sFz, frzM, oApp, oExt, oSet, oIx, oLen, mVar, mC, mOp, mUn, mNot, mAnd, mOr, mIf, mTup, mLst, mCB, mCall, mCallW, mChain, mSl, mFr, mLc, mCl, mEl, mIsi, mRev, mKw, aCons, aNil, oNone, oSome, tT, tNo, tAn, tOo, tOk, gNm, gTp, gs1, gs0, eoLst, eoList, iSq, iR1, iR2, iR3, iZ2, iZ3, iEn, lk, List.set_cons_zero, List.set_cons_succ, List.cons_append, List.nil_append, List.replicate_succ, List.replicate_zero, oSub, oLt, oLe, oGt, oGe]
  refine f_law_kinds (by omega) (by decide) (by decide) fun kss k1 k2 hk => ⟨Nat.le_of_ble_eq_true rfl, f_one (by decide) (by decide) fun e he => ?_⟩
  have he' : ∃ t : Int, e = .int t ∧ 1 ≤ t ∧ t ≤ 400 := by
    simp only [List.mem_cons, List.not_mem_nil, or_false] at he
    rcases he with rfl | rfl | rfl
    · exact ⟨12, rfl, by decide, by decide⟩
    · exact ⟨60, rfl, by decide, by decide⟩
    · exact ⟨400, rfl, by decide, by decide⟩
  obtain ⟨t, rfl, t0, t1⟩ := he'
  refine f_law_small h1 t0 (by omega) fun ns hns hp => ⟨Nat.le_of_ble_eq_true rfl, rfl, ?_⟩
  have c : Cx n kss ns := by
    refine ⟨h1, ⟨k1, k2⟩, fun ss hs => (hk ss hs).wide (by decide), ?_, hns.wide t1, by omega⟩
    exact ⟨_, List.getElem?_eq_getElem (show 0 < kss.length by omega), hk _ (List.getElem_mem _)⟩
  exact s_21 c h
theorem law_true : m_law := by
  unfold m_law
  simp only [b_law, sSeq, sNx, sAsg, sDrop, sRet, sRetN, sIf, sPar, sForK, sNew, sFz, frzM, oApp, oExt, oSet, oIx, oLen, mVar, mC, mOp, mUn, mNot, mAnd, mOr, mIf, mTup, mLst, mCB, mCall, mCallW, mChain, mSl, mFr, mLc, mCl, mEl, mIsi, mRev, mKw, aCons, aNil, oNone, oSome, tT, tNo, tAn, tOo, tOk, gNm, gTp, gs1, gs0, eoLst, eoList, iSq, iR1, iR2, iR3, iZ2, iZ3, iEn, lk, List.set_cons_zero, List.set_cons_succ, List.cons_append, List.nil_append, List.replicate_succ, List.replicate_zero, oSub, oLt, oLe, oGt, oGe, lawEnv, List.replicate]
  refine ⟨⟨by decide, by decide⟩, forK_inv (fun k r => r = [none, some .dck, none, none, none, none, none, none, none, none, none, none, none, none, none, none, none, none, none]) rfl (fun k v r' hk hJ nx hn => ?_) fun r' hJ => ?_⟩
  · subst hJ
    exact s_23 fun r hr => hn r hr
  · subst hJ
    simp only [b_law_1, sSeq, sNx, sAsg, sDrop, sRet, sRetN, sIf, sPar, sForK, sNew, sFz, frzM, oApp, oExt, oSet, oIx, oLen, mVar, mC, mOp, mUn, mNot, mAnd, mOr, mIf, mTup, mLst, mCB, mCall, mCallW, mChain, mSl, mFr, mLc, mCl, mEl, mIsi, mRev, mKw, aCons, aNil, oNone, oSome, tT, tNo, tAn, tOo, tOk, gNm, gTp, gs1, gs0, eoLst, eoList, iSq, iR1, iR2, iR3, iZ2, iZ3, iEn, lk, List.set_cons_zero, List.set_cons_succ, List.cons_append, List.nil_append, List.replicate_succ, List.replicate_zero, oSub, oLt, oLe, oGt, oGe]
end K30
set_option Elab.async false
set_option linter.all false
set_option maxRecDepth 100000
namespace K30
open PySem PySem.Spec PyProof.Rows L2 Evl TB DL MI
set_option maxHeartbeats 0 in
theorem all_mk {l : PySem.W.OpenLaw} {w : World} {K : PySem.W.Frag} {h : Heap} {mg : Str → Option Value} {fa f1 f2 f3 f4 f5 f6 f7 f8 f9 f10 f11 f12 f13 f14 f15 f16 f17 f18 f19 f20 f21 f22 f23 f24 f25 : Addr} (X : K.In h) (G : h.Ns mainGlobals mg) (hfa : mg "law" = some (.ref fa))
    {od1 an1 od2 an2 od3 an3 od4 an4 od5 an5 od6 an6 od7 an7 od8 an8 od9 an9 od10 an10 od11 an11 od12 an12 od13 an13 od14 an14 od15 an15 od16 an16 od17 an17 od18 an18 od19 an19 od20 an20 od21 an21 od22 an22 od23 an23 od24 an24 od25 an25 : Option Addr} {sl1 sl2 sl3 sl4 sl5 sl6 sl7 sl8 sl9 sl10 sl11 sl12 sl13 sl14 sl15 sl16 sl17 sl18 sl19 sl20 sl21 sl22 sl23 sl24 sl25 : Array (Option Value)} {oc1 kV1 dc1 pm1 cd1 ct1 oc2 kV2 dc2 pm2 cd2 ct2 oc3 kV3 dc3 pm3 cd3 ct3 oc4 kV4 dc4 pm4 cd4 ct4 oc5 kV5 dc5 pm5 cd5 ct5 oc6 kV6 dc6 pm6 cd6 ct6 oc7 kV7 dc7 pm7 cd7 ct7 oc8 kV8 dc8 pm8 cd8 ct8 oc9 kV9 dc9 pm9 cd9 ct9 oc10 kV10 dc10 pm10 cd10 ct10 oc11 kV11 dc11 pm11 cd11 ct11 oc12 kV12 dc12 pm12 cd12 ct12 oc13 kV13 dc13 pm13 cd13 ct13 oc14 kV14 dc14 pm14 cd14 ct14 oc15 kV15 dc15 pm15 cd15 ct15 oc16 kV16 dc16 pm16 cd16 ct16 oc17 kV17 dc17 pm17 cd17 ct17 oc18 kV18 dc18 pm18 cd18 ct18 oc19 kV19 dc19 pm19 cd19 ct19 oc20 kV20 dc20 pm20 cd20 ct20 oc21 kV21 dc21 pm21 cd21 ct21 oc22 kV22 dc22 pm22 cd22 ct22 oc23 kV23 dc23 pm23 cd23 ct23 oc24 kV24 dc24 pm24 cd24 ct24 oc25 kV25 dc25 pm25 cd25 ct25 : Value}
    (a1 : PySem.W.nsIn K mainGlobals "is_int" = some (some (.ref f1))) (l1 : K.lookup f1 = some ⟨oc1, od1, .func (PySem.W.fnOf "is_int" "is_int" (defArgs s_is_int) (defBody s_is_int) (defScope s_is_int) .none kV1 dc1 pm1 an1 cd1 ct1), sl1⟩) (c1 : PySem.W.codeIn K cd1 "is_int" = true) (k1 : PySem.W.keepIn K (.ref f1) = true)
    (a2 : PySem.W.nsIn K mainGlobals "grid" = some (some (.ref f2))) (l2 : K.lookup f2 = some ⟨oc2, od2, .func (PySem.W.fnOf "grid" "grid" (defArgs s_grid) (defBody s_grid) (defScope s_grid) .none kV2 dc2 pm2 an2 cd2 ct2), sl2⟩) (c2 : PySem.W.codeIn K cd2 "grid" = true) (k2 : PySem.W.keepIn K (.ref f2) = true)
    (a3 : PySem.W.nsIn K mainGlobals "cells_of" = some (some (.ref f3))) (l3 : K.lookup f3 = some ⟨oc3, od3, .func (PySem.W.fnOf "cells_of" "cells_of" (defArgs s_cells_of) (defBody s_cells_of) (defScope s_cells_of) .none kV3 dc3 pm3 an3 cd3 ct3), sl3⟩) (c3 : PySem.W.codeIn K cd3 "cells_of" = true) (k3 : PySem.W.keepIn K (.ref f3) = true)
    (a4 : PySem.W.nsIn K mainGlobals "covered" = some (some (.ref f4))) (l4 : K.lookup f4 = some ⟨oc4, od4, .func (PySem.W.fnOf "covered" "covered" (defArgs s_covered) (defBody s_covered) (defScope s_covered) .none kV4 dc4 pm4 an4 cd4 ct4), sl4⟩) (c4 : PySem.W.codeIn K cd4 "covered" = true) (k4 : PySem.W.keepIn K (.ref f4) = true)
    (a5 : PySem.W.nsIn K mainGlobals "lies_in" = some (some (.ref f5))) (l5 : K.lookup f5 = some ⟨oc5, od5, .func (PySem.W.fnOf "lies_in" "lies_in" (defArgs s_lies_in) (defBody s_lies_in) (defScope s_lies_in) .none kV5 dc5 pm5 an5 cd5 ct5), sl5⟩) (c5 : PySem.W.codeIn K cd5 "lies_in" = true) (k5 : PySem.W.keepIn K (.ref f5) = true)
    (a6 : PySem.W.nsIn K mainGlobals "corners" = some (some (.ref f6))) (l6 : K.lookup f6 = some ⟨oc6, od6, .func (PySem.W.fnOf "corners" "corners" (defArgs s_corners) (defBody s_corners) (defScope s_corners) .none kV6 dc6 pm6 an6 cd6 ct6), sl6⟩) (c6 : PySem.W.codeIn K cd6 "corners" = true) (k6 : PySem.W.keepIn K (.ref f6) = true)
    (a7 : PySem.W.nsIn K mainGlobals "places" = some (some (.ref f7))) (l7 : K.lookup f7 = some ⟨oc7, od7, .func (PySem.W.fnOf "places" "places" (defArgs s_places) (defBody s_places) (defScope s_places) .none kV7 dc7 pm7 an7 cd7 ct7), sl7⟩) (c7 : PySem.W.codeIn K cd7 "places" = true) (k7 : PySem.W.keepIn K (.ref f7) = true)
    (a8 : PySem.W.nsIn K mainGlobals "_law_deck" = some (some (.ref f8))) (l8 : K.lookup f8 = some ⟨oc8, od8, .func (PySem.W.fnOf "_law_deck" "_law_deck" (defArgs s__law_deck) (defBody s__law_deck) (defScope s__law_deck) .none kV8 dc8 pm8 an8 cd8 ct8), sl8⟩) (c8 : PySem.W.codeIn K cd8 "_law_deck" = true) (k8 : PySem.W.keepIn K (.ref f8) = true)
    (a9 : PySem.W.nsIn K mainGlobals "_law_draw" = some (some (.ref f9))) (l9 : K.lookup f9 = some ⟨oc9, od9, .func (PySem.W.fnOf "_law_draw" "_law_draw" (defArgs s__law_draw) (defBody s__law_draw) (defScope s__law_draw) .none kV9 dc9 pm9 an9 cd9 ct9), sl9⟩) (c9 : PySem.W.codeIn K cd9 "_law_draw" = true) (k9 : PySem.W.keepIn K (.ref f9) = true)
    (a10 : PySem.W.nsIn K mainGlobals "_law_one" = some (some (.ref f10))) (l10 : K.lookup f10 = some ⟨oc10, od10, .func (PySem.W.fnOf "_law_one" "_law_one" (defArgs s__law_one) (defBody s__law_one) (defScope s__law_one) .none kV10 dc10 pm10 an10 cd10 ct10), sl10⟩) (c10 : PySem.W.codeIn K cd10 "_law_one" = true) (k10 : PySem.W.keepIn K (.ref f10) = true)
    (a11 : PySem.W.nsIn K mainGlobals "_law_odd" = some (some (.ref f11))) (l11 : K.lookup f11 = some ⟨oc11, od11, .func (PySem.W.fnOf "_law_odd" "_law_odd" (defArgs s__law_odd) (defBody s__law_odd) (defScope s__law_odd) .none kV11 dc11 pm11 an11 cd11 ct11), sl11⟩) (c11 : PySem.W.codeIn K cd11 "_law_odd" = true) (k11 : PySem.W.keepIn K (.ref f11) = true)
    (a12 : PySem.W.nsIn K mainGlobals "_law_bent" = some (some (.ref f12))) (l12 : K.lookup f12 = some ⟨oc12, od12, .func (PySem.W.fnOf "_law_bent" "_law_bent" (defArgs s__law_bent) (defBody s__law_bent) (defScope s__law_bent) .none kV12 dc12 pm12 an12 cd12 ct12), sl12⟩) (c12 : PySem.W.codeIn K cd12 "_law_bent" = true) (k12 : PySem.W.keepIn K (.ref f12) = true)
    (a13 : PySem.W.nsIn K mainGlobals "_law_whole" = some (some (.ref f13))) (l13 : K.lookup f13 = some ⟨oc13, od13, .func (PySem.W.fnOf "_law_whole" "_law_whole" (defArgs s__law_whole) (defBody s__law_whole) (defScope s__law_whole) .none kV13 dc13 pm13 an13 cd13 ct13), sl13⟩) (c13 : PySem.W.codeIn K cd13 "_law_whole" = true) (k13 : PySem.W.keepIn K (.ref f13) = true)
    (a14 : PySem.W.nsIn K mainGlobals "_law_sides" = some (some (.ref f14))) (l14 : K.lookup f14 = some ⟨oc14, od14, .func (PySem.W.fnOf "_law_sides" "_law_sides" (defArgs s__law_sides) (defBody s__law_sides) (defScope s__law_sides) .none kV14 dc14 pm14 an14 cd14 ct14), sl14⟩) (c14 : PySem.W.codeIn K cd14 "_law_sides" = true) (k14 : PySem.W.keepIn K (.ref f14) = true)
    (a15 : PySem.W.nsIn K mainGlobals "_law_cells" = some (some (.ref f15))) (l15 : K.lookup f15 = some ⟨oc15, od15, .func (PySem.W.fnOf "_law_cells" "_law_cells" (defArgs s__law_cells) (defBody s__law_cells) (defScope s__law_cells) .none kV15 dc15 pm15 an15 cd15 ct15), sl15⟩) (c15 : PySem.W.codeIn K cd15 "_law_cells" = true) (k15 : PySem.W.keepIn K (.ref f15) = true)
    (a16 : PySem.W.nsIn K mainGlobals "_law_moved" = some (some (.ref f16))) (l16 : K.lookup f16 = some ⟨oc16, od16, .func (PySem.W.fnOf "_law_moved" "_law_moved" (defArgs s__law_moved) (defBody s__law_moved) (defScope s__law_moved) .none kV16 dc16 pm16 an16 cd16 ct16), sl16⟩) (c16 : PySem.W.codeIn K cd16 "_law_moved" = true) (k16 : PySem.W.keepIn K (.ref f16) = true)
    (a17 : PySem.W.nsIn K mainGlobals "_law_covered" = some (some (.ref f17))) (l17 : K.lookup f17 = some ⟨oc17, od17, .func (PySem.W.fnOf "_law_covered" "_law_covered" (defArgs s__law_covered) (defBody s__law_covered) (defScope s__law_covered) .none kV17 dc17 pm17 an17 cd17 ct17), sl17⟩) (c17 : PySem.W.codeIn K cd17 "_law_covered" = true) (k17 : PySem.W.keepIn K (.ref f17) = true)
    (a18 : PySem.W.nsIn K mainGlobals "_law_volume" = some (some (.ref f18))) (l18 : K.lookup f18 = some ⟨oc18, od18, .func (PySem.W.fnOf "_law_volume" "_law_volume" (defArgs s__law_volume) (defBody s__law_volume) (defScope s__law_volume) .none kV18 dc18 pm18 an18 cd18 ct18), sl18⟩) (c18 : PySem.W.codeIn K cd18 "_law_volume" = true) (k18 : PySem.W.keepIn K (.ref f18) = true)
    (a19 : PySem.W.nsIn K mainGlobals "_law_places" = some (some (.ref f19))) (l19 : K.lookup f19 = some ⟨oc19, od19, .func (PySem.W.fnOf "_law_places" "_law_places" (defArgs s__law_places) (defBody s__law_places) (defScope s__law_places) .none kV19 dc19 pm19 an19 cd19 ct19), sl19⟩) (c19 : PySem.W.codeIn K cd19 "_law_places" = true) (k19 : PySem.W.keepIn K (.ref f19) = true)
    (a20 : PySem.W.nsIn K mainGlobals "_law_is_placed" = some (some (.ref f20))) (l20 : K.lookup f20 = some ⟨oc20, od20, .func (PySem.W.fnOf "_law_is_placed" "_law_is_placed" (defArgs s__law_is_placed) (defBody s__law_is_placed) (defScope s__law_is_placed) .none kV20 dc20 pm20 an20 cd20 ct20), sl20⟩) (c20 : PySem.W.codeIn K cd20 "_law_is_placed" = true) (k20 : PySem.W.keepIn K (.ref f20) = true)
    (a21 : PySem.W.nsIn K mainGlobals "_law_small" = some (some (.ref f21))) (l21 : K.lookup f21 = some ⟨oc21, od21, .func (PySem.W.fnOf "_law_small" "_law_small" (defArgs s__law_small) (defBody s__law_small) (defScope s__law_small) .none kV21 dc21 pm21 an21 cd21 ct21), sl21⟩) (c21 : PySem.W.codeIn K cd21 "_law_small" = true) (k21 : PySem.W.keepIn K (.ref f21) = true)
    (a22 : PySem.W.nsIn K mainGlobals "_law_kinds" = some (some (.ref f22))) (l22 : K.lookup f22 = some ⟨oc22, od22, .func (PySem.W.fnOf "_law_kinds" "_law_kinds" (defArgs s__law_kinds) (defBody s__law_kinds) (defScope s__law_kinds) .none kV22 dc22 pm22 an22 cd22 ct22), sl22⟩) (c22 : PySem.W.codeIn K cd22 "_law_kinds" = true) (k22 : PySem.W.keepIn K (.ref f22) = true)
    (a23 : PySem.W.nsIn K mainGlobals "_law_great" = some (some (.ref f23))) (l23 : K.lookup f23 = some ⟨oc23, od23, .func (PySem.W.fnOf "_law_great" "_law_great" (defArgs s__law_great) (defBody s__law_great) (defScope s__law_great) .none kV23 dc23 pm23 an23 cd23 ct23), sl23⟩) (c23 : PySem.W.codeIn K cd23 "_law_great" = true) (k23 : PySem.W.keepIn K (.ref f23) = true)
    (a24 : PySem.W.nsIn K mainGlobals "law" = some (some (.ref f24))) (l24 : K.lookup f24 = some ⟨oc24, od24, .func (PySem.W.fnOf "law" "law" (defArgs s_law) (defBody s_law) (defScope s_law) .none kV24 dc24 pm24 an24 cd24 ct24), sl24⟩) (c24 : PySem.W.codeIn K cd24 "law" = true) (k24 : PySem.W.keepIn K (.ref f24) = true)
    (a25 : PySem.W.nsIn K mainGlobals "is_index" = some (some (.ref f25))) (l25 : K.lookup f25 = some ⟨oc25, od25, .func (PySem.W.fnOf "is_index" "is_index" (defArgs s_is_index) (defBody s_is_index) (defScope s_is_index) .none kV25 dc25 pm25 an25 cd25 ct25), sl25⟩) (c25 : PySem.W.codeIn K cd25 "is_index" = true) (k25 : PySem.W.keepIn K (.ref f25) = true)
    (z_abs : PySem.W.nsIn K mainGlobals "abs" = some none)
    (z_bool : PySem.W.nsIn K mainGlobals "bool" = some none)
    (z_enumerate : PySem.W.nsIn K mainGlobals "enumerate" = some none)
    (z_int : PySem.W.nsIn K mainGlobals "int" = some none)
    (z_isinstance : PySem.W.nsIn K mainGlobals "isinstance" = some none)
    (z_len : PySem.W.nsIn K mainGlobals "len" = some none)
    (z_list : PySem.W.nsIn K mainGlobals "list" = some none)
    (z_max : PySem.W.nsIn K mainGlobals "max" = some none)
    (z_min : PySem.W.nsIn K mainGlobals "min" = some none)
    (z_range : PySem.W.nsIn K mainGlobals "range" = some none)
    (z_repr : PySem.W.nsIn K mainGlobals "repr" = some none)
    (z_str : PySem.W.nsIn K mainGlobals "str" = some none)
    (z_tuple : PySem.W.nsIn K mainGlobals "tuple" = some none)
    (z_zip : PySem.W.nsIn K mainGlobals "zip" = some none)
    : ∃ fd : FuncData, (∀ (s : Shared) (v : Value), BindsTo s fd ⟨[v], []⟩ [("_law_script", v)]) ∧ ∀ base : Heap, K.In base → base.Ns mainGlobals mg → TB.AtTop l.prog w K mg base fa fd "_law_script" (MI.spLaw K) := by
  have e := hfa.symm.trans (PySem.W.mg_of X G a24)
  cases e
  have T : Txt mg := ⟨PySem.W.mg_none_of X G z_abs, PySem.W.mg_none_of X G z_bool, PySem.W.mg_none_of X G z_enumerate, PySem.W.mg_none_of X G z_int, PySem.W.mg_none_of X G z_isinstance, PySem.W.mg_none_of X G z_len, PySem.W.mg_none_of X G z_list, PySem.W.mg_none_of X G z_max, PySem.W.mg_none_of X G z_min, PySem.W.mg_none_of X G z_range, PySem.W.mg_none_of X G z_repr, PySem.W.mg_none_of X G z_str, PySem.W.mg_none_of X G z_tuple, PySem.W.mg_none_of X G z_zip⟩
  have F1 := fun_mk (st := s_is_int) l1 c1 k1
  have F2 := fun_mk (st := s_grid) l2 c2 k2
  have F3 := fun_mk (st := s_cells_of) l3 c3 k3
  have F4 := fun_mk (st := s_covered) l4 c4 k4
  have F5 := fun_mk (st := s_lies_in) l5 c5 k5
  have F6 := fun_mk (st := s_corners) l6 c6 k6
  have F7 := fun_mk (st := s_places) l7 c7 k7
  have F8 := fun_mk (st := s__law_deck) l8 c8 k8
  have F9 := fun_mk (st := s__law_draw) l9 c9 k9
  have F10 := fun_mk (st := s__law_one) l10 c10 k10
  have F11 := fun_mk (st := s__law_odd) l11 c11 k11
  have F12 := fun_mk (st := s__law_bent) l12 c12 k12
  have F13 := fun_mk (st := s__law_whole) l13 c13 k13
  have F14 := fun_mk (st := s__law_sides) l14 c14 k14
  have F15 := fun_mk (st := s__law_cells) l15 c15 k15
  have F16 := fun_mk (st := s__law_moved) l16 c16 k16
  have F17 := fun_mk (st := s__law_covered) l17 c17 k17
  have F18 := fun_mk (st := s__law_volume) l18 c18 k18
  have F19 := fun_mk (st := s__law_places) l19 c19 k19
  have F20 := fun_mk (st := s__law_is_placed) l20 c20 k20
  have F21 := fun_mk (st := s__law_small) l21 c21 k21
  have F22 := fun_mk (st := s__law_kinds) l22 c22 k22
  have F23 := fun_mk (st := s__law_great) l23 c23 k23
  have F25 := fun_mk (st := s_is_index) l25 c25 k25
  have F24 := fun_mk (st := s_law) l24 c24 k24
  refine ⟨PySem.W.fnOf "law" "law" (defArgs s_law) (defBody s_law) (defScope s_law) .none kV24 dc24 pm24 an24 cd24 ct24, fun s v => .of_eq rfl, fun base _ _ => ?_⟩
  have o_is_int := ok_is_int (P := l.prog) (w := w) (base := base) T F1 
  have h_is_int := TB.keeps_of (F := F1) (PySem.W.mg_of X G a1) (F1.binds (ps := p_is_int) fun _ _ _ _ _ _ us hl => match us, hl with | [_], _ => rfl) (o_is_int)
  have o_grid := ok_grid (P := l.prog) (w := w) (base := base) T F2 
  have h_grid := TB.keeps_of (F := F2) (PySem.W.mg_of X G a2) (F2.binds (ps := p_grid) fun _ _ _ _ _ _ us hl => match us, hl with | [_, _, _], _ => rfl) (o_grid)
  have o_cells_of := ok_cells_of (P := l.prog) (w := w) (base := base) T F3 h_grid
  have h_cells_of := TB.keeps_of (F := F3) (PySem.W.mg_of X G a3) (F3.binds (ps := p_cells_of) fun _ _ _ _ _ _ us hl => match us, hl with | [_], _ => rfl) (o_cells_of)
  have o_covered := ok_covered (P := l.prog) (w := w) (base := base) T F4 h_grid
  have h_covered := TB.keeps_of (F := F4) (PySem.W.mg_of X G a4) (F4.binds (ps := p_covered) fun _ _ _ _ _ _ us hl => match us, hl with | [_, _], _ => rfl) (o_covered)
  have o_is_index := ok_is_index (P := l.prog) (w := w) (base := base) T F25 h_is_int
  have h_is_index := TB.keeps_of (F := F25) (PySem.W.mg_of X G a25) (F25.binds (ps := p_is_index) fun _ _ _ _ _ _ us hl => match us, hl with | [_, _], _ => rfl) (o_is_index)
  have o_lies_in := ok_lies_in (P := l.prog) (w := w) (base := base) T F5 h_is_int h_is_index
  have h_lies_in := TB.keeps_of (F := F5) (PySem.W.mg_of X G a5) (F5.binds (ps := p_lies_in) fun _ _ _ _ _ _ us hl => match us, hl with | [_, _, _], _ => rfl) (o_lies_in)
  have o_corners := ok_corners (P := l.prog) (w := w) (base := base) T F6 h_cells_of
  have h_corners := TB.keeps_of (F := F6) (PySem.W.mg_of X G a6) (F6.binds (ps := p_corners) fun _ _ _ _ _ _ us hl => match us, hl with | [_, _], _ => rfl) (o_corners)
  have o_places := ok_places (P := l.prog) (w := w) (base := base) T F7 h_corners
  have h_places := TB.keeps_of (F := F7) (PySem.W.mg_of X G a7) (F7.binds (ps := p_places) fun _ _ _ _ _ _ us hl => match us, hl with | [_, _], _ => rfl) (o_places)
  have kb_places_box_kinds : KwAt l.prog w K mg base 4 "places" p_places ["box", "kinds"] [1, 0] (SpM m_places) := ⟨_, _, PySem.W.mg_of X G a7, F7.kp, o_places, fun s ws hl => by
    rcases ws with _ | ⟨_, _ | ⟨_, _⟩⟩ <;> first | (simp [permL, p_places] at hl; done) | exact .of_eq rfl⟩
  have o__law_deck := ok__law_deck (P := l.prog) (w := w) (base := base) T F8 
  have h__law_deck := TB.keeps_of (F := F8) (PySem.W.mg_of X G a8) (F8.binds (ps := p__law_deck) fun _ _ _ _ _ _ us hl => match us, hl with | [_], _ => rfl) (o__law_deck)
  have o__law_draw := ok__law_draw (P := l.prog) (w := w) (base := base) T F9 
  have h__law_draw_o := TB.keeps_of (F := F9) (PySem.W.mg_of X G a9) (F9.binds (ps := p__law_draw) fun _ _ _ _ _ _ us hl => match us, hl with | [_, _], _ => rfl) (o__law_draw)
  have h__law_draw := DL.Keeps.imp h__law_draw_o fun _ _ _ _ => MI.draw_impM
  have o__law_one := ok__law_one (P := l.prog) (w := w) (base := base) T F10 h__law_draw_o
  have h__law_one_o := TB.keeps_of (F := F10) (PySem.W.mg_of X G a10) (F10.binds (ps := p__law_one) fun _ _ _ _ _ _ us hl => match us, hl with | [_, _], _ => rfl) (o__law_one)
  have h__law_one := DL.Keeps.imp h__law_one_o fun _ _ _ _ => MI.one_impM
  have o__law_odd := ok__law_odd (P := l.prog) (w := w) (base := base) T F11 h__law_one
  have h__law_odd := TB.keeps_of (F := F11) (PySem.W.mg_of X G a11) (F11.binds (ps := p__law_odd) fun _ _ _ _ _ _ us hl => match us, hl with | [_], _ => rfl) (o__law_odd)
  have o__law_bent := ok__law_bent (P := l.prog) (w := w) (base := base) T F12 (PySem.W.mg_of X G a12) (F12.binds (ps := p__law_bent) fun _ _ _ _ _ _ us hl => match us, hl with | [_, _, _], _ => rfl) h__law_draw h__law_one h__law_odd 3
  have h__law_bent := TB.keeps_of (F := F12) (PySem.W.mg_of X G a12) (F12.binds (ps := p__law_bent) fun _ _ _ _ _ _ us hl => match us, hl with | [_, _, _], _ => rfl) (o__law_bent)
  have o__law_whole := ok__law_whole (P := l.prog) (w := w) (base := base) T F13 
  have h__law_whole := TB.keeps_of (F := F13) (PySem.W.mg_of X G a13) (F13.binds (ps := p__law_whole) fun _ _ _ _ _ _ us hl => match us, hl with | [_, _, _], _ => rfl) (o__law_whole)
  have o__law_sides := ok__law_sides (P := l.prog) (w := w) (base := base) T F14 h__law_draw
  have h__law_sides := TB.keeps_of (F := F14) (PySem.W.mg_of X G a14) (F14.binds (ps := p__law_sides) fun _ _ _ _ _ _ us hl => match us, hl with | [_, _, _], _ => rfl) (o__law_sides)
  have o__law_cells := ok__law_cells (P := l.prog) (w := w) (base := base) T F15 
  have h__law_cells := TB.keeps_of (F := F15) (PySem.W.mg_of X G a15) (F15.binds (ps := p__law_cells) fun _ _ _ _ _ _ us hl => match us, hl with | [_], _ => rfl) (o__law_cells)
  have o__law_moved := ok__law_moved (P := l.prog) (w := w) (base := base) T F16 
  have h__law_moved := TB.keeps_of (F := F16) (PySem.W.mg_of X G a16) (F16.binds (ps := p__law_moved) fun _ _ _ _ _ _ us hl => match us, hl with | [_, _], _ => rfl) (o__law_moved)
  have o__law_covered := ok__law_covered (P := l.prog) (w := w) (base := base) T F17 h__law_cells h__law_moved
  have h__law_covered := TB.keeps_of (F := F17) (PySem.W.mg_of X G a17) (F17.binds (ps := p__law_covered) fun _ _ _ _ _ _ us hl => match us, hl with | [_, _], _ => rfl) (o__law_covered)
  have o__law_volume := ok__law_volume (P := l.prog) (w := w) (base := base) T F18 
  have h__law_volume := TB.keeps_of (F := F18) (PySem.W.mg_of X G a18) (F18.binds (ps := p__law_volume) fun _ _ _ _ _ _ us hl => match us, hl with | [_], _ => rfl) (o__law_volume)
  have o__law_places := ok__law_places (P := l.prog) (w := w) (base := base) T F19 h__law_cells
  have h__law_places := TB.keeps_of (F := F19) (PySem.W.mg_of X G a19) (F19.binds (ps := p__law_places) fun _ _ _ _ _ _ us hl => match us, hl with | [_, _], _ => rfl) (o__law_places)
  have o__law_is_placed := ok__law_is_placed (P := l.prog) (w := w) (base := base) T F20 h__law_whole
  have h__law_is_placed := TB.keeps_of (F := F20) (PySem.W.mg_of X G a20) (F20.binds (ps := p__law_is_placed) fun _ _ _ _ _ _ us hl => match us, hl with | [_, _, _], _ => rfl) (o__law_is_placed)
  have o__law_small := ok__law_small (P := l.prog) (w := w) (base := base) T F21 h__law_draw
  have h__law_small := TB.keeps_of (F := F21) (PySem.W.mg_of X G a21) (F21.binds (ps := p__law_small) fun _ _ _ _ _ _ us hl => match us, hl with | [_, _, _], _ => rfl) (o__law_small)
  have o__law_kinds := ok__law_kinds (P := l.prog) (w := w) (base := base) T F22 h__law_draw h__law_sides
  have h__law_kinds := TB.keeps_of (F := F22) (PySem.W.mg_of X G a22) (F22.binds (ps := p__law_kinds) fun _ _ _ _ _ _ us hl => match us, hl with | [_, _, _], _ => rfl) (o__law_kinds)
  have o__law_great := ok__law_great (P := l.prog) (w := w) (base := base) T F23 h__law_draw h__law_one
  have h__law_great := TB.keeps_of (F := F23) (PySem.W.mg_of X G a23) (F23.binds (ps := p__law_great) fun _ _ _ _ _ _ us hl => match us, hl with | [_, _], _ => rfl) (o__law_great)
  exact ok_law T F24 h__law_deck h_covered h_lies_in h_places h__law_draw h__law_one h__law_odd h__law_bent h__law_covered h__law_volume h__law_places h__law_is_placed h__law_small h__law_kinds h__law_great kb_places_box_kinds law_true
end K30
open PySem PySem.W PyProof.Rows
set_option maxHeartbeats 0 in
theorem PySem.Challenge.cw_twobricks_k30_placed_bricks_holds : PySem.Challenge.rw_twobricks_k30_placed_bricks.Holds := by
  w_on; o_law; k_head; (case hw => w_witness2)
  k_fill
  refine TB.walk_top (l := PySem.Challenge.rw_twobricks_k30_placed_bricks) (n := 63) (x := "_law_script") (sp := fun w => MI.spLaw _) rfl (by decide) rfl (fun w h Y => PySem.W.kIn_of Y) ?F (fun _ _ a ns hl _ _ hS => MI.sp_start hl hS)
  case F =>
    intro w mg fa h KX G hmg
    refine' K30.all_mk KX G hmg ?a1 ?l1 ?c1 ?k1 ?a2 ?l2 ?c2 ?k2 ?a3 ?l3 ?c3 ?k3 ?a4 ?l4 ?c4 ?k4 ?a5 ?l5 ?c5 ?k5 ?a6 ?l6 ?c6 ?k6 ?a7 ?l7 ?c7 ?k7 ?a8 ?l8 ?c8 ?k8 ?a9 ?l9 ?c9 ?k9 ?a10 ?l10 ?c10 ?k10 ?a11 ?l11 ?c11 ?k11 ?a12 ?l12 ?c12 ?k12 ?a13 ?l13 ?c13 ?k13 ?a14 ?l14 ?c14 ?k14 ?a15 ?l15 ?c15 ?k15 ?a16 ?l16 ?c16 ?k16 ?a17 ?l17 ?c17 ?k17 ?a18 ?l18 ?c18 ?k18 ?a19 ?l19 ?c19 ?k19 ?a20 ?l20 ?c20 ?k20 ?a21 ?l21 ?c21 ?k21 ?a22 ?l22 ?c22 ?k22 ?a23 ?l23 ?c23 ?k23 ?a24 ?l24 ?c24 ?k24 ?a25 ?l25 ?c25 ?k25 ?z_abs ?z_bool ?z_enumerate ?z_int ?z_isinstance ?z_len ?z_list ?z_max ?z_min ?z_range ?z_repr ?z_str ?z_tuple ?z_zip
    (case a1 => k_is)
    (case l1 => k_is)
    (case c1 => k_is)
    (case k1 => k_is)
    (case a2 => k_is)
    (case l2 => k_is)
    (case c2 => k_is)
    (case k2 => k_is)
    (case a3 => k_is)
    (case l3 => k_is)
    (case c3 => k_is)
    (case k3 => k_is)
    (case a4 => k_is)
    (case l4 => k_is)
    (case c4 => k_is)
    (case k4 => k_is)
    (case a5 => k_is)
    (case l5 => k_is)
    (case c5 => k_is)
    (case k5 => k_is)
    (case a6 => k_is)
    (case l6 => k_is)
    (case c6 => k_is)
    (case k6 => k_is)
    (case a7 => k_is)
    (case l7 => k_is)
    (case c7 => k_is)
    (case k7 => k_is)
    (case a8 => k_is)
    (case l8 => k_is)
    (case c8 => k_is)
    (case k8 => k_is)
    (case a9 => k_is)
    (case l9 => k_is)
    (case c9 => k_is)
    (case k9 => k_is)
    (case a10 => k_is)
    (case l10 => k_is)
    (case c10 => k_is)
    (case k10 => k_is)
    (case a11 => k_is)
    (case l11 => k_is)
    (case c11 => k_is)
    (case k11 => k_is)
    (case a12 => k_is)
    (case l12 => k_is)
    (case c12 => k_is)
    (case k12 => k_is)
    (case a13 => k_is)
    (case l13 => k_is)
    (case c13 => k_is)
    (case k13 => k_is)
    (case a14 => k_is)
    (case l14 => k_is)
    (case c14 => k_is)
    (case k14 => k_is)
    (case a15 => k_is)
    (case l15 => k_is)
    (case c15 => k_is)
    (case k15 => k_is)
    (case a16 => k_is)
    (case l16 => k_is)
    (case c16 => k_is)
    (case k16 => k_is)
    (case a17 => k_is)
    (case l17 => k_is)
    (case c17 => k_is)
    (case k17 => k_is)
    (case a18 => k_is)
    (case l18 => k_is)
    (case c18 => k_is)
    (case k18 => k_is)
    (case a19 => k_is)
    (case l19 => k_is)
    (case c19 => k_is)
    (case k19 => k_is)
    (case a20 => k_is)
    (case l20 => k_is)
    (case c20 => k_is)
    (case k20 => k_is)
    (case a21 => k_is)
    (case l21 => k_is)
    (case c21 => k_is)
    (case k21 => k_is)
    (case a22 => k_is)
    (case l22 => k_is)
    (case c22 => k_is)
    (case k22 => k_is)
    (case a23 => k_is)
    (case l23 => k_is)
    (case c23 => k_is)
    (case k23 => k_is)
    (case a24 => k_is)
    (case l24 => k_is)
    (case c24 => k_is)
    (case k24 => k_is)
    (case a25 => k_is)
    (case l25 => k_is)
    (case c25 => k_is)
    (case k25 => k_is)
    (case z_abs => k_is)
    (case z_bool => k_is)
    (case z_enumerate => k_is)
    (case z_int => k_is)
    (case z_isinstance => k_is)
    (case z_len => k_is)
    (case z_list => k_is)
    (case z_max => k_is)
    (case z_min => k_is)
    (case z_range => k_is)
    (case z_repr => k_is)
    (case z_str => k_is)
    (case z_tuple => k_is)
    (case z_zip => k_is)
