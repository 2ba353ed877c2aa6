import PyProof.Rows.All
import Wide.All
import OpenK.AllK
import Wide.FinOn
import HandS.ForMost
import HandS.Wide
import HandS.EndBits
import HandS.TupAny
import HandS.Style
import HandS.IsInst
import HandS.Evl
import PyProof.ReprRoads
import KE.KIntText
import PySem.Challenge.RW_twobricks_k04_texts_there_and_back
set_option Elab.async false
set_option linter.all false
set_option maxRecDepth 100000
/-! The base of the law proofs of Twobricks: repr of data, the end of a row whose law asks repr (its guards told). -/
namespace TB
open PySem PySem.Spec PyProof.Rows L2
/-! ### data in the abstract heap, dicts of nothing among them -/
mutual
inductive Rp (K : PySem.W.Frag) (H : Hp) : V → PyData → Prop
  | non : Rp K H .non .none
  | bl (b : Bool) : Rp K H (.bl b) (.bool b)
  | int (i : Int) : Rp K H (.int i) (.int i)
  | str (x : Str) : Rp K H (.str x) (.str x)
  | lst {a : Addr} {xs : List V} {ds : List PyData} : SqL K H a xs → RpAll K H xs ds → Rp K H (.ref a) (.list ds)
  | tup {a : Addr} {xs : List V} {ds : List PyData} : SqT K H a xs → RpAll K H xs ds → Rp K H (.ref a) (.tuple ds)
inductive RpAll (K : PySem.W.Frag) (H : Hp) : List V → List PyData → Prop
  | nil : RpAll K H [] []
  | cons {v : V} {vs : List V} {d : PyData} {ds : List PyData} : Rp K H v d → RpAll K H vs ds → RpAll K H (v :: vs) (d :: ds)
end
section
variable {X : Cx} {pins : List (Addr × Obj)} {σ : L2.St} {H : Hp} {s : Shared}
mutual
theorem Rp.reads (J : Inv X pins σ H s) : ∀ (e : PyData) (z : V) (y : Value), Rp X.K H z e → RelV z y → (∃ as, Reads s.heap y e as) ∧ e.hasDict = false
  | .none, _, _, q, r => by
    cases q; cases r
    exact ⟨⟨_, Reads.none⟩, rfl⟩
  | .bool c, _, _, q, r => by
    cases q; cases r
    exact ⟨⟨_, Reads.bool c⟩, rfl⟩
  | .int j, _, _, q, r => by
    cases q
    obtain ⟨tk, rfl⟩ := r
    exact ⟨⟨_, Reads.int j tk⟩, rfl⟩
  | .str y, _, _, q, r => by
    cases q
    obtain ⟨tk, rfl⟩ := r
    exact ⟨⟨_, Reads.str y tk⟩, rfl⟩
  | .list es, _, _, q, r => by
    cases q with
    | lst hq hz =>
      cases r
      obtain ⟨iq, rz, ⟨oq, nq, hoq, hcq, _, hdq⟩, _⟩ := J.list hq
      obtain ⟨⟨as, hr⟩, hn⟩ := Rp.readsAll J es _ iq hz rz
      exact ⟨⟨_, Reads.list hoq hcq hdq hr⟩, hn⟩
  | .tuple es, _, _, q, r => by
    cases q with
    | tup hq hz =>
      cases r
      obtain ⟨iq, rz, ⟨oq, hoq, hcq, nq, hdq⟩, _⟩ := J.tuple hq
      obtain ⟨⟨as, hr⟩, hn⟩ := Rp.readsAll J es _ iq hz rz
      exact ⟨⟨_, Reads.tuple hoq hcq hdq hr⟩, hn⟩
  | .dict _, _, _, q, _ => by cases q
theorem Rp.readsAll (J : Inv X pins σ H s) : ∀ (es : List PyData) (zs : List V) (ys : List Value), RpAll X.K H zs es → Vals zs ys → (∃ as, ReadsAll s.heap ys es as) ∧ PyData.hasDictAll es = false
  | [], _, _, q, r => by
    cases q; cases r
    exact ⟨⟨_, ReadsAll.nil⟩, rfl⟩
  | e :: es, _, _, q, r => by
    cases q with
    | cons q1 q2 =>
      cases r with
      | cons r1 r2 =>
        obtain ⟨⟨as, g1⟩, n1⟩ := Rp.reads J e _ _ q1 r1
        obtain ⟨⟨bs, g2⟩, n2⟩ := Rp.readsAll J es _ _ q2 r2
        exact ⟨⟨_, ReadsAll.cons g1 g2⟩, by rw [PyData.hasDictAll, n1, n2]; rfl⟩
end
end
def rRep (K : PySem.W.Frag) : List V → Hp → VK → Prop := fun xs H Q =>
  ∃ z e, xs = [z] ∧ Rp K H z e ∧ e.showable = true ∧ e.depth < 60 ∧ e.shown.length ≤ sizeLine ∧ Q (.str e.shown) H
theorem call_repr {X : Cx} (hg : X.A.guards = some []) (hu : X.A.units + 64 < cLine) : CallR X (.builtin "repr") (rRep X.K) := by
  intro pins s σ H xs us Q J r h
  obtain ⟨z, e, rfl, hz, hs, hd, hl, q⟩ := h
  obtain ⟨u, rfl, ru⟩ := vals1 r
  obtain ⟨⟨as, hr⟩, hn⟩ := Rp.reads J e z u hz ru
  cases hz with
  | non =>
    cases ru
    exact PySem.P.repr_of_none ⟨.str _, H, J.tok _, ⟨_, rfl⟩, q⟩
  | bl b =>
    cases ru
    exact PySem.P.repr_of_bool ⟨.str _, H, J.tok _, ⟨_, rfl⟩, by cases b <;> exact q⟩
  | int i =>
    obtain ⟨t, rfl⟩ := ru
    exact PySem.P.repr_of_int (of_decide_eq_true hs) ⟨.str _, H, J.tok _, ⟨_, rfl⟩, q⟩
  | str x =>
    obtain ⟨t, rfl⟩ := ru
    exact PySem.P.repr_of_str (hsz := hl) ⟨.str _, H, J.tok _, ⟨_, rfl⟩, q⟩
  | lst h1 h2 =>
    cases ru
    exact repr_of_reads' hr hs (fun hx => by rw [hn] at hx; cases hx) hg (by omega) (fun b o e => e) (fun h' u tk hk => ⟨.str _, H, J.kept hk, ⟨_, rfl⟩, q⟩) hl
  | tup h1 h2 =>
    cases ru
    exact repr_of_reads' hr hs (fun hx => by rw [hn] at hx; cases hx) hg (by omega) (fun b o e => e) (fun h' u tk hk => ⟨.str _, H, J.kept hk, ⟨_, rfl⟩, q⟩) hl
/-! ### a def that is called from the row's own caller, its guards known -/
/-- what the def at fa does, called by the row's caller -/
def AtTop (P : Program) (w : World) (K : PySem.W.Frag) (mg : Str → Option Value) (base : Heap) (fa : Addr) (fd : FuncData) (x : Str) (sp : Sp) : Prop :=
  ∀ (s : Shared) (H : Hp) (u : Value) (v : V) (Q : VK) (E : XK), Env0 P w K mg base callerA [] s H → BindsTo s fd ⟨[u], []⟩ [(x, u)] → RelV v u → sp [v] H Q E →
    codeAny (model P w) callerA (.call (.ref fa) ⟨[u], []⟩) (CR CX0 [] P w H s Q E) s
theorem atTop_of {P : Program} {w : World} {K : PySem.W.Frag} {mg : Str → Option Value} {base : Heap} {k : Nat} {x qual : Str} {st : Stmt} {f : Addr} {fd : FuncData} {N : List Str} {arg : Str} {sp : Sp}
    (F : Fun K x qual st f fd) (S : FnScope N [arg] (defScope st)) (hrm : Room (k + 1) callerA)
    (hbody : ∀ (cdv : Value) (s : Shared) (H : Hp) (v : V) (Q : VK) (E : XK), Room k (callerA.deeper (envOfC qual (defScope st) s.heap.objs.size f cdv)) → sp [v] H Q E →
      ∃ t, PSs (cxOf CX0 P w K mg base N qual (defScope st) f cdv callerA [] s H E).nox (defBody st) t ∧ t { nx := fun _ H' => Q .non H', rt := Q } (start N [v]) H) :
    AtTop P w K mg base f fd arg sp := by
  intro s H u v Q E e0 hb rv hsp
  obtain ⟨oc, od, kV, doc, pm, an, cdv, ct, osl, rfl, lk, hcd⟩ := F.ex
  have kin : K.In s.heap := e0.mod.kin.keeps fun b o q => (e0.bs b o q).1
  have nolim : s.heap.NoLimit := e0.mod.nolimit.keeps fun b o q => (e0.bs b o q).1
  have kinds : ∀ y ∈ [arg].zip [u], (defScope st).names.lookup y.1 = some .local ∨ ((defScope st).names.lookup y.1 = some .cell ∧ ((cellsFrom (s.heap.objs.size + 1) (defScope st).names []).lookup y.1).isSome = true) := fun ⟨m, z⟩ hy => by
    rcases S.par m (List.of_mem_zip hy).1 with c | c
    · exact .inl c
    · exact .inr ⟨c, PySem.W.cellsFrom_some _ _ _ (.inl c)⟩
  refine codeAny_call_function hrm.depth (kin _ _ lk) rfl S.co S.gen rfl (PySem.W.codeRec_of kin hcd) (hb _ _ _ _ ?_)
  refine wpAny_newFunctionEnv_cells S.kind kinds fun env henv s1 hin => ?_
  subst henv
  refine ⟨nolim.keeps hin.toInCall.keep, codeAny_func ?_⟩
  obtain ⟨t, ht, hq⟩ := hbody cdv s H v Q E (hrm.deeper _) hsp
  have J := inv_start (CX := CX0) (E := E) S hrm.hd e0 (vs := [v]) rfl (.cons rv .nil) hin
  refine wpAny_mono (ht.nox.run [] s1 (start N [v]) H _ J hq) (fun fl s' hs => ?_) fun _ _ hs => hs
  have done : ∀ {τ : L2.St} {H' : Hp} {z : V} {y : Value}, Inv (cxOf CX0 P w K mg base N qual (defScope st) f cdv callerA [] s H E) [] τ H' s' → RelV z y → Q z H' → CE [] P w H s Q y s' :=
    fun {τ H' z y} I r q => ⟨z, H', I.os, I.bare, I.base, I.hok, r, q⟩
  cases fl with
  | ret y =>
    obtain ⟨z, τ, H', I, r, q⟩ := hs
    exact done I r q
  | next =>
    obtain ⟨τ, H', I, q⟩ := hs
    exact done (z := V.non) (y := Value.none) I rfl q
  | brk =>
    obtain ⟨_, _, _, q⟩ := hs
    exact q.elim
  | cont =>
    obtain ⟨_, _, _, q⟩ := hs
    exact q.elim
theorem law_top {P : Program} {w : World} {K : PySem.W.Frag} {mg mb : Str → Option Value} {fa a : Addr} {fd : FuncData} {x : Str} {sp : Sp} {s₁ : Shared} {vs : List Value} {ns : List Int}
    (kin : K.In s₁.heap) (gn : s₁.heap.Ns mainGlobals mg) (bn : s₁.heap.Ns builtinsNs mb) (bnb : ∀ y : Str, y ≠ "__name__" → mb y = bootBuiltins y) (nolim : s₁.heap.NoLimit) (gens : s₁.gens = #[])
    (ho : s₁.heap.get? a = some { cls := .type "list", data := .seq vs.toArray }) (hi : IntsAre vs ns) (hl : ns.length ≤ sizeLine)
    (F : ∀ base : Heap, K.In base → base.Ns mainGlobals mg → AtTop P w K mg base fa fd x sp) (hb : ∀ (s : Shared) (u : Value), BindsTo s fd ⟨[u], []⟩ [(x, u)])
    (hsp : ∀ H : Hp, Only H → SqL K H a (ns.map V.int) → sp [.ref a] H (fun v _ => v = .bl true) fun _ _ _ => False) :
    codeAny (model P w) callerA (.call (.ref fa) ⟨[.ref a], []⟩) (fun r s' => r = .ok (.ret (.bool true)) ∧ OldK s₁.heap s'.heap ∧ s'.os = s₁.os ∧ AllBare s'.gens) s₁ := by
  have rv := vals_ints hi
  have main : ∀ H : Hp, Only H → SqL K H a (ns.map V.int) → HOk P w H s₁.heap → (∀ b, H b ≠ none → b = a) → (H a ≠ none → K.lookup a = none) →
      codeAny (model P w) callerA (.call (.ref fa) ⟨[.ref a], []⟩) (fun r s' => r = .ok (.ret (.bool true)) ∧ OldK s₁.heap s'.heap ∧ s'.os = s₁.os ∧ AllBare s'.gens) s₁ := by
    intro H only hS hok onlyA noK
    have notA : ∀ {b : Addr} {o : Obj} {es : Array DictEntry} {n : Nat}, s₁.heap.get? b = some o → o.data = .dict es n → H b = none := fun {b o es n} e d => by
      cases q : H b with
      | none => rfl
      | some u =>
        have eb : b = a := onlyA b (by rw [q]; simp)
        subst eb
        rw [ho] at e
        cases e
        exact nomatch d
    have keepNs : ∀ {b : Addr} {m : Str → Option Value}, s₁.heap.Ns b m → (hidT s₁.heap H).Ns b m := fun {b m} ⟨o, es, n, e, d, r⟩ => ⟨o, es, n, hidT_get e (notA e d), d, r⟩
    have kinT : K.In (hidT s₁.heap H) := fun b o e => hidT_get (kin b o e) (by
      cases q : H b with
      | none => rfl
      | some u =>
        have eb : b = a := onlyA b (by rw [q]; simp)
        subst eb
        rw [noK (by rw [q]; simp)] at e
        cases e)
    have hM : Mod K mg (hidT s₁.heap H) := ⟨kinT, keepNs gn, ⟨mb, keepNs bn, bnb⟩, let ⟨mc, c1, c2⟩ := nolim; ⟨mc, keepNs c1, c2⟩⟩
    have e0 : Env0 P w K mg (hidT s₁.heap H) callerA [] s₁ H := ⟨rfl, hM, fun b o e => of_hidT e, Nat.le_of_eq (hidT_size _ _), trivial, fun b hb => (by cases hb), hok, .of_eq gens⟩
    refine codeAny_mono (F _ kinT (keepNs gn) s₁ H (.ref a) (.ref a) _ _ e0 (hb s₁ (.ref a)) rfl (hsp H only hS)) fun r s' h => ?_
    cases r with
    | error e => exact False.elim h
    | ok fl =>
      cases fl with
      | next => exact h.elim
      | brk => exact h.elim
      | cont => exact h.elim
      | ret u =>
        obtain ⟨v, H', os, bare, un, hok', r', q⟩ := h
        have q' : v = .bl true := q
        subst q'
        cases r'
        refine ⟨rfl, OldK.of_keep fun b o e => ?_, os, bare⟩
        cases q : H b with
        | none => exact un.keep b o e q (fun z => by cases z) (fun z => by cases z)
        | some u =>
          rcases only b with z | ⟨ob, xs, z⟩
          · rw [q] at z; cases z
          · obtain ⟨e1, _⟩ := hok b _ z
            obtain ⟨e2, _⟩ := hok' b _ (un.frzs b ob _ z)
            rw [e] at e1
            cases e1
            exact e2
  cases hk : K.lookup a with
  | some o =>
    have e := kin a o hk
    rw [ho] at e
    cases e
    exact main (fun _ => none) (fun _ => .inl rfl) (.inr ⟨_, vs.toArray, _, hk, rfl, rfl, rfl, by rw [List.size_toArray, hi.length]; exact hl, by simpa using rv⟩) (fun b u z => nomatch z) (fun b z => (z rfl).elim) fun z => (z rfl).elim
  | none =>
    refine main (fun b => if b = a then some (.frz { cls := .type "list", data := .seq vs.toArray } (.lst (ns.map V.int))) else none) (fun b => ?_) (.inl (.inr ⟨{ cls := .type "list", data := .seq vs.toArray }, if_pos rfl⟩)) (fun b u z => ?_) (fun b z => ?_) fun _ => hk
    · by_cases eb : b = a
      · exact .inr ⟨_, _, if_pos eb⟩
      · exact .inl (if_neg eb)
    · by_cases eb : b = a
      · have z' := (if_pos eb).symm.trans z
        cases z'
        subst eb
        exact ⟨ho, by rw [List.length_map]; exact hl, vs, _, rv, ho⟩
      · exact nomatch (if_neg eb).symm.trans z
    · by_cases eb : b = a
      · exact eb
      · exact (z (if_neg eb)).elim
/-- the goal behind the head, from the law's promise at its caller; the script's bits told -/
theorem walk_top {l : PySem.W.OpenLaw} {n : Nat} {q : Program} {loose : List Str} {XP : (Str → Option Value) → Heap → Prop} {YP : World → Heap → Prop} {d : DefRec} {K : Params → PySem.W.Frag} {sp : World → Sp} {x : Str}
    (hn : l.most = some n) (hn2 : n ≤ sizeLine) (hdf : d.params.defaults = [])
    (hY : ∀ (w : World) (h : Heap), YP w h → (K w.params).In h)
    (F : ∀ (w : World) (mg : Str → Option Value) (fa : Addr) (h : Heap), (K w.params).In h → h.Ns mainGlobals mg → mg d.name = some (.ref fa) →
      ∃ fd : FuncData, (∀ (s : Shared) (u : Value), BindsTo s fd ⟨[u], []⟩ [(x, u)]) ∧ ∀ base : Heap, (K w.params).In base → base.Ns mainGlobals mg → AtTop l.prog w (K w.params) mg base fa fd x (sp w))
    (hsp : ∀ (w : World) (H : Hp) (a : Addr) (ns : List Int), ns.length ≤ n → (∀ z ∈ ns, Builtin.Int.intBits z ≤ 1048576) → Only H → SqL (K w.params) H a (ns.map V.int) → sp w [.ref a] H (fun v _ => v = .bl true) fun _ _ _ => False) :
    PySem.W.WalkO q loose XP YP l.row.toRowW d [] (fun f vs => PySem.call f vs) := by
  refine Att.attach_callB hn hdf fun w s₀ s₁ mg mb fa o pm cd doc a vs ns G Y _ _ _ hmg hobj hints hlen hbits hg => ?_
  have kin := hY w _ Y
  obtain ⟨fd, hb, hF⟩ := F w mg fa _ kin G.T.g hmg
  exact law_top kin G.T.g G.T.b G.T.builtins G.T.nolimit hg hobj hints (Nat.le_trans hlen hn2) hF hb fun H hO hS => hsp w H a ns hlen hbits hO hS
end TB
namespace TB
open PySem PySem.Spec PyProof.Rows L2 Evl
/-! ### a def that keeps a promise, called by its name -/
def Keeps (P : Program) (w : World) (K : PySem.W.Frag) (mg : Str → Option Value) (base : Heap) (k : Nat) (x : Str) (ps : List Str) (sp : Sp) : Prop :=
  ∃ (f : Addr) (fd : FuncData), mg x = some (.ref f) ∧ PySem.W.keepIn K (.ref f) = true ∧ Binds K fd ps [] ∧ FnOk P w K mg base CX0 k f fd ps sp
theorem keeps_of {P : Program} {w : World} {K : PySem.W.Frag} {mg : Str → Option Value} {base : Heap} {k : Nat} {x q : Str} {st : Stmt} {f : Addr} {fd : FuncData} {ps : List Str} {sp : Sp}
    (F : Fun K x q st f fd) {y : Str} (g : mg y = some (.ref f)) (b : Binds K fd ps []) (G : FnOk P w K mg base CX0 k f fd ps sp) : Keeps P w K mg base k y ps sp := ⟨f, fd, g, F.kp, b, G⟩
theorem pe_own {X : Cx} {k : Nat} {x : Str} {ps : List Str} {sp : Sp} {e : Expr} {es : List Expr} {t : TA} {p pos : Pos}
    (h : Keeps X.prog X.w X.K X.mg X.base k x ps sp) (hr : Room k X.A) (hg : Gl X x) (ha : PA X (e :: es) t) (hdb : (x == ("__debug__" : Str)) = false := by decide)
    (he : starEach (e :: es) X.env = (false, eval e X.env) :: starEach es X.env := by rfl) (hpl : (backTo pos (starEach es X.env)).any (·.1) = false := by rfl) :
    PE X (.Call (.Name x p) (e :: es) [] pos) (tCall sp [] E0 t) := by
  obtain ⟨f, fd, g, kp, b, G⟩ := h
  exact pe_call G hr hg g kp b .nil pass0 ha hdb he hpl
theorem pe_con {X : Cx} {x : Str} {i : Int} {pos : Pos} (hg : Gl X x) (h : ∃ t, X.mg x = some (.int i t)) (hdb : (x == ("__debug__" : Str)) = false := by decide) : PE X (.Name x pos) (tC (.int i)) := by
  obtain ⟨t, h⟩ := h
  exact pe_glob hg h ⟨t, rfl⟩ hdb
/-! ### the deck of drawn numbers -/
/-- at d stands the deck: the great numbers at g, all numbers at l, a count -/
def Deck (H : Hp) (d g l : Addr) : Prop := ∃ (gs ls : List Int) (c : Int),
  H d = some (.lst [.ref g, .ref l, .int c]) ∧ H g = some (.lst (gs.map V.int)) ∧ H l = some (.lst (ls.map V.int)) ∧ d ≠ g ∧ d ≠ l ∧ g ≠ l ∧ 0 < ls.length
/-- all but the deck's two changing lists stands as before -/
def Off (d g : Addr) (H H' : Hp) : Prop := ∀ a o, H a = some o → a ≠ d → a ≠ g → H' a = some o
theorem Off.refl {d g : Addr} {H : Hp} : Off d g H H := fun _ _ e _ _ => e
theorem Off.trans {d g : Addr} {H H1 H2 : Hp} (a : Off d g H H1) (b : Off d g H1 H2) : Off d g H H2 := fun x o e n m => b x o (a x o e n m) n m
theorem Off.of {d g : Addr} {H H' : Hp} (e : Ex H H') : Off d g H H' := fun a o h _ _ => e a o h
theorem Deck.ex {H H' : Hp} {d g l : Addr} (e : Ex H H') (h : Deck H d g l) : Deck H' d g l := by
  obtain ⟨gs, ls, c, h1, h2, h3, r⟩ := h
  exact ⟨gs, ls, c, e _ _ h1, e _ _ h2, e _ _ h3, r⟩
theorem Deck.ne {H : Hp} {d g l a : Addr} (h : Deck H d g l) (n : H a = none) : a ≠ d ∧ a ≠ g := by
  obtain ⟨gs, ls, c, h1, h2, h3, r⟩ := h
  exact ⟨fun q => (by rw [q, h1] at n; cases n), fun q => (by rw [q, h2] at n; cases n)⟩
/-- a tuple is none of the deck's lists -/
theorem Off.tup {d g l a : Addr} {H H' : Hp} {xs : List V} (e : Off d g H H') (D : Deck H d g l) (h : H a = some (.tup xs)) : H' a = some (.tup xs) := by
  obtain ⟨gs, ls, c, h1, h2, h3, r⟩ := D
  exact e a _ h (fun q => by rw [q, h1] at h; cases h) fun q => by rw [q, h2] at h; cases h
theorem Off.sqT {K : PySem.W.Frag} {d g l a : Addr} {H H' : Hp} {xs : List V} (e : Off d g H H') (D : Deck H d g l) (h : SqT K H a xs) : SqT K H' a xs := by
  obtain ⟨gs, ls, c, h1, h2, h3, r⟩ := D
  rcases h with (h | ⟨o, h⟩) | h
  · exact .inl (.inl (e a _ h (fun q => by rw [q, h1] at h; cases h) fun q => by rw [q, h2] at h; cases h))
  · exact .inl (.inr ⟨o, e a _ h (fun q => by rw [q, h1] at h; cases h) (fun q => by rw [q, h2] at h; cases h)⟩)
  · exact .inr h
def spDeck (K : PySem.W.Frag) : Sp := fun vs H Q _ => ∃ (a : Addr) (ns : List Int), vs = [.ref a] ∧ SqL K H a (ns.map V.int) ∧ ns.length ≤ 63 ∧
  ∀ d g l H', Ex H H' → H d = none → H g = none → Deck H' d g l → Q (.ref d) H'
def spDraw : Sp := fun vs H Q _ => ∃ (d g l : Addr) (m : Int), vs = [.ref d, .int m] ∧ 0 < m ∧ m ≤ 1000000000000 ∧ Deck H d g l ∧
  ∀ r H', 0 ≤ r → r < m → Deck H' d g l → Off d g H H' → Q (.int r) H'
def spOne : Sp := fun vs H Q _ => ∃ (d g l p : Addr) (xs : List V), vs = [.ref d, .ref p] ∧ Deck H d g l ∧ H p = some (.lst xs) ∧ p ≠ d ∧ p ≠ g ∧ 0 < xs.length ∧ xs.length ≤ 1000 ∧
  ∀ (i : Nat) (v : V) H', xs[i]? = some v → Deck H' d g l → Off d g H H' → Q v H'
theorem fmod_rng {a m : Int} (h : 0 < m) : 0 ≤ a.fmod m ∧ a.fmod m < m := ⟨Int.fmod_nonneg_of_pos a h, Int.fmod_lt_of_pos a h⟩
theorem fmod_small {a m : Int} (h : 0 < m) (h2 : m ≤ 2 ^ 64) : -(2 ^ 64) < a.fmod m ∧ a.fmod m < 2 ^ 64 := by
  have := fmod_rng (a := a) h
  omega
theorem ixN_zero {n : Nat} (h : 0 < n) : ixN n 0 = some 0 := by
  unfold ixN
  rw [if_pos (by omega), if_pos (by omega)]
  rfl
theorem size_small {n : Nat} (h : n ≤ 100000) : n ≤ sizeLine := Nat.le_trans h (by decide)
theorem size_small' {n : Nat} (h : n ≤ 100000) : n < sizeLine := Nat.lt_of_le_of_lt h (by decide)
end TB

namespace TB
open PySem PySem.Spec PyProof.Rows L2 Evl
/-! ### data kept -/
mutual
def flatD : PyData → Bool
  | .none | .bool _ | .int _ | .str _ => true
  | .list _ => false
  | .tuple ds => flatDs ds
  | .dict _ => false
def flatDs : List PyData → Bool
  | [] => true
  | d :: ds => flatD d && flatDs ds
end
section
variable {K : PySem.W.Frag} {H H' : Hp}
mutual
theorem Rp.ex (x : Ex H H') : ∀ (e : PyData) (z : V), Rp K H z e → Rp K H' z e
  | .none, _, q => by cases q; exact .non
  | .bool c, _, q => by cases q; exact .bl c
  | .int j, _, q => by cases q; exact .int j
  | .str y, _, q => by cases q; exact .str y
  | .list es, _, q => by
    cases q with
    | lst hq hz => exact .lst (ex_l x hq) (RpAll.ex x es _ hz)
  | .tuple es, _, q => by
    cases q with
    | tup hq hz => exact .tup (ex_t x hq) (RpAll.ex x es _ hz)
  | .dict _, _, q => by cases q
theorem RpAll.ex (x : Ex H H') : ∀ (es : List PyData) (zs : List V), RpAll K H zs es → RpAll K H' zs es
  | [], _, q => by cases q; exact .nil
  | e :: es, _, q => by
    cases q with
    | cons q1 q2 => exact .cons (Rp.ex x e _ q1) (RpAll.ex x es _ q2)
end
mutual
/-- what holds no lists stays when numbers are drawn -/
theorem Rp.off {d g l : Addr} (D : Deck H d g l) (x : Off d g H H') : ∀ (e : PyData) (z : V), flatD e = true → Rp K H z e → Rp K H' z e
  | .none, _, _, q => by cases q; exact .non
  | .bool c, _, _, q => by cases q; exact .bl c
  | .int j, _, _, q => by cases q; exact .int j
  | .str y, _, _, q => by cases q; exact .str y
  | .list es, _, f, q => by rw [flatD] at f; cases f
  | .tuple es, _, f, q => by
    rw [flatD] at f
    cases q with
    | tup hq hz => exact .tup (x.sqT D hq) (RpAll.off D x es _ f hz)
  | .dict _, _, _, q => by cases q
theorem RpAll.off {d g l : Addr} (D : Deck H d g l) (x : Off d g H H') : ∀ (es : List PyData) (zs : List V), flatDs es = true → RpAll K H zs es → RpAll K H' zs es
  | [], _, _, q => by cases q; exact .nil
  | e :: es, _, f, q => by
    rw [flatDs, Bool.and_eq_true] at f
    cases q with
    | cons q1 q2 => exact .cons (Rp.off D x e _ f.1 q1) (RpAll.off D x es _ f.2 q2)
end
theorem RpAll.len : ∀ {zs : List V} {es : List PyData}, RpAll K H zs es → zs.length = es.length
  | _, _, .nil => rfl
  | _, _, .cons _ t => congrArg (· + 1) t.len
theorem RpAll.get : ∀ {zs : List V} {es : List PyData} {i : Nat} {z : V}, RpAll K H zs es → zs[i]? = some z → ∃ e, es[i]? = some e ∧ Rp K H z e
  | _, _, _, _, .nil, h => by simp at h
  | _, _, 0, z, .cons q _, h => by simp at h; subst h; exact ⟨_, rfl, q⟩
  | _, _, i + 1, z, .cons _ t, h => by
    obtain ⟨e, h1, h2⟩ := RpAll.get (i := i) t (by simpa using h)
    exact ⟨e, by simpa using h1, h2⟩
theorem RpAll.get' : ∀ {zs : List V} {es : List PyData} {i : Nat} {e : PyData}, RpAll K H zs es → es[i]? = some e → ∃ z, zs[i]? = some z ∧ Rp K H z e
  | _, _, _, _, .nil, h => by simp at h
  | _, _, 0, e, .cons q _, h => by simp at h; subst h; exact ⟨_, rfl, q⟩
  | _, _, i + 1, e, .cons _ t, h => by
    obtain ⟨z, h1, h2⟩ := RpAll.get' (i := i) t (by simpa using h)
    exact ⟨z, by simpa using h1, h2⟩
theorem RpAll.append : ∀ {zs ys : List V} {es fs : List PyData}, RpAll K H zs es → RpAll K H ys fs → RpAll K H (zs ++ ys) (es ++ fs)
  | _, _, _, _, .nil, s => s
  | _, _, _, _, .cons q t, s => .cons q (t.append s)
theorem rpInts : ∀ ns : List Int, RpAll K H (ns.map V.int) (ns.map PyData.int)
  | [] => .nil
  | n :: ns => .cons (.int n) (rpInts ns)
theorem rpInts_inv : ∀ {ns : List Int} {zs : List V}, RpAll K H zs (ns.map PyData.int) → zs = ns.map V.int
  | [], _, h => by cases h; rfl
  | n :: ns, _, h => by
    cases h with
    | cons q t => cases q; rw [rpInts_inv t]; rfl
/-- sides as data, kinds as data -/
def tupI (ns : List Int) : PyData := .tuple (ns.map PyData.int)
def tupK (nss : List (List Int)) : PyData := .tuple (nss.map tupI)
theorem flat_ints : ∀ ns : List Int, flatDs (ns.map PyData.int) = true
  | [] => rfl
  | n :: ns => by rw [List.map_cons, flatDs, flat_ints ns]; rfl
theorem flat_tupI (ns : List Int) : flatD (tupI ns) = true := by unfold tupI; rw [flatD]; exact flat_ints ns
theorem flat_tupK (nss : List (List Int)) : flatD (tupK nss) = true := by
  unfold tupK
  rw [flatD]
  induction nss with
  | nil => rfl
  | cons n ns ih => rw [List.map_cons, flatDs, flat_tupI, ih]; rfl
theorem rp_tupI {a : Addr} {ns : List Int} (h : SqT K H a (ns.map V.int)) : Rp K H (.ref a) (tupI ns) := .tup h (rpInts ns)
theorem tupI_inv {z : V} {ns : List Int} (h : Rp K H z (tupI ns)) : ∃ a, z = .ref a ∧ SqT K H a (ns.map V.int) := by
  unfold tupI at h
  cases h with
  | tup hs ha => rw [rpInts_inv ha] at hs; exact ⟨_, rfl, hs⟩
theorem tupK_inv {z : V} {nss : List (List Int)} (h : Rp K H z (tupK nss)) : ∃ a xs, z = .ref a ∧ SqT K H a xs ∧ RpAll K H xs (nss.map tupI) := by
  unfold tupK at h
  cases h with
  | tup hs ha => exact ⟨_, _, rfl, hs, ha⟩
theorem sum_le {α : Type} (f : α → Nat) (k : Nat) : ∀ l : List α, (∀ x ∈ l, f x ≤ k) → (l.map f).sum ≤ l.length * k
  | [], _ => Nat.zero_le _
  | x :: l, h => by
    have h1 := h x List.mem_cons_self
    have h2 := sum_le f k l fun y hy => h y (List.mem_cons_of_mem _ hy)
    rw [List.map_cons, List.sum_cons, List.length_cons, Nat.succ_mul]
    omega
end
end TB

namespace TB
open PySem PySem.Spec PyProof.Rows L2 Evl
section
variable {K : PySem.W.Frag} {H : Hp}
mutual
/-- what holds no lists stays when a list changes -/
theorem Rp.mut {L : Addr} {xs : List V} {o : HO} (hL : H L = some (.lst xs)) : ∀ (e : PyData) (z : V), flatD e = true → Rp K H z e → Rp K (upd H L o) z e
  | .none, _, _, q => by cases q; exact .non
  | .bool c, _, _, q => by cases q; exact .bl c
  | .int j, _, _, q => by cases q; exact .int j
  | .str y, _, _, q => by cases q; exact .str y
  | .list es, _, f, q => by rw [flatD] at f; cases f
  | .tuple es, _, f, q => by
    rw [flatD] at f
    cases q with
    | tup hq hz =>
      refine .tup ?_ (rpAll_flat_mut hL es _ f hz)
      rcases hq with (h | ⟨ob, h⟩) | h
      · exact .inl (.inl (by rw [upd_ne (ne_of h hL (by intro z; cases z))]; exact h))
      · exact .inl (.inr ⟨ob, by rw [upd_ne (ne_of h hL (by intro z; cases z))]; exact h⟩)
      · exact .inr h
  | .dict _, _, _, q => by cases q
theorem rpAll_flat_mut {L : Addr} {xs : List V} {o : HO} (hL : H L = some (.lst xs)) : ∀ (es : List PyData) (zs : List V), flatDs es = true → RpAll K H zs es → RpAll K (upd H L o) zs es
  | [], _, _, q => by cases q; exact .nil
  | e :: es, _, f, q => by
    rw [flatDs, Bool.and_eq_true] at f
    cases q with
    | cons q1 q2 => exact .cons (Rp.mut hL e _ f.1 q1) (rpAll_flat_mut hL es _ f.2 q2)
end
theorem flats_tupI : ∀ nss : List (List Int), flatDs (nss.map tupI) = true
  | [] => rfl
  | n :: ns => by rw [List.map_cons, flatDs, flat_tupI, flats_tupI ns]; rfl
end
end TB

namespace TB
open PySem PySem.Spec PyProof.Rows L2 Evl
section
variable {K : PySem.W.Frag} {H : Hp}
theorem cut_take {xs : List V} {k : Nat} : cutV xs none (some (k : Int)) = xs.take k := by
  unfold cutV
  rw [HT.sIx_none, HT.sIx_nat, List.drop_zero, Nat.sub_zero]
  rcases Nat.le_total k xs.length with h | h
  · rw [Nat.min_eq_left h]
  · rw [Nat.min_eq_right h, List.take_of_length_le (Nat.le_refl _), List.take_of_length_le h]
theorem RpAll.take : ∀ {zs : List V} {es : List PyData} (k : Nat), RpAll K H zs es → RpAll K H (zs.take k) (es.take k)
  | _, _, 0, _ => .nil
  | _, _, _ + 1, .nil => .nil
  | _, _, k + 1, .cons q t => .cons q (RpAll.take k t)
theorem RpAll.mem : ∀ {zs : List V} {es : List PyData} {z : V}, RpAll K H zs es → z ∈ zs → ∃ e ∈ es, Rp K H z e
  | _, _, _, .nil, h => by cases h
  | _, _, z, .cons q t, h => by
    rcases List.mem_cons.mp h with h | h
    · subst h; exact ⟨_, List.mem_cons_self, q⟩
    · obtain ⟨e, h1, h2⟩ := t.mem h
      exact ⟨e, List.mem_cons_of_mem _ h1, h2⟩
/-- t[:k] of a tuple of data: the same one, or a new one -/
theorem slA_take {z : V} {ds : List PyData} {k : Nat} {Q : VK} (hz : Rp K H z (.tuple ds)) (q : ∀ v H', Ex H H' → Rp K H' v (.tuple (ds.take k)) → Q v H') : rSlA K z none (some (k : Int)) H Q := by
  cases hz with
  | tup hs ha =>
    rename_i a xs
    refine ⟨a, xs, rfl, hs, fun h => ?_, fun _ p hp => ?_⟩
    · rw [HT.sIx_nat] at h
      have e : ds.take k = ds := List.take_of_length_le (by rw [← ha.len]; have := h.2; omega)
      exact q _ _ (fun _ _ e => e) (by rw [e]; exact .tup hs ha)
    · refine q _ _ (Ex.new hp) (.tup (.inl (.inl upd_same)) ?_)
      rw [cut_take]
      exact RpAll.ex (Ex.new hp) _ _ (ha.take k)
theorem ex_refl : Ex H H := fun _ _ e => e
/-- a list of data, made anew -/
theorem rp_new {p : Addr} {zs : List V} {ds : List PyData} (hp : H p = none) (h : RpAll K H zs ds) : Rp K (upd H p (.lst zs)) (.ref p) (.list ds) := .lst (.inl (.inl upd_same)) (RpAll.ex (Ex.new hp) _ _ h)
theorem rp_newT {p : Addr} {zs : List V} {ds : List PyData} (hp : H p = none) (h : RpAll K H zs ds) : Rp K (upd H p (.tup zs)) (.ref p) (.tuple ds) := .tup (.inl (.inl upd_same)) (RpAll.ex (Ex.new hp) _ _ h)
end
end TB
set_option Elab.async false
set_option linter.all false
set_option maxRecDepth 100000
/-! Texts of sides and kinds: plain mathematics. -/
namespace TB
open PySem PySem.Spec PyProof.Rows L2
abbrev cs (z : Str) : List Nat := z.cps.toList
theorem cs_app (a b : Str) : cs (a ++ b) = cs a ++ cs b := by show (a ++ b).cps.toList = _; rw [Str.cps_append, Array.toList_append]
theorem cs_len (z : Str) : (cs z).length = z.length := Array.length_toList
theorem cs_ext {a b : Str} (h : cs a = cs b) : a = b := by
  cases a; cases b
  have : ∀ {x y : Array Nat}, x.toList = y.toList → x = y := fun {x y} e => by cases x; cases y; simpa using e
  exact congrArg Str.mk (this h)
/-! ### digits -/
def digs (n : Nat) : List Nat := (Nat.toDigits 10 n).map Char.toNat
theorem digitChar_code : ∀ d : Nat, d < 10 → (Nat.digitChar d).toNat = 48 + d := by decide
theorem digs_lt {n : Nat} (h : n < 10) : digs n = [48 + n] := by
  unfold digs
  rw [Nat.toDigits_of_lt_base h, List.map_singleton, digitChar_code n h]
theorem digs_ge {n : Nat} (h : 10 ≤ n) : digs n = digs (n / 10) ++ [48 + n % 10] := by
  have hm : n % 10 < 10 := Nat.mod_lt n (by decide)
  have t : Nat.toDigits 10 (n / 10) ++ Nat.toDigits 10 (n % 10) = Nat.toDigits 10 (10 * (n / 10) + n % 10) := Nat.toDigits_append_toDigits (by decide) (by omega) hm
  rw [Nat.div_add_mod] at t
  unfold digs
  rw [← t, List.map_append, Nat.toDigits_of_lt_base hm, List.map_singleton, digitChar_code _ hm]
theorem digs_mem : ∀ (n c : Nat), c ∈ digs n → 48 ≤ c ∧ c ≤ 57 := by
  intro n
  induction n using Nat.strongRecOn with
  | _ n ih =>
    intro c hc
    by_cases h : n < 10
    · rw [digs_lt h, List.mem_singleton] at hc; omega
    · rw [digs_ge (by omega), List.mem_append] at hc
      rcases hc with hc | hc
      · exact ih _ (by omega) c hc
      · rw [List.mem_singleton] at hc; omega
theorem digs_ne (n : Nat) : digs n ≠ [] := by
  by_cases h : n < 10
  · rw [digs_lt h]; simp
  · rw [digs_ge (by omega)]; simp
theorem digs_len {n : Nat} (h : n ≤ 1000000000000) : (digs n).length ≤ 13 := by
  unfold digs
  rw [List.length_map]
  exact digits10_le (by decide) (by omega)
def numS (n : Int) : Str := Str.ofString (toString n)
theorem cs_num {n : Int} (h : 0 ≤ n) : cs (numS n) = digs n.toNat := by
  obtain ⟨m, rfl⟩ := Int.eq_ofNat_of_zero_le h
  exact PySem.W.KIN.signs_num m
/-! ### reading numbers -/
def MS : Int := 1000000000000
def scan : List Nat → Int → Nat → Int × Nat
  | [], a, p => (a, p)
  | c :: r, a, p => if 48 ≤ c ∧ c ≤ 57 ∧ 1 ≤ a * 10 + ((c : Int) - 48) ∧ a * 10 + ((c : Int) - 48) ≤ MS then scan r (a * 10 + ((c : Int) - 48)) (p + 1) else (a, p)
def NoDigit (r : List Nat) : Prop := ∀ c t, r = c :: t → ¬ (48 ≤ c ∧ c ≤ 57)
theorem scan_stop {r : List Nat} {a : Int} {p : Nat} (h : NoDigit r) : scan r a p = (a, p) := by
  cases r with
  | nil => rfl
  | cons c t =>
    have := h c t rfl
    unfold scan
    rw [if_neg (fun q => this ⟨q.1, q.2.1⟩)]
theorem scan_digs : ∀ (n : Nat), 1 ≤ n → (n : Int) ≤ MS → ∀ (r : List Nat) (p : Nat), scan (digs n ++ r) 0 p = scan r n (p + (digs n).length) := by
  intro n
  induction n using Nat.strongRecOn with
  | _ n ih =>
    intro h1 h2 r p
    have hms : MS = 1000000000000 := rfl
    by_cases h : n < 10
    · rw [digs_lt h]
      show scan ((48 + n) :: r) 0 p = _
      rw [scan, if_pos (by refine ⟨?_, ?_, ?_, ?_⟩ <;> omega)]
      congr 1
      omega
    · rw [digs_ge (by omega), List.append_assoc, ih (n / 10) (by omega) (by omega) (by omega)]
      show scan ((48 + n % 10) :: r) _ _ = _
      rw [scan, if_pos (by refine ⟨?_, ?_, ?_, ?_⟩ <;> omega), List.length_append]
      congr 1
      omega
theorem scan_rng : ∀ (l : List Nat) (a : Int) (p : Nat), 0 ≤ a → a ≤ MS → 0 ≤ (scan l a p).1 ∧ (scan l a p).1 ≤ MS ∧ p ≤ (scan l a p).2 ∧ (scan l a p).2 ≤ p + l.length
  | [], a, p, h1, h2 => ⟨h1, h2, Nat.le_refl _, Nat.le_refl _⟩
  | c :: r, a, p, h1, h2 => by
    unfold scan
    by_cases h : 48 ≤ c ∧ c ≤ 57 ∧ 1 ≤ a * 10 + ((c : Int) - 48) ∧ a * 10 + ((c : Int) - 48) ≤ MS
    · rw [if_pos h]
      have := scan_rng r (a * 10 + ((c : Int) - 48)) (p + 1) (by omega) h.2.2.2
      rw [List.length_cons]
      omega
    · rw [if_neg h]
      exact ⟨h1, h2, Nat.le_refl _, Nat.le_add_right _ _⟩
/-- the sides whose text begins at p, at most k of them; a wrong sign's place -/
def sidesL (c : List Nat) : Nat → List Int → Nat → Except Nat (List Int × Nat)
  | 0, _, p => .error p
  | k + 1, acc, p =>
    let r := scan (c.drop p) 0 p
    if r.1 = 0 then .error r.2
    else if k = 0 ∨ r.2 = c.length ∨ c[r.2]? ≠ some 120 then .ok (acc ++ [r.1], r.2)
    else sidesL c k (acc ++ [r.1]) (r.2 + 1)
/-- the same, least of them at least -/
def sidesAt (c : List Nat) (p least most : Nat) : Except Nat (List Int × Nat) :=
  match sidesL c most [] p with
  | .ok (ns, q) => if ns.length < least then .error q else .ok (ns, q)
  | .error q => .error q
def parseS (c : List Nat) : Except Nat (List Int) :=
  match sidesAt c 0 1 4 with
  | .ok (ns, q) => if q < c.length then .error q else .ok ns
  | .error q => .error q
def kindsL (c : List Nat) (n : Nat) : Nat → List (List Int) → Nat → Except Nat (List (List Int))
  | k, acc, p =>
    if p < c.length then
      if c[p]? ≠ some 32 then .error p
      else match k with
        | 0 => .error p
        | k + 1 => match sidesAt c (p + 1) n n with
          | .ok (ns, q) => kindsL c n k (acc ++ [ns]) q
          | .error q => .error q
    else .ok acc
def parseK (c : List Nat) : Except Nat (List (List Int)) :=
  match sidesAt c 0 1 4 with
  | .ok (ns, q) => kindsL c ns.length 3 [ns] q
  | .error q => .error q
/-! ### the texts -/
def gl (sep : List Nat) : List (List Nat) → List Nat
  | [] => []
  | [x] => x
  | x :: r => x ++ sep ++ gl sep r
theorem cs_join (sep : Str) : ∀ ys : List Str, cs (Txt.join sep ys) = gl (cs sep) (ys.map cs) := by
  intro ys
  show cs (Builtin.Str.glued sep ys) = _
  rw [StrLaws.glued_eq_join]
  induction ys with
  | nil => rfl
  | cons x r ih =>
    cases r with
    | nil => rfl
    | cons y r =>
      show cs (x ++ sep ++ Str.join sep (y :: r)) = cs x ++ cs sep ++ gl (cs sep) ((y :: r).map cs)
      rw [cs_app, cs_app, ih]
def sideT (ns : List Int) : Str := Txt.join "x" (ns.map numS)
def kindT (nss : List (List Int)) : Str := Txt.join " " (nss.map sideT)
def sideC (ns : List Int) : List Nat := gl [120] (ns.map fun n => digs n.toNat)
def kindC (nss : List (List Int)) : List Nat := gl [32] (nss.map sideC)
def SideOk (ns : List Int) : Prop := 1 ≤ ns.length ∧ ns.length ≤ 4 ∧ ∀ n ∈ ns, 1 ≤ n ∧ n ≤ MS
theorem cs_side {ns : List Int} (h : ∀ n ∈ ns, 1 ≤ n ∧ n ≤ MS) : cs (sideT ns) = sideC ns := by
  unfold sideT sideC
  rw [cs_join, List.map_map]
  have : cs ("x" : Str) = [120] := by decide +kernel
  rw [this]
  congr 1
  refine List.map_congr_left fun n hn => ?_
  exact cs_num (by have := (h n hn).1; omega)
theorem cs_kind {nss : List (List Int)} (h : ∀ ns ∈ nss, ∀ n ∈ ns, 1 ≤ n ∧ n ≤ MS) : cs (kindT nss) = kindC nss := by
  unfold kindT kindC
  rw [cs_join, List.map_map]
  have : cs (" " : Str) = [32] := by decide +kernel
  rw [this]
  congr 1
  exact List.map_congr_left fun ns hn => cs_side (h ns hn)
/-- what may stand behind sides that are at an end -/
def Behind (r : List Nat) : Prop := ∀ c t, r = c :: t → c = 32
theorem sidesL_text : ∀ (ns : List Int) (k : Nat) (acc : List Int) (pre r : List Nat), 1 ≤ ns.length → ns.length ≤ k → (∀ n ∈ ns, 1 ≤ n ∧ n ≤ MS) → Behind r →
    sidesL (pre ++ (sideC ns ++ r)) k acc pre.length = .ok (acc ++ ns, (pre ++ sideC ns).length)
  | [], _, _, _, _, h, _, _, _ => by simp at h
  | n :: ns, 0, _, _, _, _, h, _, _ => by simp at h
  | n :: ns, k + 1, acc, pre, r, h1, h2, h3, h4 => by
    have hn := h3 n List.mem_cons_self
    have hN : ((n.toNat : Nat) : Int) = n := Int.toNat_of_nonneg (by omega)
    have nr : NoDigit r := fun c t e q => by have := h4 c t e; omega
    unfold sidesL
    rw [List.drop_left]
    cases ns with
    | nil =>
      have e : sideC [n] = digs n.toNat := rfl
      rw [e, scan_digs _ (by omega) (by rw [hN]; exact hn.2), scan_stop nr, hN]
      dsimp only
      rw [if_neg (by omega), if_pos, List.length_append]
      by_cases hk : k = 0
      · exact .inl hk
      · right
        cases r with
        | nil => left; simp
        | cons c t =>
          right
          have hc := h4 c t rfl
          rw [← List.append_assoc, ← List.length_append, List.getElem?_append_right (Nat.le_refl _), Nat.sub_self, hc]
          simp
    | cons m ns =>
      have e : sideC (n :: m :: ns) = digs n.toNat ++ [120] ++ sideC (m :: ns) := rfl
      have nx : NoDigit ([120] ++ (sideC (m :: ns) ++ r)) := fun c t e q => by
        have e2 : 120 = c := (List.cons.inj e).1
        omega
      rw [e, List.append_assoc, List.append_assoc, List.append_assoc, scan_digs _ (by omega) (by rw [hN]; exact hn.2), scan_stop nx, hN]
      dsimp only
      rw [if_neg (by omega), if_neg]
      · have ih := sidesL_text (m :: ns) k (acc ++ [n]) (pre ++ digs n.toNat ++ [120]) r (by simp) (by simp at h2 ⊢; omega) (fun x hx => h3 x (List.mem_cons_of_mem _ hx)) h4
        have e1 : pre ++ digs n.toNat ++ [120] ++ (sideC (m :: ns) ++ r) = pre ++ (digs n.toNat ++ ([120] ++ (sideC (m :: ns) ++ r))) := by simp
        rw [e1] at ih
        have e2 : (pre ++ digs n.toNat ++ [120]).length = pre.length + (digs n.toNat).length + 1 := by simp; omega
        rw [e2] at ih
        rw [ih]
        congr 2
        · simp
        · simp
      · intro q
        rcases q with q | q | q
        · simp at h2; omega
        · simp at q
        · apply q
          rw [← List.append_assoc, ← List.length_append, List.getElem?_append_right (Nat.le_refl _), Nat.sub_self]
          rfl
theorem sidesAt_text {ns : List Int} {k l : Nat} (pre r : List Nat) (h1 : 1 ≤ ns.length) (h2 : ns.length ≤ k) (hl : l ≤ ns.length) (h3 : ∀ n ∈ ns, 1 ≤ n ∧ n ≤ MS) (h4 : Behind r) :
    sidesAt (pre ++ (sideC ns ++ r)) pre.length l k = .ok (ns, (pre ++ sideC ns).length) := by
  unfold sidesAt
  rw [sidesL_text ns k [] pre r h1 h2 h3 h4]
  dsimp only
  rw [List.nil_append, if_neg (by omega)]
theorem parseS_text {ns : List Int} (h : SideOk ns) : parseS (sideC ns) = .ok ns := by
  have e := sidesAt_text (l := 1) (k := 4) [] [] h.1 h.2.1 h.1 h.2.2 (fun c t e => nomatch e)
  simp only [List.nil_append, List.append_nil, List.length_nil] at e
  unfold parseS
  rw [e]
  dsimp only
  rw [if_neg (Nat.lt_irrefl _)]
theorem kindsL_text : ∀ (nss : List (List Int)) (n k : Nat) (acc : List (List Int)) (pre : List Nat), nss.length ≤ k → 1 ≤ n → (∀ ns ∈ nss, ns.length = n ∧ ∀ m ∈ ns, 1 ≤ m ∧ m ≤ MS) →
    kindsL (pre ++ (nss.map fun ns => 32 :: sideC ns).flatten) n k acc pre.length = .ok (acc ++ nss)
  | [], n, k, acc, pre, _, _, _ => by
    unfold kindsL
    rw [if_neg (by simp)]
    simp
  | ns :: nss, n, 0, acc, pre, h, _, _ => by simp at h
  | ns :: nss, n, k + 1, acc, pre, h, h1, h2 => by
    have hn := h2 ns List.mem_cons_self
    unfold kindsL
    rw [if_pos (by simp)]
    have g : (pre ++ (List.map (fun ns => 32 :: sideC ns) (ns :: nss)).flatten)[pre.length]? = some 32 := by
      rw [List.getElem?_append_right (Nat.le_refl _), Nat.sub_self]
      rfl
    rw [if_neg (by rw [g]; simp)]
    dsimp only
    have bh : Behind (List.map (fun ns => 32 :: sideC ns) nss).flatten := fun c t e => by
      cases nss with
      | nil => exact nomatch e
      | cons a b =>
        have : 32 = c := (List.cons.inj e).1
        exact this.symm
    have e := sidesAt_text (ns := ns) (l := n) (k := n) (pre ++ [32]) (List.map (fun ns => 32 :: sideC ns) nss).flatten (by omega) (by omega) (by omega) hn.2 bh
    have e1 : pre ++ [32] ++ (sideC ns ++ (List.map (fun ns => 32 :: sideC ns) nss).flatten) = pre ++ (List.map (fun ns => 32 :: sideC ns) (ns :: nss)).flatten := by simp
    have e2 : (pre ++ [32]).length = pre.length + 1 := by simp
    rw [e1, e2] at e
    rw [e]
    dsimp only
    have ih := kindsL_text nss n k (acc ++ [ns]) (pre ++ [32] ++ sideC ns) (by simp at h; omega) h1 fun x hx => h2 x (List.mem_cons_of_mem _ hx)
    have e3 : pre ++ [32] ++ sideC ns ++ (List.map (fun ns => 32 :: sideC ns) nss).flatten = pre ++ (List.map (fun ns => 32 :: sideC ns) (ns :: nss)).flatten := by simp
    rw [e3] at ih
    rw [ih]
    simp
theorem kindC_cons (ns : List Int) : ∀ nss : List (List Int), kindC (ns :: nss) = sideC ns ++ (nss.map fun ns => 32 :: sideC ns).flatten
  | [] => by simp [kindC, gl]
  | m :: nss => by
    show sideC ns ++ [32] ++ kindC (m :: nss) = _
    rw [kindC_cons m nss]
    simp
def KindOk (nss : List (List Int)) (n : Nat) : Prop := 1 ≤ n ∧ n ≤ 4 ∧ 1 ≤ nss.length ∧ nss.length ≤ 4 ∧ ∀ ns ∈ nss, ns.length = n ∧ ∀ m ∈ ns, 1 ≤ m ∧ m ≤ MS
theorem parseK_text {nss : List (List Int)} {n : Nat} (h : KindOk nss n) : parseK (kindC nss) = .ok nss := by
  obtain ⟨h1, h2, h3, h4, h5⟩ := h
  cases nss with
  | nil => simp at h3
  | cons ns nss =>
    have hn := h5 ns List.mem_cons_self
    have bh : Behind (List.map (fun ns => 32 :: sideC ns) nss).flatten := fun c t e => by
      cases nss with
      | nil => exact nomatch e
      | cons a b =>
        have : 32 = c := (List.cons.inj e).1
        exact this.symm
    have e := sidesAt_text (ns := ns) (l := 1) (k := 4) [] (List.map (fun ns => 32 :: sideC ns) nss).flatten (by omega) (by omega) (by omega) hn.2 bh
    simp only [List.nil_append, List.length_nil] at e
    unfold parseK
    rw [kindC_cons, e]
    dsimp only
    have k := kindsL_text nss ns.length 3 [ns] (sideC ns) (by simp at h4; omega) (by omega) fun x hx => by
      have := h5 x (List.mem_cons_of_mem _ hx)
      exact ⟨by omega, this.2⟩
    rw [k]
    rfl
/-! ### sizes -/
theorem gl_len (sep : List Nat) : ∀ (l : List (List Nat)) (k : Nat), (∀ x ∈ l, x.length ≤ k) → (gl sep l).length ≤ l.length * (k + sep.length)
  | [], _, _ => Nat.zero_le _
  | [x], k, h => by
    have := h x List.mem_cons_self
    show x.length ≤ 1 * _
    omega
  | x :: y :: r, k, h => by
    have h1 := h x List.mem_cons_self
    have h2 := gl_len sep (y :: r) k fun z hz => h z (List.mem_cons_of_mem _ hz)
    show (x ++ sep ++ gl sep (y :: r)).length ≤ (r.length + 1 + 1) * _
    rw [List.length_append, List.length_append, Nat.succ_mul]
    have : (y :: r).length = r.length + 1 := rfl
    rw [this] at h2
    omega
theorem sideC_len {ns : List Int} (h : ns.length ≤ 4) (h2 : ∀ n ∈ ns, 1 ≤ n ∧ n ≤ MS) : (sideC ns).length ≤ 56 := by
  have hms : MS = 1000000000000 := rfl
  have := gl_len [120] (ns.map fun n => digs n.toNat) 13 fun x hx => by
    obtain ⟨n, hn, rfl⟩ := List.mem_map.mp hx
    have := h2 n hn
    exact digs_len (by omega)
  rw [List.length_map] at this
  show (gl [120] _).length ≤ 56
  have e : ([120] : List Nat).length = 1 := rfl
  rw [e] at this
  omega
theorem kindC_len {nss : List (List Int)} (h : nss.length ≤ 4) (h2 : ∀ ns ∈ nss, ns.length ≤ 4 ∧ ∀ n ∈ ns, 1 ≤ n ∧ n ≤ MS) : (kindC nss).length ≤ 228 := by
  have := gl_len [32] (nss.map sideC) 56 fun x hx => by
    obtain ⟨ns, hn, rfl⟩ := List.mem_map.mp hx
    exact sideC_len (h2 ns hn).1 (h2 ns hn).2
  rw [List.length_map] at this
  show (gl [32] _).length ≤ 228
  have e : ([32] : List Nat).length = 1 := rfl
  rw [e] at this
  omega
/-! ### a sign among the digits -/
theorem find_digit (c : Nat) : Txt.find ("0123456789" : Str) ⟨#[c]⟩ = if 48 ≤ c ∧ c ≤ 57 then (c : Int) - 48 else -1 := by
  by_cases h : 48 ≤ c ∧ c ≤ 57
  · rw [if_pos h]
    obtain ⟨h1, h2⟩ := h
    have : c = 48 ∨ c = 49 ∨ c = 50 ∨ c = 51 ∨ c = 52 ∨ c = 53 ∨ c = 54 ∨ c = 55 ∨ c = 56 ∨ c = 57 := by omega
    rcases this with rfl | rfl | rfl | rfl | rfl | rfl | rfl | rfl | rfl | rfl <;> decide +kernel
  · rw [if_neg h]
    have e := StrLaws.found_one ("0123456789" : Str) c
    have e2 : decide (c ∈ ("0123456789" : Str).cps.toList) = false := by
      have : ("0123456789" : Str).cps.toList = [48, 49, 50, 51, 52, 53, 54, 55, 56, 57] := by decide +kernel
      rw [this]
      refine decide_eq_false ?_
      simp only [List.mem_cons, List.not_mem_nil, or_false]
      omega
    rw [e2] at e
    unfold Txt.find
    cases ho : Builtin.Str.occurrences ("0123456789" : Str) ⟨#[c]⟩ 0 ("0123456789" : Str).length 1 with
    | nil => rfl
    | cons a b => rw [ho] at e; cases e
/-! ### what repr asks of data: their texts are not too long -/
structure Fit (n k : Nat) (d : PyData) : Prop where
  sh : d.showable = true
  len : d.shown.length ≤ n
  dp : d.depth ≤ k
theorem Fit.mono {n m k j : Nat} {d : PyData} (h : Fit n k d) (h1 : n ≤ m) (h2 : k ≤ j) : Fit m j d := ⟨h.sh, Nat.le_trans h.len h1, Nat.le_trans h.dp h2⟩
theorem fit_all {n k : Nat} : ∀ ds : List PyData, (∀ d ∈ ds, Fit n k d) → PyData.showableAll ds = true ∧ PyData.depthAll ds ≤ k ∧ ((PyData.shownAll ds).map (·.length)).sum ≤ ds.length * n ∧ (PyData.shownAll ds).length = ds.length
  | [], _ => ⟨rfl, Nat.zero_le _, Nat.zero_le _, rfl⟩
  | d :: ds, h => by
    obtain ⟨a, b, c, e⟩ := fit_all ds fun x hx => h x (List.mem_cons_of_mem _ hx)
    have f := h d List.mem_cons_self
    refine ⟨by rw [PyData.showableAll, f.sh, a]; rfl, by rw [PyData.depthAll]; have := f.dp; omega, ?_, by rw [PyData.shownAll, List.length_cons, e]; rfl⟩
    rw [PyData.shownAll, List.map_cons, List.sum_cons, List.length_cons, Nat.succ_mul]
    have := f.len
    omega
theorem Fit.list {n k : Nat} {ds : List PyData} (h : ∀ d ∈ ds, Fit n k d) : Fit (ds.length * n + 2 * ds.length + 3) (k + 1) (.list ds) := by
  obtain ⟨a, b, c, e⟩ := fit_all ds h
  refine ⟨by rw [PyData.showable]; exact a, ?_, by rw [PyData.depth]; omega⟩
  have := listText_len_le (PyData.shownAll ds)
  rw [PyData.shown]
  omega
theorem Fit.tuple {n k : Nat} {ds : List PyData} (h : ∀ d ∈ ds, Fit n k d) : Fit (ds.length * n + 2 * ds.length + 3) (k + 1) (.tuple ds) := by
  obtain ⟨a, b, c, e⟩ := fit_all ds h
  refine ⟨by rw [PyData.showable]; exact a, ?_, by rw [PyData.depth]; omega⟩
  have := tupleText_len_le (PyData.shownAll ds)
  rw [PyData.shown]
  omega
theorem fit_int {i : Int} (h : 0 ≤ i) (h2 : i ≤ MS) : Fit 13 0 (.int i) := by
  have hms : MS = 1000000000000 := rfl
  refine ⟨?_, ?_, Nat.le_refl _⟩
  · rw [PyData.showable]
    refine decide_eq_true ?_
    by_cases h0 : i.natAbs = 0
    · rw [h0]; decide
    · exact Nat.lt_of_lt_of_le ((Nat.log2_lt h0).mpr (show i.natAbs < 2 ^ 41 by omega)) (by decide)
  · show (numS i).length ≤ 13
    rw [← cs_len, cs_num h]
    exact digs_len (by omega)
theorem fit_str {x : Str} {n : Nat} (h : x.length ≤ n) (hc : ∀ c ∈ cs x, c < 16 ^ 8) : Fit (10 * n + 2) 0 (.str x) := by
  refine ⟨rfl, ?_, Nat.le_refl _⟩
  have := StrLaws.reprText_len x hc
  rw [PyData.shown]
  omega
theorem gl_mem {sep : List Nat} {c : Nat} : ∀ {l : List (List Nat)}, c ∈ gl sep l → c ∈ sep ∨ ∃ x ∈ l, c ∈ x
  | [], h => by cases h
  | [x], h => .inr ⟨x, List.mem_cons_self, h⟩
  | x :: y :: r, h => by
    have h' : c ∈ x ++ sep ++ gl sep (y :: r) := h
    rcases List.mem_append.mp h' with h1 | h1
    · rcases List.mem_append.mp h1 with h2 | h2
      · exact .inr ⟨x, List.mem_cons_self, h2⟩
      · exact .inl h2
    · rcases gl_mem h1 with h2 | ⟨z, hz, h2⟩
      · exact .inl h2
      · exact .inr ⟨z, List.mem_cons_of_mem _ hz, h2⟩
theorem side_code {ns : List Int} {c : Nat} (h : c ∈ sideC ns) : c < 1000 := by
  rcases gl_mem h with h | ⟨x, hx, h⟩
  · rw [List.mem_singleton.mp h]; decide
  · obtain ⟨n, _, rfl⟩ := List.mem_map.mp hx
    have := digs_mem _ _ h
    omega
theorem kind_code {nss : List (List Int)} {c : Nat} (h : c ∈ kindC nss) : c < 1000 := by
  rcases gl_mem h with h | ⟨x, hx, h⟩
  · rw [List.mem_singleton.mp h]; decide
  · obtain ⟨n, _, rfl⟩ := List.mem_map.mp hx
    exact side_code h
theorem fit_side {ns : List Int} (h : ns.length ≤ 4) (h2 : ∀ n ∈ ns, 1 ≤ n ∧ n ≤ MS) : Fit 3000 0 (.str (sideT ns)) := by
  refine (fit_str (n := 56) ?_ fun c hc => ?_).mono (by decide) (Nat.le_refl _)
  · rw [← cs_len, cs_side h2]; exact sideC_len h h2
  · rw [cs_side h2] at hc
    exact Nat.lt_of_lt_of_le (side_code hc) (by decide)
theorem fit_kind {nss : List (List Int)} (h : nss.length ≤ 4) (h2 : ∀ ns ∈ nss, ns.length ≤ 4 ∧ ∀ n ∈ ns, 1 ≤ n ∧ n ≤ MS) : Fit 3000 0 (.str (kindT nss)) := by
  have e := cs_kind fun ns hn => (h2 ns hn).2
  refine (fit_str (n := 228) ?_ fun c hc => ?_).mono (by decide) (Nat.le_refl _)
  · rw [← cs_len, e]; exact kindC_len h h2
  · rw [e] at hc
    exact Nat.lt_of_lt_of_le (kind_code hc) (by decide)
theorem fit_tupI {ns : List Int} (h : ns.length ≤ 4) (h2 : ∀ n ∈ ns, 1 ≤ n ∧ n ≤ MS) : Fit 100 1 (tupI ns) := by
  have := Fit.tuple (n := 13) (k := 0) (ds := ns.map PyData.int) fun d hd => by
    obtain ⟨n, hn, rfl⟩ := List.mem_map.mp hd
    have := h2 n hn
    exact fit_int (by omega) this.2
  rw [List.length_map] at this
  exact this.mono (by omega) (Nat.le_refl _)
theorem fit_tupK {nss : List (List Int)} (h : nss.length ≤ 4) (h2 : ∀ ns ∈ nss, ns.length ≤ 4 ∧ ∀ n ∈ ns, 1 ≤ n ∧ n ≤ MS) : Fit 3000 2 (tupK nss) := by
  have := Fit.tuple (n := 100) (k := 1) (ds := nss.map tupI) fun d hd => by
    obtain ⟨ns, hn, rfl⟩ := List.mem_map.mp hd
    exact fit_tupI (h2 ns hn).1 (h2 ns hn).2
  rw [List.length_map] at this
  exact this.mono (by omega) (Nat.le_refl _)
theorem sizeLine_big {n : Nat} (h : n ≤ 100000) : n ≤ sizeLine := Nat.le_trans h (by decide)
end TB
set_option Elab.async false
set_option linter.all false
set_option maxRecDepth 100000
namespace K04
open PySem PySem.Spec PyProof.Rows L2 Evl TB
def topS (i : Nat) : Stmt := PySem.Challenge.pw_twobricks_k04_texts_there_and_back.main.body.getD i (.Pass ⟨0, 0, 0, 0⟩)
abbrev s_sides_text : Stmt := topS 7
abbrev n_sides_text : List Str := ["sides", "side"]
abbrev p_sides_text : List Str := ["sides"]
theorem sc_sides_text : FnScope n_sides_text p_sides_text (defScope s_sides_text) := ⟨rfl, rfl, rfl, by decide +kernel, rfl, by decide +kernel, by decide +kernel⟩

abbrev s_kinds_text : Stmt := topS 8
abbrev n_kinds_text : List Str := ["kinds", "sides"]
abbrev p_kinds_text : List Str := ["kinds"]
theorem sc_kinds_text : FnScope n_kinds_text p_kinds_text (defScope s_kinds_text) := ⟨rfl, rfl, rfl, by decide +kernel, rfl, by decide +kernel, by decide +kernel⟩

abbrev s_number_at : Stmt := topS 9
abbrev n_number_at : List Str := ["text", "start", "number", "place", "digit", "longer"]
abbrev p_number_at : List Str := ["text", "start"]
theorem sc_number_at : FnScope n_number_at p_number_at (defScope s_number_at) := ⟨rfl, rfl, rfl, by decide +kernel, rfl, by decide +kernel, by decide +kernel⟩

abbrev s_sides_at : Stmt := topS 10
abbrev n_sides_at : List Str := ["text", "start", "least", "most", "sides", "place", "number"]
abbrev p_sides_at : List Str := ["text", "start", "least", "most"]
theorem sc_sides_at : FnScope n_sides_at p_sides_at (defScope s_sides_at) := ⟨rfl, rfl, rfl, by decide +kernel, rfl, by decide +kernel, by decide +kernel⟩

abbrev s_parse_sides : Stmt := topS 11
abbrev n_parse_sides : List Str := ["value", "sides", "place"]
abbrev p_parse_sides : List Str := ["value"]
theorem sc_parse_sides : FnScope n_parse_sides p_parse_sides (defScope s_parse_sides) := ⟨rfl, rfl, rfl, by decide +kernel, rfl, by decide +kernel, by decide +kernel⟩

abbrev s_parse_kinds : Stmt := topS 12
abbrev n_parse_kinds : List Str := ["value", "first", "place", "kinds", "sides"]
abbrev p_parse_kinds : List Str := ["value"]
theorem sc_parse_kinds : FnScope n_parse_kinds p_parse_kinds (defScope s_parse_kinds) := ⟨rfl, rfl, rfl, by decide +kernel, rfl, by decide +kernel, by decide +kernel⟩

abbrev s__law_deck : Stmt := topS 14
abbrev n__law_deck : List Str := ["_law_script", "_law_cells", "_law_cell"]
abbrev p__law_deck : List Str := ["_law_script"]
theorem sc__law_deck : FnScope n__law_deck p__law_deck (defScope s__law_deck) := ⟨rfl, rfl, rfl, by decide +kernel, rfl, by decide +kernel, by decide +kernel⟩

abbrev s__law_draw : Stmt := topS 15
abbrev n__law_draw : List Str := ["_law_deck_here", "_law_many", "_law_rest", "_law_cell", "_law_mixed"]
abbrev p__law_draw : List Str := ["_law_deck_here", "_law_many"]
theorem sc__law_draw : FnScope n__law_draw p__law_draw (defScope s__law_draw) := ⟨rfl, rfl, rfl, by decide +kernel, rfl, by decide +kernel, by decide +kernel⟩

abbrev s__law_one : Stmt := topS 16
abbrev n__law_one : List Str := ["_law_deck_here", "_law_items"]
abbrev p__law_one : List Str := ["_law_deck_here", "_law_items"]
theorem sc__law_one : FnScope n__law_one p__law_one (defScope s__law_one) := ⟨rfl, rfl, rfl, by decide +kernel, rfl, by decide +kernel, by decide +kernel⟩

abbrev s__law_far : Stmt := topS 17
abbrev n__law_far : List Str := ["_law_deck_here"]
abbrev p__law_far : List Str := ["_law_deck_here"]
theorem sc__law_far : FnScope n__law_far p__law_far (defScope s__law_far) := ⟨rfl, rfl, rfl, by decide +kernel, rfl, by decide +kernel, by decide +kernel⟩

abbrev s__law_wide : Stmt := topS 18
abbrev n__law_wide : List Str := ["_law_deck_here", "_law_axes", "_law_axis"]
abbrev p__law_wide : List Str := ["_law_deck_here", "_law_axes"]
theorem sc__law_wide : FnScope n__law_wide p__law_wide (defScope s__law_wide) := ⟨rfl, rfl, rfl, by decide +kernel, rfl, by decide +kernel, by decide +kernel⟩

abbrev s__law_sides_text : Stmt := topS 19
abbrev n__law_sides_text : List Str := ["_law_sides", "_law_side"]
abbrev p__law_sides_text : List Str := ["_law_sides"]
theorem sc__law_sides_text : FnScope n__law_sides_text p__law_sides_text (defScope s__law_sides_text) := ⟨rfl, rfl, rfl, by decide +kernel, rfl, by decide +kernel, by decide +kernel⟩

abbrev s__law_kinds_text : Stmt := topS 20
abbrev n__law_kinds_text : List Str := ["_law_kinds", "_law_sides"]
abbrev p__law_kinds_text : List Str := ["_law_kinds"]
theorem sc__law_kinds_text : FnScope n__law_kinds_text p__law_kinds_text (defScope s__law_kinds_text) := ⟨rfl, rfl, rfl, by decide +kernel, rfl, by decide +kernel, by decide +kernel⟩

abbrev s_law : Stmt := topS 21
abbrev n_law : List Str := ["_law_script", "_law_deck_here", "_law_noted", "_law_turn", "_law_axes", "_law_kinds", "_law_texts", "_law_text", "_law_k"]
abbrev p_law : List Str := ["_law_script"]
theorem sc_law : FnScope n_law p_law (defScope s_law) := ⟨rfl, rfl, rfl, by decide +kernel, rfl, by decide +kernel, by decide +kernel⟩

structure Txt (mg : Str → Option Value) : Prop where
  n_abs : mg "abs" = none
  n_int : mg "int" = none
  n_isinstance : mg "isinstance" = none
  n_len : mg "len" = none
  n_range : mg "range" = none
  n_repr : mg "repr" = none
  n_str : mg "str" = none
  n_tuple : mg "tuple" = none
  c_MAX_DIMS : ∃ t, mg "MAX_DIMS" = some (.int 4 t)
  c_MAX_KINDS : ∃ t, mg "MAX_KINDS" = some (.int 4 t)
  c_MAX_SIDE : ∃ t, mg "MAX_SIDE" = some (.int 1000000000000 t)
section
variable {P : Program} {w : World} {K : PySem.W.Frag} {mg : Str → Option Value} {base : Heap}
/-! ### the deck -/
theorem shaped_ints (ns : List Int) : SeqAt.shaped (.list (ns.map PyData.int)) = true := by
  have h1 : PyData.canLayAll0 (ns.map PyData.int) = true := by
    induction ns with
    | nil => rfl
    | cons n ns ih => rw [List.map_cons, PyData.canLayAll0, ih]; rfl
  have h2 : PyData.depthAll (ns.map PyData.int) = 0 := by
    induction ns with
    | nil => rfl
    | cons n ns ih => rw [List.map_cons, PyData.depthAll, ih (by rw [List.map_cons, PyData.canLayAll0] at h1; exact (Bool.and_eq_true_iff.mp h1).2)]; rfl
  unfold SeqAt.shaped
  rw [PyData.canLay0, h1, PyData.depth, h2]; rfl
theorem dpAll_ints {K : PySem.W.Frag} {H : Hp} (ns : List Int) : DpAll K H (ns.map V.int) (ns.map PyData.int) := by
  induction ns with
  | nil => exact .nil
  | cons n ns ih => exact .cons (.int n) ih
theorem eqv_nil (ns : List Int) : PyData.eqv (.list (ns.map PyData.int)) (.list []) = ns.isEmpty := by
  cases ns <;> rfl
theorem ok__law_draw (T : Txt mg) {f : Addr} {fd : FuncData} (F : Fun K "_law_draw" "_law_draw" s__law_draw f fd) : FnOk P w K mg base CX0 1 f fd p__law_draw spDraw := by
  refine F.ok sc__law_draw (fun vs H Q E h => ?_) (fun cdv A outer s H vs Q E hr h => ?_)
  · obtain ⟨d, g, l, m, rfl, _⟩ := h
    rfl
  obtain ⟨d, g, l, m, rfl, m0, m1, ⟨gs, ls, c, hd, hg, hl, dg, dl, gl, lpos⟩, k⟩ := h
  refine ⟨_, (pss_cons (ps_if (pt_cmpR (op_neD hr.units) (pe_ix ix_list (pv 0) pe_int (fun _ _ => rfl)) (pe_lst pa_nil) (nomark _))
 (pss_cons (ps_set (i := 2) sc__law_draw.nd rfl (.inl rfl) (pe_ix ix_list (pe_ix ix_list (pv 0) pe_int (fun _ _ => rfl)) pe_int (fun _ _ => rfl)))
 (pss_cons (ps_asg (pe_op op_fdivW (pv 2) (pv 1)) (pg_sub (pe_ix ix_list (pv 0) pe_int (fun _ _ => rfl)) pe_int set_list))
 (pss_cons (ps_if (pt_cmpR op_eq (pe_ix ix_list (pe_ix ix_list (pv 0) pe_int (fun _ _ => rfl)) pe_int (fun _ _ => rfl)) pe_int (nomark _))
 (pss_one (ps_expr (pe_bm PySem.F.plainAttrs_list PySem.F.slot_list_pop PySem.F.type_list_pop mt_popAt (pe_ix ix_list (pv 0) pe_int (fun _ _ => rfl)) (pa_cons pe_int pa_nil)))) pss_nil)
 (pss_one (ps_ret (pe_op op_modN (pe_callTy call_int1 (by rfl) T.n_int (by decide +kernel) (pa_cons (pv 2) pa_nil)) (pv 1))))))) pss_nil)
 (pss_cons (ps_asg (pe_op op_add (pe_ix ix_list (pv 0) pe_int (fun _ _ => rfl)) pe_int) (pg_sub (pv 0) pe_int set_list))
 (pss_cons (ps_set (i := 3) sc__law_draw.nd rfl (.inl rfl) (pe_ix ix_list (pe_ix ix_list (pv 0) pe_int (fun _ _ => rfl)) (pe_op op_modN (pe_callTy call_int1 (by rfl) T.n_int (by decide +kernel) (pa_cons (pe_ix ix_list (pv 0) pe_int (fun _ _ => rfl)) pa_nil)) (pe_callB call_len_seq (by rfl) T.n_len (by decide +kernel) (pa_cons (pe_ix ix_list (pv 0) pe_int (fun _ _ => rfl)) pa_nil))) (fun _ _ => rfl)))
 (pss_cons (ps_set (i := 4) sc__law_draw.nd rfl (.inl rfl) (pe_op op_modN (pe_callTy call_int1 (by rfl) T.n_int (by decide +kernel) (pa_cons (pe_op op_add (pe_op op_modN (pe_callTy call_int1 (by rfl) T.n_int (by decide +kernel) (pa_cons (pv 3) pa_nil)) pe_int) (pe_op op_mul pe_int (pe_ix ix_list (pv 0) pe_int (fun _ _ => rfl)))) pa_nil)) pe_int))
 (pss_cons (ps_set (i := 4) sc__law_draw.nd rfl (.inl rfl) (pe_op op_modN (pe_callTy call_int1 (by rfl) T.n_int (by decide +kernel) (pa_cons (pe_op op_add (pe_op op_mul (pv 4) (pv 4)) (pe_op op_mul pe_int (pe_ix ix_list (pv 0) pe_int (fun _ _ => rfl)))) pa_nil)) pe_int))
 (pss_one (ps_ret (pe_op op_modN (pe_op op_fdivW (pe_op op_modN (pe_callTy call_int1 (by rfl) T.n_int (by decide +kernel) (pa_cons (pe_op op_mul (pv 4) (pv 4)) pa_nil)) pe_int) pe_int) (pv 1))))))))), ?_⟩
  refine ⟨_, rfl, d, _, _, _, rfl, rfl, .inl (.inl hd), rfl, Nat.zero_le _, fun p hp => ?_⟩
  have e0 : Ex H (upd H p (.lst [])) := Ex.new hp
  refine ⟨.list (gs.map PyData.int), .list [], .lst (.inl (.inl (e0 _ _ hg))) (dpAll_ints gs), .lst (.inl (.inl upd_same)) .nil, shaped_ints gs, shaped_ints [], _, rfl, ?_⟩
  rw [eqv_nil]
  generalize hH : upd H p (.lst []) = H1 at e0 ⊢
  have hd1 := e0 _ _ hd
  have hg1 := e0 _ _ hg
  have hl1 := e0 _ _ hl
  have off1 : Off d g H H1 := Off.of e0
  have big : (m.natAbs.log2 < 9000) := by
    have : m.natAbs ≤ 1000000000000 := by omega
    exact Nat.lt_of_le_of_lt (Nat.log2_le_self m.natAbs |> fun _ => (Nat.log2_lt (by omega)).mpr (show m.natAbs < 2 ^ 41 by omega) |> Nat.le_of_lt) (by decide)
  cases gs with
  | cons a gr =>
    refine (if_pos rfl).mpr ?_
    -- rest = deck[0][0]; deck[0][0] = rest // many
    refine ⟨_, rfl, d, _, _, _, rfl, rfl, .inl (.inl hd1), rfl, g, _, _, _, rfl, rfl, .inl (.inl hg1), atI_nat (j := 0) rfl, ?_⟩
    refine ⟨_, rfl, _, rfl, _, _, rfl, rfl, ⟨m0, big⟩, _, rfl, d, _, _, _, rfl, rfl, .inl (.inl hd1), rfl, g, _, _, 0, rfl, rfl, hg1, ixN_zero (by simp), ?_⟩
    generalize hH2 : upd H1 g _ = H2
    have hg2 : H2 g = some (.lst ((a / m :: gr).map V.int)) := by rw [← hH2, upd_same]; rfl
    have hd2 : H2 d = some (.lst [.ref g, .ref l, .int c]) := by rw [← hH2, upd_ne dg]; exact hd1
    have hl2 : H2 l = some (.lst (ls.map V.int)) := by rw [← hH2, upd_ne gl.symm]; exact hl1
    have off2 : Off d g H H2 := off1.trans fun b o e _ n => by rw [← hH2, upd_ne n]; exact e
    -- if deck[0][0] == 0: deck[0].pop(0)
    refine ⟨_, rfl, d, _, _, _, rfl, rfl, .inl (.inl hd2), rfl, g, _, _, _, rfl, rfl, .inl (.inl hg2), atI_nat (j := 0) rfl, rfl, _, rfl, ite2 (fun _ => ?_) (fun _ => ?_)⟩
    · refine ⟨_, rfl, d, _, _, _, rfl, rfl, .inl (.inl hd2), rfl, .inl ⟨rfl, _, .inl (.inl hg2)⟩, g, _, 0, 0, _, rfl, rfl, hg2, by decide, by decide, ?_, rfl, ?_⟩
      · exact (ixN_seq (ixN_zero (by simp))).1
      · generalize hH3 : upd H2 g _ = H3
        have hg3 : H3 g = some (.lst (gr.map V.int)) := by rw [← hH3, upd_same]; rfl
        have hd3 : H3 d = some (.lst [.ref g, .ref l, .int c]) := by rw [← hH3, upd_ne dg]; exact hd2
        have hl3 : H3 l = some (.lst (ls.map V.int)) := by rw [← hH3, upd_ne gl.symm]; exact hl2
        refine ⟨_, rfl, .inl ⟨_, rfl, _, rfl, _, _, rfl, rfl, by omega, ?_⟩⟩
        exact k _ _ (fmod_rng m0).1 (fmod_rng m0).2 ⟨gr, ls, c, hd3, hg3, hl3, dg, dl, gl, lpos⟩ (off2.trans fun b o e _ n => by rw [← hH3, upd_ne n]; exact e)
    · refine ⟨_, rfl, .inl ⟨_, rfl, _, rfl, _, _, rfl, rfl, by omega, ?_⟩⟩
      exact k _ _ (fmod_rng m0).1 (fmod_rng m0).2 ⟨_, ls, c, hd2, hg2, hl2, dg, dl, gl, lpos⟩ off2
  | nil =>
    refine (if_neg (by decide)).mpr ?_
    -- deck[2] = deck[2] + 1
    refine ⟨_, rfl, d, _, _, _, rfl, rfl, .inl (.inl hd1), rfl, _, _, rfl, rfl, _, rfl, d, _, _, 2, rfl, rfl, hd1, rfl, ?_⟩
    generalize hH2 : upd H1 d _ = H2
    have hd2 : H2 d = some (.lst [.ref g, .ref l, .int (c + 1)]) := by rw [← hH2, upd_same]; rfl
    have hg2 : H2 g = some (.lst (([] : List Int).map V.int)) := by rw [← hH2, upd_ne dg.symm]; exact hg1
    have hl2 : H2 l = some (.lst (ls.map V.int)) := by rw [← hH2, upd_ne dl.symm]; exact hl1
    have off2 : Off d g H H2 := off1.trans fun b o e n _ => by rw [← hH2, upd_ne n]; exact e
    have hD : Deck H2 d g l := ⟨[], ls, c + 1, hd2, hg2, hl2, dg, dl, gl, lpos⟩
    have lp : (0 : Int) < ((ls.map V.int).length : Int) := by rw [List.length_map]; omega
    obtain ⟨i0, i1⟩ := fmod_rng (a := c + 1) lp
    obtain ⟨j, hj⟩ : ∃ j : Nat, (c + 1).fmod ((ls.map V.int).length : Int) = (j : Int) := ⟨_, (Int.toNat_of_nonneg i0).symm⟩
    have jl : j < ls.length := by rw [hj, List.length_map] at i1; omega
    have at_ : atI (ls.map V.int) ((c + 1).fmod ((ls.map V.int).length : Int)) = some (.int ls[j]) := by
      rw [hj]
      refine atI_nat ?_
      rw [List.getElem?_map, List.getElem?_eq_getElem jl]
      rfl
    -- cell = deck[1][int(deck[2]) % len(deck[1])]
    refine ⟨_, rfl, d, _, _, _, rfl, rfl, .inl (.inl hd2), rfl, _, rfl, d, _, _, _, rfl, rfl, .inl (.inl hd2), rfl, .inl ⟨_, rfl, ?_⟩⟩
    refine ⟨_, rfl, d, _, _, _, rfl, rfl, .inl (.inl hd2), rfl, l, _, rfl, .inl (.inl (.inl hl2)), _, _, rfl, rfl, by omega, l, _, _, _, rfl, rfl, .inl (.inl hl2), at_, ?_⟩
    generalize ls[j] = cell
    -- the first mix
    refine ⟨_, rfl, .inl ⟨_, rfl, _, _, rfl, rfl, (show (4294966477 : Int) ≠ 0 by decide), _, rfl, d, _, _, _, rfl, rfl, .inl (.inl hd2), rfl, _, _, rfl, rfl, .inl ⟨by decide, by decide⟩, _, _, rfl, rfl, .inl ⟨_, rfl, _, _, rfl, rfl, (show (4294966477 : Int) ≠ 0 by decide), ?_⟩⟩⟩
    refine ⟨_, rfl, _, rfl, _, _, rfl, rfl, .inl (fmod_small (by decide) (by decide)), _, rfl, d, _, _, _, rfl, rfl, .inl (.inl hd2), rfl, _, _, rfl, rfl, .inl ⟨by decide, by decide⟩, _, _, rfl, rfl, .inl ⟨_, rfl, _, _, rfl, rfl, (show (4294966427 : Int) ≠ 0 by decide), ?_⟩⟩
    refine ⟨_, rfl, _, rfl, _, _, rfl, rfl, .inl (fmod_small (by decide) (by decide)), .inl ⟨_, rfl, _, _, rfl, rfl, (show (4294966373 : Int) ≠ 0 by decide), _, _, rfl, rfl, ⟨by decide, by decide⟩, _, rfl, _, _, rfl, rfl, by omega, ?_⟩⟩
    exact k _ _ (fmod_rng m0).1 (fmod_rng m0).2 hD off2
theorem ok__law_one (T : Txt mg) {f : Addr} {fd : FuncData} (F : Fun K "_law_one" "_law_one" s__law_one f fd) (h__law_draw : Keeps P w K mg base 1 "_law_draw" p__law_draw spDraw) : FnOk P w K mg base CX0 2 f fd p__law_one spOne := by
  refine F.ok sc__law_one (fun vs H Q E h => ?_) (fun cdv A outer s H vs Q E hr h => ?_)
  · obtain ⟨d, g, l, p, xs, rfl, _⟩ := h
    rfl
  obtain ⟨d, g, l, p, xs, rfl, D, hp, pd, pg, x0, x1, k⟩ := h
  refine ⟨_, (pss_one (ps_ret (pe_ix ix_list (pv 1) (TB.pe_own h__law_draw (hr.mono (by decide)) (by rfl) (pa_cons (pv 0) (pa_cons (pe_callB call_len_seq (by rfl) T.n_len (by decide +kernel) (pa_cons (pv 1) pa_nil)) pa_nil))) (fun _ _ => rfl)))), ?_⟩
  refine ⟨_, rfl, _, rfl, _, rfl, p, xs, rfl, .inl (.inl (.inl hp)), d, g, l, _, rfl, by omega, by omega, D, fun r H1 r0 r1 D1 o1 => ?_⟩
  obtain ⟨j, rfl⟩ : ∃ j : Nat, r = (j : Int) := ⟨_, (Int.toNat_of_nonneg r0).symm⟩
  have jl : j < xs.length := by omega
  exact ⟨p, xs, _, xs[j], rfl, rfl, .inl (.inl (o1 _ _ hp pd pg)), atI_nat (List.getElem?_eq_getElem jl), k j _ _ (List.getElem?_eq_getElem jl) D1 o1⟩
theorem cut63 {ns : List V} (h : ns.length ≤ 63) : cutV ns none (some 63) = ns := by
  unfold cutV
  rw [HT.sIx_none, show HT.sIx ns.length ns.length (some 63) = min 63 ns.length from HT.sIx_nat _ _ 63]
  rw [Nat.min_eq_right h, List.drop_zero, Nat.sub_zero, List.take_length]
def absI (n : Int) : Int := if n < 0 then -n else n
theorem ok__law_deck (T : Txt mg) {f : Addr} {fd : FuncData} (F : Fun K "_law_deck" "_law_deck" s__law_deck f fd) : FnOk P w K mg base CX0 1 f fd p__law_deck (spDeck K) := by
  refine F.ok sc__law_deck (fun vs H Q E h => ?_) (fun cdv A outer s H vs Q E hr h => ?_)
  · obtain ⟨a, ns, rfl, _⟩ := h
    rfl
  obtain ⟨a, ns, rfl, hS, hn, k⟩ := h
  refine ⟨_, (pss_cons (ps_setLc (i := 1) (own := [("_law_cell", 2)]) (g := gName 2) rfl sc__law_deck.nd rfl rfl (sw_true rfl rfl rfl (by decide +kernel)) (pi_list (pe_slice sl_list (pv 0) po_none (po_some pe_int))) (blkOk_by (N := n__law_deck) (sc := defScope s__law_deck) (by decide +kernel)) (fun _ _ _ _ _ => pg_name (i := 2) sc__law_deck.nd rfl (.inl rfl)) (fun _ _ _ _ _ => pts_nil) (fun _ _ _ _ _ => (pe_callB call_abs (by rfl) T.n_abs (by decide +kernel) (pa_cons (pv 2) pa_nil))))
 (pss_one (ps_ret (pe_lst (pa_cons (pe_lc (own := [("_law_cell", 2)]) (g := gName 2) rfl sc__law_deck.nd (pi_list (pv 1)) (blkOk_by (N := n__law_deck) (sc := defScope s__law_deck) (by decide +kernel)) (fun _ _ _ _ _ => pg_name (i := 2) sc__law_deck.nd rfl (.inl rfl)) (fun _ _ _ _ _ => (pts_one (pt_cmpR op_ge (pv 2) (pe_op op_pow pe_int pe_int) (nomark _)))) (fun _ _ _ _ _ => (pv 2))) (pa_cons (pe_op op_cat (pv 1) (pe_lst (pa_cons (pe_op op_add pe_int (pe_callB call_len_seq (by rfl) T.n_len (by decide +kernel) (pa_cons (pv 1) pa_nil))) pa_nil))) (pa_cons pe_int pa_nil))))))), ?_⟩
  refine ⟨.ref a, rfl, 63, rfl, a, _, rfl, hS, fun p hp => ⟨p, rfl, ⟨_, .inl (.inl upd_same)⟩, fun D hD => ?_⟩⟩
  rw [cut63 (by rw [List.length_map]; exact hn)] at hD ⊢
  have e1 : Ex H (upd H p (.lst (ns.map V.int))) := Ex.new hp
  have pD : p ≠ D := ne_of_none upd_same hD
  refine lc_list (K := K) (a := p) (xs := ns.map V.int) (fun i H' => Ex H H' ∧ H' p = some (.lst (ns.map V.int)) ∧ H' D = some (.lst (((ns.map absI).take i).map V.int)))
    ⟨e1.trans (Ex.new hD), by rw [upd_ne pD]; exact upd_same, upd_same⟩ (fun i H' _ h => .inl (.inl h.2.1)) (fun i x H' hx h => ?_) (fun H' h => ?_)
  · obtain ⟨e, h1, h2⟩ := h
    rw [List.getElem?_map] at hx
    obtain ⟨n, hn1, rfl⟩ := Option.map_eq_some_iff.mp hx
    have il : i < ns.length := (List.getElem?_eq_some_iff.mp hn1).1
    refine ⟨rfl, _, rfl, n, rfl, _, h2, size_small' (by rw [List.length_map, List.length_take]; omega), e.mut (fresh_back e1 hD), by rw [upd_ne pD]; exact h1, ?_⟩
    rw [upd_same, List.take_add_one, List.getElem?_map, hn1, List.map_append]
    rfl
  obtain ⟨e, h1, h2⟩ := h
  rw [List.length_map, List.take_of_length_le (by rw [List.length_map]; omega)] at h2
  generalize hms : ns.map absI = ms at h2
  have ml : ms.length ≤ 63 := by rw [← hms, List.length_map]; exact hn
  -- the list of the great ones
  refine ⟨.ref D, rfl, D, rfl, ⟨_, .inl (.inl h2)⟩, fun B hB => ?_⟩
  have DB : D ≠ B := ne_of_none h2 hB
  refine lc_list (K := K) (a := D) (xs := ms.map V.int) (fun i H2 => Ex H' H2 ∧ H2 D = some (.lst (ms.map V.int)) ∧ ∃ gs : List Int, gs.length ≤ i ∧ H2 B = some (.lst (gs.map V.int)))
    ⟨Ex.new hB, by rw [upd_ne DB]; exact h2, [], Nat.le_refl _, upd_same⟩ (fun i H2 _ h => .inl (.inl h.2.1)) (fun i x H2 hx h => ?_) (fun H2 h => ?_)
  · obtain ⟨e2, g1, gs, gl, g2⟩ := h
    rw [List.getElem?_map] at hx
    obtain ⟨n, hn1, rfl⟩ := Option.map_eq_some_iff.mp hx
    have il : i < ms.length := (List.getElem?_eq_some_iff.mp hn1).1
    refine ⟨rfl, _, rfl, _, _, rfl, rfl, ⟨by decide, by decide, by decide⟩, _, _, rfl, rfl, _, rfl, ?_⟩
    refine ite2 (fun _ => ?_) (fun _ => ?_)
    · refine ⟨_, rfl, _, g2, size_small' (by rw [List.length_map]; omega), e2.mut hB, by rw [upd_ne DB]; exact g1, gs ++ [n], by rw [List.length_append]; exact Nat.succ_le_succ gl, ?_⟩
      rw [upd_same, List.map_append]
      rfl
    · exact ⟨e2, g1, gs, by omega, g2⟩
  obtain ⟨e2, g1, gs, gl, g2⟩ := h
  rw [List.length_map] at gl
  -- cells + [11228 + len(cells)]
  refine ⟨_, rfl, _, rfl, D, _, rfl, .inl (.inl (.inl g1)), _, _, rfl, rfl, (show 1 ≤ sizeLine by decide), fun c hc => ?_⟩
  have Dc : D ≠ c := ne_of_none g1 hc
  refine ⟨D, c, _, _, rfl, rfl, by rw [upd_ne Dc]; exact g1, upd_same, size_small (by simp; omega), fun L hL => ?_⟩
  have cL : c ≠ L := ne_of_none upd_same hL
  have BD : B ≠ D := DB.symm
  have hBc : B ≠ c := ne_of_none g2 hc
  have hBL : B ≠ L := ne_of_none (by rw [upd_ne hBc]; exact g2) hL
  refine ⟨(show 3 ≤ sizeLine by decide), fun d hd => ?_⟩
  have dL : d ≠ L := fun q => by rw [q, upd_same] at hd; cases hd
  have dB : d ≠ B := fun q => by rw [q, upd_ne hBL, upd_ne hBc, g2] at hd; cases hd
  have ec := Ex.new (o := .lst [.int (11228 + ((ms.map V.int).length : Int))]) hc
  have eL := ec.trans (Ex.new (o := .lst (ms.map V.int ++ [.int (11228 + ((ms.map V.int).length : Int))])) hL)
  refine k d B L _ ((e.trans e2).trans (eL.trans (Ex.new hd))) ?_ (fresh_back e hB) ?_
  · exact fresh_back ((e.trans e2).trans eL) hd
  · refine ⟨gs, ms ++ [11228 + ((ms.map V.int).length : Int)], 0, upd_same, ?_, ?_, dB, dL, hBL, by simp⟩
    · rw [upd_ne dB.symm, upd_ne hBL, upd_ne hBc]; exact g2
    · rw [upd_ne dL.symm, upd_same, List.map_append]
      rfl
def spFar : Sp := fun vs H Q _ => ∃ (d g l : Addr), vs = [.ref d] ∧ Deck H d g l ∧ ∀ r H', 1 ≤ r → r ≤ 1000000000000 → Deck H' d g l → Off d g H H' → Q (.int r) H'
theorem ok__law_far (T : Txt mg) {f : Addr} {fd : FuncData} (F : Fun K "_law_far" "_law_far" s__law_far f fd) (h__law_draw : Keeps P w K mg base 1 "_law_draw" p__law_draw spDraw) (h__law_one : Keeps P w K mg base 2 "_law_one" p__law_one spOne) : FnOk P w K mg base CX0 3 f fd p__law_far spFar := by
  refine F.ok sc__law_far (fun vs H Q E h => ?_) (fun cdv A outer s H vs Q E hr h => ?_)
  · obtain ⟨d, g, l, rfl, _⟩ := h
    rfl
  obtain ⟨d, g, l, rfl, D, k⟩ := h
  refine ⟨_, (pss_one (ps_ret (TB.pe_own h__law_one (hr.mono (by decide)) (by rfl) (pa_cons (pv 0) (pa_cons (pe_lst (pa_cons (pe_op op_add pe_int (TB.pe_own h__law_draw (hr.mono (by decide)) (by rfl) (pa_cons (pv 0) (pa_cons pe_int pa_nil)))) (pa_cons (pe_op op_add pe_int (TB.pe_own h__law_draw (hr.mono (by decide)) (by rfl) (pa_cons (pv 0) (pa_cons (pe_op op_pow pe_int pe_int) pa_nil)))) (pa_cons (pe_op op_add pe_int (TB.pe_own h__law_draw (hr.mono (by decide)) (by rfl) (pa_cons (pv 0) (pa_cons (pe_op op_pow pe_int pe_int) pa_nil)))) (pa_cons (pe_op op_pow pe_int pe_int) pa_nil))))) pa_nil))))), ?_⟩
  refine ⟨_, rfl, _, rfl, d, g, l, _, rfl, by decide, by decide, D, fun r1 H1 a1 b1 D1 o1 => ⟨_, _, rfl, rfl, ?_⟩⟩
  refine ⟨_, rfl, _, _, rfl, rfl, ⟨by decide, by decide, by decide⟩, d, g, l, _, rfl, by decide, by decide, D1, fun r2 H2 a2 b2 D2 o2 => ⟨_, _, rfl, rfl, ?_⟩⟩
  refine ⟨_, rfl, _, _, rfl, rfl, ⟨by decide, by decide, by decide⟩, d, g, l, _, rfl, by decide, by decide, D2, fun r3 H3 a3 b3 D3 o3 => ⟨_, _, rfl, rfl, ?_⟩⟩
  refine ⟨_, _, rfl, rfl, ⟨by decide, by decide, by decide⟩, (show 4 ≤ sizeLine by decide), fun p hp => ?_⟩
  obtain ⟨pd, pg⟩ := D3.ne hp
  refine ⟨d, g, l, p, _, rfl, D3.ex (Ex.new hp), upd_same, pd, pg, (show 0 < 4 by decide), (show 4 ≤ 1000 by decide), fun i v H4 hv D4 o4 => ?_⟩
  have b2' : r2 < 1000000 := b2
  have b3' : r3 < 1000000000000 := b3
  have off : Off d g H H4 := ((o1.trans o2).trans o3).trans ((Off.of (Ex.new hp)).trans o4)
  match i, hv with
  | 0, hv => cases hv; exact k _ _ (by omega) (by omega) D4 off
  | 1, hv => cases hv; exact k _ _ (by omega) (by omega) D4 off
  | 2, hv => cases hv; exact k _ _ (by omega) (by omega) D4 off
  | 3, hv => cases hv; exact k _ _ (by decide) (by decide) D4 off
def spWide : Sp := fun vs H Q _ => ∃ (d g l : Addr) (n : Nat), vs = [.ref d, .int n] ∧ n ≤ 100 ∧ Deck H d g l ∧
  ∀ p (ns : List Int) H', ns.length = n → (∀ x ∈ ns, 1 ≤ x ∧ x ≤ 1000000000000) → H p = none → H' p = some (.tup (ns.map V.int)) → Deck H' d g l → Off d g H H' → Q (.ref p) H'
theorem ok__law_wide (T : Txt mg) {f : Addr} {fd : FuncData} (F : Fun K "_law_wide" "_law_wide" s__law_wide f fd) (h__law_far : Keeps P w K mg base 3 "_law_far" p__law_far spFar) : FnOk P w K mg base CX0 4 f fd p__law_wide spWide := by
  refine F.ok sc__law_wide (fun vs H Q E h => ?_) (fun cdv A outer s H vs Q E hr h => ?_)
  · obtain ⟨d, g, l, n, rfl, _⟩ := h
    rfl
  obtain ⟨d, g, l, n, rfl, hn, D, k⟩ := h
  refine ⟨_, (pss_one (ps_ret (pe_callTy call_tuple_of (by rfl) T.n_tuple (by decide +kernel) (pa_cons (pe_lc (own := [("_law_axis", 2)]) (g := gName 2) rfl sc__law_wide.nd (pi_range1 (by rfl) T.n_range (pa_cons (pv 1) pa_nil)) (blkOk_by (N := n__law_wide) (sc := defScope s__law_wide) (by decide +kernel)) (fun _ _ _ _ _ => pg_name (i := 2) sc__law_wide.nd rfl (.inl rfl)) (fun _ _ _ _ _ => pts_nil) (fun _ _ _ _ _ => (TB.pe_own h__law_far (hr.mono (by decide)) (by rfl) (pa_cons (pv 0) pa_nil)))) pa_nil)))), ?_⟩
  refine ⟨_, rfl, n, rfl, by omega, by omega, fun B hB => ?_⟩
  obtain ⟨Bd, Bg⟩ := D.ne hB
  have lB : l ≠ B := by
    obtain ⟨gs, ls, c, q1, q2, q3, q4⟩ := D
    exact ne_of_none q3 hB
  refine lc_range (lo := 0) (n := (n : Int).toNat) (fun i H' => Deck H' d g l ∧ Off d g H H' ∧ ∃ ns : List Int, ns.length = i ∧ (∀ x ∈ ns, 1 ≤ x ∧ x ≤ 1000000000000) ∧ H' B = some (.lst (ns.map V.int)))
    ⟨D.ex (Ex.new hB), Off.of (Ex.new hB), [], rfl, (fun x h => nomatch h), upd_same⟩ (fun i H' hi h => ?_) (fun H' h => ?_)
  · obtain ⟨D1, o1, ns, hl, hx, h1⟩ := h
    refine ⟨rfl, _, rfl, d, g, l, rfl, D1, fun r H2 r1 r2 D2 o2 => ?_⟩
    have h2 := o2 _ _ h1 Bd Bg
    refine ⟨_, h2, size_small' (by rw [List.length_map]; omega), ?_, ?_, ns ++ [r], by rw [List.length_append]; simp [hl], ?_, ?_⟩
    · obtain ⟨gs, ls, c, q1, q2, q3, q4⟩ := D2
      exact ⟨gs, ls, c, by rw [upd_ne Bd.symm]; exact q1, by rw [upd_ne Bg.symm]; exact q2, by rw [upd_ne lB]; exact q3, q4⟩
    · intro b o e n1 n2
      rw [upd_ne (fun q => by rw [q, hB] at e; cases e)]
      exact o2 _ _ (o1 _ _ e n1 n2) n1 n2
    · intro x hx'
      rcases List.mem_append.mp hx' with q | q
      · exact hx x q
      · rw [List.mem_singleton.mp q]; exact ⟨r1, r2⟩
    · rw [upd_same, List.map_append]
      rfl
  obtain ⟨D1, o1, ns, hl, hx, h1⟩ := h
  refine ⟨B, _, rfl, .inl ⟨.inl (.inl h1), fun p hp => ?_⟩⟩
  refine k p ns _ (by omega) hx ?_ upd_same (D1.ex (Ex.new hp)) (o1.trans (Off.of (Ex.new hp)))
  cases q : H p with
  | none => rfl
  | some o =>
    by_cases pd : p = d
    · obtain ⟨gs, ls, c, q1, _⟩ := D1
      rw [pd, q1] at hp; cases hp
    · by_cases pg : p = g
      · obtain ⟨gs, ls, c, q1, q2, _⟩ := D1
        rw [pg, q2] at hp; cases hp
      · rw [o1 _ _ q pd pg] at hp; cases hp
end
end K04
set_option Elab.async false
set_option linter.all false
set_option maxRecDepth 100000
namespace K04
open PySem PySem.Spec PyProof.Rows L2 Evl TB
section
variable {P : Program} {w : World} {K : PySem.W.Frag} {mg : Str → Option Value} {base : Heap}
/-! ### texts of sides -/
def spSideT (K : PySem.W.Frag) : Sp := fun vs H Q _ => ∃ (z : V) (ns : List Int), vs = [z] ∧ Rp K H z (tupI ns) ∧ ns.length ≤ 4 ∧ (∀ n ∈ ns, 1 ≤ n ∧ n ≤ MS) ∧ ∀ H', Ex H H' → Q (.str (sideT ns)) H'
theorem log_small {n : Int} (h : 1 ≤ n ∧ n ≤ MS) : n.natAbs.log2 < 1920 := by
  have hms : MS = 1000000000000 := rfl
  exact Nat.lt_of_lt_of_le ((Nat.log2_lt (by omega)).mpr (show n.natAbs < 2 ^ 41 by omega)) (by decide)
theorem num_len {n : Int} (h : 1 ≤ n ∧ n ≤ MS) : (numS n).length ≤ 13 := by
  have hms : MS = 1000000000000 := rfl
  rw [← cs_len, cs_num (by omega)]
  exact digs_len (by omega)
theorem ok_sides_text (T : Txt mg) {f : Addr} {fd : FuncData} (F : Fun K "sides_text" "sides_text" s_sides_text f fd) : FnOk P w K mg base CX0 1 f fd p_sides_text (spSideT K) := by
  refine F.ok sc_sides_text (fun vs H Q E h => ?_) (fun cdv A outer s H vs Q E hr h => ?_)
  · obtain ⟨z, ns, rfl, _⟩ := h
    rfl
  obtain ⟨z, ns, rfl, hz, hl, hn, k⟩ := h
  obtain ⟨a, rfl, hS⟩ := tupI_inv hz
  refine ⟨_, (pss_one (ps_ret (pe_bm PySem.F.plainAttrs_str PySem.F.slot_str_join PySem.F.type_str_join mt_join pe_str (pa_cons (pe_lc (own := [("side", 1)]) (g := gName 1) rfl sc_sides_text.nd (pi_tup (pv 0)) (blkOk_by (N := n_sides_text) (sc := defScope s_sides_text) (by decide +kernel)) (fun _ _ _ _ _ => pg_name (i := 1) sc_sides_text.nd rfl (.inl rfl)) (fun _ _ _ _ _ => pts_nil) (fun _ _ _ _ _ => (pe_callTy call_str_int (by rfl) T.n_str (by decide +kernel) (pa_cons (pv 1) pa_nil)))) pa_nil)))), ?_⟩
  refine ⟨rfl, _, rfl, a, rfl, ⟨_, hS⟩, fun B hB => ?_⟩
  refine lc_tup (K := K) (a := a) (xs := ns.map V.int) (fun i H' => Ex H H' ∧ H' B = some (.lst (((ns.map numS).take i).map V.str)))
    ⟨Ex.new hB, upd_same⟩ (fun i H' _ h => ex_t h.1 hS) (fun i x H' hx h => ?_) (fun H' h => ?_)
  · obtain ⟨e, h1⟩ := h
    rw [List.getElem?_map] at hx
    obtain ⟨n, hi, rfl⟩ := Option.map_eq_some_iff.mp hx
    refine ⟨rfl, _, rfl, n, rfl, log_small (hn n (List.mem_of_getElem? hi)), _, h1, size_small' (by rw [List.length_map, List.length_take, List.length_map]; omega), e.mut hB, ?_⟩
    rw [upd_same, List.take_add_one, List.getElem?_map, hi, List.map_append]
    rfl
  · obtain ⟨e, h1⟩ := h
    rw [List.length_map, List.take_of_length_le (by rw [List.length_map]; omega)] at h1
    refine ⟨"x", B, ns.map numS, rfl, rfl, .inl (.inl (.inl h1)), ?_, k _ e⟩
    have := sum_le (fun y : Str => y.length) 13 (ns.map numS) fun y hy => by
      obtain ⟨n, hn', rfl⟩ := List.mem_map.mp hy
      exact num_len (hn n hn')
    have e1 : (ns.map numS).length = ns.length := List.length_map _
    have e2 : ("x" : Str).length = 1 := by decide +kernel
    rw [e1] at this
    rw [e1, e2]
    omega
theorem ok__law_sides_text (T : Txt mg) {f : Addr} {fd : FuncData} (F : Fun K "_law_sides_text" "_law_sides_text" s__law_sides_text f fd) : FnOk P w K mg base CX0 1 f fd p__law_sides_text (spSideT K) := by
  refine F.ok sc__law_sides_text (fun vs H Q E h => ?_) (fun cdv A outer s H vs Q E hr h => ?_)
  · obtain ⟨z, ns, rfl, _⟩ := h
    rfl
  obtain ⟨z, ns, rfl, hz, hl, hn, k⟩ := h
  obtain ⟨a, rfl, hS⟩ := tupI_inv hz
  refine ⟨_, (pss_one (ps_ret (pe_bm PySem.F.plainAttrs_str PySem.F.slot_str_join PySem.F.type_str_join mt_join pe_str (pa_cons (pe_lc (own := [("_law_side", 1)]) (g := gName 1) rfl sc__law_sides_text.nd (pi_tup (pv 0)) (blkOk_by (N := n__law_sides_text) (sc := defScope s__law_sides_text) (by decide +kernel)) (fun _ _ _ _ _ => pg_name (i := 1) sc__law_sides_text.nd rfl (.inl rfl)) (fun _ _ _ _ _ => pts_nil) (fun _ _ _ _ _ => (pe_callTy call_str_int (by rfl) T.n_str (by decide +kernel) (pa_cons (pv 1) pa_nil)))) pa_nil)))), ?_⟩
  refine ⟨rfl, _, rfl, a, rfl, ⟨_, hS⟩, fun B hB => ?_⟩
  refine lc_tup (K := K) (a := a) (xs := ns.map V.int) (fun i H' => Ex H H' ∧ H' B = some (.lst (((ns.map numS).take i).map V.str)))
    ⟨Ex.new hB, upd_same⟩ (fun i H' _ h => ex_t h.1 hS) (fun i x H' hx h => ?_) (fun H' h => ?_)
  · obtain ⟨e, h1⟩ := h
    rw [List.getElem?_map] at hx
    obtain ⟨n, hi, rfl⟩ := Option.map_eq_some_iff.mp hx
    refine ⟨rfl, _, rfl, n, rfl, log_small (hn n (List.mem_of_getElem? hi)), _, h1, size_small' (by rw [List.length_map, List.length_take, List.length_map]; omega), e.mut hB, ?_⟩
    rw [upd_same, List.take_add_one, List.getElem?_map, hi, List.map_append]
    rfl
  · obtain ⟨e, h1⟩ := h
    rw [List.length_map, List.take_of_length_le (by rw [List.length_map]; omega)] at h1
    refine ⟨"x", B, ns.map numS, rfl, rfl, .inl (.inl (.inl h1)), ?_, k _ e⟩
    have := sum_le (fun y : Str => y.length) 13 (ns.map numS) fun y hy => by
      obtain ⟨n, hn', rfl⟩ := List.mem_map.mp hy
      exact num_len (hn n hn')
    have e1 : (ns.map numS).length = ns.length := List.length_map _
    have e2 : ("x" : Str).length = 1 := by decide +kernel
    rw [e1] at this
    rw [e1, e2]
    omega
def spKindT (K : PySem.W.Frag) : Sp := fun vs H Q _ => ∃ (z : V) (nss : List (List Int)), vs = [z] ∧ Rp K H z (tupK nss) ∧ nss.length ≤ 4 ∧ (∀ ns ∈ nss, ns.length ≤ 4 ∧ ∀ n ∈ ns, 1 ≤ n ∧ n ≤ MS) ∧ ∀ H', Ex H H' → Q (.str (kindT nss)) H'
theorem side_len {ns : List Int} (h : ns.length ≤ 4) (h2 : ∀ n ∈ ns, 1 ≤ n ∧ n ≤ MS) : (sideT ns).length ≤ 56 := by
  rw [← cs_len, cs_side h2]
  exact sideC_len h h2
theorem ok_kinds_text (T : Txt mg) {f : Addr} {fd : FuncData} (F : Fun K "kinds_text" "kinds_text" s_kinds_text f fd) (h_sides_text : Keeps P w K mg base 1 "sides_text" p_sides_text (spSideT K)) : FnOk P w K mg base CX0 2 f fd p_kinds_text (spKindT K) := by
  refine F.ok sc_kinds_text (fun vs H Q E h => ?_) (fun cdv A outer s H vs Q E hr h => ?_)
  · obtain ⟨z, ns, rfl, _⟩ := h
    rfl
  obtain ⟨z, nss, rfl, hz, hl, hn, k⟩ := h
  obtain ⟨a, xs, rfl, hS, hA⟩ := tupK_inv hz
  have xl : xs.length = nss.length := by rw [hA.len, List.length_map]
  refine ⟨_, (pss_one (ps_ret (pe_bm PySem.F.plainAttrs_str PySem.F.slot_str_join PySem.F.type_str_join mt_join pe_str (pa_cons (pe_lc (own := [("sides", 1)]) (g := gName 1) rfl sc_kinds_text.nd (pi_tup (pv 0)) (blkOk_by (N := n_kinds_text) (sc := defScope s_kinds_text) (by decide +kernel)) (fun _ _ _ _ _ => pg_name (i := 1) sc_kinds_text.nd rfl (.inl rfl)) (fun _ _ _ _ _ => pts_nil) (fun _ _ _ _ _ => (TB.pe_own h_sides_text (hr.mono (by decide)) (by rfl) (pa_cons (pv 1) pa_nil)))) pa_nil)))), ?_⟩
  refine ⟨rfl, _, rfl, a, rfl, ⟨_, hS⟩, fun B hB => ?_⟩
  refine lc_tup (K := K) (a := a) (xs := xs) (fun i H' => Ex H H' ∧ H' B = some (.lst (((nss.map sideT).take i).map V.str)))
    ⟨Ex.new hB, upd_same⟩ (fun i H' _ h => ex_t h.1 hS) (fun i x H' hx h => ?_) (fun H' h => ?_)
  · obtain ⟨e, h1⟩ := h
    obtain ⟨d, hd, hx2⟩ := hA.get hx
    rw [List.getElem?_map] at hd
    obtain ⟨ns, hi, rfl⟩ := Option.map_eq_some_iff.mp hd
    have hm := hn ns (List.mem_of_getElem? hi)
    refine ⟨rfl, _, rfl, _, ns, rfl, Rp.ex e _ _ hx2, hm.1, hm.2, fun H2 e2 => ?_⟩
    refine ⟨_, e2 _ _ h1, size_small' (by rw [List.length_map, List.length_take, List.length_map]; omega), (e.trans e2).mut hB, ?_⟩
    rw [upd_same, List.take_add_one, List.getElem?_map, hi, List.map_append]
    rfl
  · obtain ⟨e, h1⟩ := h
    rw [xl, List.take_of_length_le (by rw [List.length_map]; omega)] at h1
    refine ⟨" ", B, nss.map sideT, rfl, rfl, .inl (.inl (.inl h1)), ?_, k _ e⟩
    have := sum_le (fun y : Str => y.length) 56 (nss.map sideT) fun y hy => by
      obtain ⟨n, hn', rfl⟩ := List.mem_map.mp hy
      exact side_len (hn n hn').1 (hn n hn').2
    have e1 : (nss.map sideT).length = nss.length := List.length_map _
    have e2 : (" " : Str).length = 1 := by decide +kernel
    rw [e1] at this
    rw [e1, e2]
    omega
theorem ok__law_kinds_text (T : Txt mg) {f : Addr} {fd : FuncData} (F : Fun K "_law_kinds_text" "_law_kinds_text" s__law_kinds_text f fd) (h__law_sides_text : Keeps P w K mg base 1 "_law_sides_text" p__law_sides_text (spSideT K)) : FnOk P w K mg base CX0 2 f fd p__law_kinds_text (spKindT K) := by
  refine F.ok sc__law_kinds_text (fun vs H Q E h => ?_) (fun cdv A outer s H vs Q E hr h => ?_)
  · obtain ⟨z, ns, rfl, _⟩ := h
    rfl
  obtain ⟨z, nss, rfl, hz, hl, hn, k⟩ := h
  obtain ⟨a, xs, rfl, hS, hA⟩ := tupK_inv hz
  have xl : xs.length = nss.length := by rw [hA.len, List.length_map]
  refine ⟨_, (pss_one (ps_ret (pe_bm PySem.F.plainAttrs_str PySem.F.slot_str_join PySem.F.type_str_join mt_join pe_str (pa_cons (pe_lc (own := [("_law_sides", 1)]) (g := gName 1) rfl sc__law_kinds_text.nd (pi_tup (pv 0)) (blkOk_by (N := n__law_kinds_text) (sc := defScope s__law_kinds_text) (by decide +kernel)) (fun _ _ _ _ _ => pg_name (i := 1) sc__law_kinds_text.nd rfl (.inl rfl)) (fun _ _ _ _ _ => pts_nil) (fun _ _ _ _ _ => (TB.pe_own h__law_sides_text (hr.mono (by decide)) (by rfl) (pa_cons (pv 1) pa_nil)))) pa_nil)))), ?_⟩
  refine ⟨rfl, _, rfl, a, rfl, ⟨_, hS⟩, fun B hB => ?_⟩
  refine lc_tup (K := K) (a := a) (xs := xs) (fun i H' => Ex H H' ∧ H' B = some (.lst (((nss.map sideT).take i).map V.str)))
    ⟨Ex.new hB, upd_same⟩ (fun i H' _ h => ex_t h.1 hS) (fun i x H' hx h => ?_) (fun H' h => ?_)
  · obtain ⟨e, h1⟩ := h
    obtain ⟨d, hd, hx2⟩ := hA.get hx
    rw [List.getElem?_map] at hd
    obtain ⟨ns, hi, rfl⟩ := Option.map_eq_some_iff.mp hd
    have hm := hn ns (List.mem_of_getElem? hi)
    refine ⟨rfl, _, rfl, _, ns, rfl, Rp.ex e _ _ hx2, hm.1, hm.2, fun H2 e2 => ?_⟩
    refine ⟨_, e2 _ _ h1, size_small' (by rw [List.length_map, List.length_take, List.length_map]; omega), (e.trans e2).mut hB, ?_⟩
    rw [upd_same, List.take_add_one, List.getElem?_map, hi, List.map_append]
    rfl
  · obtain ⟨e, h1⟩ := h
    rw [xl, List.take_of_length_le (by rw [List.length_map]; omega)] at h1
    refine ⟨" ", B, nss.map sideT, rfl, rfl, .inl (.inl (.inl h1)), ?_, k _ e⟩
    have := sum_le (fun y : Str => y.length) 56 (nss.map sideT) fun y hy => by
      obtain ⟨n, hn', rfl⟩ := List.mem_map.mp hy
      exact side_len (hn n hn').1 (hn n hn').2
    have e1 : (nss.map sideT).length = nss.length := List.length_map _
    have e2 : (" " : Str).length = 1 := by decide +kernel
    rw [e1] at this
    rw [e1, e2]
    omega
/-! ### reading -/
def spNum : Sp := fun vs H Q _ => ∃ (z : Str) (s : Nat), vs = [.str z, .int s] ∧ s ≤ z.length ∧ z.length ≤ 10000 ∧
  ∀ t H', Ex H H' → H' t = some (.tup [.int (TB.scan ((cs z).drop s) 0 s).1, .int ((TB.scan ((cs z).drop s) 0 s).2 : Nat)]) → Q (.ref t) H'
theorem ok_number_at (T : Txt mg) {f : Addr} {fd : FuncData} (F : Fun K "number_at" "number_at" s_number_at f fd) : FnOk P w K mg base CX0 1 f fd p_number_at spNum := by
  refine F.ok sc_number_at (fun vs H Q E h => ?_) (fun cdv A outer s H vs Q E hr h => ?_)
  · obtain ⟨z, s, rfl, _⟩ := h
    rfl
  obtain ⟨z, s, rfl, hs, hz, k⟩ := h
  refine ⟨_, (pss_cons (ps_set (i := 2) sc_number_at.nd rfl (.inl rfl) pe_int)
 (pss_cons (ps_for PassesOwn.never rfl (pi_range2 (by rfl) T.n_range (pa_cons (pv 1) (pa_cons (pe_callB call_len_str (by rfl) T.n_len (by decide +kernel) (pa_cons (pv 0) pa_nil)) pa_nil))) (pg_name (i := 3) sc_number_at.nd rfl (.inl rfl))
 (pss_cons (ps_set (i := 4) sc_number_at.nd rfl (.inl rfl) (pe_bm PySem.F.plainAttrs_str PySem.F.slot_str_find PySem.F.type_str_find mt_find pe_str (pa_cons (pe_ix ix_str (pv 0) (pv 3) (fun _ _ => rfl)) pa_nil)))
 (pss_cons (ps_set (i := 5) sc_number_at.nd rfl (.inl rfl) (pe_op op_add (pe_op op_mul (pv 2) pe_int) (pv 4)))
 (pss_cons (ps_if (PW.pt (pw_or (pt_cmpR op_lt (pv 4) pe_int (nomark _)) (pw_or1 (pt_not (pt_chain op_le op_le pe_int (pv 5) (TB.pe_con (by rfl) T.c_MAX_SIDE))))))
 (pss_one (ps_ret (pe_tup (pa_cons (pv 2) (pa_cons (pv 3) pa_nil))))) pss_nil)
 (pss_one (ps_set (i := 2) sc_number_at.nd rfl (.inl rfl) (pv 5)))))))
 (pss_one (ps_ret (pe_tup (pa_cons (pv 2) (pa_cons (pe_callB call_len_str (by rfl) T.n_len (by decide +kernel) (pa_cons (pv 0) pa_nil)) pa_nil))))))), ?_⟩
  have zs := size_small (n := z.length) (by omega)
  refine ⟨_, rfl, _, rfl, z, rfl, zs, _, _, rfl, ⟨by omega, by omega, by omega, by omega⟩, ?_⟩
  have hms : MS = 1000000000000 := rfl
  refine for_range (lo := (s : Int)) (n := ((z.length : Int) - s).toNat)
    (fun i σ H' => H' = H ∧ ∃ (a : Int) (y3 y4 y5 : Option V), σ = [some (.str z), some (.int s), some (.int a), y3, y4, y5] ∧ 0 ≤ a ∧ a ≤ MS ∧ TB.scan ((cs z).drop s) 0 s = TB.scan ((cs z).drop (s + i)) a (s + i))
    ⟨rfl, 0, none, none, none, rfl, by omega, by omega, rfl⟩ (fun i σ H' hi h => ?_) (fun σ H' h => ?_)
  · obtain ⟨rfl, a, y3, y4, y5, rfl, a0, a1, hsc⟩ := h
    have il : s + i < (cs z).length := by rw [cs_len]; omega
    have hc : (cs z)[s + i]? = some (cs z)[s + i] := List.getElem?_eq_getElem il
    rw [List.drop_eq_getElem_cons il] at hsc
    generalize (cs z)[s + i] = c at hc hsc
    have si : (s : Int) + (i : Int) = ((s + i : Nat) : Int) := by omega
    -- digit, longer
    refine ⟨rfl, _, rfl, _, rfl, z, _, c, rfl, rfl, zs, by rw [si]; exact atI_nat hc, _, _, rfl, rfl, ?_⟩
    rw [find_digit]
    refine ⟨_, rfl, _, _, rfl, rfl, .inr ⟨by decide, by decide⟩, _, rfl, _, _, rfl, rfl, ?_⟩
    refine ⟨_, rfl, _, _, rfl, rfl, _, rfl, ite2 (fun hd => ?_) (fun hd => ?_)⟩
    · -- no digit
      refine ⟨_, rfl, _, rfl, (show 2 ≤ sizeLine by decide), fun t ht => k t _ (Ex.new ht) ?_⟩
      rw [upd_same, hsc, TB.scan, if_neg (fun q => by rw [if_pos ⟨q.1, q.2.1⟩] at hd; have := of_decide_eq_true hd; omega), si]
    · have dg : 48 ≤ c ∧ c ≤ 57 := by
        by_cases q : 48 ≤ c ∧ c ≤ 57
        · exact q
        · rw [if_neg q] at hd; exact absurd rfl hd
      rw [if_pos dg]
      refine ⟨_, rfl, _, _, rfl, rfl, _, rfl, ite2 (fun h1 => ?_) (fun h1 => ?_)⟩
      · have h1' := of_decide_eq_true h1
        refine ⟨_, _, rfl, rfl, _, rfl, ?_⟩
        refine ite2 (fun h2 => ?_) (fun h2 => ?_)
        · have h2' : ¬ (a * 10 + ((c : Int) - 48) ≤ 1000000000000) := by simpa using h2
          refine ⟨_, rfl, _, rfl, (show 2 ≤ sizeLine by decide), fun t ht => k t _ (Ex.new ht) ?_⟩
          rw [upd_same, hsc, TB.scan, if_neg (fun q => h2' (by omega)), si]
        · have h2' : a * 10 + ((c : Int) - 48) ≤ 1000000000000 := by simpa using h2
          refine ⟨_, rfl, ?_⟩
          refine ⟨rfl, _, _, _, _, rfl, by omega, by omega, ?_⟩
          rw [hsc, TB.scan, if_pos ⟨dg.1, dg.2, h1', by omega⟩]
          rfl
      · have h1' : ¬ (1 ≤ a * 10 + ((c : Int) - 48)) := fun q => h1 (decide_eq_true q)
        refine ⟨_, rfl, ?_⟩
        refine ⟨_, rfl, _, rfl, (show 2 ≤ sizeLine by decide), fun t ht => k t _ (Ex.new ht) ?_⟩
        rw [upd_same, hsc, TB.scan, if_neg (fun q => h1' q.2.2.1), si]
  · obtain ⟨rfl, a, y3, y4, y5, rfl, a0, a1, hsc⟩ := h
    refine ⟨_, rfl, _, rfl, z, rfl, zs, (show 2 ≤ sizeLine by decide), fun t ht => k t _ (Ex.new ht) ?_⟩
    have e : (cs z).drop (s + ((z.length : Int) - s).toNat) = [] := List.drop_eq_nil_of_le (by rw [cs_len]; omega)
    rw [e] at hsc
    rw [upd_same, hsc, TB.scan]
    have : s + ((z.length : Int) - s).toNat = z.length := by omega
    rw [this]
end
end K04
set_option Elab.async false
set_option linter.all false
set_option maxRecDepth 100000
namespace K04
open PySem PySem.Spec PyProof.Rows L2 Evl TB
section
variable {P : Program} {w : World} {K : PySem.W.Frag} {mg : Str → Option Value} {base : Heap}
def spSidesAt : Sp := fun vs H Q _ => ∃ (z : Str) (s least most : Nat) (ns : List Int) (q : Nat), vs = [.str z, .int s, .int least, .int most] ∧ s ≤ z.length ∧ z.length ≤ 10000 ∧ most ≤ 4 ∧
  TB.sidesAt (cs z) s least most = .ok (ns, q) ∧ ∀ t u H', Ex H H' → H' t = some (.tup [.ref u, .int q]) → H' u = some (.tup (ns.map V.int)) → Q (.ref t) H'
theorem sidesAt_ok {c : List Nat} {p l m : Nat} {ns : List Int} {q : Nat} (h : TB.sidesAt c p l m = .ok (ns, q)) : sidesL c m [] p = .ok (ns, q) ∧ l ≤ ns.length := by
  unfold TB.sidesAt at h
  cases e : sidesL c m [] p with
  | error x => rw [e] at h; cases h
  | ok r =>
    obtain ⟨ms, x⟩ := r
    rw [e] at h
    dsimp only at h
    by_cases hl : ms.length < l
    · rw [if_pos hl] at h; cases h
    · rw [if_neg hl] at h
      cases h
      exact ⟨rfl, by omega⟩
theorem ok_sides_at (T : Txt mg) {f : Addr} {fd : FuncData} (F : Fun K "sides_at" "sides_at" s_sides_at f fd) (h_number_at : Keeps P w K mg base 1 "number_at" p_number_at spNum) : FnOk P w K mg base CX0 2 f fd p_sides_at spSidesAt := by
  refine F.ok sc_sides_at (fun vs H Q E h => ?_) (fun cdv A outer s H vs Q E hr h => ?_)
  · obtain ⟨z, s, least, most, ns, q, rfl, _⟩ := h
    rfl
  obtain ⟨z, s, least, most, ns, q, rfl, hs, hz, hm, hok, k⟩ := h
  obtain ⟨hL, hle⟩ := sidesAt_ok hok
  refine ⟨_, (pss_cons (ps_set (i := 4) sc_sides_at.nd rfl (.inl rfl) (pe_lst pa_nil))
 (pss_cons (ps_set (i := 5) sc_sides_at.nd rfl (.inl rfl) (pv 1))
 (pss_cons (ps_while PassesOwn.never (pt_val pe_bl)
 (pss_cons (ps_asg (TB.pe_own h_number_at (hr.mono (by decide)) (by rfl) (pa_cons (pv 0) (pa_cons (pv 5) pa_nil))) (pg_tup rfl (pgs_cons (pg_name (i := 6) sc_sides_at.nd rfl (.inl rfl)) (pgs_cons (pg_name (i := 5) sc_sides_at.nd rfl (.inl rfl)) pgs_nil))))
 (pss_cons (ps_if (pt_cmpR op_eq (pv 6) pe_int (nomark _))
 (pss_one ps_never) pss_nil)
 (pss_cons (ps_expr (pe_bm PySem.F.plainAttrs_list PySem.F.slot_list_append PySem.F.type_list_append mt_append (pv 4) (pa_cons (pv 6) pa_nil)))
 (pss_cons (ps_if (PW.pt (pw_or (pt_cmpR op_eq (pe_callB call_len_seq (by rfl) T.n_len (by decide +kernel) (pa_cons (pv 4) pa_nil)) (pv 3) (nomark _)) (pw_or (pt_cmpR op_eq (pv 5) (pe_callB call_len_str (by rfl) T.n_len (by decide +kernel) (pa_cons (pv 0) pa_nil)) (nomark _)) (pw_or1 (pt_cmpR op_ne (pe_ix ix_str (pv 0) (pv 5) (fun _ _ => rfl)) pe_str (nomark _))))))
 (pss_one ps_break) pss_nil)
 (pss_one (ps_set (i := 5) sc_sides_at.nd rfl (.inl rfl) (pe_op op_add (pv 5) pe_int))))))))
 (pss_cons (ps_if (pt_cmpR op_lt (pe_callB call_len_seq (by rfl) T.n_len (by decide +kernel) (pa_cons (pv 4) pa_nil)) (pv 2) (nomark _))
 (pss_one ps_never) pss_nil)
 (pss_one (ps_ret (pe_tup (pa_cons (pe_callTy call_tuple_of (by rfl) T.n_tuple (by decide +kernel) (pa_cons (pv 4) pa_nil)) (pa_cons (pv 5) pa_nil))))))))), ?_⟩
  have zs := size_small (n := z.length) (by omega)
  have hms : MS = 1000000000000 := rfl
  refine ⟨Nat.zero_le _, fun L hLn => ⟨_, rfl, ?_⟩⟩
  refine ⟨fun m σ H' => ∃ (acc : List Int) (p : Nat) (y6 : Option V), σ = [some (.str z), some (.int s), some (.int least), some (.int most), some (.ref L), some (.int p), y6] ∧ Ex H H' ∧
      H' L = some (.lst (acc.map V.int)) ∧ acc.length + m = most ∧ p ≤ z.length ∧ sidesL (cs z) m acc p = .ok (ns, q), ⟨most, [], s, none, rfl, Ex.new hLn, upd_same, by simp, hs, hL⟩, fun m σ H1 hW => ?_⟩
  obtain ⟨acc, p, y6, rfl, e1, h1, hlen, hp, hsc⟩ := hW
  cases m with
  | zero => cases hsc
  | succ m =>
    refine ⟨true, rfl, (if_pos rfl).mpr ?_⟩
    refine ⟨_, fun σ' H' hN => ⟨m, Nat.lt_succ_self m, hN⟩, ?_⟩
    rw [sidesL] at hsc
    try dsimp only at hsc
    have rng := scan_rng ((cs z).drop p) 0 p (by omega) (by omega)
    rw [List.length_drop, cs_len] at rng
    refine ⟨_, rfl, _, rfl, z, p, rfl, hp, hz, fun t H2 e2 ht => ?_⟩
    generalize hr' : TB.scan ((cs z).drop p) 0 p = r at hsc ht rng
    obtain ⟨n, q1⟩ := r
    dsimp only at hsc ht rng
    refine ⟨t, _, rfl, .inl (.inl ht), rfl, _, _, rfl, _, _, rfl, rfl, ?_⟩
    by_cases hn : n = 0
    · rw [if_pos hn] at hsc; cases hsc
    rw [if_neg hn] at hsc
    -- if number == 0
    refine ⟨_, rfl, rfl, _, rfl, ite2 (fun h => absurd (V.int.inj (of_decide_eq_true h)) hn) (fun _ => ?_)⟩
    -- sides.append(number)
    have h2 := e2 _ _ h1
    refine ⟨_, rfl, .inl ⟨rfl, _, .inl (.inl h2)⟩, _, rfl, L, _, _, rfl, rfl, h2, size_small' (by rw [List.length_map]; omega), ?_⟩
    have e3 : Ex H (upd H2 L (.lst (acc.map V.int ++ [.int n]))) := (e1.trans e2).mut hLn
    have h3 : (upd H2 L (.lst (acc.map V.int ++ [.int n]))) L = some (.lst ((acc ++ [n]).map V.int)) := by rw [upd_same, List.map_append]; rfl
    generalize upd H2 L (.lst (acc.map V.int ++ [.int n])) = H3 at e3 h3
    have l3 : (((acc ++ [n]).map V.int).length : Int) = (acc.length + 1 : Nat) := by simp
    -- what follows the loop
    have after : ∀ (ms : List Int) (x : Nat), (ms, x) = (ns, q) → H3 L = some (.lst (ms.map V.int)) → ∀ (τ : L2.St) (y : Option V), τ = [some (.str z), some (.int s), some (.int least), some (.int most), some (.ref L), some (.int x), y] →
        tIfS (tTest (tOp (rI0 fun i j => .bl (decide (i < j))) (tCB (fun xs H Q => ∃ p ys, xs = [.ref p] ∧ (SqL K H p ys ∨ SqT K H p ys) ∧ Q (.int ys.length) H) (tCons (tVar 4) tNil)) (tVar 2))) tNever (tNext)
          { nx := fun σ H => tRet (tTup (tCons (tCB (fun xs H Q => ∃ p ys, xs = [.ref p] ∧ ((SqL K H p ys ∧ ∀ l, H l = none → Q (.ref l) (upd H l (.tup ys))) ∨ (SqT K H p ys ∧ Q (.ref p) H))) (tCons (tVar 4) tNil)) (tCons (tVar 5) tNil))) { nx := fun _ H' => Q .non H', rt := Q } σ H, rt := Q } τ H3 := by
      intro ms x hx hL3 τ y hτ
      cases hx
      subst hτ
      refine ⟨_, rfl, L, _, rfl, .inl (.inl (.inl hL3)), _, rfl, _, _, rfl, rfl, _, rfl, ite2 (fun h => ?_) (fun _ => ?_)⟩
      · have := of_decide_eq_true h
        rw [List.length_map] at this
        omega
      · refine ⟨_, rfl, L, _, rfl, .inl ⟨.inl (.inl hL3), fun u hu => ⟨_, rfl, (show 2 ≤ sizeLine by decide), fun t ht => ?_⟩⟩⟩
        have hut : u ≠ t := ne_of_none upd_same ht
        refine k t u _ (e3.trans ((Ex.new hu).trans (Ex.new ht))) upd_same (by rw [upd_ne hut]; exact upd_same)
    -- the break
    by_cases hb : m = 0 ∨ q1 = (cs z).length ∨ (cs z)[q1]? ≠ some 120
    · rw [if_pos hb] at hsc
      have fin := after (acc ++ [n]) q1 (by cases hsc; rfl) h3 _ (some (.int n)) rfl
      refine ⟨_, rfl, L, _, rfl, .inl (.inl (.inl h3)), _, rfl, rfl, _, rfl, ?_⟩
      refine ite2 (fun _ => ?_) (fun hne => ?_)
      · exact fin
      · refine ⟨_, rfl, _, rfl, z, rfl, zs, rfl, _, rfl, ite2 (fun _ => ?_) (fun hne2 => ?_)⟩
        · exact fin
        · have n1 : m ≠ 0 := fun h0 => hne (decide_eq_true (by rw [l3]; congr 1; omega))
          have n2 : q1 ≠ (cs z).length := fun h0 => hne2 (decide_eq_true (by rw [h0, cs_len]))
          have q1l : q1 < (cs z).length := by rw [cs_len] at n2 ⊢; omega
          have hc : (cs z)[q1]? = some (cs z)[q1] := List.getElem?_eq_getElem q1l
          refine ⟨_, rfl, _, rfl, z, _, _, rfl, rfl, zs, atI_nat hc, rfl, _, rfl, ite2 (fun _ => ?_) (fun hne3 => ?_)⟩
          · exact fin
          · exfalso
            rcases hb with h0 | h0 | h0
            · exact n1 h0
            · exact n2 h0
            · apply h0
              rw [hc]
              have e : decide (V.str ⟨#[(cs z)[q1]]⟩ = V.str "x") = true := by simpa using hne3
              have e2 := V.str.inj (of_decide_eq_true e)
              have e3 : (⟨#[(cs z)[q1]]⟩ : Str).cps.toList = ("x" : Str).cps.toList := by rw [e2]
              have e4 : ("x" : Str).cps.toList = [120] := by decide +kernel
              rw [e4] at e3
              exact congrArg some (List.cons.inj e3).1
    · rw [if_neg hb] at hsc
      have n1 : m ≠ 0 := fun h0 => hb (.inl h0)
      have n2 : q1 ≠ (cs z).length := fun h0 => hb (.inr (.inl h0))
      have n3 : (cs z)[q1]? = some 120 := Classical.byContradiction fun h0 => hb (.inr (.inr h0))
      have q1l : q1 < (cs z).length := by rw [cs_len] at n2 ⊢; omega
      refine ⟨_, rfl, L, _, rfl, .inl (.inl (.inl h3)), _, rfl, rfl, _, rfl, ite2 (fun h0 => ?_) (fun _ => ?_)⟩
      · exfalso
        have := V.int.inj (of_decide_eq_true h0)
        rw [l3] at this
        omega
      refine ⟨_, rfl, _, rfl, z, rfl, zs, rfl, _, rfl, ite2 (fun h0 => ?_) (fun _ => ?_)⟩
      · exfalso
        have := V.int.inj (of_decide_eq_true h0)
        rw [cs_len] at n2
        omega
      refine ⟨_, rfl, _, rfl, z, _, 120, rfl, rfl, zs, atI_nat n3, rfl, _, rfl, ite2 (fun h0 => ?_) (fun _ => ?_)⟩
      · exfalso
        have e : decide (V.str ⟨#[120]⟩ = V.str "x") = true := by decide +kernel
        rw [e] at h0
        cases h0
      refine ⟨_, rfl, _, _, rfl, rfl, ?_⟩
      exact ⟨acc ++ [n], q1 + 1, _, rfl, e3, h3, by rw [List.length_append, List.length_singleton]; omega, by rw [cs_len] at q1l; omega, hsc⟩
def spPS (K : PySem.W.Frag) : Sp := fun vs H Q _ => ∃ (z : Str) (ns : List Int), vs = [.str z] ∧ z.length ≤ 10000 ∧ parseS (cs z) = .ok ns ∧ ∀ v H', Ex H H' → Rp K H' v (tupI ns) → Q v H'
theorem parseS_ok {c : List Nat} {ns : List Int} (h : parseS c = .ok ns) : ∃ q, TB.sidesAt c 0 1 4 = .ok (ns, q) ∧ ¬ q < c.length := by
  unfold parseS at h
  cases e : TB.sidesAt c 0 1 4 with
  | error x => rw [e] at h; cases h
  | ok r =>
    obtain ⟨ms, x⟩ := r
    rw [e] at h
    dsimp only at h
    by_cases hl : x < c.length
    · rw [if_pos hl] at h; cases h
    · rw [if_neg hl] at h
      cases h
      exact ⟨x, rfl, hl⟩
theorem ok_parse_sides (T : Txt mg) {f : Addr} {fd : FuncData} (F : Fun K "parse_sides" "parse_sides" s_parse_sides f fd) (h_sides_at : Keeps P w K mg base 2 "sides_at" p_sides_at spSidesAt) : FnOk P w K mg base CX0 3 f fd p_parse_sides (spPS K) := by
  refine F.ok sc_parse_sides (fun vs H Q E h => ?_) (fun cdv A outer s H vs Q E hr h => ?_)
  · obtain ⟨z, ns, rfl, _⟩ := h
    rfl
  obtain ⟨z, ns, rfl, hz, hok, k⟩ := h
  obtain ⟨q, h1, h2⟩ := parseS_ok hok
  have zs := size_small (n := z.length) (by omega)
  refine ⟨_, (pss_cons (ps_if (pt_not (pt_val (pe_callB call_isi (by rfl) T.n_isinstance (by decide +kernel) (pa_cons (pv 0) (pa_cons (pe_bltn (v := .ty "str") (u := .type "str") (by rfl) T.n_str (by decide +kernel) rfl) pa_nil)))))
 (pss_one ps_never) pss_nil)
 (pss_cons (ps_asg (TB.pe_own h_sides_at (hr.mono (by decide)) (by rfl) (pa_cons (pv 0) (pa_cons pe_int (pa_cons pe_int (pa_cons (TB.pe_con (by rfl) T.c_MAX_DIMS) pa_nil))))) (pg_tup rfl (pgs_cons (pg_name (i := 1) sc_parse_sides.nd rfl (.inl rfl)) (pgs_cons (pg_name (i := 2) sc_parse_sides.nd rfl (.inl rfl)) pgs_nil))))
 (pss_cons (ps_if (pt_cmpR op_lt (pv 2) (pe_callB call_len_str (by rfl) T.n_len (by decide +kernel) (pa_cons (pv 0) pa_nil)) (nomark _))
 (pss_one ps_never) pss_nil)
 (pss_one (ps_ret (pv 1)))))), ?_⟩
  refine ⟨_, rfl, _, _, _, _, true, rfl, .ty "str", .base (.str z), kit_ty (a := "str") (b := "str") (by decide +kernel), true, rfl, (if_neg (by decide)).mpr ?_⟩
  refine ⟨_, rfl, z, 0, 1, 4, ns, q, rfl, Nat.zero_le _, hz, Nat.le_refl _, h1, fun t u H1 e1 ht hu => ?_⟩
  refine ⟨t, _, rfl, .inl (.inl ht), rfl, _, _, rfl, _, _, rfl, rfl, ?_⟩
  refine ⟨_, rfl, _, rfl, z, rfl, zs, _, _, rfl, rfl, _, rfl, ite2 (fun h0 => ?_) (fun _ => ?_)⟩
  · have := of_decide_eq_true h0
    rw [cs_len] at h2
    omega
  · exact ⟨_, rfl, k _ _ e1 (rp_tupI (.inl (.inl hu)))⟩
def spPK (K : PySem.W.Frag) : Sp := fun vs H Q _ => ∃ (z : Str) (nss : List (List Int)), vs = [.str z] ∧ z.length ≤ 10000 ∧ parseK (cs z) = .ok nss ∧ ∀ v H', Ex H H' → Rp K H' v (tupK nss) → Q v H'
theorem parseK_ok {c : List Nat} {nss : List (List Int)} (h : parseK c = .ok nss) : ∃ ns q, TB.sidesAt c 0 1 4 = .ok (ns, q) ∧ kindsL c ns.length 3 [ns] q = .ok nss := by
  unfold parseK at h
  cases e : TB.sidesAt c 0 1 4 with
  | error x => rw [e] at h; cases h
  | ok r =>
    obtain ⟨ms, x⟩ := r
    rw [e] at h
    exact ⟨ms, x, rfl, h⟩
/-- one more turn of the loop over kinds -/
theorem kindsL_more {c : List Nat} {n m : Nat} {acc nss : List (List Int)} {p : Nat} (h : kindsL c n m acc p = .ok nss) (hp : p < c.length) :
    ∃ k ns q, m = k + 1 ∧ c[p]? = some 32 ∧ TB.sidesAt c (p + 1) n n = .ok (ns, q) ∧ kindsL c n k (acc ++ [ns]) q = .ok nss := by
  unfold kindsL at h
  rw [if_pos hp] at h
  by_cases h32 : c[p]? ≠ some 32
  · rw [if_pos h32] at h; cases h
  rw [if_neg h32] at h
  cases m with
  | zero => cases h
  | succ k =>
    dsimp only at h
    cases e : TB.sidesAt c (p + 1) n n with
    | error x => rw [e] at h; cases h
    | ok r =>
      obtain ⟨ms, x⟩ := r
      rw [e] at h
      exact ⟨k, ms, x, rfl, Classical.byContradiction h32, rfl, h⟩
theorem kindsL_end {c : List Nat} {n m : Nat} {acc nss : List (List Int)} {p : Nat} (h : kindsL c n m acc p = .ok nss) (hp : ¬ p < c.length) : nss = acc := by
  unfold kindsL at h
  rw [if_neg hp] at h
  cases h
  rfl
theorem sidesL_len {c : List Nat} : ∀ (m : Nat) (acc : List Int) (p : Nat) (ns : List Int) (q : Nat), sidesL c m acc p = .ok (ns, q) → ns.length ≤ acc.length + m
  | 0, _, _, _, _, h => by cases h
  | m + 1, acc, p, ns, q, h => by
    unfold sidesL at h
    dsimp only at h
    split at h
    · cases h
    · split at h
      · cases h
        simp
      · have := sidesL_len m _ _ _ _ h
        simp at this
        omega
theorem ok_parse_kinds (T : Txt mg) {f : Addr} {fd : FuncData} (F : Fun K "parse_kinds" "parse_kinds" s_parse_kinds f fd) (h_sides_at : Keeps P w K mg base 2 "sides_at" p_sides_at spSidesAt) : FnOk P w K mg base CX0 3 f fd p_parse_kinds (spPK K) := by
  refine F.ok sc_parse_kinds (fun vs H Q E h => ?_) (fun cdv A outer s H vs Q E hr h => ?_)
  · obtain ⟨z, ns, rfl, _⟩ := h
    rfl
  obtain ⟨z, nss, rfl, hz, hok, k⟩ := h
  obtain ⟨ns, q, h1, h2⟩ := parseK_ok hok
  have nl : ns.length ≤ 4 := by
    have := sidesL_len _ _ _ _ _ (sidesAt_ok h1).1
    simpa using this
  have zs := size_small (n := z.length) (by omega)
  refine ⟨_, (pss_cons (ps_if (pt_not (pt_val (pe_callB call_isi (by rfl) T.n_isinstance (by decide +kernel) (pa_cons (pv 0) (pa_cons (pe_bltn (v := .ty "str") (u := .type "str") (by rfl) T.n_str (by decide +kernel) rfl) pa_nil)))))
 (pss_one ps_never) pss_nil)
 (pss_cons (ps_asg (TB.pe_own h_sides_at (hr.mono (by decide)) (by rfl) (pa_cons (pv 0) (pa_cons pe_int (pa_cons pe_int (pa_cons (TB.pe_con (by rfl) T.c_MAX_DIMS) pa_nil))))) (pg_tup rfl (pgs_cons (pg_name (i := 1) sc_parse_kinds.nd rfl (.inl rfl)) (pgs_cons (pg_name (i := 2) sc_parse_kinds.nd rfl (.inl rfl)) pgs_nil))))
 (pss_cons (ps_set (i := 3) sc_parse_kinds.nd rfl (.inl rfl) (pe_lst (pa_cons (pv 1) pa_nil)))
 (pss_cons (ps_while PassesOwn.never (pt_cmpR op_lt (pv 2) (pe_callB call_len_str (by rfl) T.n_len (by decide +kernel) (pa_cons (pv 0) pa_nil)) (nomark _))
 (pss_cons (ps_if (PW.pt (pw_or (pt_cmpR op_ne (pe_ix ix_str (pv 0) (pv 2) (fun _ _ => rfl)) pe_str (nomark _)) (pw_or1 (pt_cmpR op_eq (pe_callB call_len_seq (by rfl) T.n_len (by decide +kernel) (pa_cons (pv 3) pa_nil)) (TB.pe_con (by rfl) T.c_MAX_KINDS) (nomark _)))))
 (pss_one ps_never) pss_nil)
 (pss_cons (ps_asg (TB.pe_own h_sides_at (hr.mono (by decide)) (by rfl) (pa_cons (pv 0) (pa_cons (pe_op op_add (pv 2) pe_int) (pa_cons (pe_callB call_len_seq (by rfl) T.n_len (by decide +kernel) (pa_cons (pv 1) pa_nil)) (pa_cons (pe_callB call_len_seq (by rfl) T.n_len (by decide +kernel) (pa_cons (pv 1) pa_nil)) pa_nil))))) (pg_tup rfl (pgs_cons (pg_name (i := 4) sc_parse_kinds.nd rfl (.inl rfl)) (pgs_cons (pg_name (i := 2) sc_parse_kinds.nd rfl (.inl rfl)) pgs_nil))))
 (pss_one (ps_expr (pe_bm PySem.F.plainAttrs_list PySem.F.slot_list_append PySem.F.type_list_append mt_append (pv 3) (pa_cons (pv 4) pa_nil)))))))
 (pss_one (ps_ret (pe_callTy call_tuple_of (by rfl) T.n_tuple (by decide +kernel) (pa_cons (pv 3) pa_nil)))))))), ?_⟩
  refine ⟨_, rfl, _, _, _, _, true, rfl, .ty "str", .base (.str z), kit_ty (a := "str") (b := "str") (by decide +kernel), true, rfl, (if_neg (by decide)).mpr ?_⟩
  refine ⟨_, rfl, z, 0, 1, 4, ns, q, rfl, Nat.zero_le _, hz, Nat.le_refl _, h1, fun t u H1 e1 ht hu => ?_⟩
  refine ⟨t, _, rfl, .inl (.inl ht), rfl, _, _, rfl, _, _, rfl, rfl, ?_⟩
  have rp1 : Rp K H1 (.ref u) (tupI ns) := rp_tupI (.inl (.inl hu))
  -- kinds = [first]
  refine ⟨_, rfl, (show 1 ≤ sizeLine by decide), fun L hL => ?_⟩
  have hLH : H L = none := fresh_back e1 hL
  refine ⟨fun m σ H' => ∃ (acc : List (List Int)) (xs : List V) (p : Nat) (y4 : Option V), σ = [some (.str z), some (.ref u), some (.int p), some (.ref L), y4] ∧ Ex H1 H' ∧
      H' L = some (.lst xs) ∧ RpAll K H' xs (acc.map tupI) ∧ acc.length + m = 4 ∧ kindsL (cs z) ns.length m acc p = .ok nss,
    ⟨3, [ns], [.ref u], q, none, rfl, Ex.new hL, upd_same, .cons (Rp.ex (Ex.new hL) _ _ rp1) .nil, rfl, h2⟩, fun m σ H2 hW => ?_⟩
  obtain ⟨acc, xs, p, y4, rfl, e2, g1, g2, g3, g4⟩ := hW
  refine ⟨_, rfl, _, rfl, z, rfl, zs, _, _, rfl, rfl, _, rfl, ite2 (fun hp => ?_) (fun hp => ?_)⟩
  · have hp' : p < (cs z).length := by rw [cs_len]; have := of_decide_eq_true hp; omega
    obtain ⟨k', ms, q', rfl, c32, hs', hk'⟩ := kindsL_more g4 hp'
    refine ⟨_, fun σ' H' hN => ⟨k', Nat.lt_succ_self k', hN⟩, ?_⟩
    refine ⟨_, rfl, _, rfl, z, _, 32, rfl, rfl, zs, atI_nat c32, rfl, _, rfl, ite2 (fun h0 => ?_) (fun _ => ?_)⟩
    · exfalso
      have e : (!decide (V.str ⟨#[32]⟩ = V.str " ")) = false := by decide +kernel
      rw [e] at h0
      cases h0
    have xl : xs.length = acc.length := by rw [g2.len, List.length_map]
    refine ⟨_, rfl, L, _, rfl, .inl (.inl (.inl g1)), rfl, _, rfl, ite2 (fun h0 => ?_) (fun _ => ?_)⟩
    · exfalso
      have := V.int.inj (of_decide_eq_true h0)
      rw [xl] at this
      omega
    have hu2 := e2 _ _ hu
    have lu : ((ns.map V.int).length : Int) = (ns.length : Nat) := by rw [List.length_map]
    -- sides, place = sides_at(value, place + 1, len(first), len(first))
    refine ⟨_, rfl, _, rfl, _, _, rfl, rfl, _, rfl, u, _, rfl, .inr (.inl (.inl hu2)), _, rfl, u, _, rfl, .inr (.inl (.inl hu2)), ?_⟩
    rw [lu]
    refine ⟨z, p + 1, ns.length, ns.length, ms, q', rfl, by rw [cs_len] at hp'; omega, hz, nl, hs', fun t2 u2 H3 e3 ht2 hu2' => ?_⟩
    refine ⟨t2, _, rfl, .inl (.inl ht2), rfl, _, _, rfl, _, _, rfl, rfl, ?_⟩
    have g1' := e3 _ _ g1
    refine ⟨_, rfl, .inl ⟨rfl, _, .inl (.inl g1')⟩, _, rfl, L, _, _, rfl, rfl, g1', size_small' (by rw [xl]; omega), ?_⟩
    have hL1 : H1 L = none := hL
    have e4 : Ex H1 (upd H3 L (.lst (xs ++ [.ref u2]))) := (e2.trans e3).mut hL1
    have rpu : Rp K (upd H3 L (.lst (xs ++ [.ref u2]))) (.ref u2) (tupI ms) := rp_tupI (.inl (.inl (by rw [upd_ne (ne_of hu2' g1' (by intro z; cases z))]; exact hu2')))
    refine ⟨acc ++ [ms], xs ++ [.ref u2], q', _, rfl, e4, upd_same, ?_, by rw [List.length_append, List.length_singleton]; omega, hk'⟩
    rw [List.map_append]
    refine RpAll.append ?_ (.cons rpu .nil)
    exact rpAll_flat_mut g1' _ _ (flats_tupI acc) (RpAll.ex e3 _ _ g2)
  · have hp' : ¬ p < (cs z).length := by rw [cs_len]; intro q; exact hp (decide_eq_true (by omega))
    obtain rfl := kindsL_end g4 hp'
    refine ⟨_, rfl, L, _, rfl, .inl ⟨.inl (.inl g1), fun t ht => k _ _ (e1.trans (e2.trans (Ex.new ht))) ?_⟩⟩
    exact .tup (.inl (.inl upd_same)) (RpAll.ex (Ex.new ht) _ _ g2)
end
end K04
set_option Elab.async false
set_option linter.all false
set_option maxRecDepth 100000
namespace K04
open PySem PySem.Spec PyProof.Rows L2 Evl TB
section
variable {P : Program} {w : World} {K : PySem.W.Frag} {mg : Str → Option Value} {base : Heap}
def spLaw (K : PySem.W.Frag) : Sp := fun vs H Q _ => ∃ (a : Addr) (ns : List Int), vs = [.ref a] ∧ SqL K H a (ns.map V.int) ∧ ns.length ≤ 63 ∧ ∀ H', Q (.bl true) H'
def noteD (nss : List (List Int)) : PyData := .tuple [tupK nss, .str (kindT nss)]
theorem flat_note : ∀ es : List (List (List Int)), flatDs (es.map noteD) = true
  | [] => rfl
  | e :: es => by
    rw [List.map_cons, flatDs, flat_note es]
    unfold noteD
    rw [flatD, flatDs, flat_tupK]
    rfl
/-- the list of what was noted -/
def Noted (K : PySem.W.Frag) (H : Hp) (nl : Addr) (es : List (List (List Int))) : Prop := ∃ xs, H nl = some (.lst xs) ∧ RpAll K H xs (es.map noteD) ∧ ∀ nss ∈ es, ∃ n, KindOk nss n
theorem Noted.ex {H H' : Hp} {nl : Addr} {es : List (List (List Int))} (h : Noted K H nl es) (e : Ex H H') : Noted K H' nl es := by
  obtain ⟨xs, h1, h2, h3⟩ := h
  exact ⟨xs, e _ _ h1, RpAll.ex e _ _ h2, h3⟩
theorem Noted.off {H H' : Hp} {nl d g l : Addr} {es : List (List (List Int))} (h : Noted K H nl es) (D : Deck H d g l) (e : TB.Off d g H H') (n1 : nl ≠ d) (n2 : nl ≠ g) : Noted K H' nl es := by
  obtain ⟨xs, h1, h2, h3⟩ := h
  exact ⟨xs, e _ _ h1 n1 n2, RpAll.off D e _ _ (flat_note es) h2, h3⟩
theorem kindOk_short {nss : List (List Int)} {n : Nat} (h : KindOk nss n) : nss.length ≤ 4 ∧ ∀ ns ∈ nss, ns.length ≤ 4 ∧ ∀ m ∈ ns, 1 ≤ m ∧ m ≤ MS :=
  ⟨h.2.2.2.1, fun ns hn => ⟨by have := (h.2.2.2.2 ns hn).1; have := h.2.1; omega, (h.2.2.2.2 ns hn).2⟩⟩
set_option maxHeartbeats 4000000 in
theorem ok_law (T : Txt mg) {f : Addr} {fd : FuncData} (F : Fun K "law" "law" s_law f fd)
    (h_sides_text : Keeps P w K mg base 1 "sides_text" p_sides_text (spSideT K)) (h_kinds_text : Keeps P w K mg base 2 "kinds_text" p_kinds_text (spKindT K))
    (h_parse_sides : Keeps P w K mg base 3 "parse_sides" p_parse_sides (spPS K)) (h_parse_kinds : Keeps P w K mg base 3 "parse_kinds" p_parse_kinds (spPK K))
    (h__law_deck : Keeps P w K mg base 1 "_law_deck" p__law_deck (spDeck K)) (h__law_draw : Keeps P w K mg base 1 "_law_draw" p__law_draw spDraw) (h__law_wide : Keeps P w K mg base 4 "_law_wide" p__law_wide spWide)
    (h__law_sides_text : Keeps P w K mg base 1 "_law_sides_text" p__law_sides_text (spSideT K)) (h__law_kinds_text : Keeps P w K mg base 2 "_law_kinds_text" p__law_kinds_text (spKindT K)) :
    AtTop P w K mg base f fd "_law_script" (spLaw K) := by
  refine atTop_of F sc_law ⟨rfl, by decide, by decide⟩ (k := 8) (fun cdv s H v Q E hr h => ?_)
  obtain ⟨a, ns, ⟨⟩, hS, hn, k⟩ := h
  refine ⟨_, (pss_cons (ps_asg (pe_tup (pa_cons (TB.pe_own h__law_deck (hr.mono (by decide)) (by rfl) (pa_cons (pv 0) pa_nil)) (pa_cons (pe_lst pa_nil) pa_nil))) (pg_tup rfl (pgs_cons (pg_name (i := 1) sc_law.nd rfl (.inr rfl)) (pgs_cons (pg_name (i := 2) sc_law.nd rfl (.inl rfl)) pgs_nil))))
 (pss_cons (ps_for PassesOwn.never rfl (pi_range1 (by rfl) T.n_range (pa_cons pe_int pa_nil)) (pg_name (i := 3) sc_law.nd rfl (.inl rfl))
 (pss_cons (ps_set (i := 4) sc_law.nd rfl (.inr rfl) (pe_op op_add pe_int (TB.pe_own h__law_draw (hr.mono (by decide)) (by rfl) (pa_cons (pv 1) (pa_cons pe_int pa_nil)))))
 (pss_cons (ps_set (i := 5) sc_law.nd rfl (.inl rfl) (pe_callTy call_tuple_of (by rfl) T.n_tuple (by decide +kernel) (pa_cons (pe_lc (own := [("_law_k", 8)]) (g := gName 8) rfl sc_law.nd (pi_range1 (by rfl) T.n_range (pa_cons (pe_op op_add pe_int (TB.pe_own h__law_draw (hr.mono (by decide)) (by rfl) (pa_cons (pv 1) (pa_cons pe_int pa_nil)))) pa_nil)) (blkOk_by (N := n_law) (sc := defScope s_law) (by decide +kernel)) (fun _ _ _ _ _ => pg_name (i := 8) sc_law.nd rfl (.inl rfl)) (fun _ _ _ _ _ => pts_nil) (fun _ _ _ _ _ => (TB.pe_own h__law_wide (hr.mono (by decide)) (by rfl) (pa_cons (pv 1) (pa_cons (pv 4) pa_nil))))) pa_nil)))
 (pss_cons (ps_set (i := 6) sc_law.nd rfl (.inl rfl) (pe_lst (pa_cons (TB.pe_own h__law_sides_text (hr.mono (by decide)) (by rfl) (pa_cons (pe_ix ix_tup (pv 5) pe_int (fun _ _ => rfl)) pa_nil)) (pa_cons (TB.pe_own h__law_kinds_text (hr.mono (by decide)) (by rfl) (pa_cons (pv 5) pa_nil)) pa_nil))))
 (pss_cons (ps_if (pt_cmpR op_ne (pe_callB (TB.call_repr rfl hr.units) (by rfl) T.n_repr (by decide +kernel) (pa_cons (pe_lst (pa_cons (TB.pe_own h_sides_text (hr.mono (by decide)) (by rfl) (pa_cons (pe_ix ix_tup (pv 5) pe_int (fun _ _ => rfl)) pa_nil)) (pa_cons (TB.pe_own h_kinds_text (hr.mono (by decide)) (by rfl) (pa_cons (pv 5) pa_nil)) (pa_cons (TB.pe_own h_kinds_text (hr.mono (by decide)) (by rfl) (pa_cons (pe_slice sl_tupA (pv 5) po_none (po_some pe_int)) pa_nil)) pa_nil)))) pa_nil)) (pe_callB (TB.call_repr rfl hr.units) (by rfl) T.n_repr (by decide +kernel) (pa_cons (pe_op op_cat (pv 6) (pe_slice sl_list (pv 6) po_none (po_some pe_int))) pa_nil)) (nomark _))
 (pss_one (ps_ret pe_bl)) pss_nil)
 (pss_cons (ps_if (pt_cmpR op_ne (pe_callB (TB.call_repr rfl hr.units) (by rfl) T.n_repr (by decide +kernel) (pa_cons (pe_lst (pa_cons (TB.pe_own h_parse_sides (hr.mono (by decide)) (by rfl) (pa_cons (pe_ix ix_list (pv 6) pe_int (fun _ _ => rfl)) pa_nil)) (pa_cons (TB.pe_own h_parse_kinds (hr.mono (by decide)) (by rfl) (pa_cons (pe_ix ix_list (pv 6) pe_int (fun _ _ => rfl)) pa_nil)) (pa_cons (TB.pe_own h_parse_kinds (hr.mono (by decide)) (by rfl) (pa_cons (pe_ix ix_list (pv 6) pe_int (fun _ _ => rfl)) pa_nil)) pa_nil)))) pa_nil)) (pe_callB (TB.call_repr rfl hr.units) (by rfl) T.n_repr (by decide +kernel) (pa_cons (pe_lst (pa_cons (pe_ix ix_tup (pv 5) pe_int (fun _ _ => rfl)) (pa_cons (pv 5) (pa_cons (pe_slice sl_tupA (pv 5) po_none (po_some pe_int)) pa_nil)))) pa_nil)) (nomark _))
 (pss_one (ps_ret pe_bl)) pss_nil)
 (pss_one (ps_expr (pe_bm PySem.F.plainAttrs_list PySem.F.slot_list_append PySem.F.type_list_append mt_append (pv 2) (pa_cons (pe_tup (pa_cons (pv 5) (pa_cons (pe_ix ix_list (pv 6) pe_int (fun _ _ => rfl)) pa_nil))) pa_nil))))))))))
 (pss_cons (ps_for PassesOwn.never rfl (pi_list (pe_revL (pv 2))) (pg_tup rfl (pgs_cons (pg_name (i := 5) sc_law.nd rfl (.inl rfl)) (pgs_cons (pg_name (i := 7) sc_law.nd rfl (.inl rfl)) pgs_nil)))
 (pss_one (ps_if (pt_cmpR op_ne (pe_callB (TB.call_repr rfl hr.units) (by rfl) T.n_repr (by decide +kernel) (pa_cons (pe_lst (pa_cons (TB.pe_own h_parse_kinds (hr.mono (by decide)) (by rfl) (pa_cons (pv 7) pa_nil)) (pa_cons (TB.pe_own h_kinds_text (hr.mono (by decide)) (by rfl) (pa_cons (pv 5) pa_nil)) pa_nil))) pa_nil)) (pe_callB (TB.call_repr rfl hr.units) (by rfl) T.n_repr (by decide +kernel) (pa_cons (pe_lst (pa_cons (pv 5) (pa_cons (pv 7) pa_nil))) pa_nil)) (nomark _))
 (pss_one (ps_ret pe_bl)) pss_nil)))
 (pss_one (ps_ret pe_bl))))), ?_⟩
  -- deck, noted = ..
  refine ⟨_, rfl, a, ns, rfl, hS, hn, fun d g l H1 e1 hd hg D1 => ⟨Nat.zero_le _, fun nl hnl => ⟨(show 2 ≤ sizeLine by decide), fun t ht => ?_⟩⟩⟩
  have E2 : Ex H1 (upd (upd H1 nl (.lst [])) t (.tup [.ref d, .ref nl])) := (Ex.new hnl).trans (Ex.new ht)
  obtain ⟨nd, ng⟩ := D1.ne hnl
  have hn0 : (upd (upd H1 nl (.lst [])) t (.tup [.ref d, .ref nl])) nl = some (.lst []) := (Ex.new ht) _ _ upd_same
  have D2 := D1.ex E2
  have ht2 : (upd (upd H1 nl (.lst [])) t (.tup [.ref d, .ref nl])) t = some (.tup [.ref d, .ref nl]) := upd_same
  generalize upd (upd H1 nl (.lst [])) t (.tup [.ref d, .ref nl]) = H2 at E2 hn0 D2 ht2
  refine ⟨t, _, rfl, .inl (.inl ht2), rfl, _, _, rfl, _, _, rfl, rfl, ?_⟩
  refine ⟨10, rfl, by decide, by decide, for_range (lo := 0) (n := 10) (fun i σ H' => ∃ y3 y4 y5 y6 y7 y8 : Option V, σ = [some (.ref a), some (.ref d), some (.ref nl), y3, y4, y5, y6, y7, y8] ∧ Deck H' d g l ∧ ∃ es, Noted K H' nl es ∧ es.length = i)
    ⟨_, _, _, _, _, _, rfl, D2, [], ⟨[], hn0, .nil, fun _ h => nomatch h⟩, rfl⟩ (fun i σ H3 hi h => ?_) (fun σ H3 h => ?_)⟩
  · obtain ⟨y3, y4, y5, y6, y7, y8, rfl, D3, es, N3, el⟩ := h
    -- axes
    refine ⟨_, rfl, d, g, l, 4, rfl, by decide, by decide, D3, fun r H4 r0 r1 D4 o4 => ⟨_, _, rfl, rfl, ?_⟩⟩
    have N4 := N3.off D3 o4 nd ng
    obtain ⟨ax, rfl⟩ : ∃ ax : Nat, r = (ax : Int) := ⟨_, (Int.toNat_of_nonneg r0).symm⟩
    -- kinds
    refine ⟨_, rfl, d, g, l, 4, rfl, by decide, by decide, D4, fun r2 H5 s0 s1 D5 o5 => ⟨_, _, rfl, rfl, _, rfl, by omega, by omega, fun B hB => ?_⟩⟩
    have N5 := N4.off D4 o5 nd ng
    obtain ⟨Bd, Bg⟩ := D5.ne hB
    have Bl : l ≠ B := by
      obtain ⟨gs, ls, c, q1, q2, q3, q4⟩ := D5
      exact ne_of_none q3 hB
    have Bn : nl ≠ B := by
      obtain ⟨xs, h1, h2, h3⟩ := N5
      exact ne_of_none h1 hB
    refine lc_range (lo := 0) (n := (1 + r2).toNat) (fun i H' => Deck H' d g l ∧ Noted K H' nl es ∧ ∃ (xs : List V) (nss : List (List Int)), H' B = some (.lst xs) ∧ RpAll K H' xs (nss.map tupI) ∧ nss.length = i ∧
        ∀ ns ∈ nss, ns.length = 1 + ax ∧ ∀ m ∈ ns, 1 ≤ m ∧ m ≤ MS)
      ⟨D5.ex (Ex.new hB), N5.ex (Ex.new hB), [], [], upd_same, .nil, rfl, fun _ h => nomatch h⟩ (fun j H6 hj h => ?_) (fun H6 h => ?_)
    · obtain ⟨D6, N6, xs, nss, b1, b2, b3, b4⟩ := h
      refine ⟨rfl, _, rfl, _, rfl, d, g, l, 1 + ax, rfl, by omega, D6, fun p ns H7 c1 c2 c3 c4 D7 o7 => ?_⟩
      have b1' := o7 _ _ b1 Bd Bg
      have N7 := N6.off D6 o7 nd ng
      have xl : xs.length = nss.length := by rw [b2.len, List.length_map]
      refine ⟨_, b1', size_small' (by rw [xl]; omega), ?_, ?_, xs ++ [.ref p], nss ++ [ns], upd_same, ?_, by rw [List.length_append, b3]; rfl, ?_⟩
      · obtain ⟨gs, ls, c, q1, q2, q3, q4⟩ := D7
        exact ⟨gs, ls, c, by rw [upd_ne Bd.symm]; exact q1, by rw [upd_ne Bg.symm]; exact q2, by rw [upd_ne Bl]; exact q3, q4⟩
      · obtain ⟨ys, h1, h2, h3⟩ := N7
        exact ⟨ys, by rw [upd_ne Bn]; exact h1, rpAll_flat_mut b1' _ _ (flat_note es) h2, h3⟩
      · rw [List.map_append]
        refine RpAll.append (rpAll_flat_mut b1' _ _ (flats_tupI nss) (RpAll.off D6 o7 _ _ (flats_tupI nss) b2)) (.cons ?_ .nil)
        exact Rp.mut b1' _ _ (flat_tupI ns) (rp_tupI (.inl (.inl c4)))
      · intro x hx
        rcases List.mem_append.mp hx with q | q
        · exact b4 x q
        · rw [List.mem_singleton.mp q]
          exact ⟨c1, c2⟩
    obtain ⟨D6, N6, xs, nss, b1, b2, b3, b4⟩ := h
    have hK : KindOk nss (1 + ax) := ⟨by omega, by omega, by omega, by omega, b4⟩
    obtain ⟨k4, kr⟩ := kindOk_short hK
    obtain ⟨ns0, nsr, rfl⟩ : ∃ ns0 nsr, nss = ns0 :: nsr := by
      cases nss with
      | nil => simp at b3; omega
      | cons x y => exact ⟨x, y, rfl⟩
    have k0 := kr ns0 List.mem_cons_self
    refine ⟨B, _, rfl, .inl ⟨.inl (.inl b1), fun kd hkd => ?_⟩⟩
    have e6 := Ex.new (o := .tup xs) hkd
    have RK : Rp K (upd H6 kd (.tup xs)) (.ref kd) (tupK (ns0 :: nsr)) := rp_newT hkd b2
    have N7 := N6.ex e6
    have D7 := D6.ex e6
    generalize upd H6 kd (.tup xs) = H7 at RK N7 D7
    clear b1 b2 hkd e6 N6 D6 hB N5 D5 N4 D4 o4 o5
    obtain ⟨_, zs, ⟨⟩, hzs, hza⟩ := tupK_inv RK
    obtain ⟨v0, zr, rfl⟩ : ∃ v0 zr, zs = v0 :: zr := by
      cases zs with
      | nil => have := hza.len; simp at this
      | cons x y => exact ⟨x, y, rfl⟩
    have R0 : Rp K H7 v0 (tupI ns0) := by
      cases hza with
      | cons q _ => exact q
    -- texts
    refine ⟨_, rfl, kd, _, 0, v0, rfl, rfl, hzs, atI_nat (j := 0) rfl, v0, ns0, rfl, R0, k0.1, k0.2, fun H8 e8 => ?_⟩
    refine ⟨_, rfl, _, _, rfl, Rp.ex e8 _ _ RK, k4, kr, fun H9 e9 => ⟨(show 2 ≤ sizeLine by decide), fun tx htx => ?_⟩⟩
    have e10 : Ex H7 (upd H9 tx (.lst [.str (sideT ns0), .str (kindT (ns0 :: nsr))])) := (e8.trans e9).trans (Ex.new htx)
    have hx : (upd H9 tx (.lst [.str (sideT ns0), .str (kindT (ns0 :: nsr))])) tx = some (.lst [.str (sideT ns0), .str (kindT (ns0 :: nsr))]) := upd_same
    generalize upd H9 tx (.lst [.str (sideT ns0), .str (kindT (ns0 :: nsr))]) = H10 at e10 hx
    have RK := Rp.ex e10 _ _ RK
    have R0 := Rp.ex e10 _ _ R0
    have hzs := ex_t e10 hzs
    have N10 := N7.ex e10
    have D10 := D7.ex e10
    clear e8 e9 e10 N7 D7 htx hza
    have one : kindT [ns0] = sideT ns0 := rfl
    have fs := fit_side k0.1 k0.2
    have fk := fit_kind k4 kr
    have f3 : Fit 10000 1 (.list [.str (sideT ns0), .str (kindT (ns0 :: nsr)), .str (sideT ns0)]) := (Fit.list (n := 3000) (k := 0) (by
      intro x hx
      simp only [List.mem_cons, List.not_mem_nil, or_false] at hx
      rcases hx with rfl | rfl | rfl
      · exact fs
      · exact fk
      · exact fs)).mono (show 3 * 3000 + 2 * 3 + 3 ≤ 10000 by decide) (Nat.le_refl _)
    -- if repr([sides_text(..), ..]) != repr(texts + texts[:1])
    refine ⟨_, rfl, kd, _, 0, v0, rfl, rfl, hzs, atI_nat (j := 0) rfl, v0, ns0, rfl, R0, k0.1, k0.2, fun H11 e11 => ?_⟩
    refine ⟨_, rfl, _, _, rfl, Rp.ex e11 _ _ RK, k4, kr, fun H12 e12 => ?_⟩
    refine ⟨_, rfl, 1, rfl, slA_take (k := 1) (Rp.ex (e11.trans e12) _ _ RK) fun v1 H13 e13 R1 => ?_⟩
    refine ⟨v1, [ns0], rfl, R1, by show 1 ≤ 4; decide, fun ns hm => by rw [List.mem_singleton.mp hm]; exact k0, fun H14 e14 => ?_⟩
    rw [one]
    have E14 := ((e11.trans e12).trans e13).trans e14
    have hx14 := E14 _ _ hx
    refine ⟨(show 3 ≤ sizeLine by decide), fun p hp => ⟨.ref p, _, rfl, rp_new hp (.cons (.str _) (.cons (.str _) (.cons (.str _) .nil))), f3.sh, Nat.lt_of_le_of_lt f3.dp (by decide), sizeLine_big (Nat.le_trans f3.len (by decide)), ?_⟩⟩
    have hx15 := (Ex.new (o := .lst [.str (sideT ns0), .str (kindT (ns0 :: nsr)), .str (sideT ns0)]) hp) _ _ hx14
    have E15 := E14.trans (Ex.new (o := .lst [.str (sideT ns0), .str (kindT (ns0 :: nsr)), .str (sideT ns0)]) hp)
    generalize upd H14 p (.lst [.str (sideT ns0), .str (kindT (ns0 :: nsr)), .str (sideT ns0)]) = H15 at hx15 E15
    refine ⟨_, rfl, _, rfl, 1, rfl, tx, _, rfl, .inl (.inl hx15), fun p2 hp2 => ?_⟩
    refine ⟨tx, p2, _, _, rfl, rfl, (Ex.new hp2) _ _ hx15, upd_same, (show 3 ≤ sizeLine by decide), fun p3 hp3 => ⟨.ref p3, _, rfl, rp_new hp3 (.cons (.str _) (.cons (.str _) (.cons (.str _) .nil))), f3.sh, Nat.lt_of_le_of_lt f3.dp (by decide), sizeLine_big (Nat.le_trans f3.len (by decide)), rfl, _, rfl, ite2 (fun h0 => ?_) (fun _ => ?_)⟩⟩
    · rw [decide_eq_true rfl] at h0
      cases h0
    have E16 := (E15.trans (Ex.new (o := .lst (cutV [.str (sideT ns0), .str (kindT (ns0 :: nsr))] none (some 1))) hp2)).trans (Ex.new (o := .lst ([.str (sideT ns0), .str (kindT (ns0 :: nsr))] ++ cutV [.str (sideT ns0), .str (kindT (ns0 :: nsr))] none (some 1))) hp3)
    generalize upd (upd H15 p2 (.lst (cutV [.str (sideT ns0), .str (kindT (ns0 :: nsr))] none (some 1)))) p3 (.lst ([.str (sideT ns0), .str (kindT (ns0 :: nsr))] ++ cutV [.str (sideT ns0), .str (kindT (ns0 :: nsr))] none (some 1))) = H16 at E16 ⊢
    have hx := E16 _ _ hx
    have RK := Rp.ex E16 _ _ RK
    have R0 := Rp.ex E16 _ _ R0
    have hzs := ex_t E16 hzs
    have N16 := N10.ex E16
    have D16 := D10.ex E16
    clear hx15 E15 hx14 E14 R1 e11 e12 e13 e14 hp hp2 hp3 N10 D10
    -- if repr([parse_sides(texts[0]), ..]) != repr([kinds[0], ..])
    have sl := side_len k0.1 k0.2
    have kl : (kindT (ns0 :: nsr)).length ≤ 228 := by
      rw [← cs_len, cs_kind fun ns hn => (kr ns hn).2]
      exact kindC_len k4 kr
    have p0 : parseS (cs (sideT ns0)) = .ok ns0 := by rw [cs_side k0.2]; exact parseS_text ⟨by have := (hK.2.2.2.2 ns0 List.mem_cons_self).1; omega, k0⟩
    have pK : parseK (cs (kindT (ns0 :: nsr))) = .ok (ns0 :: nsr) := by rw [cs_kind fun ns hn => (kr ns hn).2]; exact parseK_text hK
    have p1 : parseK (cs (sideT ns0)) = .ok [ns0] := by
      rw [← one, cs_kind fun ns hn => by rw [List.mem_singleton.mp hn]; exact k0.2]
      exact parseK_text ⟨hK.1, hK.2.1, Nat.le_refl _, by show 1 ≤ 4; decide, fun ns hn => by rw [List.mem_singleton.mp hn]; exact hK.2.2.2.2 ns0 List.mem_cons_self⟩
    have g0 := fit_tupI k0.1 k0.2
    have gK := fit_tupK k4 kr
    have g1 : Fit 3000 2 (tupK [ns0]) := fit_tupK (by show 1 ≤ 4; decide) fun ns hn => by rw [List.mem_singleton.mp hn]; exact k0
    have f4 : Fit 10000 3 (.list [tupI ns0, tupK (ns0 :: nsr), tupK [ns0]]) := (Fit.list (n := 3000) (k := 2) (by
      intro x hx
      simp only [List.mem_cons, List.not_mem_nil, or_false] at hx
      rcases hx with rfl | rfl | rfl
      · exact g0.mono (by decide) (by decide)
      · exact gK
      · exact g1)).mono (show 3 * 3000 + 2 * 3 + 3 ≤ 10000 by decide) (Nat.le_refl _)
    refine ⟨_, rfl, tx, _, 0, _, rfl, rfl, .inl (.inl hx), atI_nat (j := 0) rfl, sideT ns0, ns0, rfl, by omega, p0, fun v1 H17 e17 P1 => ?_⟩
    refine ⟨_, rfl, tx, _, 1, _, rfl, rfl, .inl (.inl (e17 _ _ hx)), atI_nat (j := 1) rfl, kindT (ns0 :: nsr), ns0 :: nsr, rfl, by omega, pK, fun v2 H18 e18 P2 => ?_⟩
    refine ⟨_, rfl, tx, _, 0, _, rfl, rfl, .inl (.inl (e18 _ _ (e17 _ _ hx))), atI_nat (j := 0) rfl, sideT ns0, [ns0], rfl, by omega, p1, fun v3 H19 e19 P3 => ?_⟩
    refine ⟨(show 3 ≤ sizeLine by decide), fun p hp => ⟨.ref p, _, rfl, rp_new hp (.cons (Rp.ex (e18.trans e19) _ _ P1) (.cons (Rp.ex e19 _ _ P2) (.cons P3 .nil))), f4.sh, Nat.lt_of_le_of_lt f4.dp (by decide), sizeLine_big (Nat.le_trans f4.len (by decide)), ?_⟩⟩
    have E20 := ((e17.trans e18).trans e19).trans (Ex.new (o := .lst [v1, v2, v3]) hp)
    generalize upd H19 p (.lst [v1, v2, v3]) = H20 at E20 ⊢
    refine ⟨_, rfl, kd, _, 0, v0, rfl, rfl, ex_t E20 hzs, atI_nat (j := 0) rfl, _, rfl, _, rfl, 1, rfl, slA_take (k := 1) (Rp.ex E20 _ _ RK) fun v4 H21 e21 R4 => ?_⟩
    refine ⟨(show 3 ≤ sizeLine by decide), fun p2 hp2 => ⟨.ref p2, _, rfl, rp_new hp2 (.cons (Rp.ex (E20.trans e21) _ _ R0) (.cons (Rp.ex (E20.trans e21) _ _ RK) (.cons R4 .nil))), f4.sh, Nat.lt_of_le_of_lt f4.dp (by decide), sizeLine_big (Nat.le_trans f4.len (by decide)), rfl, _, rfl, ite2 (fun h0 => ?_) (fun _ => ?_)⟩⟩
    · have e : decide (V.str (PyData.shown (.list [tupI ns0, tupK (ns0 :: nsr), tupK [ns0]])) = V.str (PyData.shown (.list [tupI ns0, tupK (ns0 :: nsr), .tuple (List.take 1 (List.map tupI (ns0 :: nsr)))]))) = true := decide_eq_true rfl
      rw [e] at h0
      cases h0
    have E22 := (E20.trans e21).trans (Ex.new (o := .lst [v0, .ref kd, v4]) hp2)
    generalize upd H21 p2 (.lst [v0, .ref kd, v4]) = H22 at E22 ⊢
    have hx := E22 _ _ hx
    have RK := Rp.ex E22 _ _ RK
    obtain ⟨ys, m1, m2, m3⟩ := N16.ex E22
    have D22 := D16.ex E22
    have yl : ys.length = es.length := by rw [m2.len, List.length_map]
    -- noted.append((kinds, texts[1]))
    refine ⟨_, rfl, .inl ⟨rfl, _, .inl (.inl m1)⟩, _, rfl, _, rfl, tx, _, 1, _, rfl, rfl, .inl (.inl hx), atI_nat (j := 1) rfl, (show 2 ≤ sizeLine by decide), fun q hq => ?_⟩
    have e23 := Ex.new (o := .tup [.ref kd, .str (kindT (ns0 :: nsr))]) hq
    have RN : Rp K (upd H22 q (.tup [.ref kd, .str (kindT (ns0 :: nsr))])) (.ref q) (noteD (ns0 :: nsr)) := rp_newT hq (.cons RK (.cons (.str _) .nil))
    have m1' := e23 _ _ m1
    have m2' := RpAll.ex e23 _ _ m2
    have D23 := D22.ex e23
    generalize upd H22 q (.tup [.ref kd, .str (kindT (ns0 :: nsr))]) = H23 at RN m1' m2' D23 ⊢
    refine ⟨nl, _, _, rfl, rfl, m1', size_small' (by rw [yl]; omega), ?_⟩
    refine ⟨_, _, _, _, _, _, rfl, ?_, es ++ [ns0 :: nsr], ⟨ys ++ [.ref q], upd_same, ?_, ?_⟩, by rw [List.length_append, el]; rfl⟩
    · obtain ⟨gs, ls, c, q1, q2, q3, q4⟩ := D23
      have nlL : l ≠ nl := by
        obtain ⟨gs, ls, c, z1, z2, z3, z4⟩ := D1
        exact ne_of_none z3 hnl
      exact ⟨gs, ls, c, by rw [upd_ne nd.symm]; exact q1, by rw [upd_ne ng.symm]; exact q2, by rw [upd_ne nlL]; exact q3, q4⟩
    · rw [List.map_append]
      refine RpAll.append (rpAll_flat_mut m1' _ _ (flat_note es) m2') (.cons ?_ .nil)
      refine Rp.mut m1' _ _ ?_ RN
      have := flat_note [ns0 :: nsr]
      rw [List.map_singleton, flatDs, flatDs, Bool.and_true] at this
      exact this
    · intro x hx
      rcases List.mem_append.mp hx with h | h
      · exact m3 x h
      · rw [List.mem_singleton.mp h]
        exact ⟨_, hK⟩
  · obtain ⟨y3, y4, y5, y6, y7, y8, rfl, D3, es, ⟨xs, m1, m2, m3⟩, el⟩ := h
    -- for kinds, text in noted[::-1]
    refine ⟨_, rfl, nl, xs, rfl, .inl (.inl m1), fun p hp => ⟨p, rfl, ⟨_, .inl (.inl upd_same)⟩, ?_⟩⟩
    have hp1 : (upd H3 p (.lst xs.reverse)) p = some (.lst xs.reverse) := upd_same
    have m2 := RpAll.ex (Ex.new (o := .lst xs.reverse) hp) _ _ m2
    generalize upd H3 p (.lst xs.reverse) = H4 at hp1 m2 ⊢
    refine for_list (K := K) (a := p) (xs := xs.reverse) (fun i σ H' => Ex H4 H' ∧ ∃ y3 y4 y5 y6 y7 y8 : Option V, σ = [some (.ref a), some (.ref d), some (.ref nl), y3, y4, y5, y6, y7, y8])
      ⟨ex_refl, _, _, _, _, _, _, rfl⟩ (fun i σ H' _ h => .inl (.inl (h.1 _ _ hp1))) (fun i x σ H5 hx h => ?_) (fun σ H5 h => ?_)
    · obtain ⟨e5, z3, z4, z5, z6, z7, z8, rfl⟩ := h
      have xm : x ∈ xs := List.mem_reverse.mp (List.mem_of_getElem? hx)
      obtain ⟨dn, dm, RN⟩ := m2.mem xm
      obtain ⟨nss, hm, rfl⟩ := List.mem_map.mp dm
      obtain ⟨n, hK⟩ := m3 nss hm
      obtain ⟨k4, kr⟩ := kindOk_short hK
      have RN := Rp.ex e5 _ _ RN
      unfold noteD at RN
      cases RN with
      | tup hs ha =>
        cases ha with
        | cons RK ha =>
          cases ha with
          | cons RT ha =>
            cases ha
            cases RT
            have kl : (kindT nss).length ≤ 228 := by
              rw [← cs_len, cs_kind fun ns hn => (kr ns hn).2]
              exact kindC_len k4 kr
            have pK : parseK (cs (kindT nss)) = .ok nss := by rw [cs_kind fun ns hn => (kr ns hn).2]; exact parseK_text hK
            have f5 : Fit 10000 3 (.list [tupK nss, .str (kindT nss)]) := (Fit.list (n := 3000) (k := 2) (by
              intro x hx
              simp only [List.mem_cons, List.not_mem_nil, or_false] at hx
              rcases hx with rfl | rfl
              · exact fit_tupK k4 kr
              · exact (fit_kind k4 kr).mono (Nat.le_refl _) (by decide))).mono (show 2 * 3000 + 2 * 2 + 3 ≤ 10000 by decide) (Nat.le_refl _)
            refine ⟨_, _, rfl, hs, rfl, _, _, rfl, _, _, rfl, rfl, ?_⟩
            refine ⟨_, rfl, _, nss, rfl, by omega, pK, fun v1 H6 e6 P1 => ?_⟩
            refine ⟨_, rfl, _, nss, rfl, Rp.ex e6 _ _ RK, k4, kr, fun H7 e7 => ?_⟩
            refine ⟨(show 2 ≤ sizeLine by decide), fun p1 hp1' => ⟨.ref p1, _, rfl, rp_new hp1' (.cons (Rp.ex e7 _ _ P1) (.cons (.str _) .nil)), f5.sh, Nat.lt_of_le_of_lt f5.dp (by decide), sizeLine_big (Nat.le_trans f5.len (by decide)), ?_⟩⟩
            have E8 := (e6.trans e7).trans (Ex.new (o := .lst [v1, .str (kindT nss)]) hp1')
            generalize upd H7 p1 (.lst [v1, .str (kindT nss)]) = H8 at E8 ⊢
            refine ⟨_, rfl, _, rfl, (show 2 ≤ sizeLine by decide), fun p2 hp2 => ⟨.ref p2, _, rfl, rp_new hp2 (.cons (Rp.ex E8 _ _ RK) (.cons (.str _) .nil)), f5.sh, Nat.lt_of_le_of_lt f5.dp (by decide), sizeLine_big (Nat.le_trans f5.len (by decide)), rfl, _, rfl, ite2 (fun h0 => ?_) (fun _ => ?_)⟩⟩
            · rw [decide_eq_true rfl] at h0
              cases h0
            · exact ⟨e5.trans (E8.trans (Ex.new hp2)), _, _, _, _, _, _, rfl⟩
    · exact k _
theorem sp_start {H : Hp} {a : Addr} {ns : List Int} (hl : ns.length ≤ 63) (hS : SqL K H a (ns.map V.int)) : spLaw K [.ref a] H (fun v _ => v = .bl true) fun _ _ _ => False := ⟨a, ns, rfl, hS, hl, fun _ => rfl⟩
end
theorem all_mk {l : PySem.W.OpenLaw} {w : World} {K : PySem.W.Frag} {h : Heap} {mg : Str → Option Value} {fa f1 f2 f3 f4 f5 f6 f7 f8 f9 f10 f11 f12 f13 f14 : Addr} (X : K.In h) (G : h.Ns mainGlobals mg) (hfa : mg "law" = some (.ref fa))
    {od1 an1 od2 an2 od3 an3 od4 an4 od5 an5 od6 an6 od7 an7 od8 an8 od9 an9 od10 an10 od11 an11 od12 an12 od13 an13 od14 an14 : Option Addr} {sl1 sl2 sl3 sl4 sl5 sl6 sl7 sl8 sl9 sl10 sl11 sl12 sl13 sl14 : Array (Option Value)} {oc1 kV1 dc1 pm1 cd1 ct1 oc2 kV2 dc2 pm2 cd2 ct2 oc3 kV3 dc3 pm3 cd3 ct3 oc4 kV4 dc4 pm4 cd4 ct4 oc5 kV5 dc5 pm5 cd5 ct5 oc6 kV6 dc6 pm6 cd6 ct6 oc7 kV7 dc7 pm7 cd7 ct7 oc8 kV8 dc8 pm8 cd8 ct8 oc9 kV9 dc9 pm9 cd9 ct9 oc10 kV10 dc10 pm10 cd10 ct10 oc11 kV11 dc11 pm11 cd11 ct11 oc12 kV12 dc12 pm12 cd12 ct12 oc13 kV13 dc13 pm13 cd13 ct13 oc14 kV14 dc14 pm14 cd14 ct14 : Value} {tMAX_DIMS tMAX_KINDS tMAX_SIDE : Tok}
    (a1 : PySem.W.nsIn K mainGlobals "sides_text" = some (some (.ref f1))) (l1 : K.lookup f1 = some ⟨oc1, od1, .func (PySem.W.fnOf "sides_text" "sides_text" (defArgs s_sides_text) (defBody s_sides_text) (defScope s_sides_text) .none kV1 dc1 pm1 an1 cd1 ct1), sl1⟩) (c1 : PySem.W.codeIn K cd1 "sides_text" = true) (k1 : PySem.W.keepIn K (.ref f1) = true)
    (a2 : PySem.W.nsIn K mainGlobals "kinds_text" = some (some (.ref f2))) (l2 : K.lookup f2 = some ⟨oc2, od2, .func (PySem.W.fnOf "kinds_text" "kinds_text" (defArgs s_kinds_text) (defBody s_kinds_text) (defScope s_kinds_text) .none kV2 dc2 pm2 an2 cd2 ct2), sl2⟩) (c2 : PySem.W.codeIn K cd2 "kinds_text" = true) (k2 : PySem.W.keepIn K (.ref f2) = true)
    (a3 : PySem.W.nsIn K mainGlobals "number_at" = some (some (.ref f3))) (l3 : K.lookup f3 = some ⟨oc3, od3, .func (PySem.W.fnOf "number_at" "number_at" (defArgs s_number_at) (defBody s_number_at) (defScope s_number_at) .none kV3 dc3 pm3 an3 cd3 ct3), sl3⟩) (c3 : PySem.W.codeIn K cd3 "number_at" = true) (k3 : PySem.W.keepIn K (.ref f3) = true)
    (a4 : PySem.W.nsIn K mainGlobals "sides_at" = some (some (.ref f4))) (l4 : K.lookup f4 = some ⟨oc4, od4, .func (PySem.W.fnOf "sides_at" "sides_at" (defArgs s_sides_at) (defBody s_sides_at) (defScope s_sides_at) .none kV4 dc4 pm4 an4 cd4 ct4), sl4⟩) (c4 : PySem.W.codeIn K cd4 "sides_at" = true) (k4 : PySem.W.keepIn K (.ref f4) = true)
    (a5 : PySem.W.nsIn K mainGlobals "parse_sides" = some (some (.ref f5))) (l5 : K.lookup f5 = some ⟨oc5, od5, .func (PySem.W.fnOf "parse_sides" "parse_sides" (defArgs s_parse_sides) (defBody s_parse_sides) (defScope s_parse_sides) .none kV5 dc5 pm5 an5 cd5 ct5), sl5⟩) (c5 : PySem.W.codeIn K cd5 "parse_sides" = true) (k5 : PySem.W.keepIn K (.ref f5) = true)
    (a6 : PySem.W.nsIn K mainGlobals "parse_kinds" = some (some (.ref f6))) (l6 : K.lookup f6 = some ⟨oc6, od6, .func (PySem.W.fnOf "parse_kinds" "parse_kinds" (defArgs s_parse_kinds) (defBody s_parse_kinds) (defScope s_parse_kinds) .none kV6 dc6 pm6 an6 cd6 ct6), sl6⟩) (c6 : PySem.W.codeIn K cd6 "parse_kinds" = true) (k6 : PySem.W.keepIn K (.ref f6) = true)
    (a7 : PySem.W.nsIn K mainGlobals "_law_deck" = some (some (.ref f7))) (l7 : K.lookup f7 = some ⟨oc7, od7, .func (PySem.W.fnOf "_law_deck" "_law_deck" (defArgs s__law_deck) (defBody s__law_deck) (defScope s__law_deck) .none kV7 dc7 pm7 an7 cd7 ct7), sl7⟩) (c7 : PySem.W.codeIn K cd7 "_law_deck" = true) (k7 : PySem.W.keepIn K (.ref f7) = true)
    (a8 : PySem.W.nsIn K mainGlobals "_law_draw" = some (some (.ref f8))) (l8 : K.lookup f8 = some ⟨oc8, od8, .func (PySem.W.fnOf "_law_draw" "_law_draw" (defArgs s__law_draw) (defBody s__law_draw) (defScope s__law_draw) .none kV8 dc8 pm8 an8 cd8 ct8), sl8⟩) (c8 : PySem.W.codeIn K cd8 "_law_draw" = true) (k8 : PySem.W.keepIn K (.ref f8) = true)
    (a9 : PySem.W.nsIn K mainGlobals "_law_one" = some (some (.ref f9))) (l9 : K.lookup f9 = some ⟨oc9, od9, .func (PySem.W.fnOf "_law_one" "_law_one" (defArgs s__law_one) (defBody s__law_one) (defScope s__law_one) .none kV9 dc9 pm9 an9 cd9 ct9), sl9⟩) (c9 : PySem.W.codeIn K cd9 "_law_one" = true) (k9 : PySem.W.keepIn K (.ref f9) = true)
    (a10 : PySem.W.nsIn K mainGlobals "_law_far" = some (some (.ref f10))) (l10 : K.lookup f10 = some ⟨oc10, od10, .func (PySem.W.fnOf "_law_far" "_law_far" (defArgs s__law_far) (defBody s__law_far) (defScope s__law_far) .none kV10 dc10 pm10 an10 cd10 ct10), sl10⟩) (c10 : PySem.W.codeIn K cd10 "_law_far" = true) (k10 : PySem.W.keepIn K (.ref f10) = true)
    (a11 : PySem.W.nsIn K mainGlobals "_law_wide" = some (some (.ref f11))) (l11 : K.lookup f11 = some ⟨oc11, od11, .func (PySem.W.fnOf "_law_wide" "_law_wide" (defArgs s__law_wide) (defBody s__law_wide) (defScope s__law_wide) .none kV11 dc11 pm11 an11 cd11 ct11), sl11⟩) (c11 : PySem.W.codeIn K cd11 "_law_wide" = true) (k11 : PySem.W.keepIn K (.ref f11) = true)
    (a12 : PySem.W.nsIn K mainGlobals "_law_sides_text" = some (some (.ref f12))) (l12 : K.lookup f12 = some ⟨oc12, od12, .func (PySem.W.fnOf "_law_sides_text" "_law_sides_text" (defArgs s__law_sides_text) (defBody s__law_sides_text) (defScope s__law_sides_text) .none kV12 dc12 pm12 an12 cd12 ct12), sl12⟩) (c12 : PySem.W.codeIn K cd12 "_law_sides_text" = true) (k12 : PySem.W.keepIn K (.ref f12) = true)
    (a13 : PySem.W.nsIn K mainGlobals "_law_kinds_text" = some (some (.ref f13))) (l13 : K.lookup f13 = some ⟨oc13, od13, .func (PySem.W.fnOf "_law_kinds_text" "_law_kinds_text" (defArgs s__law_kinds_text) (defBody s__law_kinds_text) (defScope s__law_kinds_text) .none kV13 dc13 pm13 an13 cd13 ct13), sl13⟩) (c13 : PySem.W.codeIn K cd13 "_law_kinds_text" = true) (k13 : PySem.W.keepIn K (.ref f13) = true)
    (a14 : PySem.W.nsIn K mainGlobals "law" = some (some (.ref f14))) (l14 : K.lookup f14 = some ⟨oc14, od14, .func (PySem.W.fnOf "law" "law" (defArgs s_law) (defBody s_law) (defScope s_law) .none kV14 dc14 pm14 an14 cd14 ct14), sl14⟩) (c14 : PySem.W.codeIn K cd14 "law" = true) (k14 : PySem.W.keepIn K (.ref f14) = true)
    (z_abs : PySem.W.nsIn K mainGlobals "abs" = some none)
    (z_int : PySem.W.nsIn K mainGlobals "int" = some none)
    (z_isinstance : PySem.W.nsIn K mainGlobals "isinstance" = some none)
    (z_len : PySem.W.nsIn K mainGlobals "len" = some none)
    (z_range : PySem.W.nsIn K mainGlobals "range" = some none)
    (z_repr : PySem.W.nsIn K mainGlobals "repr" = some none)
    (z_str : PySem.W.nsIn K mainGlobals "str" = some none)
    (z_tuple : PySem.W.nsIn K mainGlobals "tuple" = some none)
    (v_MAX_DIMS : PySem.W.nsIn K mainGlobals "MAX_DIMS" = some (some (.int 4 tMAX_DIMS)))
    (v_MAX_KINDS : PySem.W.nsIn K mainGlobals "MAX_KINDS" = some (some (.int 4 tMAX_KINDS)))
    (v_MAX_SIDE : PySem.W.nsIn K mainGlobals "MAX_SIDE" = some (some (.int 1000000000000 tMAX_SIDE)))
    : ∃ fd : FuncData, (∀ (s : Shared) (v : Value), BindsTo s fd ⟨[v], []⟩ [("_law_script", v)]) ∧ ∀ base : Heap, K.In base → base.Ns mainGlobals mg → TB.AtTop l.prog w K mg base fa fd "_law_script" (spLaw K) := by
  have e := hfa.symm.trans (PySem.W.mg_of X G a14)
  cases e
  have T : Txt mg := ⟨PySem.W.mg_none_of X G z_abs, PySem.W.mg_none_of X G z_int, PySem.W.mg_none_of X G z_isinstance, PySem.W.mg_none_of X G z_len, PySem.W.mg_none_of X G z_range, PySem.W.mg_none_of X G z_repr, PySem.W.mg_none_of X G z_str, PySem.W.mg_none_of X G z_tuple, ⟨_, PySem.W.mg_of X G v_MAX_DIMS⟩, ⟨_, PySem.W.mg_of X G v_MAX_KINDS⟩, ⟨_, PySem.W.mg_of X G v_MAX_SIDE⟩⟩
  have F1 := fun_mk (st := s_sides_text) l1 c1 k1
  have F2 := fun_mk (st := s_kinds_text) l2 c2 k2
  have F3 := fun_mk (st := s_number_at) l3 c3 k3
  have F4 := fun_mk (st := s_sides_at) l4 c4 k4
  have F5 := fun_mk (st := s_parse_sides) l5 c5 k5
  have F6 := fun_mk (st := s_parse_kinds) l6 c6 k6
  have F7 := fun_mk (st := s__law_deck) l7 c7 k7
  have F8 := fun_mk (st := s__law_draw) l8 c8 k8
  have F9 := fun_mk (st := s__law_one) l9 c9 k9
  have F10 := fun_mk (st := s__law_far) l10 c10 k10
  have F11 := fun_mk (st := s__law_wide) l11 c11 k11
  have F12 := fun_mk (st := s__law_sides_text) l12 c12 k12
  have F13 := fun_mk (st := s__law_kinds_text) l13 c13 k13
  have F14 := fun_mk (st := s_law) l14 c14 k14
  refine ⟨PySem.W.fnOf "law" "law" (defArgs s_law) (defBody s_law) (defScope s_law) .none kV14 dc14 pm14 an14 cd14 ct14, fun s v => .of_eq rfl, fun base _ _ => ?_⟩
  have h_sides_text := TB.keeps_of (F := F1) (PySem.W.mg_of X G a1) (F1.binds (ps := p_sides_text) fun _ _ _ _ _ _ us hl => match us, hl with | [_], _ => rfl) (ok_sides_text (P := l.prog) (w := w) (base := base) T F1 )
  have h_kinds_text := TB.keeps_of (F := F2) (PySem.W.mg_of X G a2) (F2.binds (ps := p_kinds_text) fun _ _ _ _ _ _ us hl => match us, hl with | [_], _ => rfl) (ok_kinds_text (P := l.prog) (w := w) (base := base) T F2 h_sides_text)
  have h_number_at := TB.keeps_of (F := F3) (PySem.W.mg_of X G a3) (F3.binds (ps := p_number_at) fun _ _ _ _ _ _ us hl => match us, hl with | [_, _], _ => rfl) (ok_number_at (P := l.prog) (w := w) (base := base) T F3 )
  have h_sides_at := TB.keeps_of (F := F4) (PySem.W.mg_of X G a4) (F4.binds (ps := p_sides_at) fun _ _ _ _ _ _ us hl => match us, hl with | [_, _, _, _], _ => rfl) (ok_sides_at (P := l.prog) (w := w) (base := base) T F4 h_number_at)
  have h_parse_sides := TB.keeps_of (F := F5) (PySem.W.mg_of X G a5) (F5.binds (ps := p_parse_sides) fun _ _ _ _ _ _ us hl => match us, hl with | [_], _ => rfl) (ok_parse_sides (P := l.prog) (w := w) (base := base) T F5 h_sides_at)
  have h_parse_kinds := TB.keeps_of (F := F6) (PySem.W.mg_of X G a6) (F6.binds (ps := p_parse_kinds) fun _ _ _ _ _ _ us hl => match us, hl with | [_], _ => rfl) (ok_parse_kinds (P := l.prog) (w := w) (base := base) T F6 h_sides_at)
  have h__law_deck := TB.keeps_of (F := F7) (PySem.W.mg_of X G a7) (F7.binds (ps := p__law_deck) fun _ _ _ _ _ _ us hl => match us, hl with | [_], _ => rfl) (ok__law_deck (P := l.prog) (w := w) (base := base) T F7 )
  have h__law_draw := TB.keeps_of (F := F8) (PySem.W.mg_of X G a8) (F8.binds (ps := p__law_draw) fun _ _ _ _ _ _ us hl => match us, hl with | [_, _], _ => rfl) (ok__law_draw (P := l.prog) (w := w) (base := base) T F8 )
  have h__law_one := TB.keeps_of (F := F9) (PySem.W.mg_of X G a9) (F9.binds (ps := p__law_one) fun _ _ _ _ _ _ us hl => match us, hl with | [_, _], _ => rfl) (ok__law_one (P := l.prog) (w := w) (base := base) T F9 h__law_draw)
  have h__law_far := TB.keeps_of (F := F10) (PySem.W.mg_of X G a10) (F10.binds (ps := p__law_far) fun _ _ _ _ _ _ us hl => match us, hl with | [_], _ => rfl) (ok__law_far (P := l.prog) (w := w) (base := base) T F10 h__law_draw h__law_one)
  have h__law_wide := TB.keeps_of (F := F11) (PySem.W.mg_of X G a11) (F11.binds (ps := p__law_wide) fun _ _ _ _ _ _ us hl => match us, hl with | [_, _], _ => rfl) (ok__law_wide (P := l.prog) (w := w) (base := base) T F11 h__law_far)
  have h__law_sides_text := TB.keeps_of (F := F12) (PySem.W.mg_of X G a12) (F12.binds (ps := p__law_sides_text) fun _ _ _ _ _ _ us hl => match us, hl with | [_], _ => rfl) (ok__law_sides_text (P := l.prog) (w := w) (base := base) T F12 )
  have h__law_kinds_text := TB.keeps_of (F := F13) (PySem.W.mg_of X G a13) (F13.binds (ps := p__law_kinds_text) fun _ _ _ _ _ _ us hl => match us, hl with | [_], _ => rfl) (ok__law_kinds_text (P := l.prog) (w := w) (base := base) T F13 h__law_sides_text)
  exact ok_law T F14 h_sides_text h_kinds_text h_parse_sides h_parse_kinds h__law_deck h__law_draw h__law_wide h__law_sides_text h__law_kinds_text

end K04
open PySem PySem.W PyProof.Rows
set_option maxHeartbeats 0 in
theorem PySem.Challenge.cw_twobricks_k04_texts_there_and_back_holds : PySem.Challenge.rw_twobricks_k04_texts_there_and_back.Holds := by
  w_on; o_law; k_head; (case hw => w_witness2)
  k_fill
  refine TB.walk_top (l := PySem.Challenge.rw_twobricks_k04_texts_there_and_back) (n := 63) (x := "_law_script") (sp := fun w => K04.spLaw _) rfl (by decide) rfl (fun w h Y => PySem.W.kIn_of Y) ?F (fun _ _ a ns hl _ _ hS => K04.sp_start hl hS)
  case F =>
    intro w mg fa h KX G hmg
    refine' K04.all_mk KX G hmg ?a1 ?l1 ?c1 ?k1 ?a2 ?l2 ?c2 ?k2 ?a3 ?l3 ?c3 ?k3 ?a4 ?l4 ?c4 ?k4 ?a5 ?l5 ?c5 ?k5 ?a6 ?l6 ?c6 ?k6 ?a7 ?l7 ?c7 ?k7 ?a8 ?l8 ?c8 ?k8 ?a9 ?l9 ?c9 ?k9 ?a10 ?l10 ?c10 ?k10 ?a11 ?l11 ?c11 ?k11 ?a12 ?l12 ?c12 ?k12 ?a13 ?l13 ?c13 ?k13 ?a14 ?l14 ?c14 ?k14 ?z_abs ?z_int ?z_isinstance ?z_len ?z_range ?z_repr ?z_str ?z_tuple ?v_MAX_DIMS ?v_MAX_KINDS ?v_MAX_SIDE
    (case a1 => k_is)
    (case l1 => k_is)
    (case c1 => k_is)
    (case k1 => k_is)
    (case a2 => k_is)
    (case l2 => k_is)
    (case c2 => k_is)
    (case k2 => k_is)
    (case a3 => k_is)
    (case l3 => k_is)
    (case c3 => k_is)
    (case k3 => k_is)
    (case a4 => k_is)
    (case l4 => k_is)
    (case c4 => k_is)
    (case k4 => k_is)
    (case a5 => k_is)
    (case l5 => k_is)
    (case c5 => k_is)
    (case k5 => k_is)
    (case a6 => k_is)
    (case l6 => k_is)
    (case c6 => k_is)
    (case k6 => k_is)
    (case a7 => k_is)
    (case l7 => k_is)
    (case c7 => k_is)
    (case k7 => k_is)
    (case a8 => k_is)
    (case l8 => k_is)
    (case c8 => k_is)
    (case k8 => k_is)
    (case a9 => k_is)
    (case l9 => k_is)
    (case c9 => k_is)
    (case k9 => k_is)
    (case a10 => k_is)
    (case l10 => k_is)
    (case c10 => k_is)
    (case k10 => k_is)
    (case a11 => k_is)
    (case l11 => k_is)
    (case c11 => k_is)
    (case k11 => k_is)
    (case a12 => k_is)
    (case l12 => k_is)
    (case c12 => k_is)
    (case k12 => k_is)
    (case a13 => k_is)
    (case l13 => k_is)
    (case c13 => k_is)
    (case k13 => k_is)
    (case a14 => k_is)
    (case l14 => k_is)
    (case c14 => k_is)
    (case k14 => k_is)
    (case z_abs => k_is)
    (case z_int => k_is)
    (case z_isinstance => k_is)
    (case z_len => k_is)
    (case z_range => k_is)
    (case z_repr => k_is)
    (case z_str => k_is)
    (case z_tuple => k_is)
    (case v_MAX_DIMS => k_is)
    (case v_MAX_KINDS => k_is)
    (case v_MAX_SIDE => k_is)
