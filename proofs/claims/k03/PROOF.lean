import PyProof.Rows.All
import Wide.All
import OpenK.AllK
import Wide.FinOn
import HandS.ForMost
import HandS.Wide
import HandS.EndBits
import HandS.TupAny
import HandS.Style
import HandS.IsInst
import HandS.Evl
import PyProof.ReprRoads
import KE.KIntText
import HandS.Zip
import PySem.Challenge.RW_twobricks_k03_cells_and_volumes
set_option Elab.async false
set_option linter.all false
set_option maxRecDepth 100000
/-! The base of the law proofs of Twobricks: repr of data, the end of a row whose law asks repr (its guards told). -/
namespace TB
open PySem PySem.Spec PyProof.Rows L2
/-! ### data in the abstract heap, dicts of nothing among them -/
mutual
inductive Rp (K : PySem.W.Frag) (H : Hp) : V → PyData → Prop
  | non : Rp K H .non .none
  | bl (b : Bool) : Rp K H (.bl b) (.bool b)
  | int (i : Int) : Rp K H (.int i) (.int i)
  | str (x : Str) : Rp K H (.str x) (.str x)
  | lst {a : Addr} {xs : List V} {ds : List PyData} : SqL K H a xs → RpAll K H xs ds → Rp K H (.ref a) (.list ds)
  | tup {a : Addr} {xs : List V} {ds : List PyData} : SqT K H a xs → RpAll K H xs ds → Rp K H (.ref a) (.tuple ds)
inductive RpAll (K : PySem.W.Frag) (H : Hp) : List V → List PyData → Prop
  | nil : RpAll K H [] []
  | cons {v : V} {vs : List V} {d : PyData} {ds : List PyData} : Rp K H v d → RpAll K H vs ds → RpAll K H (v :: vs) (d :: ds)
end
section
variable {X : Cx} {pins : List (Addr × Obj)} {σ : L2.St} {H : Hp} {s : Shared}
mutual
theorem Rp.reads (J : Inv X pins σ H s) : ∀ (e : PyData) (z : V) (y : Value), Rp X.K H z e → RelV z y → (∃ as, Reads s.heap y e as) ∧ e.hasDict = false
  | .none, _, _, q, r => by
    cases q; cases r
    exact ⟨⟨_, Reads.none⟩, rfl⟩
  | .bool c, _, _, q, r => by
    cases q; cases r
    exact ⟨⟨_, Reads.bool c⟩, rfl⟩
  | .int j, _, _, q, r => by
    cases q
    obtain ⟨tk, rfl⟩ := r
    exact ⟨⟨_, Reads.int j tk⟩, rfl⟩
  | .str y, _, _, q, r => by
    cases q
    obtain ⟨tk, rfl⟩ := r
    exact ⟨⟨_, Reads.str y tk⟩, rfl⟩
  | .list es, _, _, q, r => by
    cases q with
    | lst hq hz =>
      cases r
      obtain ⟨iq, rz, ⟨oq, nq, hoq, hcq, _, hdq⟩, _⟩ := J.list hq
      obtain ⟨⟨as, hr⟩, hn⟩ := Rp.readsAll J es _ iq hz rz
      exact ⟨⟨_, Reads.list hoq hcq hdq hr⟩, hn⟩
  | .tuple es, _, _, q, r => by
    cases q with
    | tup hq hz =>
      cases r
      obtain ⟨iq, rz, ⟨oq, hoq, hcq, nq, hdq⟩, _⟩ := J.tuple hq
      obtain ⟨⟨as, hr⟩, hn⟩ := Rp.readsAll J es _ iq hz rz
      exact ⟨⟨_, Reads.tuple hoq hcq hdq hr⟩, hn⟩
  | .dict _, _, _, q, _ => by cases q
theorem Rp.readsAll (J : Inv X pins σ H s) : ∀ (es : List PyData) (zs : List V) (ys : List Value), RpAll X.K H zs es → Vals zs ys → (∃ as, ReadsAll s.heap ys es as) ∧ PyData.hasDictAll es = false
  | [], _, _, q, r => by
    cases q; cases r
    exact ⟨⟨_, ReadsAll.nil⟩, rfl⟩
  | e :: es, _, _, q, r => by
    cases q with
    | cons q1 q2 =>
      cases r with
      | cons r1 r2 =>
        obtain ⟨⟨as, g1⟩, n1⟩ := Rp.reads J e _ _ q1 r1
        obtain ⟨⟨bs, g2⟩, n2⟩ := Rp.readsAll J es _ _ q2 r2
        exact ⟨⟨_, ReadsAll.cons g1 g2⟩, by rw [PyData.hasDictAll, n1, n2]; rfl⟩
end
end
def rRep (K : PySem.W.Frag) : List V → Hp → VK → Prop := fun xs H Q =>
  ∃ z e, xs = [z] ∧ Rp K H z e ∧ e.showable = true ∧ e.depth < 60 ∧ e.shown.length ≤ sizeLine ∧ Q (.str e.shown) H
theorem call_repr {X : Cx} (hg : X.A.guards = some []) (hu : X.A.units + 64 < cLine) : CallR X (.builtin "repr") (rRep X.K) := by
  intro pins s σ H xs us Q J r h
  obtain ⟨z, e, rfl, hz, hs, hd, hl, q⟩ := h
  obtain ⟨u, rfl, ru⟩ := vals1 r
  obtain ⟨⟨as, hr⟩, hn⟩ := Rp.reads J e z u hz ru
  cases hz with
  | non =>
    cases ru
    exact PySem.P.repr_of_none ⟨.str _, H, J.tok _, ⟨_, rfl⟩, q⟩
  | bl b =>
    cases ru
    exact PySem.P.repr_of_bool ⟨.str _, H, J.tok _, ⟨_, rfl⟩, by cases b <;> exact q⟩
  | int i =>
    obtain ⟨t, rfl⟩ := ru
    exact PySem.P.repr_of_int (of_decide_eq_true hs) ⟨.str _, H, J.tok _, ⟨_, rfl⟩, q⟩
  | str x =>
    obtain ⟨t, rfl⟩ := ru
    exact PySem.P.repr_of_str (hsz := hl) ⟨.str _, H, J.tok _, ⟨_, rfl⟩, q⟩
  | lst h1 h2 =>
    cases ru
    exact repr_of_reads' hr hs (fun hx => by rw [hn] at hx; cases hx) hg (by omega) (fun b o e => e) (fun h' u tk hk => ⟨.str _, H, J.kept hk, ⟨_, rfl⟩, q⟩) hl
  | tup h1 h2 =>
    cases ru
    exact repr_of_reads' hr hs (fun hx => by rw [hn] at hx; cases hx) hg (by omega) (fun b o e => e) (fun h' u tk hk => ⟨.str _, H, J.kept hk, ⟨_, rfl⟩, q⟩) hl
/-! ### a def that is called from the row's own caller, its guards known -/
/-- what the def at fa does, called by the row's caller -/
def AtTop (P : Program) (w : World) (K : PySem.W.Frag) (mg : Str → Option Value) (base : Heap) (fa : Addr) (fd : FuncData) (x : Str) (sp : Sp) : Prop :=
  ∀ (s : Shared) (H : Hp) (u : Value) (v : V) (Q : VK) (E : XK), Env0 P w K mg base callerA [] s H → BindsTo s fd ⟨[u], []⟩ [(x, u)] → RelV v u → sp [v] H Q E →
    codeAny (model P w) callerA (.call (.ref fa) ⟨[u], []⟩) (CR CX0 [] P w H s Q E) s
theorem atTop_of {P : Program} {w : World} {K : PySem.W.Frag} {mg : Str → Option Value} {base : Heap} {k : Nat} {x qual : Str} {st : Stmt} {f : Addr} {fd : FuncData} {N : List Str} {arg : Str} {sp : Sp}
    (F : Fun K x qual st f fd) (S : FnScope N [arg] (defScope st)) (hrm : Room (k + 1) callerA)
    (hbody : ∀ (cdv : Value) (s : Shared) (H : Hp) (v : V) (Q : VK) (E : XK), Room k (callerA.deeper (envOfC qual (defScope st) s.heap.objs.size f cdv)) → sp [v] H Q E →
      ∃ t, PSs (cxOf CX0 P w K mg base N qual (defScope st) f cdv callerA [] s H E).nox (defBody st) t ∧ t { nx := fun _ H' => Q .non H', rt := Q } (start N [v]) H) :
    AtTop P w K mg base f fd arg sp := by
  intro s H u v Q E e0 hb rv hsp
  obtain ⟨oc, od, kV, doc, pm, an, cdv, ct, osl, rfl, lk, hcd⟩ := F.ex
  have kin : K.In s.heap := e0.mod.kin.keeps fun b o q => (e0.bs b o q).1
  have nolim : s.heap.NoLimit := e0.mod.nolimit.keeps fun b o q => (e0.bs b o q).1
  have kinds : ∀ y ∈ [arg].zip [u], (defScope st).names.lookup y.1 = some .local ∨ ((defScope st).names.lookup y.1 = some .cell ∧ ((cellsFrom (s.heap.objs.size + 1) (defScope st).names []).lookup y.1).isSome = true) := fun ⟨m, z⟩ hy => by
    rcases S.par m (List.of_mem_zip hy).1 with c | c
    · exact .inl c
    · exact .inr ⟨c, PySem.W.cellsFrom_some _ _ _ (.inl c)⟩
  refine codeAny_call_function hrm.depth (kin _ _ lk) rfl S.co S.gen rfl (PySem.W.codeRec_of kin hcd) (hb _ _ _ _ ?_)
  refine wpAny_newFunctionEnv_cells S.kind kinds fun env henv s1 hin => ?_
  subst henv
  refine ⟨nolim.keeps hin.toInCall.keep, codeAny_func ?_⟩
  obtain ⟨t, ht, hq⟩ := hbody cdv s H v Q E (hrm.deeper _) hsp
  have J := inv_start (CX := CX0) (E := E) S hrm.hd e0 (vs := [v]) rfl (.cons rv .nil) hin
  refine wpAny_mono (ht.nox.run [] s1 (start N [v]) H _ J hq) (fun fl s' hs => ?_) fun _ _ hs => hs
  have done : ∀ {τ : L2.St} {H' : Hp} {z : V} {y : Value}, Inv (cxOf CX0 P w K mg base N qual (defScope st) f cdv callerA [] s H E) [] τ H' s' → RelV z y → Q z H' → CE [] P w H s Q y s' :=
    fun {τ H' z y} I r q => ⟨z, H', I.os, I.bare, I.base, I.hok, r, q⟩
  cases fl with
  | ret y =>
    obtain ⟨z, τ, H', I, r, q⟩ := hs
    exact done I r q
  | next =>
    obtain ⟨τ, H', I, q⟩ := hs
    exact done (z := V.non) (y := Value.none) I rfl q
  | brk =>
    obtain ⟨_, _, _, q⟩ := hs
    exact q.elim
  | cont =>
    obtain ⟨_, _, _, q⟩ := hs
    exact q.elim
theorem law_top {P : Program} {w : World} {K : PySem.W.Frag} {mg mb : Str → Option Value} {fa a : Addr} {fd : FuncData} {x : Str} {sp : Sp} {s₁ : Shared} {vs : List Value} {ns : List Int}
    (kin : K.In s₁.heap) (gn : s₁.heap.Ns mainGlobals mg) (bn : s₁.heap.Ns builtinsNs mb) (bnb : ∀ y : Str, y ≠ "__name__" → mb y = bootBuiltins y) (nolim : s₁.heap.NoLimit) (gens : s₁.gens = #[])
    (ho : s₁.heap.get? a = some { cls := .type "list", data := .seq vs.toArray }) (hi : IntsAre vs ns) (hl : ns.length ≤ sizeLine)
    (F : ∀ base : Heap, K.In base → base.Ns mainGlobals mg → AtTop P w K mg base fa fd x sp) (hb : ∀ (s : Shared) (u : Value), BindsTo s fd ⟨[u], []⟩ [(x, u)])
    (hsp : ∀ H : Hp, Only H → SqL K H a (ns.map V.int) → sp [.ref a] H (fun v _ => v = .bl true) fun _ _ _ => False) :
    codeAny (model P w) callerA (.call (.ref fa) ⟨[.ref a], []⟩) (fun r s' => r = .ok (.ret (.bool true)) ∧ OldK s₁.heap s'.heap ∧ s'.os = s₁.os ∧ AllBare s'.gens) s₁ := by
  have rv := vals_ints hi
  have main : ∀ H : Hp, Only H → SqL K H a (ns.map V.int) → HOk P w H s₁.heap → (∀ b, H b ≠ none → b = a) → (H a ≠ none → K.lookup a = none) →
      codeAny (model P w) callerA (.call (.ref fa) ⟨[.ref a], []⟩) (fun r s' => r = .ok (.ret (.bool true)) ∧ OldK s₁.heap s'.heap ∧ s'.os = s₁.os ∧ AllBare s'.gens) s₁ := by
    intro H only hS hok onlyA noK
    have notA : ∀ {b : Addr} {o : Obj} {es : Array DictEntry} {n : Nat}, s₁.heap.get? b = some o → o.data = .dict es n → H b = none := fun {b o es n} e d => by
      cases q : H b with
      | none => rfl
      | some u =>
        have eb : b = a := onlyA b (by rw [q]; simp)
        subst eb
        rw [ho] at e
        cases e
        exact nomatch d
    have keepNs : ∀ {b : Addr} {m : Str → Option Value}, s₁.heap.Ns b m → (hidT s₁.heap H).Ns b m := fun {b m} ⟨o, es, n, e, d, r⟩ => ⟨o, es, n, hidT_get e (notA e d), d, r⟩
    have kinT : K.In (hidT s₁.heap H) := fun b o e => hidT_get (kin b o e) (by
      cases q : H b with
      | none => rfl
      | some u =>
        have eb : b = a := onlyA b (by rw [q]; simp)
        subst eb
        rw [noK (by rw [q]; simp)] at e
        cases e)
    have hM : Mod K mg (hidT s₁.heap H) := ⟨kinT, keepNs gn, ⟨mb, keepNs bn, bnb⟩, let ⟨mc, c1, c2⟩ := nolim; ⟨mc, keepNs c1, c2⟩⟩
    have e0 : Env0 P w K mg (hidT s₁.heap H) callerA [] s₁ H := ⟨rfl, hM, fun b o e => of_hidT e, Nat.le_of_eq (hidT_size _ _), trivial, fun b hb => (by cases hb), hok, .of_eq gens⟩
    refine codeAny_mono (F _ kinT (keepNs gn) s₁ H (.ref a) (.ref a) _ _ e0 (hb s₁ (.ref a)) rfl (hsp H only hS)) fun r s' h => ?_
    cases r with
    | error e => exact False.elim h
    | ok fl =>
      cases fl with
      | next => exact h.elim
      | brk => exact h.elim
      | cont => exact h.elim
      | ret u =>
        obtain ⟨v, H', os, bare, un, hok', r', q⟩ := h
        have q' : v = .bl true := q
        subst q'
        cases r'
        refine ⟨rfl, OldK.of_keep fun b o e => ?_, os, bare⟩
        cases q : H b with
        | none => exact un.keep b o e q (fun z => by cases z) (fun z => by cases z)
        | some u =>
          rcases only b with z | ⟨ob, xs, z⟩
          · rw [q] at z; cases z
          · obtain ⟨e1, _⟩ := hok b _ z
            obtain ⟨e2, _⟩ := hok' b _ (un.frzs b ob _ z)
            rw [e] at e1
            cases e1
            exact e2
  cases hk : K.lookup a with
  | some o =>
    have e := kin a o hk
    rw [ho] at e
    cases e
    exact main (fun _ => none) (fun _ => .inl rfl) (.inr ⟨_, vs.toArray, _, hk, rfl, rfl, rfl, by rw [List.size_toArray, hi.length]; exact hl, by simpa using rv⟩) (fun b u z => nomatch z) (fun b z => (z rfl).elim) fun z => (z rfl).elim
  | none =>
    refine main (fun b => if b = a then some (.frz { cls := .type "list", data := .seq vs.toArray } (.lst (ns.map V.int))) else none) (fun b => ?_) (.inl (.inr ⟨{ cls := .type "list", data := .seq vs.toArray }, if_pos rfl⟩)) (fun b u z => ?_) (fun b z => ?_) fun _ => hk
    · by_cases eb : b = a
      · exact .inr ⟨_, _, if_pos eb⟩
      · exact .inl (if_neg eb)
    · by_cases eb : b = a
      · have z' := (if_pos eb).symm.trans z
        cases z'
        subst eb
        exact ⟨ho, by rw [List.length_map]; exact hl, vs, _, rv, ho⟩
      · exact nomatch (if_neg eb).symm.trans z
    · by_cases eb : b = a
      · exact eb
      · exact (z (if_neg eb)).elim
/-- the goal behind the head, from the law's promise at its caller; the script's bits told -/
theorem walk_top {l : PySem.W.OpenLaw} {n : Nat} {q : Program} {loose : List Str} {XP : (Str → Option Value) → Heap → Prop} {YP : World → Heap → Prop} {d : DefRec} {K : Params → PySem.W.Frag} {sp : World → Sp} {x : Str}
    (hn : l.most = some n) (hn2 : n ≤ sizeLine) (hdf : d.params.defaults = [])
    (hY : ∀ (w : World) (h : Heap), YP w h → (K w.params).In h)
    (F : ∀ (w : World) (mg : Str → Option Value) (fa : Addr) (h : Heap), (K w.params).In h → h.Ns mainGlobals mg → mg d.name = some (.ref fa) →
      ∃ fd : FuncData, (∀ (s : Shared) (u : Value), BindsTo s fd ⟨[u], []⟩ [(x, u)]) ∧ ∀ base : Heap, (K w.params).In base → base.Ns mainGlobals mg → AtTop l.prog w (K w.params) mg base fa fd x (sp w))
    (hsp : ∀ (w : World) (H : Hp) (a : Addr) (ns : List Int), ns.length ≤ n → (∀ z ∈ ns, Builtin.Int.intBits z ≤ 1048576) → Only H → SqL (K w.params) H a (ns.map V.int) → sp w [.ref a] H (fun v _ => v = .bl true) fun _ _ _ => False) :
    PySem.W.WalkO q loose XP YP l.row.toRowW d [] (fun f vs => PySem.call f vs) := by
  refine Att.attach_callB hn hdf fun w s₀ s₁ mg mb fa o pm cd doc a vs ns G Y _ _ _ hmg hobj hints hlen hbits hg => ?_
  have kin := hY w _ Y
  obtain ⟨fd, hb, hF⟩ := F w mg fa _ kin G.T.g hmg
  exact law_top kin G.T.g G.T.b G.T.builtins G.T.nolimit hg hobj hints (Nat.le_trans hlen hn2) hF hb fun H hO hS => hsp w H a ns hlen hbits hO hS
end TB
namespace TB
open PySem PySem.Spec PyProof.Rows L2 Evl
/-! ### a def that keeps a promise, called by its name -/
def Keeps (P : Program) (w : World) (K : PySem.W.Frag) (mg : Str → Option Value) (base : Heap) (k : Nat) (x : Str) (ps : List Str) (sp : Sp) : Prop :=
  ∃ (f : Addr) (fd : FuncData), mg x = some (.ref f) ∧ PySem.W.keepIn K (.ref f) = true ∧ Binds K fd ps [] ∧ FnOk P w K mg base CX0 k f fd ps sp
theorem keeps_of {P : Program} {w : World} {K : PySem.W.Frag} {mg : Str → Option Value} {base : Heap} {k : Nat} {x q : Str} {st : Stmt} {f : Addr} {fd : FuncData} {ps : List Str} {sp : Sp}
    (F : Fun K x q st f fd) {y : Str} (g : mg y = some (.ref f)) (b : Binds K fd ps []) (G : FnOk P w K mg base CX0 k f fd ps sp) : Keeps P w K mg base k y ps sp := ⟨f, fd, g, F.kp, b, G⟩
theorem pe_own {X : Cx} {k : Nat} {x : Str} {ps : List Str} {sp : Sp} {e : Expr} {es : List Expr} {t : TA} {p pos : Pos}
    (h : Keeps X.prog X.w X.K X.mg X.base k x ps sp) (hr : Room k X.A) (hg : Gl X x) (ha : PA X (e :: es) t) (hdb : (x == ("__debug__" : Str)) = false := by decide)
    (he : starEach (e :: es) X.env = (false, eval e X.env) :: starEach es X.env := by rfl) (hpl : (backTo pos (starEach es X.env)).any (·.1) = false := by rfl) :
    PE X (.Call (.Name x p) (e :: es) [] pos) (tCall sp [] E0 t) := by
  obtain ⟨f, fd, g, kp, b, G⟩ := h
  exact pe_call G hr hg g kp b .nil pass0 ha hdb he hpl
theorem pe_con {X : Cx} {x : Str} {i : Int} {pos : Pos} (hg : Gl X x) (h : ∃ t, X.mg x = some (.int i t)) (hdb : (x == ("__debug__" : Str)) = false := by decide) : PE X (.Name x pos) (tC (.int i)) := by
  obtain ⟨t, h⟩ := h
  exact pe_glob hg h ⟨t, rfl⟩ hdb
/-! ### the deck of drawn numbers -/
/-- at d stands the deck: the great numbers at g, all numbers at l, a count -/
def Deck (H : Hp) (d g l : Addr) : Prop := ∃ (gs ls : List Int) (c : Int),
  H d = some (.lst [.ref g, .ref l, .int c]) ∧ H g = some (.lst (gs.map V.int)) ∧ H l = some (.lst (ls.map V.int)) ∧ d ≠ g ∧ d ≠ l ∧ g ≠ l ∧ 0 < ls.length
/-- all but the deck's two changing lists stands as before -/
def Off (d g : Addr) (H H' : Hp) : Prop := ∀ a o, H a = some o → a ≠ d → a ≠ g → H' a = some o
theorem Off.refl {d g : Addr} {H : Hp} : Off d g H H := fun _ _ e _ _ => e
theorem Off.trans {d g : Addr} {H H1 H2 : Hp} (a : Off d g H H1) (b : Off d g H1 H2) : Off d g H H2 := fun x o e n m => b x o (a x o e n m) n m
theorem Off.of {d g : Addr} {H H' : Hp} (e : Ex H H') : Off d g H H' := fun a o h _ _ => e a o h
theorem Deck.ex {H H' : Hp} {d g l : Addr} (e : Ex H H') (h : Deck H d g l) : Deck H' d g l := by
  obtain ⟨gs, ls, c, h1, h2, h3, r⟩ := h
  exact ⟨gs, ls, c, e _ _ h1, e _ _ h2, e _ _ h3, r⟩
theorem Deck.ne {H : Hp} {d g l a : Addr} (h : Deck H d g l) (n : H a = none) : a ≠ d ∧ a ≠ g := by
  obtain ⟨gs, ls, c, h1, h2, h3, r⟩ := h
  exact ⟨fun q => (by rw [q, h1] at n; cases n), fun q => (by rw [q, h2] at n; cases n)⟩
/-- a tuple is none of the deck's lists -/
theorem Off.tup {d g l a : Addr} {H H' : Hp} {xs : List V} (e : Off d g H H') (D : Deck H d g l) (h : H a = some (.tup xs)) : H' a = some (.tup xs) := by
  obtain ⟨gs, ls, c, h1, h2, h3, r⟩ := D
  exact e a _ h (fun q => by rw [q, h1] at h; cases h) fun q => by rw [q, h2] at h; cases h
theorem Off.sqT {K : PySem.W.Frag} {d g l a : Addr} {H H' : Hp} {xs : List V} (e : Off d g H H') (D : Deck H d g l) (h : SqT K H a xs) : SqT K H' a xs := by
  obtain ⟨gs, ls, c, h1, h2, h3, r⟩ := D
  rcases h with (h | ⟨o, h⟩) | h
  · exact .inl (.inl (e a _ h (fun q => by rw [q, h1] at h; cases h) fun q => by rw [q, h2] at h; cases h))
  · exact .inl (.inr ⟨o, e a _ h (fun q => by rw [q, h1] at h; cases h) (fun q => by rw [q, h2] at h; cases h)⟩)
  · exact .inr h
def spDeck (K : PySem.W.Frag) : Sp := fun vs H Q _ => ∃ (a : Addr) (ns : List Int), vs = [.ref a] ∧ SqL K H a (ns.map V.int) ∧ ns.length ≤ 63 ∧
  ∀ d g l H', Ex H H' → H d = none → H g = none → Deck H' d g l → Q (.ref d) H'
def spDraw : Sp := fun vs H Q _ => ∃ (d g l : Addr) (m : Int), vs = [.ref d, .int m] ∧ 0 < m ∧ m ≤ 1000000000000 ∧ Deck H d g l ∧
  ∀ r H', 0 ≤ r → r < m → Deck H' d g l → Off d g H H' → Q (.int r) H'
def spOne : Sp := fun vs H Q _ => ∃ (d g l p : Addr) (xs : List V), vs = [.ref d, .ref p] ∧ Deck H d g l ∧ H p = some (.lst xs) ∧ p ≠ d ∧ p ≠ g ∧ 0 < xs.length ∧ xs.length ≤ 1000 ∧
  ∀ (i : Nat) (v : V) H', xs[i]? = some v → Deck H' d g l → Off d g H H' → Q v H'
theorem fmod_rng {a m : Int} (h : 0 < m) : 0 ≤ a.fmod m ∧ a.fmod m < m := ⟨Int.fmod_nonneg_of_pos a h, Int.fmod_lt_of_pos a h⟩
theorem fmod_small {a m : Int} (h : 0 < m) (h2 : m ≤ 2 ^ 64) : -(2 ^ 64) < a.fmod m ∧ a.fmod m < 2 ^ 64 := by
  have := fmod_rng (a := a) h
  omega
theorem ixN_zero {n : Nat} (h : 0 < n) : ixN n 0 = some 0 := by
  unfold ixN
  rw [if_pos (by omega), if_pos (by omega)]
  rfl
theorem size_small {n : Nat} (h : n ≤ 100000) : n ≤ sizeLine := Nat.le_trans h (by decide)
theorem size_small' {n : Nat} (h : n ≤ 100000) : n < sizeLine := Nat.lt_of_le_of_lt h (by decide)
end TB

namespace TB
open PySem PySem.Spec PyProof.Rows L2 Evl
/-! ### data kept -/
mutual
def flatD : PyData → Bool
  | .none | .bool _ | .int _ | .str _ => true
  | .list _ => false
  | .tuple ds => flatDs ds
  | .dict _ => false
def flatDs : List PyData → Bool
  | [] => true
  | d :: ds => flatD d && flatDs ds
end
section
variable {K : PySem.W.Frag} {H H' : Hp}
mutual
theorem Rp.ex (x : Ex H H') : ∀ (e : PyData) (z : V), Rp K H z e → Rp K H' z e
  | .none, _, q => by cases q; exact .non
  | .bool c, _, q => by cases q; exact .bl c
  | .int j, _, q => by cases q; exact .int j
  | .str y, _, q => by cases q; exact .str y
  | .list es, _, q => by
    cases q with
    | lst hq hz => exact .lst (ex_l x hq) (RpAll.ex x es _ hz)
  | .tuple es, _, q => by
    cases q with
    | tup hq hz => exact .tup (ex_t x hq) (RpAll.ex x es _ hz)
  | .dict _, _, q => by cases q
theorem RpAll.ex (x : Ex H H') : ∀ (es : List PyData) (zs : List V), RpAll K H zs es → RpAll K H' zs es
  | [], _, q => by cases q; exact .nil
  | e :: es, _, q => by
    cases q with
    | cons q1 q2 => exact .cons (Rp.ex x e _ q1) (RpAll.ex x es _ q2)
end
mutual
/-- what holds no lists stays when numbers are drawn -/
theorem Rp.off {d g l : Addr} (D : Deck H d g l) (x : Off d g H H') : ∀ (e : PyData) (z : V), flatD e = true → Rp K H z e → Rp K H' z e
  | .none, _, _, q => by cases q; exact .non
  | .bool c, _, _, q => by cases q; exact .bl c
  | .int j, _, _, q => by cases q; exact .int j
  | .str y, _, _, q => by cases q; exact .str y
  | .list es, _, f, q => by rw [flatD] at f; cases f
  | .tuple es, _, f, q => by
    rw [flatD] at f
    cases q with
    | tup hq hz => exact .tup (x.sqT D hq) (RpAll.off D x es _ f hz)
  | .dict _, _, _, q => by cases q
theorem RpAll.off {d g l : Addr} (D : Deck H d g l) (x : Off d g H H') : ∀ (es : List PyData) (zs : List V), flatDs es = true → RpAll K H zs es → RpAll K H' zs es
  | [], _, _, q => by cases q; exact .nil
  | e :: es, _, f, q => by
    rw [flatDs, Bool.and_eq_true] at f
    cases q with
    | cons q1 q2 => exact .cons (Rp.off D x e _ f.1 q1) (RpAll.off D x es _ f.2 q2)
end
theorem RpAll.len : ∀ {zs : List V} {es : List PyData}, RpAll K H zs es → zs.length = es.length
  | _, _, .nil => rfl
  | _, _, .cons _ t => congrArg (· + 1) t.len
theorem RpAll.get : ∀ {zs : List V} {es : List PyData} {i : Nat} {z : V}, RpAll K H zs es → zs[i]? = some z → ∃ e, es[i]? = some e ∧ Rp K H z e
  | _, _, _, _, .nil, h => by simp at h
  | _, _, 0, z, .cons q _, h => by simp at h; subst h; exact ⟨_, rfl, q⟩
  | _, _, i + 1, z, .cons _ t, h => by
    obtain ⟨e, h1, h2⟩ := RpAll.get (i := i) t (by simpa using h)
    exact ⟨e, by simpa using h1, h2⟩
theorem RpAll.get' : ∀ {zs : List V} {es : List PyData} {i : Nat} {e : PyData}, RpAll K H zs es → es[i]? = some e → ∃ z, zs[i]? = some z ∧ Rp K H z e
  | _, _, _, _, .nil, h => by simp at h
  | _, _, 0, e, .cons q _, h => by simp at h; subst h; exact ⟨_, rfl, q⟩
  | _, _, i + 1, e, .cons _ t, h => by
    obtain ⟨z, h1, h2⟩ := RpAll.get' (i := i) t (by simpa using h)
    exact ⟨z, by simpa using h1, h2⟩
theorem RpAll.append : ∀ {zs ys : List V} {es fs : List PyData}, RpAll K H zs es → RpAll K H ys fs → RpAll K H (zs ++ ys) (es ++ fs)
  | _, _, _, _, .nil, s => s
  | _, _, _, _, .cons q t, s => .cons q (t.append s)
theorem rpInts : ∀ ns : List Int, RpAll K H (ns.map V.int) (ns.map PyData.int)
  | [] => .nil
  | n :: ns => .cons (.int n) (rpInts ns)
theorem rpInts_inv : ∀ {ns : List Int} {zs : List V}, RpAll K H zs (ns.map PyData.int) → zs = ns.map V.int
  | [], _, h => by cases h; rfl
  | n :: ns, _, h => by
    cases h with
    | cons q t => cases q; rw [rpInts_inv t]; rfl
/-- sides as data, kinds as data -/
def tupI (ns : List Int) : PyData := .tuple (ns.map PyData.int)
def tupK (nss : List (List Int)) : PyData := .tuple (nss.map tupI)
theorem flat_ints : ∀ ns : List Int, flatDs (ns.map PyData.int) = true
  | [] => rfl
  | n :: ns => by rw [List.map_cons, flatDs, flat_ints ns]; rfl
theorem flat_tupI (ns : List Int) : flatD (tupI ns) = true := by unfold tupI; rw [flatD]; exact flat_ints ns
theorem flat_tupK (nss : List (List Int)) : flatD (tupK nss) = true := by
  unfold tupK
  rw [flatD]
  induction nss with
  | nil => rfl
  | cons n ns ih => rw [List.map_cons, flatDs, flat_tupI, ih]; rfl
theorem rp_tupI {a : Addr} {ns : List Int} (h : SqT K H a (ns.map V.int)) : Rp K H (.ref a) (tupI ns) := .tup h (rpInts ns)
theorem tupI_inv {z : V} {ns : List Int} (h : Rp K H z (tupI ns)) : ∃ a, z = .ref a ∧ SqT K H a (ns.map V.int) := by
  unfold tupI at h
  cases h with
  | tup hs ha => rw [rpInts_inv ha] at hs; exact ⟨_, rfl, hs⟩
theorem tupK_inv {z : V} {nss : List (List Int)} (h : Rp K H z (tupK nss)) : ∃ a xs, z = .ref a ∧ SqT K H a xs ∧ RpAll K H xs (nss.map tupI) := by
  unfold tupK at h
  cases h with
  | tup hs ha => exact ⟨_, _, rfl, hs, ha⟩
theorem sum_le {α : Type} (f : α → Nat) (k : Nat) : ∀ l : List α, (∀ x ∈ l, f x ≤ k) → (l.map f).sum ≤ l.length * k
  | [], _ => Nat.zero_le _
  | x :: l, h => by
    have h1 := h x List.mem_cons_self
    have h2 := sum_le f k l fun y hy => h y (List.mem_cons_of_mem _ hy)
    rw [List.map_cons, List.sum_cons, List.length_cons, Nat.succ_mul]
    omega
end
end TB

namespace TB
open PySem PySem.Spec PyProof.Rows L2 Evl
section
variable {K : PySem.W.Frag} {H : Hp}
mutual
/-- what holds no lists stays when a list changes -/
theorem Rp.mut {L : Addr} {xs : List V} {o : HO} (hL : H L = some (.lst xs)) : ∀ (e : PyData) (z : V), flatD e = true → Rp K H z e → Rp K (upd H L o) z e
  | .none, _, _, q => by cases q; exact .non
  | .bool c, _, _, q => by cases q; exact .bl c
  | .int j, _, _, q => by cases q; exact .int j
  | .str y, _, _, q => by cases q; exact .str y
  | .list es, _, f, q => by rw [flatD] at f; cases f
  | .tuple es, _, f, q => by
    rw [flatD] at f
    cases q with
    | tup hq hz =>
      refine .tup ?_ (rpAll_flat_mut hL es _ f hz)
      rcases hq with (h | ⟨ob, h⟩) | h
      · exact .inl (.inl (by rw [upd_ne (ne_of h hL (by intro z; cases z))]; exact h))
      · exact .inl (.inr ⟨ob, by rw [upd_ne (ne_of h hL (by intro z; cases z))]; exact h⟩)
      · exact .inr h
  | .dict _, _, _, q => by cases q
theorem rpAll_flat_mut {L : Addr} {xs : List V} {o : HO} (hL : H L = some (.lst xs)) : ∀ (es : List PyData) (zs : List V), flatDs es = true → RpAll K H zs es → RpAll K (upd H L o) zs es
  | [], _, _, q => by cases q; exact .nil
  | e :: es, _, f, q => by
    rw [flatDs, Bool.and_eq_true] at f
    cases q with
    | cons q1 q2 => exact .cons (Rp.mut hL e _ f.1 q1) (rpAll_flat_mut hL es _ f.2 q2)
end
theorem flats_tupI : ∀ nss : List (List Int), flatDs (nss.map tupI) = true
  | [] => rfl
  | n :: ns => by rw [List.map_cons, flatDs, flat_tupI, flats_tupI ns]; rfl
end
end TB

namespace TB
open PySem PySem.Spec PyProof.Rows L2 Evl
section
variable {K : PySem.W.Frag} {H : Hp}
theorem cut_take {xs : List V} {k : Nat} : cutV xs none (some (k : Int)) = xs.take k := by
  unfold cutV
  rw [HT.sIx_none, HT.sIx_nat, List.drop_zero, Nat.sub_zero]
  rcases Nat.le_total k xs.length with h | h
  · rw [Nat.min_eq_left h]
  · rw [Nat.min_eq_right h, List.take_of_length_le (Nat.le_refl _), List.take_of_length_le h]
theorem RpAll.take : ∀ {zs : List V} {es : List PyData} (k : Nat), RpAll K H zs es → RpAll K H (zs.take k) (es.take k)
  | _, _, 0, _ => .nil
  | _, _, _ + 1, .nil => .nil
  | _, _, k + 1, .cons q t => .cons q (RpAll.take k t)
theorem RpAll.mem : ∀ {zs : List V} {es : List PyData} {z : V}, RpAll K H zs es → z ∈ zs → ∃ e ∈ es, Rp K H z e
  | _, _, _, .nil, h => by cases h
  | _, _, z, .cons q t, h => by
    rcases List.mem_cons.mp h with h | h
    · subst h; exact ⟨_, List.mem_cons_self, q⟩
    · obtain ⟨e, h1, h2⟩ := t.mem h
      exact ⟨e, List.mem_cons_of_mem _ h1, h2⟩
/-- t[:k] of a tuple of data: the same one, or a new one -/
theorem slA_take {z : V} {ds : List PyData} {k : Nat} {Q : VK} (hz : Rp K H z (.tuple ds)) (q : ∀ v H', Ex H H' → Rp K H' v (.tuple (ds.take k)) → Q v H') : rSlA K z none (some (k : Int)) H Q := by
  cases hz with
  | tup hs ha =>
    rename_i a xs
    refine ⟨a, xs, rfl, hs, fun h => ?_, fun _ p hp => ?_⟩
    · rw [HT.sIx_nat] at h
      have e : ds.take k = ds := List.take_of_length_le (by rw [← ha.len]; have := h.2; omega)
      exact q _ _ (fun _ _ e => e) (by rw [e]; exact .tup hs ha)
    · refine q _ _ (Ex.new hp) (.tup (.inl (.inl upd_same)) ?_)
      rw [cut_take]
      exact RpAll.ex (Ex.new hp) _ _ (ha.take k)
theorem ex_refl : Ex H H := fun _ _ e => e
/-- a list of data, made anew -/
theorem rp_new {p : Addr} {zs : List V} {ds : List PyData} (hp : H p = none) (h : RpAll K H zs ds) : Rp K (upd H p (.lst zs)) (.ref p) (.list ds) := .lst (.inl (.inl upd_same)) (RpAll.ex (Ex.new hp) _ _ h)
theorem rp_newT {p : Addr} {zs : List V} {ds : List PyData} (hp : H p = none) (h : RpAll K H zs ds) : Rp K (upd H p (.tup zs)) (.ref p) (.tuple ds) := .tup (.inl (.inl upd_same)) (RpAll.ex (Ex.new hp) _ _ h)
end
end TB

namespace TB
open PySem PySem.Spec PyProof.Rows L2
/-! readings by name, for a comprehension's block -/
abbrev rLenQ (K : PySem.W.Frag) : List V → Hp → VK → Prop := fun xs H Q => ∃ p ys, xs = [.ref p] ∧ (SqL K H p ys ∨ SqT K H p ys) ∧ Q (.int ys.length) H
abbrev rTupQ (K : PySem.W.Frag) : List V → Hp → VK → Prop := fun xs H Q => ∃ p ys, xs = [.ref p] ∧ ((SqL K H p ys ∧ ∀ l, H l = none → Q (.ref l) (upd H l (.tup ys))) ∨ (SqT K H p ys ∧ Q (.ref p) H))
abbrev rListQ (K : PySem.W.Frag) : List V → Hp → VK → Prop := fun xs H Q => ∃ p ys, xs = [.ref p] ∧ (SqL K H p ys ∨ SqT K H p ys) ∧ ∀ l, H l = none → Q (.ref l) (upd H l (.lst ys))
end TB
set_option Elab.async false
set_option linter.all false
set_option maxRecDepth 100000
/-! Texts of sides and kinds: plain mathematics. -/
namespace TB
open PySem PySem.Spec PyProof.Rows L2
abbrev cs (z : Str) : List Nat := z.cps.toList
theorem cs_app (a b : Str) : cs (a ++ b) = cs a ++ cs b := by show (a ++ b).cps.toList = _; rw [Str.cps_append, Array.toList_append]
theorem cs_len (z : Str) : (cs z).length = z.length := Array.length_toList
theorem cs_ext {a b : Str} (h : cs a = cs b) : a = b := by
  cases a; cases b
  have : ∀ {x y : Array Nat}, x.toList = y.toList → x = y := fun {x y} e => by cases x; cases y; simpa using e
  exact congrArg Str.mk (this h)
/-! ### digits -/
def digs (n : Nat) : List Nat := (Nat.toDigits 10 n).map Char.toNat
theorem digitChar_code : ∀ d : Nat, d < 10 → (Nat.digitChar d).toNat = 48 + d := by decide
theorem digs_lt {n : Nat} (h : n < 10) : digs n = [48 + n] := by
  unfold digs
  rw [Nat.toDigits_of_lt_base h, List.map_singleton, digitChar_code n h]
theorem digs_ge {n : Nat} (h : 10 ≤ n) : digs n = digs (n / 10) ++ [48 + n % 10] := by
  have hm : n % 10 < 10 := Nat.mod_lt n (by decide)
  have t : Nat.toDigits 10 (n / 10) ++ Nat.toDigits 10 (n % 10) = Nat.toDigits 10 (10 * (n / 10) + n % 10) := Nat.toDigits_append_toDigits (by decide) (by omega) hm
  rw [Nat.div_add_mod] at t
  unfold digs
  rw [← t, List.map_append, Nat.toDigits_of_lt_base hm, List.map_singleton, digitChar_code _ hm]
theorem digs_mem : ∀ (n c : Nat), c ∈ digs n → 48 ≤ c ∧ c ≤ 57 := by
  intro n
  induction n using Nat.strongRecOn with
  | _ n ih =>
    intro c hc
    by_cases h : n < 10
    · rw [digs_lt h, List.mem_singleton] at hc; omega
    · rw [digs_ge (by omega), List.mem_append] at hc
      rcases hc with hc | hc
      · exact ih _ (by omega) c hc
      · rw [List.mem_singleton] at hc; omega
theorem digs_ne (n : Nat) : digs n ≠ [] := by
  by_cases h : n < 10
  · rw [digs_lt h]; simp
  · rw [digs_ge (by omega)]; simp
theorem digs_len {n : Nat} (h : n ≤ 1000000000000) : (digs n).length ≤ 13 := by
  unfold digs
  rw [List.length_map]
  exact digits10_le (by decide) (by omega)
def numS (n : Int) : Str := Str.ofString (toString n)
theorem cs_num {n : Int} (h : 0 ≤ n) : cs (numS n) = digs n.toNat := by
  obtain ⟨m, rfl⟩ := Int.eq_ofNat_of_zero_le h
  exact PySem.W.KIN.signs_num m
/-! ### reading numbers -/
def MS : Int := 1000000000000
def scan : List Nat → Int → Nat → Int × Nat
  | [], a, p => (a, p)
  | c :: r, a, p => if 48 ≤ c ∧ c ≤ 57 ∧ 1 ≤ a * 10 + ((c : Int) - 48) ∧ a * 10 + ((c : Int) - 48) ≤ MS then scan r (a * 10 + ((c : Int) - 48)) (p + 1) else (a, p)
def NoDigit (r : List Nat) : Prop := ∀ c t, r = c :: t → ¬ (48 ≤ c ∧ c ≤ 57)
theorem scan_stop {r : List Nat} {a : Int} {p : Nat} (h : NoDigit r) : scan r a p = (a, p) := by
  cases r with
  | nil => rfl
  | cons c t =>
    have := h c t rfl
    unfold scan
    rw [if_neg (fun q => this ⟨q.1, q.2.1⟩)]
theorem scan_digs : ∀ (n : Nat), 1 ≤ n → (n : Int) ≤ MS → ∀ (r : List Nat) (p : Nat), scan (digs n ++ r) 0 p = scan r n (p + (digs n).length) := by
  intro n
  induction n using Nat.strongRecOn with
  | _ n ih =>
    intro h1 h2 r p
    have hms : MS = 1000000000000 := rfl
    by_cases h : n < 10
    · rw [digs_lt h]
      show scan ((48 + n) :: r) 0 p = _
      rw [scan, if_pos (by refine ⟨?_, ?_, ?_, ?_⟩ <;> omega)]
      congr 1
      omega
    · rw [digs_ge (by omega), List.append_assoc, ih (n / 10) (by omega) (by omega) (by omega)]
      show scan ((48 + n % 10) :: r) _ _ = _
      rw [scan, if_pos (by refine ⟨?_, ?_, ?_, ?_⟩ <;> omega), List.length_append]
      congr 1
      omega
theorem scan_rng : ∀ (l : List Nat) (a : Int) (p : Nat), 0 ≤ a → a ≤ MS → 0 ≤ (scan l a p).1 ∧ (scan l a p).1 ≤ MS ∧ p ≤ (scan l a p).2 ∧ (scan l a p).2 ≤ p + l.length
  | [], a, p, h1, h2 => ⟨h1, h2, Nat.le_refl _, Nat.le_refl _⟩
  | c :: r, a, p, h1, h2 => by
    unfold scan
    by_cases h : 48 ≤ c ∧ c ≤ 57 ∧ 1 ≤ a * 10 + ((c : Int) - 48) ∧ a * 10 + ((c : Int) - 48) ≤ MS
    · rw [if_pos h]
      have := scan_rng r (a * 10 + ((c : Int) - 48)) (p + 1) (by omega) h.2.2.2
      rw [List.length_cons]
      omega
    · rw [if_neg h]
      exact ⟨h1, h2, Nat.le_refl _, Nat.le_add_right _ _⟩
/-- the sides whose text begins at p, at most k of them; a wrong sign's place -/
def sidesL (c : List Nat) : Nat → List Int → Nat → Except Nat (List Int × Nat)
  | 0, _, p => .error p
  | k + 1, acc, p =>
    let r := scan (c.drop p) 0 p
    if r.1 = 0 then .error r.2
    else if k = 0 ∨ r.2 = c.length ∨ c[r.2]? ≠ some 120 then .ok (acc ++ [r.1], r.2)
    else sidesL c k (acc ++ [r.1]) (r.2 + 1)
/-- the same, least of them at least -/
def sidesAt (c : List Nat) (p least most : Nat) : Except Nat (List Int × Nat) :=
  match sidesL c most [] p with
  | .ok (ns, q) => if ns.length < least then .error q else .ok (ns, q)
  | .error q => .error q
def parseS (c : List Nat) : Except Nat (List Int) :=
  match sidesAt c 0 1 4 with
  | .ok (ns, q) => if q < c.length then .error q else .ok ns
  | .error q => .error q
def kindsL (c : List Nat) (n : Nat) : Nat → List (List Int) → Nat → Except Nat (List (List Int))
  | k, acc, p =>
    if p < c.length then
      if c[p]? ≠ some 32 then .error p
      else match k with
        | 0 => .error p
        | k + 1 => match sidesAt c (p + 1) n n with
          | .ok (ns, q) => kindsL c n k (acc ++ [ns]) q
          | .error q => .error q
    else .ok acc
def parseK (c : List Nat) : Except Nat (List (List Int)) :=
  match sidesAt c 0 1 4 with
  | .ok (ns, q) => kindsL c ns.length 3 [ns] q
  | .error q => .error q
/-! ### the texts -/
def gl (sep : List Nat) : List (List Nat) → List Nat
  | [] => []
  | [x] => x
  | x :: r => x ++ sep ++ gl sep r
theorem cs_join (sep : Str) : ∀ ys : List Str, cs (Txt.join sep ys) = gl (cs sep) (ys.map cs) := by
  intro ys
  show cs (Builtin.Str.glued sep ys) = _
  rw [StrLaws.glued_eq_join]
  induction ys with
  | nil => rfl
  | cons x r ih =>
    cases r with
    | nil => rfl
    | cons y r =>
      show cs (x ++ sep ++ Str.join sep (y :: r)) = cs x ++ cs sep ++ gl (cs sep) ((y :: r).map cs)
      rw [cs_app, cs_app, ih]
def sideT (ns : List Int) : Str := Txt.join "x" (ns.map numS)
def kindT (nss : List (List Int)) : Str := Txt.join " " (nss.map sideT)
def sideC (ns : List Int) : List Nat := gl [120] (ns.map fun n => digs n.toNat)
def kindC (nss : List (List Int)) : List Nat := gl [32] (nss.map sideC)
def SideOk (ns : List Int) : Prop := 1 ≤ ns.length ∧ ns.length ≤ 4 ∧ ∀ n ∈ ns, 1 ≤ n ∧ n ≤ MS
theorem cs_side {ns : List Int} (h : ∀ n ∈ ns, 1 ≤ n ∧ n ≤ MS) : cs (sideT ns) = sideC ns := by
  unfold sideT sideC
  rw [cs_join, List.map_map]
  have : cs ("x" : Str) = [120] := by decide +kernel
  rw [this]
  congr 1
  refine List.map_congr_left fun n hn => ?_
  exact cs_num (by have := (h n hn).1; omega)
theorem cs_kind {nss : List (List Int)} (h : ∀ ns ∈ nss, ∀ n ∈ ns, 1 ≤ n ∧ n ≤ MS) : cs (kindT nss) = kindC nss := by
  unfold kindT kindC
  rw [cs_join, List.map_map]
  have : cs (" " : Str) = [32] := by decide +kernel
  rw [this]
  congr 1
  exact List.map_congr_left fun ns hn => cs_side (h ns hn)
/-- what may stand behind sides that are at an end -/
def Behind (r : List Nat) : Prop := ∀ c t, r = c :: t → c = 32
theorem sidesL_text : ∀ (ns : List Int) (k : Nat) (acc : List Int) (pre r : List Nat), 1 ≤ ns.length → ns.length ≤ k → (∀ n ∈ ns, 1 ≤ n ∧ n ≤ MS) → Behind r →
    sidesL (pre ++ (sideC ns ++ r)) k acc pre.length = .ok (acc ++ ns, (pre ++ sideC ns).length)
  | [], _, _, _, _, h, _, _, _ => by simp at h
  | n :: ns, 0, _, _, _, _, h, _, _ => by simp at h
  | n :: ns, k + 1, acc, pre, r, h1, h2, h3, h4 => by
    have hn := h3 n List.mem_cons_self
    have hN : ((n.toNat : Nat) : Int) = n := Int.toNat_of_nonneg (by omega)
    have nr : NoDigit r := fun c t e q => by have := h4 c t e; omega
    unfold sidesL
    rw [List.drop_left]
    cases ns with
    | nil =>
      have e : sideC [n] = digs n.toNat := rfl
      rw [e, scan_digs _ (by omega) (by rw [hN]; exact hn.2), scan_stop nr, hN]
      dsimp only
      rw [if_neg (by omega), if_pos, List.length_append]
      by_cases hk : k = 0
      · exact .inl hk
      · right
        cases r with
        | nil => left; simp
        | cons c t =>
          right
          have hc := h4 c t rfl
          rw [← List.append_assoc, ← List.length_append, List.getElem?_append_right (Nat.le_refl _), Nat.sub_self, hc]
          simp
    | cons m ns =>
      have e : sideC (n :: m :: ns) = digs n.toNat ++ [120] ++ sideC (m :: ns) := rfl
      have nx : NoDigit ([120] ++ (sideC (m :: ns) ++ r)) := fun c t e q => by
        have e2 : 120 = c := (List.cons.inj e).1
        omega
      rw [e, List.append_assoc, List.append_assoc, List.append_assoc, scan_digs _ (by omega) (by rw [hN]; exact hn.2), scan_stop nx, hN]
      dsimp only
      rw [if_neg (by omega), if_neg]
      · have ih := sidesL_text (m :: ns) k (acc ++ [n]) (pre ++ digs n.toNat ++ [120]) r (by simp) (by simp at h2 ⊢; omega) (fun x hx => h3 x (List.mem_cons_of_mem _ hx)) h4
        have e1 : pre ++ digs n.toNat ++ [120] ++ (sideC (m :: ns) ++ r) = pre ++ (digs n.toNat ++ ([120] ++ (sideC (m :: ns) ++ r))) := by simp
        rw [e1] at ih
        have e2 : (pre ++ digs n.toNat ++ [120]).length = pre.length + (digs n.toNat).length + 1 := by simp; omega
        rw [e2] at ih
        rw [ih]
        congr 2
        · simp
        · simp
      · intro q
        rcases q with q | q | q
        · simp at h2; omega
        · simp at q
        · apply q
          rw [← List.append_assoc, ← List.length_append, List.getElem?_append_right (Nat.le_refl _), Nat.sub_self]
          rfl
theorem sidesAt_text {ns : List Int} {k l : Nat} (pre r : List Nat) (h1 : 1 ≤ ns.length) (h2 : ns.length ≤ k) (hl : l ≤ ns.length) (h3 : ∀ n ∈ ns, 1 ≤ n ∧ n ≤ MS) (h4 : Behind r) :
    sidesAt (pre ++ (sideC ns ++ r)) pre.length l k = .ok (ns, (pre ++ sideC ns).length) := by
  unfold sidesAt
  rw [sidesL_text ns k [] pre r h1 h2 h3 h4]
  dsimp only
  rw [List.nil_append, if_neg (by omega)]
theorem parseS_text {ns : List Int} (h : SideOk ns) : parseS (sideC ns) = .ok ns := by
  have e := sidesAt_text (l := 1) (k := 4) [] [] h.1 h.2.1 h.1 h.2.2 (fun c t e => nomatch e)
  simp only [List.nil_append, List.append_nil, List.length_nil] at e
  unfold parseS
  rw [e]
  dsimp only
  rw [if_neg (Nat.lt_irrefl _)]
theorem kindsL_text : ∀ (nss : List (List Int)) (n k : Nat) (acc : List (List Int)) (pre : List Nat), nss.length ≤ k → 1 ≤ n → (∀ ns ∈ nss, ns.length = n ∧ ∀ m ∈ ns, 1 ≤ m ∧ m ≤ MS) →
    kindsL (pre ++ (nss.map fun ns => 32 :: sideC ns).flatten) n k acc pre.length = .ok (acc ++ nss)
  | [], n, k, acc, pre, _, _, _ => by
    unfold kindsL
    rw [if_neg (by simp)]
    simp
  | ns :: nss, n, 0, acc, pre, h, _, _ => by simp at h
  | ns :: nss, n, k + 1, acc, pre, h, h1, h2 => by
    have hn := h2 ns List.mem_cons_self
    unfold kindsL
    rw [if_pos (by simp)]
    have g : (pre ++ (List.map (fun ns => 32 :: sideC ns) (ns :: nss)).flatten)[pre.length]? = some 32 := by
      rw [List.getElem?_append_right (Nat.le_refl _), Nat.sub_self]
      rfl
    rw [if_neg (by rw [g]; simp)]
    dsimp only
    have bh : Behind (List.map (fun ns => 32 :: sideC ns) nss).flatten := fun c t e => by
      cases nss with
      | nil => exact nomatch e
      | cons a b =>
        have : 32 = c := (List.cons.inj e).1
        exact this.symm
    have e := sidesAt_text (ns := ns) (l := n) (k := n) (pre ++ [32]) (List.map (fun ns => 32 :: sideC ns) nss).flatten (by omega) (by omega) (by omega) hn.2 bh
    have e1 : pre ++ [32] ++ (sideC ns ++ (List.map (fun ns => 32 :: sideC ns) nss).flatten) = pre ++ (List.map (fun ns => 32 :: sideC ns) (ns :: nss)).flatten := by simp
    have e2 : (pre ++ [32]).length = pre.length + 1 := by simp
    rw [e1, e2] at e
    rw [e]
    dsimp only
    have ih := kindsL_text nss n k (acc ++ [ns]) (pre ++ [32] ++ sideC ns) (by simp at h; omega) h1 fun x hx => h2 x (List.mem_cons_of_mem _ hx)
    have e3 : pre ++ [32] ++ sideC ns ++ (List.map (fun ns => 32 :: sideC ns) nss).flatten = pre ++ (List.map (fun ns => 32 :: sideC ns) (ns :: nss)).flatten := by simp
    rw [e3] at ih
    rw [ih]
    simp
theorem kindC_cons (ns : List Int) : ∀ nss : List (List Int), kindC (ns :: nss) = sideC ns ++ (nss.map fun ns => 32 :: sideC ns).flatten
  | [] => by simp [kindC, gl]
  | m :: nss => by
    show sideC ns ++ [32] ++ kindC (m :: nss) = _
    rw [kindC_cons m nss]
    simp
def KindOk (nss : List (List Int)) (n : Nat) : Prop := 1 ≤ n ∧ n ≤ 4 ∧ 1 ≤ nss.length ∧ nss.length ≤ 4 ∧ ∀ ns ∈ nss, ns.length = n ∧ ∀ m ∈ ns, 1 ≤ m ∧ m ≤ MS
theorem parseK_text {nss : List (List Int)} {n : Nat} (h : KindOk nss n) : parseK (kindC nss) = .ok nss := by
  obtain ⟨h1, h2, h3, h4, h5⟩ := h
  cases nss with
  | nil => simp at h3
  | cons ns nss =>
    have hn := h5 ns List.mem_cons_self
    have bh : Behind (List.map (fun ns => 32 :: sideC ns) nss).flatten := fun c t e => by
      cases nss with
      | nil => exact nomatch e
      | cons a b =>
        have : 32 = c := (List.cons.inj e).1
        exact this.symm
    have e := sidesAt_text (ns := ns) (l := 1) (k := 4) [] (List.map (fun ns => 32 :: sideC ns) nss).flatten (by omega) (by omega) (by omega) hn.2 bh
    simp only [List.nil_append, List.length_nil] at e
    unfold parseK
    rw [kindC_cons, e]
    dsimp only
    have k := kindsL_text nss ns.length 3 [ns] (sideC ns) (by simp at h4; omega) (by omega) fun x hx => by
      have := h5 x (List.mem_cons_of_mem _ hx)
      exact ⟨by omega, this.2⟩
    rw [k]
    rfl
/-! ### sizes -/
theorem gl_len (sep : List Nat) : ∀ (l : List (List Nat)) (k : Nat), (∀ x ∈ l, x.length ≤ k) → (gl sep l).length ≤ l.length * (k + sep.length)
  | [], _, _ => Nat.zero_le _
  | [x], k, h => by
    have := h x List.mem_cons_self
    show x.length ≤ 1 * _
    omega
  | x :: y :: r, k, h => by
    have h1 := h x List.mem_cons_self
    have h2 := gl_len sep (y :: r) k fun z hz => h z (List.mem_cons_of_mem _ hz)
    show (x ++ sep ++ gl sep (y :: r)).length ≤ (r.length + 1 + 1) * _
    rw [List.length_append, List.length_append, Nat.succ_mul]
    have : (y :: r).length = r.length + 1 := rfl
    rw [this] at h2
    omega
theorem sideC_len {ns : List Int} (h : ns.length ≤ 4) (h2 : ∀ n ∈ ns, 1 ≤ n ∧ n ≤ MS) : (sideC ns).length ≤ 56 := by
  have hms : MS = 1000000000000 := rfl
  have := gl_len [120] (ns.map fun n => digs n.toNat) 13 fun x hx => by
    obtain ⟨n, hn, rfl⟩ := List.mem_map.mp hx
    have := h2 n hn
    exact digs_len (by omega)
  rw [List.length_map] at this
  show (gl [120] _).length ≤ 56
  have e : ([120] : List Nat).length = 1 := rfl
  rw [e] at this
  omega
theorem kindC_len {nss : List (List Int)} (h : nss.length ≤ 4) (h2 : ∀ ns ∈ nss, ns.length ≤ 4 ∧ ∀ n ∈ ns, 1 ≤ n ∧ n ≤ MS) : (kindC nss).length ≤ 228 := by
  have := gl_len [32] (nss.map sideC) 56 fun x hx => by
    obtain ⟨ns, hn, rfl⟩ := List.mem_map.mp hx
    exact sideC_len (h2 ns hn).1 (h2 ns hn).2
  rw [List.length_map] at this
  show (gl [32] _).length ≤ 228
  have e : ([32] : List Nat).length = 1 := rfl
  rw [e] at this
  omega
/-! ### a sign among the digits -/
theorem find_digit (c : Nat) : Txt.find ("0123456789" : Str) ⟨#[c]⟩ = if 48 ≤ c ∧ c ≤ 57 then (c : Int) - 48 else -1 := by
  by_cases h : 48 ≤ c ∧ c ≤ 57
  · rw [if_pos h]
    obtain ⟨h1, h2⟩ := h
    have : c = 48 ∨ c = 49 ∨ c = 50 ∨ c = 51 ∨ c = 52 ∨ c = 53 ∨ c = 54 ∨ c = 55 ∨ c = 56 ∨ c = 57 := by omega
    rcases this with rfl | rfl | rfl | rfl | rfl | rfl | rfl | rfl | rfl | rfl <;> decide +kernel
  · rw [if_neg h]
    have e := StrLaws.found_one ("0123456789" : Str) c
    have e2 : decide (c ∈ ("0123456789" : Str).cps.toList) = false := by
      have : ("0123456789" : Str).cps.toList = [48, 49, 50, 51, 52, 53, 54, 55, 56, 57] := by decide +kernel
      rw [this]
      refine decide_eq_false ?_
      simp only [List.mem_cons, List.not_mem_nil, or_false]
      omega
    rw [e2] at e
    unfold Txt.find
    cases ho : Builtin.Str.occurrences ("0123456789" : Str) ⟨#[c]⟩ 0 ("0123456789" : Str).length 1 with
    | nil => rfl
    | cons a b => rw [ho] at e; cases e
/-! ### what repr asks of data: their texts are not too long -/
structure Fit (n k : Nat) (d : PyData) : Prop where
  sh : d.showable = true
  len : d.shown.length ≤ n
  dp : d.depth ≤ k
theorem Fit.mono {n m k j : Nat} {d : PyData} (h : Fit n k d) (h1 : n ≤ m) (h2 : k ≤ j) : Fit m j d := ⟨h.sh, Nat.le_trans h.len h1, Nat.le_trans h.dp h2⟩
theorem fit_all {n k : Nat} : ∀ ds : List PyData, (∀ d ∈ ds, Fit n k d) → PyData.showableAll ds = true ∧ PyData.depthAll ds ≤ k ∧ ((PyData.shownAll ds).map (·.length)).sum ≤ ds.length * n ∧ (PyData.shownAll ds).length = ds.length
  | [], _ => ⟨rfl, Nat.zero_le _, Nat.zero_le _, rfl⟩
  | d :: ds, h => by
    obtain ⟨a, b, c, e⟩ := fit_all ds fun x hx => h x (List.mem_cons_of_mem _ hx)
    have f := h d List.mem_cons_self
    refine ⟨by rw [PyData.showableAll, f.sh, a]; rfl, by rw [PyData.depthAll]; have := f.dp; omega, ?_, by rw [PyData.shownAll, List.length_cons, e]; rfl⟩
    rw [PyData.shownAll, List.map_cons, List.sum_cons, List.length_cons, Nat.succ_mul]
    have := f.len
    omega
theorem Fit.list {n k : Nat} {ds : List PyData} (h : ∀ d ∈ ds, Fit n k d) : Fit (ds.length * n + 2 * ds.length + 3) (k + 1) (.list ds) := by
  obtain ⟨a, b, c, e⟩ := fit_all ds h
  refine ⟨by rw [PyData.showable]; exact a, ?_, by rw [PyData.depth]; omega⟩
  have := listText_len_le (PyData.shownAll ds)
  rw [PyData.shown]
  omega
theorem Fit.tuple {n k : Nat} {ds : List PyData} (h : ∀ d ∈ ds, Fit n k d) : Fit (ds.length * n + 2 * ds.length + 3) (k + 1) (.tuple ds) := by
  obtain ⟨a, b, c, e⟩ := fit_all ds h
  refine ⟨by rw [PyData.showable]; exact a, ?_, by rw [PyData.depth]; omega⟩
  have := tupleText_len_le (PyData.shownAll ds)
  rw [PyData.shown]
  omega
theorem fit_int {i : Int} (h : 0 ≤ i) (h2 : i ≤ MS) : Fit 13 0 (.int i) := by
  have hms : MS = 1000000000000 := rfl
  refine ⟨?_, ?_, Nat.le_refl _⟩
  · rw [PyData.showable]
    refine decide_eq_true ?_
    by_cases h0 : i.natAbs = 0
    · rw [h0]; decide
    · exact Nat.lt_of_lt_of_le ((Nat.log2_lt h0).mpr (show i.natAbs < 2 ^ 41 by omega)) (by decide)
  · show (numS i).length ≤ 13
    rw [← cs_len, cs_num h]
    exact digs_len (by omega)
theorem fit_str {x : Str} {n : Nat} (h : x.length ≤ n) (hc : ∀ c ∈ cs x, c < 16 ^ 8) : Fit (10 * n + 2) 0 (.str x) := by
  refine ⟨rfl, ?_, Nat.le_refl _⟩
  have := StrLaws.reprText_len x hc
  rw [PyData.shown]
  omega
theorem gl_mem {sep : List Nat} {c : Nat} : ∀ {l : List (List Nat)}, c ∈ gl sep l → c ∈ sep ∨ ∃ x ∈ l, c ∈ x
  | [], h => by cases h
  | [x], h => .inr ⟨x, List.mem_cons_self, h⟩
  | x :: y :: r, h => by
    have h' : c ∈ x ++ sep ++ gl sep (y :: r) := h
    rcases List.mem_append.mp h' with h1 | h1
    · rcases List.mem_append.mp h1 with h2 | h2
      · exact .inr ⟨x, List.mem_cons_self, h2⟩
      · exact .inl h2
    · rcases gl_mem h1 with h2 | ⟨z, hz, h2⟩
      · exact .inl h2
      · exact .inr ⟨z, List.mem_cons_of_mem _ hz, h2⟩
theorem side_code {ns : List Int} {c : Nat} (h : c ∈ sideC ns) : c < 1000 := by
  rcases gl_mem h with h | ⟨x, hx, h⟩
  · rw [List.mem_singleton.mp h]; decide
  · obtain ⟨n, _, rfl⟩ := List.mem_map.mp hx
    have := digs_mem _ _ h
    omega
theorem kind_code {nss : List (List Int)} {c : Nat} (h : c ∈ kindC nss) : c < 1000 := by
  rcases gl_mem h with h | ⟨x, hx, h⟩
  · rw [List.mem_singleton.mp h]; decide
  · obtain ⟨n, _, rfl⟩ := List.mem_map.mp hx
    exact side_code h
theorem fit_side {ns : List Int} (h : ns.length ≤ 4) (h2 : ∀ n ∈ ns, 1 ≤ n ∧ n ≤ MS) : Fit 3000 0 (.str (sideT ns)) := by
  refine (fit_str (n := 56) ?_ fun c hc => ?_).mono (by decide) (Nat.le_refl _)
  · rw [← cs_len, cs_side h2]; exact sideC_len h h2
  · rw [cs_side h2] at hc
    exact Nat.lt_of_lt_of_le (side_code hc) (by decide)
theorem fit_kind {nss : List (List Int)} (h : nss.length ≤ 4) (h2 : ∀ ns ∈ nss, ns.length ≤ 4 ∧ ∀ n ∈ ns, 1 ≤ n ∧ n ≤ MS) : Fit 3000 0 (.str (kindT nss)) := by
  have e := cs_kind fun ns hn => (h2 ns hn).2
  refine (fit_str (n := 228) ?_ fun c hc => ?_).mono (by decide) (Nat.le_refl _)
  · rw [← cs_len, e]; exact kindC_len h h2
  · rw [e] at hc
    exact Nat.lt_of_lt_of_le (kind_code hc) (by decide)
theorem fit_tupI {ns : List Int} (h : ns.length ≤ 4) (h2 : ∀ n ∈ ns, 1 ≤ n ∧ n ≤ MS) : Fit 100 1 (tupI ns) := by
  have := Fit.tuple (n := 13) (k := 0) (ds := ns.map PyData.int) fun d hd => by
    obtain ⟨n, hn, rfl⟩ := List.mem_map.mp hd
    have := h2 n hn
    exact fit_int (by omega) this.2
  rw [List.length_map] at this
  exact this.mono (by omega) (Nat.le_refl _)
theorem fit_tupK {nss : List (List Int)} (h : nss.length ≤ 4) (h2 : ∀ ns ∈ nss, ns.length ≤ 4 ∧ ∀ n ∈ ns, 1 ≤ n ∧ n ≤ MS) : Fit 3000 2 (tupK nss) := by
  have := Fit.tuple (n := 100) (k := 1) (ds := nss.map tupI) fun d hd => by
    obtain ⟨ns, hn, rfl⟩ := List.mem_map.mp hd
    exact fit_tupI (h2 ns hn).1 (h2 ns hn).2
  rw [List.length_map] at this
  exact this.mono (by omega) (Nat.le_refl _)
theorem sizeLine_big {n : Nat} (h : n ≤ 100000) : n ≤ sizeLine := Nat.le_trans h (by decide)
end TB
set_option Elab.async false
set_option linter.all false
set_option maxRecDepth 100000
/-! A layer over data: what an expression evaluates to, said of data (PyData), the heap's bookkeeping hidden in one state St. -/
namespace DL
open PySem PySem.Spec PyProof.Rows L2 Evl TB
mutual
/-- v stands for the data e, none of its objects at an address of N -/
inductive Rg (N : Addr → Prop) (H : Hp) : V → PyData → Prop
  | non : Rg N H .non .none
  | bl (b : Bool) : Rg N H (.bl b) (.bool b)
  | int (i : Int) : Rg N H (.int i) (.int i)
  | str (x : Str) : Rg N H (.str x) (.str x)
  | lst {a : Addr} {xs : List V} {ds : List PyData} : H a = some (.lst xs) → ¬ N a → RgAll N H xs ds → Rg N H (.ref a) (.list ds)
  | tup {a : Addr} {xs : List V} {ds : List PyData} : H a = some (.tup xs) → ¬ N a → RgAll N H xs ds → Rg N H (.ref a) (.tuple ds)
  | dic {a : Addr} : H a = some (.dK []) → ¬ N a → Rg N H (.ref a) (.dict [])
inductive RgAll (N : Addr → Prop) (H : Hp) : List V → List PyData → Prop
  | nil : RgAll N H [] []
  | cons {v : V} {vs : List V} {d : PyData} {ds : List PyData} : Rg N H v d → RgAll N H vs ds → RgAll N H (v :: vs) (d :: ds)
end
mutual
def hasL : PyData → Bool
  | .none | .bool _ | .int _ | .str _ => false
  | .list _ => true
  | .tuple ds => hasLs ds
  | .dict _ => false
def hasLs : List PyData → Bool
  | [] => false
  | d :: ds => hasL d || hasLs ds
end
/-- not both a list and a dict in it -/
def okD (e : PyData) : Bool := !(e.hasDict) || !(hasL e)
section
variable {N M : Addr → Prop} {H H' : Hp}
mutual
theorem Rg.to (x : ∀ a o, H a = some o → ¬ N a → H' a = some o ∧ ¬ M a) : ∀ (e : PyData) (z : V), Rg N H z e → Rg M H' z e
  | .none, _, q => by cases q; exact .non
  | .bool c, _, q => by cases q; exact .bl c
  | .int j, _, q => by cases q; exact .int j
  | .str y, _, q => by cases q; exact .str y
  | .list es, _, q => by
    cases q with
    | lst h n r => exact .lst (x _ _ h n).1 (x _ _ h n).2 (RgAll.to x es _ r)
  | .tuple es, _, q => by
    cases q with
    | tup h n r => exact .tup (x _ _ h n).1 (x _ _ h n).2 (RgAll.to x es _ r)
  | .dict es, _, q => by
    cases q with
    | dic h n => exact .dic (x _ _ h n).1 (x _ _ h n).2
theorem RgAll.to (x : ∀ a o, H a = some o → ¬ N a → H' a = some o ∧ ¬ M a) : ∀ (es : List PyData) (zs : List V), RgAll N H zs es → RgAll M H' zs es
  | [], _, q => by cases q; exact .nil
  | e :: es, _, q => by
    cases q with
    | cons q1 q2 => exact .cons (Rg.to x e _ q1) (RgAll.to x es _ q2)
end
theorem Rg.ex {v : V} {e : PyData} (x : Ex H H') (r : Rg N H v e) : Rg N H' v e := Rg.to (fun a o h n => ⟨x a o h, n⟩) e v r
theorem RgAll.ex {vs : List V} {es : List PyData} (x : Ex H H') (r : RgAll N H vs es) : RgAll N H' vs es := RgAll.to (fun a o h n => ⟨x a o h, n⟩) es vs r
theorem Rg.sub {v : V} {e : PyData} (x : ∀ a, M a → N a) (r : Rg N H v e) : Rg M H v e := Rg.to (fun a o h n => ⟨h, fun q => n (x a q)⟩) e v r
theorem RgAll.len : ∀ {zs : List V} {es : List PyData}, RgAll N H zs es → zs.length = es.length
  | _, _, .nil => rfl
  | _, _, .cons _ t => congrArg (· + 1) t.len
theorem RgAll.get : ∀ {zs : List V} {es : List PyData} {i : Nat} {z : V}, RgAll N H zs es → zs[i]? = some z → ∃ e, es[i]? = some e ∧ Rg N H z e
  | _, _, _, _, .nil, h => by simp at h
  | _, _, 0, z, .cons q _, h => by simp at h; subst h; exact ⟨_, rfl, q⟩
  | _, _, i + 1, z, .cons _ t, h => by
    obtain ⟨e, h1, h2⟩ := RgAll.get (i := i) t (by simpa using h)
    exact ⟨e, by simpa using h1, h2⟩
theorem RgAll.get' : ∀ {zs : List V} {es : List PyData} {i : Nat} {e : PyData}, RgAll N H zs es → es[i]? = some e → ∃ z, zs[i]? = some z ∧ Rg N H z e
  | _, _, _, _, .nil, h => by simp at h
  | _, _, 0, e, .cons q _, h => by simp at h; subst h; exact ⟨_, rfl, q⟩
  | _, _, i + 1, e, .cons _ t, h => by
    obtain ⟨z, h1, h2⟩ := RgAll.get' (i := i) t (by simpa using h)
    exact ⟨z, by simpa using h1, h2⟩
theorem RgAll.app : ∀ {zs ys : List V} {es fs : List PyData}, RgAll N H zs es → RgAll N H ys fs → RgAll N H (zs ++ ys) (es ++ fs)
  | _, _, _, _, .nil, s => s
  | _, _, _, _, .cons q t, s => .cons q (t.app s)
theorem RgAll.take : ∀ {zs : List V} {es : List PyData} (k : Nat), RgAll N H zs es → RgAll N H (zs.take k) (es.take k)
  | _, _, 0, _ => .nil
  | _, _, _ + 1, .nil => .nil
  | _, _, k + 1, .cons q t => .cons q (RgAll.take k t)
theorem RgAll.drop : ∀ {zs : List V} {es : List PyData} (k : Nat), RgAll N H zs es → RgAll N H (zs.drop k) (es.drop k)
  | _, _, 0, r => r
  | _, _, _ + 1, .nil => .nil
  | _, _, k + 1, .cons _ t => RgAll.drop k t
theorem RgAll.rev : ∀ {zs : List V} {es : List PyData}, RgAll N H zs es → RgAll N H zs.reverse es.reverse
  | _, _, .nil => .nil
  | _, _, .cons q t => by
    rw [List.reverse_cons, List.reverse_cons]
    exact t.rev.app (.cons q .nil)
theorem RgAll.mem : ∀ {zs : List V} {es : List PyData} {z : V}, RgAll N H zs es → z ∈ zs → ∃ e ∈ es, Rg N H z e
  | _, _, _, .nil, h => by cases h
  | _, _, z, .cons q t, h => by
    rcases List.mem_cons.mp h with h | h
    · subst h; exact ⟨_, List.mem_cons_self, q⟩
    · obtain ⟨e, h1, h2⟩ := t.mem h
      exact ⟨e, List.mem_cons_of_mem _ h1, h2⟩
theorem rgInts : ∀ ns : List Int, RgAll N H (ns.map V.int) (ns.map PyData.int)
  | [] => .nil
  | n :: ns => .cons (.int n) (rgInts ns)
theorem rgStrs : ∀ ns : List Str, RgAll N H (ns.map V.str) (ns.map PyData.str)
  | [] => .nil
  | n :: ns => .cons (.str n) (rgStrs ns)
theorem rgInts_inv : ∀ {ns : List Int} {zs : List V}, RgAll N H zs (ns.map PyData.int) → zs = ns.map V.int
  | [], _, h => by cases h; rfl
  | n :: ns, _, h => by
    cases h with
    | cons q t => cases q; rw [rgInts_inv t]; rfl
end
/-! ### repr -/
section
variable {X : Cx} {pins : List (Addr × Obj)} {σ : L2.St} {N : Addr → Prop} {H : Hp} {s : Shared}
mutual
theorem Rg.reads (J : Inv X pins σ H s) : ∀ (e : PyData) (z : V) (y : Value), Rg N H z e → RelV z y → ∃ as, Reads s.heap y e as ∧ (hasL e = false → sysModules ∉ as)
  | .none, _, _, q, r => by cases q; cases r; exact ⟨_, Reads.none, fun _ h => nomatch h⟩
  | .bool c, _, _, q, r => by cases q; cases r; exact ⟨_, Reads.bool c, fun _ h => nomatch h⟩
  | .int j, _, _, q, r => by cases q; obtain ⟨tk, rfl⟩ := r; exact ⟨_, Reads.int j tk, fun _ h => nomatch h⟩
  | .str y, _, _, q, r => by cases q; obtain ⟨tk, rfl⟩ := r; exact ⟨_, Reads.str y tk, fun _ h => nomatch h⟩
  | .list es, _, _, q, r => by
    cases q with
    | lst hq _ hz =>
      cases r
      obtain ⟨iq, rz, ⟨oq, nq, hoq, hcq, _, hdq⟩, _⟩ := J.list (.inl (.inl hq))
      obtain ⟨as, hr, _⟩ := Rg.readsAll J es _ iq hz rz
      exact ⟨_, Reads.list hoq hcq hdq hr, fun h => by rw [hasL] at h; cases h⟩
  | .tuple es, _, _, q, r => by
    cases q with
    | tup hq _ hz =>
      cases r
      obtain ⟨iq, rz, ⟨oq, hoq, hcq, nq, hdq⟩, _⟩ := J.tuple (.inl (.inl hq))
      obtain ⟨as, hr, hn⟩ := Rg.readsAll J es _ iq hz rz
      exact ⟨_, Reads.tuple hoq hcq hdq hr, fun h => hn (by rw [hasL] at h; exact h)⟩
  | .dict es, _, _, q, r => by
    cases q with
    | dic hq _ =>
      cases r
      obtain ⟨_, hne, vs, kv, o, es, ep, ho, ⟨hc, _⟩, hd, _, hp, _⟩ := J.hok _ _ hq
      cases kv
      have e0 : es.toList = [] := by
        cases h : es.toList with
        | nil => rfl
        | cons a b => rw [h] at hp; cases hp
      refine ⟨_, Reads.dict ho hc hd (by rw [e0]; exact .nil) (by rw [e0]; exact .nil), fun _ hm => ?_⟩
      simp only [List.append_nil, List.mem_singleton] at hm
      rw [← hm] at hne
      simp at hne
theorem Rg.readsAll (J : Inv X pins σ H s) : ∀ (es : List PyData) (zs : List V) (ys : List Value), RgAll N H zs es → Vals zs ys → ∃ as, ReadsAll s.heap ys es as ∧ (hasLs es = false → sysModules ∉ as)
  | [], _, _, q, r => by cases q; cases r; exact ⟨_, ReadsAll.nil, fun _ h => nomatch h⟩
  | e :: es, _, _, q, r => by
    cases q with
    | cons q1 q2 =>
      cases r with
      | cons r1 r2 =>
        obtain ⟨as, g1, n1⟩ := Rg.reads J e _ _ q1 r1
        obtain ⟨bs, g2, n2⟩ := Rg.readsAll J es _ _ q2 r2
        refine ⟨_, ReadsAll.cons g1 g2, fun h hm => ?_⟩
        rw [hasLs, Bool.or_eq_false_iff] at h
        rcases List.mem_append.mp hm with hm | hm
        · exact n1 h.1 hm
        · exact n2 h.2 hm
end
end
def rReprD : List V → Hp → VK → Prop := fun xs H Q =>
  ∃ N z e, xs = [z] ∧ Rg N H z e ∧ okD e = true ∧ e.showable = true ∧ e.depth < 60 ∧ e.shown.length ≤ sizeLine ∧ Q (.str e.shown) H
theorem call_reprD {X : Cx} (hg : X.A.guards = some []) (hu : X.A.units + 64 < cLine) : CallR X (.builtin "repr") rReprD := by
  intro pins s σ H xs us Q J r h
  obtain ⟨N, z, e, rfl, hz, hk, hs, hd, hl, q⟩ := h
  obtain ⟨u, rfl, ru⟩ := vals1 r
  obtain ⟨as, hr, hn⟩ := Rg.reads J e z u hz ru
  have hk' : e.hasDict = true → sysModules ∉ as := fun h => by
    unfold okD at hk
    rw [h] at hk
    exact hn (by simpa using hk)
  cases hz with
  | non =>
    cases ru
    exact PySem.P.repr_of_none ⟨.str _, H, J.tok _, ⟨_, rfl⟩, q⟩
  | bl b =>
    cases ru
    exact PySem.P.repr_of_bool ⟨.str _, H, J.tok _, ⟨_, rfl⟩, by cases b <;> exact q⟩
  | int i =>
    obtain ⟨t, rfl⟩ := ru
    exact PySem.P.repr_of_int (of_decide_eq_true hs) ⟨.str _, H, J.tok _, ⟨_, rfl⟩, q⟩
  | str x =>
    obtain ⟨t, rfl⟩ := ru
    exact PySem.P.repr_of_str (hsz := hl) ⟨.str _, H, J.tok _, ⟨_, rfl⟩, q⟩
  | lst h1 h2 =>
    cases ru
    exact repr_of_reads' hr hs hk' hg (by omega) (fun b o e => e) (fun h' u tk hk => ⟨.str _, H, J.kept hk, ⟨_, rfl⟩, q⟩) hl
  | tup h1 h2 =>
    cases ru
    exact repr_of_reads' hr hs hk' hg (by omega) (fun b o e => e) (fun h' u tk hk => ⟨.str _, H, J.kept hk, ⟨_, rfl⟩, q⟩) hl
  | dic h1 h2 =>
    cases ru
    exact repr_of_reads' hr hs hk' hg (by omega) (fun b o e => e) (fun h' u tk hk => ⟨.str _, H, J.kept hk, ⟨_, rfl⟩, q⟩) hl
/-! ### the state -/
def NOk (N : Addr → Prop) (H : Hp) : Prop := ∀ a, N a → H a ≠ none
theorem NOk.ex {N : Addr → Prop} {H H' : Hp} (h : NOk N H) (x : Ex H H') : NOk N H' := fun a n => by
  cases e : H a with
  | none => exact absurd e (h a n)
  | some o => rw [x a o e]; simp
theorem NOk.new {N : Addr → Prop} {H : Hp} {p : Addr} (h : NOk N H) (hp : H p = none) : ¬ N p := fun n => h p n hp
inductive Sl where
  | dat (e : PyData)
  | raw (v : V)
/-- what must stand while a def runs: the objects of N may change, I is what is known of them -/
structure Wd where
  N : Addr → Prop
  I : Hp → Prop
  ok : ∀ H, I H → NOk N H
  stab : ∀ H H', I H → (∀ a, N a → H' a = H a) → I H'
def SlOk (N M : Addr → Prop) (H : Hp) : Sl → Option V → Prop
  | .dat e, o => ∃ v, o = some v ∧ Rg N H v e
  | .raw v, o => o = some v
def Slots (N M : Addr → Prop) (H : Hp) (ρ : List (Option Sl)) (σ : L2.St) : Prop := ρ.length = σ.length ∧ ∀ (i : Nat) (s : Sl), ρ[i]? = some (some s) → ∃ o, σ[i]? = some o ∧ SlOk N M H s o
/-- the lists of one's own that still grow -/
def LocOk (N M : Addr → Prop) (H : Hp) (l : List (Addr × List PyData)) : Prop := (l.map (·.1)).Nodup ∧ ∀ p ∈ l, N p.1 ∧ ¬ M p.1 ∧ ∃ xs, H p.1 = some (.lst xs) ∧ RgAll N H xs p.2
structure St (W : Wd) (H0 : Hp) (ρ : List (Option Sl)) (τ : List (V × PyData)) (l : List (Addr × List PyData)) (σ : L2.St) (H : Hp) : Prop where
  inv : W.I H
  off : ∀ a o, H0 a = some o → ¬ W.N a → H a = some o
  ex : ∃ N : Addr → Prop, (∀ a, W.N a → N a) ∧ (∀ a, N a → ¬ W.N a → H0 a = none) ∧ NOk N H ∧ Slots N W.N H ρ σ ∧ (∀ p ∈ τ, Rg N H p.1 p.2) ∧ LocOk N W.N H l
theorem LocOk.ex {N M : Addr → Prop} {H H' : Hp} {l : List (Addr × List PyData)} (x : Ex H H') (h : LocOk N M H l) : LocOk N M H' l :=
  ⟨h.1, fun p hp => let ⟨a, b, xs, c, d⟩ := h.2 p hp; ⟨a, b, xs, x _ _ c, d.ex x⟩⟩
theorem SlOk.ex {N M : Addr → Prop} {H H' : Hp} {s : Sl} {o : Option V} (x : Ex H H') (h : SlOk N M H s o) : SlOk N M H' s o := by
  cases s with
  | dat e => obtain ⟨v, h1, h2⟩ := h; exact ⟨v, h1, h2.ex x⟩
  | raw v => exact h
theorem Slots.ex {N M : Addr → Prop} {H H' : Hp} {ρ : List (Option Sl)} {σ : L2.St} (x : Ex H H') (h : Slots N M H ρ σ) : Slots N M H' ρ σ :=
  ⟨h.1, fun i s e => let ⟨o, a, b⟩ := h.2 i s e; ⟨o, a, b.ex x⟩⟩
section
variable {W : Wd} {H0 H H' : Hp} {ρ : List (Option Sl)} {τ τ' : List (V × PyData)} {l : List (Addr × List PyData)} {σ : L2.St}
/-- the state at an extension of the heap, with the values that were made -/
theorem St.ext (S : St W H0 ρ τ l σ H) : ∃ N : Addr → Prop, NOk N H ∧ (∀ p ∈ τ, Rg N H p.1 p.2) ∧ (∀ (i : Nat) (s : Sl), ρ[i]? = some (some s) → ∃ o, σ[i]? = some o ∧ SlOk N W.N H s o) ∧
    ∀ H' (τ' : List (V × PyData)), Ex H H' → (∀ p ∈ τ', Rg N H' p.1 p.2) → St W H0 ρ τ' l σ H' := by
  obtain ⟨N, n1, n2, n3, n4, n5, n6⟩ := S.ex
  refine ⟨N, n3, n5, n4.2, fun H' τ' x h => ⟨W.stab H H' S.inv fun a na => ?_, fun a o e n => x _ _ (S.off a o e n), N, n1, n2, n3.ex x, n4.ex x, h, n6.ex x⟩⟩
  cases e : H a with
  | none => exact absurd e (n3 a (n1 a na))
  | some o => exact x a o e
theorem St.mono (S : St W H0 ρ τ l σ H) (h : ∀ p ∈ τ', p ∈ τ) : St W H0 ρ τ' l σ H := by
  obtain ⟨N, n1, n2, n3, n4, n5, n6⟩ := S.ex
  exact ⟨S.inv, S.off, N, n1, n2, n3, n4, fun p hp => n5 p (h p hp), n6⟩
theorem St.pop (S : St W H0 ρ (p :: τ) l σ H) : St W H0 ρ τ l σ H := S.mono fun _ h => List.mem_cons_of_mem _ h
theorem St.len (S : St W H0 ρ τ l σ H) : ρ.length = σ.length := let ⟨_, _, _, _, n4, _⟩ := S.ex; n4.1
/-- the last value goes to a slot -/
theorem St.set {v : V} {e : PyData} {i : Nat} (S : St W H0 ρ ((v, e) :: τ) l σ H) : St W H0 (ρ.set i (some (.dat e))) τ l (σ.set i (some v)) H := by
  obtain ⟨N, n1, n2, n3, n4, n5, n6⟩ := S.ex
  refine ⟨S.inv, S.off, N, n1, n2, n3, ⟨by rw [List.length_set, List.length_set]; exact n4.1, fun j s h => ?_⟩, fun p hp => n5 p (List.mem_cons_of_mem _ hp), n6⟩
  by_cases hj : i = j
  · subst hj
    have il : i < ρ.length := by
      have := (List.getElem?_eq_some_iff.mp h).1
      rw [List.length_set] at this
      exact this
    rw [List.getElem?_set_self il] at h
    cases h
    exact ⟨some v, List.getElem?_set_self (by rw [← n4.1]; exact il), v, rfl, n5 _ List.mem_cons_self⟩
  · rw [List.getElem?_set_ne hj] at h
    obtain ⟨o, h1, h2⟩ := n4.2 j s h
    exact ⟨o, by rw [List.getElem?_set_ne hj]; exact h1, h2⟩
/-- a slot is forgotten -/
theorem St.clr {i : Nat} {o : Option V} (S : St W H0 ρ τ l σ H) : St W H0 (ρ.set i none) τ l (σ.set i o) H := by
  obtain ⟨N, n1, n2, n3, n4, n5, n6⟩ := S.ex
  refine ⟨S.inv, S.off, N, n1, n2, n3, ⟨by rw [List.length_set, List.length_set]; exact n4.1, fun j s h => ?_⟩, n5, n6⟩
  by_cases hj : i = j
  · subst hj
    have il : i < ρ.length := by
      have := (List.getElem?_eq_some_iff.mp h).1
      rw [List.length_set] at this
      exact this
    rw [List.getElem?_set_self il] at h
    cases h
  · rw [List.getElem?_set_ne hj] at h
    obtain ⟨o', h1, h2⟩ := n4.2 j s h
    exact ⟨o', by rw [List.getElem?_set_ne hj]; exact h1, h2⟩
theorem St.dat {i : Nat} {e : PyData} (S : St W H0 ρ τ l σ H) (h : ρ[i]? = some (some (.dat e))) : ∃ v, σ[i]? = some (some v) ∧ St W H0 ρ ((v, e) :: τ) l σ H := by
  obtain ⟨N, n3, n5, n4, k⟩ := S.ext
  obtain ⟨o, h1, v, rfl, h2⟩ := n4 i _ h
  refine ⟨v, h1, k H _ ex_refl fun p hp => ?_⟩
  rcases List.mem_cons.mp hp with rfl | hp
  · exact h2
  · exact n5 p hp
theorem St.raw {i : Nat} {v : V} (S : St W H0 ρ τ l σ H) (h : ρ[i]? = some (some (.raw v))) : σ[i]? = some (some v) := by
  obtain ⟨N, n3, n5, n4, k⟩ := S.ext
  obtain ⟨o, h1, h2⟩ := n4 i _ h
  have h2 : o = some v := h2
  rw [h2] at h1
  exact h1
end
/-! ### expressions -/
def EvP (W : Wd) (H0 : Hp) (te : TE) (ρ : List (Option Sl)) (P : PyData → Prop) : Prop :=
  ∀ τ l σ H, St W H0 ρ τ l σ H → ∀ Q : VK, (∀ v e H', St W H0 ρ ((v, e) :: τ) l σ H' → P e → Q v H') → te σ H Q
def EvA (W : Wd) (H0 : Hp) (ta : TA) (ρ : List (Option Sl)) (P : List PyData → Prop) : Prop :=
  ∀ τ l σ H, St W H0 ρ τ l σ H → ∀ Q : List V → Hp → Prop, (∀ vs es H', St W H0 ρ (vs.zip es ++ τ) l σ H' → vs.length = es.length → P es → Q vs H') → ta σ H Q
def EvT (W : Wd) (H0 : Hp) (tt : TT) (ρ : List (Option Sl)) (P : Bool → Prop) : Prop :=
  ∀ τ l σ H, St W H0 ρ τ l σ H → ∀ Q : Bool → Hp → Prop, (∀ b H', St W H0 ρ τ l σ H' → P b → Q b H') → tt σ H Q
/-- what an operation on values does, said of data -/
def Res (N : Addr → Prop) (H : Hp) (P : PyData → Prop) (k : VK → Prop) : Prop := ∀ Q : VK, (∀ v e H', Ex H H' → Rg N H' v e → P e → Q v H') → k Q
def OpD (r : R2) (e1 e2 : PyData) (P : PyData → Prop) : Prop := ∀ N H v1 v2, NOk N H → Rg N H v1 e1 → Rg N H v2 e2 → Res N H P (r v1 v2 H)
def CaD (r : List V → Hp → VK → Prop) (es : List PyData) (P : PyData → Prop) : Prop := ∀ N H vs, NOk N H → RgAll N H vs es → Res N H P (r vs H)
section
variable {W : Wd} {H0 : Hp} {ρ : List (Option Sl)} {te ta tb : TE} {tas : TA} {P P1 P2 : PyData → Prop}
theorem EvP.imp (h : EvP W H0 te ρ P1) (i : ∀ e, P1 e → P2 e) : EvP W H0 te ρ P2 := fun τ l σ H S Q k => h τ l σ H S Q fun v e H' S' p => k v e H' S' (i e p)
theorem ev_dat {i : Nat} {e : PyData} (h : ρ[i]? = some (some (.dat e))) : EvP W H0 (tVar i) ρ (· = e) := fun τ l σ H S Q k => by
  obtain ⟨v, h1, S'⟩ := S.dat h
  exact ⟨v, h1, k v e H S' rfl⟩
theorem ev_const {v : V} {e : PyData} (h : ∀ N H, Rg N H v e) : EvP W H0 (tC v) ρ (· = e) := fun τ l σ H S Q k => by
  obtain ⟨N, n3, n5, n4, q⟩ := S.ext
  refine k v e H (q H _ ex_refl fun p hp => ?_) rfl
  rcases List.mem_cons.mp hp with rfl | hp
  · exact h _ _
  · exact n5 p hp
theorem ev_int {i : Int} : EvP W H0 (tC (.int i)) ρ (· = .int i) := ev_const fun _ _ => .int i
theorem ev_str {x : Str} : EvP W H0 (tC (.str x)) ρ (· = .str x) := ev_const fun _ _ => .str x
theorem ev_bl {b : Bool} : EvP W H0 (tC (.bl b)) ρ (· = .bool b) := ev_const fun _ _ => .bl b
theorem ev_non : EvP W H0 (tC .non) ρ (· = .none) := ev_const fun _ _ => .non
theorem ev_op {r : R2} (ha : EvP W H0 ta ρ P1) (hb : EvP W H0 tb ρ P2) (hr : ∀ e1 e2, P1 e1 → P2 e2 → OpD r e1 e2 P) : EvP W H0 (tOp r ta tb) ρ P := fun τ l σ H S Q k =>
  ha τ l σ H S _ fun v1 e1 H1 S1 p1 => hb _ l σ H1 S1 _ fun v2 e2 H2 S2 p2 => by
    obtain ⟨N, n3, n5, n4, q⟩ := S2.ext
    refine hr e1 e2 p1 p2 N H2 v1 v2 n3 (n5 _ (List.mem_cons_of_mem _ List.mem_cons_self)) (n5 _ List.mem_cons_self) Q fun v e H' x rg p => k v e H' (q H' _ x fun p hp => ?_) p
    rcases List.mem_cons.mp hp with rfl | hp
    · exact rg
    · exact (n5 p (List.mem_cons_of_mem _ (List.mem_cons_of_mem _ hp))).ex x
theorem eva_nil : EvA W H0 tNil ρ (· = []) := fun τ l σ H S Q k => k [] [] H S rfl rfl
theorem eva_cons {PA PB : List PyData → Prop} (ha : EvP W H0 ta ρ P1) (hb : EvA W H0 tas ρ PA) (h : ∀ e es, P1 e → PA es → PB (e :: es)) : EvA W H0 (tCons ta tas) ρ PB := fun τ l σ H S Q k =>
  ha τ l σ H S _ fun v e H1 S1 p1 => hb _ l σ H1 S1 _ fun vs es H2 S2 le p2 => k (v :: vs) (e :: es) H2 (S2.mono fun p hp => by
    simp only [List.zip_cons_cons, List.cons_append, List.mem_cons, List.mem_append] at hp ⊢
    rcases hp with hp | hp | hp
    · exact .inr (.inl hp)
    · exact .inl hp
    · exact .inr (.inr hp)) (congrArg (· + 1) le) (h e es p1 p2)
theorem zip_all {N : Addr → Prop} {H : Hp} : ∀ {vs : List V} {es : List PyData}, vs.length = es.length → (∀ p ∈ vs.zip es, Rg N H p.1 p.2) → RgAll N H vs es
  | [], [], _, _ => .nil
  | v :: vs, e :: es, l, h => .cons (h (v, e) (by simp)) (zip_all (by simpa using l) fun p hp => h p (by simp [hp]))
/-- a call of a built-in on data -/
theorem ev_cb {r : List V → Hp → VK → Prop} {PA : List PyData → Prop} (ha : EvA W H0 tas ρ PA) (hr : ∀ es, PA es → CaD r es P) : EvP W H0 (tCB r tas) ρ P := fun τ l σ H S Q k =>
  ha τ l σ H S _ fun vs es H1 S1 le pa => by
    obtain ⟨N, n3, n5, n4, q⟩ := S1.ext
    refine hr es pa N H1 vs n3 (zip_all le fun p hp => n5 p (List.mem_append_left _ hp)) Q fun v e H' x rg p => k v e H' (q H' _ x fun p hp => ?_) p
    rcases List.mem_cons.mp hp with rfl | hp
    · exact rg
    · exact (n5 p (List.mem_append_right _ hp)).ex x
theorem ev_tup {PA : List PyData → Prop} (ha : EvA W H0 tas ρ PA) (hs : ∀ es, PA es → es.length ≤ 100000) : EvP W H0 (tTup tas) ρ (fun e => ∃ es, e = .tuple es ∧ PA es) := fun τ l σ H S Q k =>
  ha τ l σ H S _ fun vs es H1 S1 le pa => ⟨size_small (by rw [le]; exact hs es pa), fun p hp => by
    obtain ⟨N, n3, n5, n4, q⟩ := S1.ext
    refine k _ (.tuple es) _ (q _ _ (Ex.new hp) fun p' hp' => ?_) ⟨es, rfl, pa⟩
    rcases List.mem_cons.mp hp' with rfl | hp'
    · exact .tup upd_same (n3.new hp) ((zip_all le fun p hp => n5 p (List.mem_append_left _ hp)).ex (Ex.new hp))
    · exact (n5 _ (List.mem_append_right _ hp')).ex (Ex.new hp)⟩
theorem ev_lst {PA : List PyData → Prop} (ha : EvA W H0 tas ρ PA) (hs : ∀ es, PA es → es.length ≤ 100000) : EvP W H0 (tLst tas) ρ (fun e => ∃ es, e = .list es ∧ PA es) := fun τ l σ H S Q k =>
  ha τ l σ H S _ fun vs es H1 S1 le pa => ⟨size_small (by rw [le]; exact hs es pa), fun p hp => by
    obtain ⟨N, n3, n5, n4, q⟩ := S1.ext
    refine k _ (.list es) _ (q _ _ (Ex.new hp) fun p' hp' => ?_) ⟨es, rfl, pa⟩
    rcases List.mem_cons.mp hp' with rfl | hp'
    · exact .lst upd_same (n3.new hp) ((zip_all le fun p hp => n5 p (List.mem_append_left _ hp)).ex (Ex.new hp))
    · exact (n5 _ (List.mem_append_right _ hp')).ex (Ex.new hp)⟩
end
end DL
set_option Elab.async false
set_option linter.all false
set_option maxRecDepth 100000
/-! t[::-1] of a tuple. -/
namespace DL
open PySem PySem.Spec PyProof.Rows L2 HT
section
variable {prog : Program} {w : World} {A : Around} {E : Value → Shared → Prop} {s : Shared}
theorem rev_places (n : Nat) : Builtin.Slice.slicePlaces ((n : Int) - 1) (-1) (-1) = n := by
  unfold Builtin.Slice.slicePlaces
  rw [if_neg (by decide), show -(-1 : Int) = 1 from rfl, Int.ediv_one]
  split <;> omega
theorem filterMap_all {α β : Type} {f : α → Option β} {g : α → β} : ∀ l : List α, (∀ x ∈ l, f x = some (g x)) → l.filterMap f = l.map g
  | [], _ => rfl
  | x :: l, h => by
    rw [List.filterMap_cons, h x List.mem_cons_self, List.map_cons, filterMap_all l fun y hy => h y (List.mem_cons_of_mem _ hy)]
theorem rev_adjust (n : Nat) : Builtin.Slice.sliceAdjust none none (-1) (n : Int) = ((n : Int) - 1, -1) := by
  unfold Builtin.Slice.sliceAdjust
  simp
theorem rev_pick (xs : Array Value) : ((List.range xs.size).filterMap fun (k : Nat) => xs[(((xs.size : Int) - 1) + (k : Int) * (-1)).toNat]?).toArray = xs.toList.reverse.toArray := by
  congr 1
  apply List.ext_getElem?
  intro i
  have e : (List.range xs.size).filterMap (fun (k : Nat) => xs[(((xs.size : Int) - 1) + (k : Int) * (-1)).toNat]?) = (List.range xs.size).map fun k => xs.toList.reverse[k]! := by
    refine filterMap_all _ fun k hk => ?_
    have hk' : k < xs.size := List.mem_range.mp hk
    have h1 : (((xs.size : Int) - 1) + (k : Int) * (-1)).toNat = xs.size - 1 - k := by omega
    rw [h1]
    have h2 : k < xs.toList.reverse.length := by rw [List.length_reverse, Array.length_toList]; exact hk'
    show xs[xs.size - 1 - k]? = some xs.toList.reverse[k]!
    rw [getElem!_pos xs.toList.reverse k h2, List.getElem_reverse, Array.getElem?_eq_getElem (by omega)]
    simp
  rw [e, List.getElem?_map]
  by_cases hi : i < xs.size
  · rw [List.getElem?_range hi]
    have h2 : i < xs.toList.reverse.length := by rw [List.length_reverse, Array.length_toList]; exact hi
    show some xs.toList.reverse[i]! = xs.toList.reverse[i]?
    rw [getElem!_pos xs.toList.reverse i h2, List.getElem?_eq_getElem h2]
  · have h2 : ¬ i < xs.toList.reverse.length := by rw [List.length_reverse, Array.length_toList]; exact hi
    rw [List.getElem?_eq_none (by rw [List.length_range]; omega), List.getElem?_eq_none (by omega)]
    rfl
theorem rev_applied {c : Addr} {t : Tok} {n : Nat} {Q : Int × Int × Nat → Shared → Prop} (hc : s.heap.IsSliceOf c .none .none (.int (-1) t)) (h : Q ((n : Int) - 1, -1, n) s) :
    wpAny (model prog w) A (Builtin.Slice.sliceApplied (.ref c) (pure (n : Int))) Q E s := by
  obtain ⟨ob, hob, _, hdd⟩ := id hc
  unfold Builtin.Slice.sliceApplied Builtin.Slice.sliceFields
  refine wpAny_bind (wpAny_bind (wpAny_field hob hdd (x := .none) rfl (wpAny_bind (wpAny_field hob hdd (x := .none) rfl (wpAny_bind (wpAny_field hob hdd (x := .int (-1) t) rfl (wpAny_pure ?_)))))))
  refine wpAny_bind (slicePart_int ?_)
  show wpAny _ _ (if ((-1 : Int) == 0) = true then _ else _) _ _ s
  rw [if_neg (by decide)]
  refine wpAny_bind (slicePart_none (wpAny_bind (slicePart_none (wpAny_bind (wpAny_pure ?_)))))
  show wpAny _ _ (match Builtin.Slice.sliceAdjust none none (-1) (n : Int) with | (lo, hi) => pure (lo, (-1 : Int), Builtin.Slice.slicePlaces lo hi (-1))) _ _ s
  rw [rev_adjust n]
  show wpAny _ _ (pure ((n : Int) - 1, (-1 : Int), Builtin.Slice.slicePlaces ((n : Int) - 1) (-1) (-1))) _ _ s
  rw [rev_places]
  exact wpAny_pure h
theorem tuple_rev {b c : Addr} {xs : Array Value} {t : Tok} {Q : Value → Shared → Prop} (hb : IsTup s.heap b xs) (hc : s.heap.IsSliceOf c .none .none (.int (-1) t)) (hz : xs.size ≤ sizeLine)
    (h : Q (.ref s.heap.objs.size) { s with heap := s.heap.push { cls := .type "tuple", data := .seq xs.toList.reverse.toArray } }) : wpAny (model prog w) A (getItem (.ref b) (.ref c)) Q E s := by
  have hsz : sizeOk (.seq xs.toList.reverse.toArray) := by
    show xs.toList.reverse.toArray.size ≤ sizeLine
    rw [List.size_toArray, List.length_reverse, Array.length_toList]
    exact hz
  obtain ⟨ob, hob, hcs, hdd⟩ := id hc
  have hty : s.TypeIs (.ref c) "slice" := ⟨ob, hob, hcs⟩
  unfold getItem
  try with_reducible refine wpAny_holding ?_
  first | refine wpAny_bind (wpAny_pure ?_) | skip
  refine wpAny_bind (wpAny_sequenceKey hb.typeIs (by decide) (wpAny_bind (wpAny_callSpecial?_slot (name := Str.ofString "__getitem__") hb.typeIs PyProof.Rows.slot_tuple_getitem
    (wpAny_call_entry PyProof.Rows.slot_tuple_getitem hb.typeIs entry_tuple_getitem ?_ (args_tuple_getitem _ _)))))
  show wpAny _ _ (Builtin.Tuple.tupleItemsOf (.ref b) >>= _) _ _ s
  refine wpAny_bind (tupleItemsOf_ hb (wpAny_bind (wpAny_typeOf hty ?_)))
  rw [if_pos (by decide)]
  refine wpAny_bind (rev_applied hc ?_)
  have no : ¬ ((((xs.size : Int) - 1) == 0 && (-1 : Int) == 1 && xs.size == xs.size) = true) := by simp
  show wpAny _ _ (if (((xs.size : Int) - 1) == 0 && (-1 : Int) == 1 && xs.size == xs.size) = true then _ else _) _ _ s
  rw [if_neg no, rev_pick]
  first
    | exact wpAny_bind (m := Builtin.Tuple.tupleExact _) (wpAny_newObj_type (wpAny_pure ⟨_, rfl, wpAny_pure h⟩) hsz)
    | exact wpAny_bind (m := Builtin.Tuple.tupleExact _) (wpAny_newObj_type (wpAny_bind (wpAny_pure (wpAny_pure ⟨_, rfl, wpAny_pure h⟩))) hsz)
    | exact wpAny_bind (wpAny_bind (m := Builtin.Tuple.tupleExact _) (wpAny_newObj_type (wpAny_pure (wpAny_pure ⟨_, rfl, wpAny_pure h⟩)) hsz))
    | exact wpAny_bind (wpAny_bind (m := Builtin.Tuple.tupleExact _) (wpAny_newObj_type (wpAny_pure ⟨_, rfl, wpAny_pure h⟩) hsz))
end
def tRevT (K : PySem.W.Frag) (te : TE) : TE := fun σ H Q => te σ H fun x H1 => ∃ a xs, x = .ref a ∧ SqT K H1 a xs ∧ ∀ p, H1 p = none → Q (.ref p) (upd H1 p (.tup xs.reverse))
theorem pe_revT {X : Cx} {e : Expr} {te : TE} {k : Nat} {p1 p2 p3 pos : Pos} (he : PE X e te) : PE X (.Subscript e (.Slice none none (some (.UnaryOp .USub (.Constant (.int 1) k p1) p2)) p3) pos) (tRevT X.K te) := by
  refine ⟨fun pins s σ H Q J h => ?_⟩
  refine Subscript_ (thn (he.run pins s σ H _ J h) fun v s1 ⟨x, H1, J1, r1, q1⟩ => ?_)
  obtain ⟨a, xs, rfl, hx, q⟩ := q1
  cases r1
  have hm : PO X (some (.UnaryOp .USub (.Constant (.int 1) k p1) p2)) (tPart (tUn (rU fun i => .int (-i)) (tC (.int 1)))) := po_some (pe_un un_neg pe_int)
  refine wpAny_Slice (thn (po_none.run pins s1 σ H1 (fun o G => o = none ∧ G = H1) J1 ⟨rfl, rfl⟩) fun vl s2 ⟨l, H2, J2, pl, el, e2⟩ => ?_)
  subst el e2
  refine thn (po_none.run pins s2 σ H2 (fun o G => o = none ∧ G = H2) J2 ⟨rfl, rfl⟩) fun vu s3 ⟨u, H3, J3, pu, eu, e3⟩ => ?_
  subst eu e3
  refine thn (hm.run pins s3 σ H3 (fun o G => o = some (-1) ∧ G = H3) J3 ⟨1, rfl, -1, rfl, rfl, rfl⟩) fun vs s4 ⟨o, H4, J4, ps, eo, e4⟩ => ?_
  subst eo e4
  have J5 : Inv X pins σ H4 { s4 with heap := s4.heap.push { cls := .type "slice", data := .fields #[vl, vu, vs] } } := J4.kept (t' := s4.toks) fun b ob z => Heap.get?_push_of_some _ z
  obtain ⟨its, r, ht, hz⟩ := J5.tuple hx
  have hlen := r.length
  cases pl
  cases pu
  cases ps
  refine tail_any (ops := [.ref a, .ref s4.heap.objs.size]) ht.typeIs (PyProof.Rows.slot_tuple_getitem.lookup) ?_ (by with_unfolding_all rfl)
  refine tuple_rev ht (Heap.IsSliceOf.new _ _ _ _) (by rw [List.size_toArray, ← hlen]; exact hz) ?_
  refine ⟨.ref _, _, J5.laid (t' := s4.toks) (o := .tup xs.reverse) (fun b ob z => Heap.get?_push_of_some _ z) (Nat.le_refl _) ?_, rfl, q _ (J5.hok.fresh (Nat.le_refl _))⟩
  exact ⟨by rw [List.length_reverse]; exact hz, _, r.reverse, IsTup.new _ _⟩
end DL
set_option Elab.async false
set_option linter.all false
set_option maxRecDepth 100000
/-! The layer over data: operations, tests, calls. -/
namespace DL
open PySem PySem.Spec PyProof.Rows L2 Evl TB
section
variable {N : Addr → Prop} {H : Hp} {K : PySem.W.Frag}
/-! ### operations -/
theorem atI_all {zs : List V} {es : List PyData} {i : Int} {e : PyData} (r : RgAll N H zs es) (h : atI es i = some e) : ∃ z, atI zs i = some z ∧ Rg N H z e := by
  unfold atI at h ⊢
  rw [r.len]
  cases hj : ixN es.length i with
  | none => rw [hj] at h; cases h
  | some j =>
    rw [hj] at h
    exact r.get' h
theorem res_rfl {v : V} {e : PyData} {k : VK → Prop} (h : Rg N H v e) (hk : ∀ Q : VK, Q v H → k Q) : Res N H (· = e) k := fun Q q => hk Q (q v e H ex_refl h rfl)
theorem opd_I0 {g : Int → Int → V} {i j : Int} {e : PyData} (h : ∀ N H, Rg N H (g i j) e) : OpD (rI0 g) (.int i) (.int j) (· = e) := fun N H v1 v2 _ r1 r2 => by
  cases r1; cases r2
  exact res_rfl (h N H) fun Q q => ⟨i, j, rfl, rfl, q⟩
theorem opd_I {C : Int → Int → Prop} {g : Int → Int → V} {i j : Int} {e : PyData} (c : C i j) (h : ∀ N H, Rg N H (g i j) e) : OpD (rI C g) (.int i) (.int j) (· = e) := fun N H v1 v2 _ r1 r2 => by
  cases r1; cases r2
  exact res_rfl (h N H) fun Q q => ⟨i, j, rfl, rfl, c, q⟩
theorem opd_eqI {i j : Int} : OpD rEq (.int i) (.int j) (· = .bool (decide (i = j))) := fun N H v1 v2 _ r1 r2 => by
  cases r1; cases r2
  refine res_rfl (.bl _) fun Q q => ⟨rfl, ?_⟩
  have : decide (V.int i = V.int j) = decide (i = j) := by simp
  rw [this]; exact q
theorem opd_neI {i j : Int} : OpD rNe (.int i) (.int j) (· = .bool (!decide (i = j))) := fun N H v1 v2 _ r1 r2 => by
  cases r1; cases r2
  refine res_rfl (.bl _) fun Q q => ⟨rfl, ?_⟩
  have : decide (V.int i = V.int j) = decide (i = j) := by simp
  rw [this]; exact q
theorem opd_neS {x y : Str} : OpD rNe (.str x) (.str y) (· = .bool (!decide (x = y))) := fun N H v1 v2 _ r1 r2 => by
  cases r1; cases r2
  refine res_rfl (.bl _) fun Q q => ⟨rfl, ?_⟩
  have : decide (V.str x = V.str y) = decide (x = y) := by simp
  rw [this]; exact q
theorem opd_ixT {ds : List PyData} {i : Int} {e : PyData} (h : atI ds i = some e) : OpD (rIxT K) (.tuple ds) (.int i) (· = e) := fun N H v1 v2 _ r1 r2 => by
  cases r1 with
  | tup ha _ hr =>
    cases r2
    obtain ⟨z, h1, h2⟩ := atI_all hr h
    exact res_rfl h2 fun Q q => ⟨_, _, i, z, rfl, rfl, .inl (.inl ha), h1, q⟩
theorem opd_ixL {ds : List PyData} {i : Int} {e : PyData} (h : atI ds i = some e) : OpD (rIxL K) (.list ds) (.int i) (· = e) := fun N H v1 v2 _ r1 r2 => by
  cases r1 with
  | lst ha _ hr =>
    cases r2
    obtain ⟨z, h1, h2⟩ := atI_all hr h
    exact res_rfl h2 fun Q q => ⟨_, _, i, z, rfl, rfl, .inl (.inl ha), h1, q⟩
theorem opd_catT {ds es : List PyData} (hl : ds.length + es.length ≤ 100000) : OpD (rCatA K) (.tuple ds) (.tuple es) (· = .tuple (ds ++ es)) := fun N H v1 v2 ok r1 r2 Q q => by
  cases r1 with
  | tup ha na hr =>
    cases r2 with
    | tup hb nb hs =>
      rename_i a xs b ys
      refine ⟨a, b, xs, ys, rfl, rfl, .inl (.inl ha), .inl (.inl hb), size_small (by rw [hr.len, hs.len]; exact hl), fun h => ?_, fun _ h => ?_, fun _ _ p hp => ?_⟩
      · subst h
        cases hr
        exact q _ _ _ ex_refl (.tup hb nb hs) rfl
      · subst h
        cases hs
        exact q _ _ _ ex_refl (.tup ha na hr) (by rw [List.append_nil])
      · exact q _ _ _ (Ex.new hp) (.tup upd_same (ok.new hp) ((hr.app hs).ex (Ex.new hp))) rfl
theorem opd_catL {ds es : List PyData} (hl : ds.length + es.length ≤ 100000) : OpD rCat (.list ds) (.list es) (· = .list (ds ++ es)) := fun N H v1 v2 ok r1 r2 Q q => by
  cases r1 with
  | lst ha na hr =>
    cases r2 with
    | lst hb nb hs =>
      exact ⟨_, _, _, _, rfl, rfl, ha, hb, size_small (by rw [hr.len, hs.len]; exact hl), fun p hp => q _ _ _ (Ex.new hp) (.lst upd_same (ok.new hp) ((hr.app hs).ex (Ex.new hp))) rfl⟩
/-! data without dicts, for == and != -/
mutual
theorem Rg.dp : ∀ (e : PyData) (v : V), Rg N H v e → e.hasDict = false → Dp K H v e
  | .none, _, q, _ => by cases q; exact .non
  | .bool c, _, q, _ => by cases q; exact .bl c
  | .int j, _, q, _ => by cases q; exact .int j
  | .str y, _, q, _ => by cases q; exact .str y
  | .list es, _, q, h => by
    rw [PyData.hasDict] at h
    cases q with
    | lst ha _ r => exact .lst (.inl (.inl ha)) (RgAll.dp es _ r h)
  | .tuple es, _, q, h => by
    rw [PyData.hasDict] at h
    cases q with
    | tup ha _ r => exact .tup (.inl (.inl ha)) (RgAll.dp es _ r h)
  | .dict es, _, q, h => by rw [PyData.hasDict] at h; cases h
theorem RgAll.dp : ∀ (es : List PyData) (vs : List V), RgAll N H vs es → PyData.hasDictAll es = false → DpAll K H vs es
  | [], _, q, _ => by cases q; exact .nil
  | e :: es, _, q, h => by
    rw [PyData.hasDictAll, Bool.or_eq_false_iff] at h
    cases q with
    | cons q1 q2 => exact .cons (Rg.dp e _ q1 h.1) (RgAll.dp es _ q2 h.2)
end
theorem noDict_of {d : PyData} (h : SeqAt.shaped d = true) : d.hasDict = false := PyData.hasDict_of_canLay d (Bool.and_eq_true_iff.mp h).1
theorem opd_neD {d e : PyData} (h1 : SeqAt.shaped d = true) (h2 : SeqAt.shaped e = true) : OpD (rNeD K) d e (· = .bool (!PyData.eqv d e)) := fun N H v1 v2 _ r1 r2 =>
  res_rfl (.bl _) fun Q q => ⟨d, e, r1.dp _ _ (noDict_of h1), r2.dp _ _ (noDict_of h2), h1, h2, q⟩
theorem opd_eqD {d e : PyData} (h1 : SeqAt.shaped d = true) (h2 : SeqAt.shaped e = true) : OpD (rEqD K) d e (· = .bool (PyData.eqv d e)) := fun N H v1 v2 _ r1 r2 =>
  res_rfl (.bl _) fun Q q => ⟨d, e, r1.dp _ _ (noDict_of h1), r2.dp _ _ (noDict_of h2), h1, h2, q⟩
theorem opd_notB {a b : Bool} : OpD rNotB (.bool a) (.bool b) (· = .bool (!decide (a = b))) := fun N H v1 v2 _ r1 r2 => by
  cases r1; cases r2
  exact res_rfl (.bl _) fun Q q => ⟨a, b, rfl, rfl, q⟩
/-! ### built-in calls -/
theorem cad_len {ds : List PyData} : CaD (fun xs H Q => ∃ p ys, xs = [.ref p] ∧ (SqL K H p ys ∨ SqT K H p ys) ∧ Q (.int ys.length) H) [.tuple ds] (· = .int ds.length) := fun N H vs _ r => by
  cases r with
  | cons r1 r2 =>
    cases r2
    cases r1 with
    | tup ha _ hr =>
      refine res_rfl (.int _) fun Q q => ⟨_, _, rfl, .inr (.inl (.inl ha)), ?_⟩
      rw [hr.len]; exact q
theorem cad_lenL {ds : List PyData} : CaD (fun xs H Q => ∃ p ys, xs = [.ref p] ∧ (SqL K H p ys ∨ SqT K H p ys) ∧ Q (.int ys.length) H) [.list ds] (· = .int ds.length) := fun N H vs _ r => by
  cases r with
  | cons r1 r2 =>
    cases r2
    cases r1 with
    | lst ha _ hr =>
      refine res_rfl (.int _) fun Q q => ⟨_, _, rfl, .inl (.inl (.inl ha)), ?_⟩
      rw [hr.len]; exact q
theorem cad_list {ds : List PyData} : CaD (fun xs H Q => ∃ p ys, xs = [.ref p] ∧ (SqL K H p ys ∨ SqT K H p ys) ∧ ∀ l, H l = none → Q (.ref l) (upd H l (.lst ys))) [.tuple ds] (· = .list ds) := fun N H vs ok r Q q => by
  cases r with
  | cons r1 r2 =>
    cases r2
    cases r1 with
    | tup ha _ hr => exact ⟨_, _, rfl, .inr (.inl (.inl ha)), fun p hp => q _ _ _ (Ex.new hp) (.lst upd_same (ok.new hp) (hr.ex (Ex.new hp))) rfl⟩
theorem cad_listL {ds : List PyData} : CaD (fun xs H Q => ∃ p ys, xs = [.ref p] ∧ (SqL K H p ys ∨ SqT K H p ys) ∧ ∀ l, H l = none → Q (.ref l) (upd H l (.lst ys))) [.list ds] (· = .list ds) := fun N H vs ok r Q q => by
  cases r with
  | cons r1 r2 =>
    cases r2
    cases r1 with
    | lst ha _ hr => exact ⟨_, _, rfl, .inl (.inl (.inl ha)), fun p hp => q _ _ _ (Ex.new hp) (.lst upd_same (ok.new hp) (hr.ex (Ex.new hp))) rfl⟩
theorem cad_tuple {ds : List PyData} : CaD (fun xs H Q => ∃ p ys, xs = [.ref p] ∧ ((SqL K H p ys ∧ ∀ l, H l = none → Q (.ref l) (upd H l (.tup ys))) ∨ (SqT K H p ys ∧ Q (.ref p) H))) [.list ds] (· = .tuple ds) := fun N H vs ok r Q q => by
  cases r with
  | cons r1 r2 =>
    cases r2
    cases r1 with
    | lst ha _ hr => exact ⟨_, _, rfl, .inl ⟨.inl (.inl ha), fun p hp => q _ _ _ (Ex.new hp) (.tup upd_same (ok.new hp) (hr.ex (Ex.new hp))) rfl⟩⟩
theorem cad_strI {i : Int} (h : i.natAbs.log2 < 1920) : CaD (fun xs H Q => ∃ i, xs = [.int i] ∧ i.natAbs.log2 < 1920 ∧ Q (.str (toString i)) H) [.int i] (· = .str (numS i)) := fun N H vs _ r => by
  cases r with
  | cons r1 r2 =>
    cases r2; cases r1
    exact res_rfl (.str _) fun Q q => ⟨i, rfl, h, q⟩
theorem cad_boolI {i : Int} : CaD (fun xs H Q => (∃ i, xs = [.int i] ∧ Q (.bl (i != 0)) H) ∨ ∃ k, xs = [.bl k] ∧ Q (.bl k) H) [.int i] (· = .bool (i != 0)) := fun N H vs _ r => by
  cases r with
  | cons r1 r2 =>
    cases r2; cases r1
    exact res_rfl (.bl _) fun Q q => .inl ⟨i, rfl, q⟩
theorem cad_repr {d : PyData} (h1 : okD d = true) (h2 : d.showable = true) (h3 : d.depth < 60) (h4 : d.shown.length ≤ sizeLine) : CaD rReprD [d] (· = .str d.shown) := fun N H vs _ r => by
  cases r with
  | cons r1 r2 =>
    cases r2
    exact res_rfl (.str _) fun Q q => ⟨N, _, d, rfl, r1, h1, h2, h3, h4, q⟩
/-- the name of a value's class -/
def tyN : PyData → String
  | .none => "NoneType" | .bool _ => "bool" | .int _ => "int" | .str _ => "str" | .list _ => "list" | .tuple _ => "tuple" | .dict _ => "dict"
theorem tyX_of {v : V} {e : PyData} (r : Rg N H v e) : TyX K H v (.type (tyN e)) := by
  cases r with
  | non => exact .base .non
  | bl b => exact .base (.bl b)
  | int i => exact .base (.int i)
  | str x => exact .base (.str x)
  | lst h _ _ => exact .base (.lst h)
  | tup h _ _ => exact .base (.tup h)
  | dic h _ => exact .base (.dK h)
def isB (T n : String) : Bool := n == T || (T == "int" && n == "bool")
def isA (T : String) (e : PyData) : Bool := isB T (tyN e)
def tyNames : List String := ["NoneType", "bool", "int", "str", "list", "tuple", "dict"]
theorem tyN_mem (e : PyData) : tyN e ∈ tyNames := by cases e <;> simp [tyN, tyNames]
theorem kit_of {T : String} (h : ∀ n ∈ tyNames, kitB n T = some (isB T n)) (e : PyData) : PySem.W.kitOne K (.type (tyN e)) (.type T) = some (isA T e) := kit_ty (h _ (tyN_mem e))
theorem kit_tuple (e : PyData) : PySem.W.kitOne K (.type (tyN e)) (.type "tuple") = some (isA "tuple" e) := kit_of (by decide +kernel) e
theorem kit_int (e : PyData) : PySem.W.kitOne K (.type (tyN e)) (.type "int") = some (isA "int" e) := kit_of (by decide +kernel) e
theorem kit_bool (e : PyData) : PySem.W.kitOne K (.type (tyN e)) (.type "bool") = some (isA "bool" e) := kit_of (by decide +kernel) e
theorem kit_str (e : PyData) : PySem.W.kitOne K (.type (tyN e)) (.type "str") = some (isA "str" e) := kit_of (by decide +kernel) e
end
section
variable {W : Wd} {H0 : Hp} {ρ : List (Option Sl)} {te ta tb tc : TE} {tas : TA} {P P1 P2 : PyData → Prop} {K : PySem.W.Frag} {tt tu : TT}
theorem ev_isi {T : String} (ha : EvP W H0 te ρ P) (hk : ∀ e, PySem.W.kitOne K (.type (tyN e)) (.type T) = some (isA T e)) : EvP W H0 (tCB (rIsi K) (tCons te (tCons (tC (.ty T)) tNil))) ρ (fun e => ∃ d, P d ∧ e = .bool (isA T d)) := fun τ l σ H S Q k =>
  ha τ l σ H S _ fun v d H1 S1 p => by
    obtain ⟨N, n3, n5, n4, q⟩ := S1.ext
    refine ⟨v, .ty T, .type (tyN d), .type T, isA T d, rfl, .ty T, tyX_of (n5 _ List.mem_cons_self), hk d, k _ (.bool (isA T d)) H1 (q _ _ ex_refl fun p hp => ?_) ⟨d, p, rfl⟩⟩
    rcases List.mem_cons.mp hp with rfl | hp
    · exact .bl _
    · exact n5 _ (List.mem_cons_of_mem _ hp)
/-! ### one operand known -/
theorem ev_op' {r : R2} {d1 d2 e : PyData} (ha : EvP W H0 ta ρ (· = d1)) (hb : EvP W H0 tb ρ (· = d2)) (hr : OpD r d1 d2 (· = e)) : EvP W H0 (tOp r ta tb) ρ (· = e) :=
  ev_op ha hb fun e1 e2 h1 h2 => by rw [h1, h2]; exact hr
theorem eva_one {d : PyData} (ha : EvP W H0 te ρ (· = d)) : EvA W H0 (tCons te tNil) ρ (· = [d]) := eva_cons ha eva_nil fun e es h1 h2 => by rw [h1, h2]
theorem eva_more {d : PyData} {ds : List PyData} (ha : EvP W H0 te ρ (· = d)) (hb : EvA W H0 tas ρ (· = ds)) : EvA W H0 (tCons te tas) ρ (· = d :: ds) := eva_cons ha hb fun e es h1 h2 => by rw [h1, h2]
theorem ev_cb' {r : List V → Hp → VK → Prop} {ds : List PyData} {e : PyData} (ha : EvA W H0 tas ρ (· = ds)) (hr : CaD r ds (· = e)) : EvP W H0 (tCB r tas) ρ (· = e) := ev_cb ha fun es h => by rw [h]; exact hr
theorem ev_tup' {ds : List PyData} (ha : EvA W H0 tas ρ (· = ds)) (hs : ds.length ≤ 100000) : EvP W H0 (tTup tas) ρ (· = .tuple ds) := (ev_tup ha fun es h => by rw [h]; exact hs).imp fun e ⟨es, h1, h2⟩ => by rw [h1, h2]
theorem ev_lst' {ds : List PyData} (ha : EvA W H0 tas ρ (· = ds)) (hs : ds.length ≤ 100000) : EvP W H0 (tLst tas) ρ (· = .list ds) := (ev_lst ha fun es h => by rw [h]; exact hs).imp fun e ⟨es, h1, h2⟩ => by rw [h1, h2]
theorem ev_isi' {T : String} {d : PyData} (ha : EvP W H0 te ρ (· = d)) (hk : ∀ e, PySem.W.kitOne K (.type (tyN e)) (.type T) = some (isA T e)) : EvP W H0 (tCB (rIsi K) (tCons te (tCons (tC (.ty T)) tNil))) ρ (· = .bool (isA T d)) :=
  (ev_isi ha hk).imp fun e ⟨x, h1, h2⟩ => by rw [h2, h1]
theorem ev_and {a : Bool} (ha : EvP W H0 ta ρ (· = .bool a)) (hb : a = true → EvP W H0 tb ρ P) (h0 : a = false → P (.bool false)) : EvP W H0 (tAndV ta tb) ρ P := fun τ l σ H S Q k =>
  ha τ l σ H S _ fun v e H1 S1 p => by
    subst p
    obtain ⟨N, n3, n5, n4, q⟩ := S1.ext
    have hv : v = .bl a := by
      have := n5 _ List.mem_cons_self
      cases this; rfl
    subst hv
    refine ⟨a, rfl, ?_⟩
    cases a with
    | true => exact (if_pos rfl).mpr (hb rfl τ l σ H1 S1.pop Q k)
    | false => exact (if_neg Bool.false_ne_true).mpr (k _ (.bool false) H1 S1 (h0 rfl))
theorem ev_not {a : Bool} (ha : EvP W H0 ta ρ (· = .bool a)) : EvP W H0 (tNotV ta) ρ (· = .bool (!a)) := fun τ l σ H S Q k =>
  ha τ l σ H S _ fun v e H1 S1 p => by
    subst p
    obtain ⟨N, n3, n5, n4, q⟩ := S1.ext
    have hv : v = .bl a := by
      have := n5 _ List.mem_cons_self
      cases this; rfl
    subst hv
    refine ⟨a, rfl, k _ (.bool !a) H1 (q _ _ ex_refl fun p hp => ?_) rfl⟩
    rcases List.mem_cons.mp hp with rfl | hp
    · exact .bl _
    · exact n5 _ (List.mem_cons_of_mem _ hp)
theorem et_of {a : Bool} (ha : EvP W H0 te ρ (· = .bool a)) : EvT W H0 (tTest te) ρ (· = a) := fun τ l σ H S Q k =>
  ha τ l σ H S _ fun v e H1 S1 p => by
    subst p
    obtain ⟨N, n3, n5, n4, q⟩ := S1.ext
    have hv : v = .bl a := by
      have := n5 _ List.mem_cons_self
      cases this; rfl
    exact ⟨a, hv, k a H1 S1.pop rfl⟩
theorem et_b {a : Bool} (ha : EvP W H0 te ρ (· = .bool a)) : EvT W H0 (tB te) ρ (· = a) := et_of ha
theorem et_not {a : Bool} (h : EvT W H0 tt ρ (· = a)) : EvT W H0 (tNot tt) ρ (· = !a) := fun τ l σ H S Q k => h τ l σ H S _ fun b H1 S1 p => k _ H1 S1 (by rw [p])
theorem et_or {a b : Bool} (h1 : EvT W H0 tt ρ (· = a)) (h2 : a = false → EvT W H0 tu ρ (· = b)) : EvT W H0 (tOr tt tu) ρ (· = (a || b)) := fun τ l σ H S Q k => h1 τ l σ H S _ fun c H1 S1 p => by
  subst p
  cases c with
  | true => exact (if_pos rfl).mpr (k true H1 S1 rfl)
  | false => exact (if_neg Bool.false_ne_true).mpr (h2 rfl τ l σ H1 S1 Q fun c' H2 S2 p => k c' H2 S2 (by rw [p]; rfl))
theorem et_and {a b : Bool} (h1 : EvT W H0 tt ρ (· = a)) (h2 : a = true → EvT W H0 tu ρ (· = b)) : EvT W H0 (tAnd tt tu) ρ (· = (a && b)) := fun τ l σ H S Q k => h1 τ l σ H S _ fun c H1 S1 p => by
  subst p
  cases c with
  | true => exact (if_pos rfl).mpr (h2 rfl τ l σ H1 S1 Q fun c' H2 S2 p => k c' H2 S2 (by rw [p]; rfl))
  | false => exact (if_neg Bool.false_ne_true).mpr (k false H1 S1 rfl)
/-- a < b < c of ints -/
theorem ev_chain {g g' : Int → Int → Bool} {i j m : Int} (ha : EvP W H0 ta ρ (· = .int i)) (hb : EvP W H0 tb ρ (· = .int j)) (hc : EvP W H0 tc ρ (· = .int m)) :
    EvP W H0 (tChain (rI0 fun x y => .bl (g x y)) (rI0 fun x y => .bl (g' x y)) ta tb tc) ρ (· = .bool (g i j && g' j m)) := fun τ l σ H S Q k =>
  ha τ l σ H S _ fun v1 e1 H1 S1 p1 => hb _ l σ H1 S1 _ fun v2 e2 H2 S2 p2 => by
    subst p1 p2
    obtain ⟨N, n3, n5, n4, q⟩ := S2.ext
    have h2 := n5 _ List.mem_cons_self
    have h1 := n5 (v1, .int i) (List.mem_cons_of_mem _ List.mem_cons_self)
    cases h1; cases h2
    refine ⟨i, j, rfl, rfl, g i j, rfl, ?_⟩
    cases hg : g i j with
    | true =>
      refine (if_pos rfl).mpr (hc _ l σ H2 S2 _ fun v3 e3 H3 S3 p3 => ?_)
      subst p3
      obtain ⟨N3, m3, m5, m4, q3⟩ := S3.ext
      have h3 := m5 _ List.mem_cons_self
      cases h3
      refine ⟨j, m, rfl, rfl, k _ (.bool (g' j m)) H3 (q3 _ _ ex_refl fun p hp => ?_) (by simp [hg])⟩
      rcases List.mem_cons.mp hp with rfl | hp
      · exact .bl _
      · exact m5 p (List.mem_cons_of_mem _ (List.mem_cons_of_mem _ (List.mem_cons_of_mem _ hp)))
    | false =>
      refine (if_neg Bool.false_ne_true).mpr (k _ (.bool false) H2 (q _ _ ex_refl fun p hp => ?_) (by simp [hg]))
      rcases List.mem_cons.mp hp with rfl | hp
      · exact .bl _
      · exact n5 p (List.mem_cons_of_mem _ (List.mem_cons_of_mem _ hp))
theorem ev_if {a : Bool} (h : EvT W H0 tt ρ (· = a)) (h1 : a = true → EvP W H0 ta ρ P) (h2 : a = false → EvP W H0 tb ρ P) : EvP W H0 (tIf tt ta tb) ρ P := fun τ l σ H S Q k => h τ l σ H S _ fun c H1 S1 p => by
  subst p
  cases c with
  | true => exact (if_pos rfl).mpr (h1 rfl τ l σ H1 S1 Q k)
  | false => exact (if_neg Bool.false_ne_true).mpr (h2 rfl τ l σ H1 S1 Q k)
/-! ### slices -/
def EvO (W : Wd) (H0 : Hp) (to : TO) (ρ : List (Option Sl)) (o : Option Int) : Prop := ∀ τ l σ H, St W H0 ρ τ l σ H → ∀ Q : Option Int → Hp → Prop, (∀ H', St W H0 ρ τ l σ H' → Q o H') → to σ H Q
theorem eo_none : EvO W H0 tNoPart ρ none := fun τ l σ H S Q k => k H S
theorem eo_some {i : Int} (h : EvP W H0 te ρ (· = .int i)) : EvO W H0 (tPart te) ρ (some i) := fun τ l σ H S Q k => h τ l σ H S _ fun v e H1 S1 p => by
  subst p
  obtain ⟨N, n3, n5, n4, q⟩ := S1.ext
  have := n5 _ List.mem_cons_self
  cases this
  exact ⟨i, rfl, k H1 S1.pop⟩
def cutD {α : Type} (ds : List α) (lo hi : Option Int) : List α := (ds.drop (HT.sIx ds.length 0 lo)).take (HT.sIx ds.length ds.length hi - HT.sIx ds.length 0 lo)
theorem ev_slT {tl th : TO} {lo hi : Option Int} {ds : List PyData} (ha : EvP W H0 te ρ (· = .tuple ds)) (hl : EvO W H0 tl ρ lo) (hh : EvO W H0 th ρ hi) : EvP W H0 (tSl (rSlA K) te tl th) ρ (· = .tuple (cutD ds lo hi)) := fun τ l σ H S Q k =>
  ha τ l σ H S _ fun v e H1 S1 p => hl _ l σ H1 S1 _ fun H2 S2 => hh _ l σ H2 S2 _ fun H3 S3 => by
    subst p
    obtain ⟨N, n3, n5, n4, q⟩ := S3.ext
    have hv := n5 _ List.mem_cons_self
    have rest : ∀ p ∈ τ, Rg N H3 p.1 p.2 := fun p hp => n5 p (List.mem_cons_of_mem _ hp)
    cases hv with
    | tup hA hn hr =>
      rename_i a xs
      have ec : RgAll N H3 (cutV xs lo hi) (cutD ds lo hi) := by
        unfold cutV cutD
        rw [hr.len]
        exact (hr.drop _).take _
      refine ⟨a, xs, rfl, .inl (.inl hA), fun hw => ?_, fun _ p hp => ?_⟩
      · have e : cutD ds lo hi = ds := by
          unfold cutD
          rw [hr.len] at hw
          rw [hw.1, hw.2, List.drop_zero, Nat.sub_zero, List.take_length]
        refine k _ (.tuple ds) H3 (q _ _ ex_refl fun p hp => ?_) (by rw [e])
        rcases List.mem_cons.mp hp with rfl | hp
        · exact .tup hA hn hr
        · exact rest p hp
      · refine k _ (.tuple (cutD ds lo hi)) _ (q _ _ (Ex.new hp) fun p' hp' => ?_) rfl
        rcases List.mem_cons.mp hp' with rfl | hp'
        · exact .tup upd_same (n3.new hp) (ec.ex (Ex.new hp))
        · exact (rest p' hp').ex (Ex.new hp)
theorem ev_revT {ds : List PyData} (ha : EvP W H0 te ρ (· = .tuple ds)) : EvP W H0 (tRevT K te) ρ (· = .tuple ds.reverse) := fun τ l σ H S Q k =>
  ha τ l σ H S _ fun v e H3 S3 p => by
    subst p
    obtain ⟨N, n3, n5, n4, q⟩ := S3.ext
    have hv := n5 _ List.mem_cons_self
    cases hv with
    | tup hA hn hr =>
      refine ⟨_, _, rfl, .inl (.inl hA), fun p hp => k _ (.tuple ds.reverse) _ (q _ _ (Ex.new hp) fun p' hp' => ?_) rfl⟩
      rcases List.mem_cons.mp hp' with rfl | hp'
      · exact .tup upd_same (n3.new hp) (hr.rev.ex (Ex.new hp))
      · exact (n5 p' (List.mem_cons_of_mem _ hp')).ex (Ex.new hp)
/-! ### calls of defs -/
/-- a def upon data that changes nothing: where A holds of its arguments, its value is one of F -/
def SpF (A : List PyData → Prop) (F : List PyData → PyData → Prop) : Sp := fun vs H Q _ => ∃ N es, NOk N H ∧ RgAll N H vs es ∧ A es ∧ ∀ v e H', Ex H H' → Rg N H' v e → F es e → Q v H'
theorem ev_callF {A : List PyData → Prop} {F : List PyData → PyData → Prop} {PA : List PyData → Prop} (ha : EvA W H0 tas ρ PA) (hA : ∀ es, PA es → A es) : EvP W H0 (tCall (SpF A F) [] E0 tas) ρ (fun e => ∃ es, PA es ∧ F es e) := fun τ l σ H S Q k =>
  ha τ l σ H S _ fun vs es H1 S1 le pa => by
    obtain ⟨N, n3, n5, n4, q⟩ := S1.ext
    refine ⟨N, es, n3, ?_, hA es pa, fun v e H' x r f => k v e H' (q H' _ x fun p hp => ?_) ⟨es, pa, f⟩⟩
    · rw [List.append_nil]
      exact zip_all le fun p hp => n5 p (List.mem_append_left _ hp)
    · rcases List.mem_cons.mp hp with rfl | hp
      · exact r
      · exact (n5 p (List.mem_append_right _ hp)).ex x
/-- what stands while such a def runs -/
def WF (N : Addr → Prop) (H0 : Hp) : Wd where
  N := N
  I := fun H => NOk N H0 ∧ ∀ a, N a → H a = H0 a
  ok := fun H h a n => by rw [h.2 a n]; exact h.1 a n
  stab := fun H H' h x => ⟨h.1, fun a n => by rw [x a n]; exact h.2 a n⟩
def slotsOf (es : List PyData) (k : Nat) : List (Option Sl) := es.map (fun e => some (.dat e)) ++ List.replicate k none
theorem slots_start {N M : Addr → Prop} {H : Hp} {k : Nat} : ∀ {vs : List V} {es : List PyData}, RgAll N H vs es → Slots N M H (slotsOf es k) (vs.map some ++ List.replicate k none)
  | _, _, .nil => ⟨by simp [slotsOf], fun i s h => by
      have h' : (List.replicate k (none : Option Sl))[i]? = some (some s) := h
      rw [List.getElem?_replicate] at h'
      split at h' <;> cases h'⟩
  | v :: vs, e :: es, .cons r t => by
    obtain ⟨h1, h2⟩ := slots_start (M := M) (k := k) t
    refine ⟨by simpa [slotsOf] using h1, fun i s h => ?_⟩
    cases i with
    | zero =>
      have h' : some (some (Sl.dat e)) = some (some s) := h
      cases h'
      exact ⟨some v, rfl, v, rfl, r⟩
    | succ i => exact h2 i s h
theorem St.startF {N : Addr → Prop} {H : Hp} {vs : List V} {es : List PyData} {k : Nat} (ok : NOk N H) (r : RgAll N H vs es) : St (WF N H) H (slotsOf es k) [] [] (vs.map some ++ List.replicate k none) H :=
  ⟨⟨ok, fun _ _ => rfl⟩, fun _ _ e _ => e, N, fun _ h => h, fun _ h n => absurd h n, ok, slots_start r, (fun _ h => nomatch h), List.nodup_nil, fun _ h => nomatch h⟩
theorem St.endF {N : Addr → Prop} {H H' : Hp} {σ : L2.St} {τ : List (V × PyData)} {v : V} {e : PyData} {l : List (Addr × List PyData)} (S : St (WF N H) H ρ ((v, e) :: τ) l σ H') : Ex H H' ∧ Rg N H' v e := by
  obtain ⟨M, n1, n2, n3, n4, n5, n6⟩ := S.ex
  refine ⟨fun a o h => ?_, (n5 _ List.mem_cons_self).sub n1⟩
  by_cases hn : N a
  · rw [S.inv.2 a hn]; exact h
  · exact S.off a o h hn
end
end DL
set_option Elab.async false
set_option linter.all false
set_option maxRecDepth 100000
/-! The layer over data: local lists, comprehensions, loops, defs that draw. -/
namespace DL
open PySem PySem.Spec PyProof.Rows L2 Evl TB
section
variable {W : Wd} {H0 H H' : Hp} {ρ : List (Option Sl)} {τ τ' : List (V × PyData)} {l : List (Addr × List PyData)} {σ : L2.St}
theorem Rg.fresh {N : Addr → Prop} {H : Hp} {p : Addr} {v : V} {e : PyData} (hp : H p = none) (r : Rg N H v e) : Rg (fun a => N a ∨ a = p) H v e :=
  Rg.to (fun a o h n => ⟨h, fun q => q.elim n fun z => by rw [z, hp] at h; cases h⟩) e v r
theorem RgAll.fresh {N : Addr → Prop} {H : Hp} {p : Addr} {vs : List V} {es : List PyData} (hp : H p = none) (r : RgAll N H vs es) : RgAll (fun a => N a ∨ a = p) H vs es :=
  RgAll.to (fun a o h n => ⟨h, fun q => q.elim n fun z => by rw [z, hp] at h; cases h⟩) es vs r
/-- a new list of one's own -/
theorem St.newL {p : Addr} (S : St W H0 ρ τ l σ H) (hp : H p = none) : St W H0 ρ τ ((p, []) :: l) σ (upd H p (.lst [])) := by
  obtain ⟨N, n1, n2, n3, n4, n5, n6⟩ := S.ex
  have x : Ex H (upd H p (.lst [])) := Ex.new hp
  have hNp : ¬ N p := n3.new hp
  refine ⟨W.stab H _ S.inv fun a na => ?_, fun a o e n => x _ _ (S.off a o e n), fun a => N a ∨ a = p, fun a h => .inl (n1 a h), fun a h n => ?_, fun a h => ?_, ⟨n4.1, fun i s h => ?_⟩, fun q hq => ((n5 q hq).fresh hp).ex x, ?_, fun q hq => ?_⟩
  · rw [upd_ne (fun z => by rw [z] at na; exact hNp (n1 p na))]
  · rcases h with h | h
    · exact n2 a h n
    · subst h
      cases e : H0 a with
      | none => rfl
      | some o => rw [S.off a o e n] at hp; cases hp
  · rcases h with h | h
    · exact n3.ex x a h
    · rw [h, upd_same]; simp
  · obtain ⟨o, h1, h2⟩ := n4.2 i s h
    refine ⟨o, h1, ?_⟩
    cases s with
    | dat e => obtain ⟨v, q1, q2⟩ := h2; exact ⟨v, q1, (q2.fresh hp).ex x⟩
    | raw v => exact h2
  · rw [List.map_cons, List.nodup_cons]
    refine ⟨fun hm => ?_, n6.1⟩
    obtain ⟨q, hq, e⟩ := List.mem_map.mp hm
    have := (n6.2 q hq).1
    rw [e] at this
    exact hNp this
  · rcases List.mem_cons.mp hq with rfl | hq
    · exact ⟨.inr rfl, fun q => hNp (n1 p q), [], upd_same, .nil⟩
    · obtain ⟨a1, a2, xs, a3, a4⟩ := n6.2 q hq
      exact ⟨.inl a1, a2, xs, x _ _ a3, (a4.fresh hp).ex x⟩
theorem Rg.upd {N : Addr → Prop} {H : Hp} {p : Addr} {o : HO} (hp : N p) {v : V} {e : PyData} (r : Rg N H v e) : Rg N (upd H p o) v e :=
  Rg.to (fun a o' h n => ⟨by rw [upd_ne (fun z => by rw [z] at n; exact n hp)]; exact h, n⟩) e v r
theorem RgAll.upd {N : Addr → Prop} {H : Hp} {p : Addr} {o : HO} (hp : N p) {vs : List V} {es : List PyData} (r : RgAll N H vs es) : RgAll N (L2.upd H p o) vs es :=
  RgAll.to (fun a o' h n => ⟨by rw [upd_ne (fun z => by rw [z] at n; exact n hp)]; exact h, n⟩) es vs r
/-- the last value is put behind a list of one's own -/
theorem St.app {p : Addr} {ds : List PyData} {v : V} {e : PyData} (S : St W H0 ρ ((v, e) :: τ) ((p, ds) :: l) σ H) : ∃ xs, H p = some (.lst xs) ∧ xs.length = ds.length ∧ St W H0 ρ τ ((p, ds ++ [e]) :: l) σ (L2.upd H p (.lst (xs ++ [v]))) := by
  obtain ⟨N, n1, n2, n3, n4, n5, n6⟩ := S.ex
  obtain ⟨b1, b2, xs, b3, b4⟩ := n6.2 _ List.mem_cons_self
  refine ⟨xs, b3, b4.len, W.stab H _ S.inv fun a na => ?_, fun a o e n => ?_, N, n1, n2, fun a h => ?_, ⟨n4.1, fun i s h => ?_⟩, fun q hq => (n5 q (List.mem_cons_of_mem _ hq)).upd b1, n6.1, fun q hq => ?_⟩
  · rw [upd_ne (fun z => by rw [z] at na; exact b2 na)]
  · rw [upd_ne (fun z => ?_)]
    · exact S.off a o e n
    · have := n2 p b1 b2
      rw [z, this] at e; cases e
  · by_cases z : a = p
    · rw [z, upd_same]; simp
    · rw [upd_ne z]; exact n3 a h
  · obtain ⟨o, h1, h2⟩ := n4.2 i s h
    refine ⟨o, h1, ?_⟩
    cases s with
    | dat e => obtain ⟨v, q1, q2⟩ := h2; exact ⟨v, q1, q2.upd b1⟩
    | raw v => exact h2
  · rcases List.mem_cons.mp hq with rfl | hq
    · exact ⟨b1, b2, _, upd_same, (b4.app (.cons (n5 _ List.mem_cons_self) .nil)).upd b1⟩
    · obtain ⟨a1, a2, ys, a3, a4⟩ := n6.2 q (List.mem_cons_of_mem _ hq)
      have nd := n6.1
      rw [List.map_cons, List.nodup_cons] at nd
      have hne : q.1 ≠ p := fun z => nd.1 (List.mem_map.mpr ⟨q, hq, z⟩)
      exact ⟨a1, a2, ys, by rw [upd_ne hne]; exact a3, a4.upd b1⟩
/-- a list of one's own is data from now on -/
theorem St.frz {p : Addr} {ds : List PyData} (S : St W H0 ρ τ ((p, ds) :: l) σ H) : St W H0 ρ ((.ref p, .list ds) :: τ) l σ H := by
  obtain ⟨N, n1, n2, n3, n4, n5, n6⟩ := S.ex
  obtain ⟨b1, b2, xs, b3, b4⟩ := n6.2 _ List.mem_cons_self
  have sub : ∀ a, (N a ∧ a ≠ p) → N a := fun a h => h.1
  have nd := n6.1
  rw [List.map_cons, List.nodup_cons] at nd
  refine ⟨S.inv, S.off, fun a => N a ∧ a ≠ p, fun a h => ⟨n1 a h, fun z => b2 (z ▸ h)⟩, fun a h n => n2 a h.1 n, fun a h => n3 a h.1, ⟨n4.1, fun i s h => ?_⟩, fun q hq => ?_, nd.2, fun q hq => ?_⟩
  · obtain ⟨o, h1, h2⟩ := n4.2 i s h
    refine ⟨o, h1, ?_⟩
    cases s with
    | dat e => obtain ⟨v, q1, q2⟩ := h2; exact ⟨v, q1, q2.sub sub⟩
    | raw v => exact h2
  · rcases List.mem_cons.mp hq with rfl | hq
    · exact .lst b3 (fun z => z.2 rfl) (RgAll.to (fun a o h n => ⟨h, fun z => n z.1⟩) _ _ b4)
    · exact (n5 q hq).sub sub
  · obtain ⟨a1, a2, ys, a3, a4⟩ := n6.2 q (List.mem_cons_of_mem _ hq)
    exact ⟨⟨a1, fun z => nd.1 (List.mem_map.mpr ⟨q, hq, z⟩)⟩, a2, ys, a3, RgAll.to (fun a o h n => ⟨h, fun z => n z.1⟩) _ _ a4⟩
theorem St.raws {i : Nat} {v : V} (S : St W H0 ρ τ l σ H) (hσ : σ[i]? = some (some v)) (hi : i < ρ.length) : St W H0 (ρ.set i (some (.raw v))) τ l σ H := by
  obtain ⟨N, n1, n2, n3, n4, n5, n6⟩ := S.ex
  refine ⟨S.inv, S.off, N, n1, n2, n3, ⟨by rw [List.length_set]; exact n4.1, fun j s h => ?_⟩, n5, n6⟩
  by_cases hj : i = j
  · subst hj
    rw [List.getElem?_set_self hi] at h
    cases h
    exact ⟨_, hσ, rfl⟩
  · rw [List.getElem?_set_ne hj] at h
    exact n4.2 j s h
/-- fewer slots known -/
theorem St.less {ρ' : List (Option Sl)} (S : St W H0 ρ τ l σ H) (hl : ρ'.length = ρ.length) (h : ∀ (i : Nat) (s : Sl), ρ'[i]? = some (some s) → ρ[i]? = some (some s)) : St W H0 ρ' τ l σ H := by
  obtain ⟨N, n1, n2, n3, n4, n5, n6⟩ := S.ex
  exact ⟨S.inv, S.off, N, n1, n2, n3, ⟨by rw [hl]; exact n4.1, fun i s e => n4.2 i s (h i s e)⟩, n5, n6⟩
def wipeR (ρ : List (Option Sl)) : List Nat → List (Option Sl)
  | [] => ρ
  | v :: vs => (wipeR ρ vs).set v none
theorem St.wipe (S : St W H0 ρ τ l σ H) : ∀ vs, St W H0 (wipeR ρ vs) τ l (L2.wipe σ vs) H
  | [] => S
  | v :: vs => (S.wipe vs).clr
theorem wipe_id {i : Nat} {o : Option V} : (L2.wipe ((L2.wipe σ [i]).set i o) [i]) = L2.wipe σ [i] := by
  show ((σ.set i none).set i o).set i none = σ.set i none
  rw [List.set_set, List.set_set]
end
section
variable {W : Wd} {H0 : Hp} {ρ : List (Option Sl)} {te ta tb tn : TE} {tas : TA} {P P1 P2 : PyData → Prop} {K : PySem.W.Frag} {tt : TT}
/-- behind a block: the outer slots again -/
theorem St.re {τ : List (V × PyData)} {l : List (Addr × List PyData)} {σ σ' : L2.St} {H : Hp} {i : Nat} {x : Option Sl} (S : St W H0 (ρ.set i x) τ l σ' H) (hi : ρ[i]? = some none) (hσ : ∀ j, j ≠ i → σ'[j]? = σ[j]?) (hl : ρ.length = σ.length) : St W H0 ρ τ l σ H := by
  obtain ⟨N, n1, n2, n3, n4, n5, n6⟩ := S.ex
  refine ⟨S.inv, S.off, N, n1, n2, n3, ⟨hl, fun j s h => ?_⟩, n5, n6⟩
  have hj : j ≠ i := fun z => by rw [z, hi] at h; cases h
  obtain ⟨o, h1, h2⟩ := n4.2 j s (by rw [List.getElem?_set_ne hj.symm]; exact h)
  exact ⟨o, by rw [← hσ j hj]; exact h1, h2⟩
theorem wipe_set_ne {σ : L2.St} {i j : Nat} {o : Option V} (h : j ≠ i) : ((L2.wipe σ [i]).set i o)[j]? = σ[j]? := by
  show ((σ.set i none).set i o)[j]? = σ[j]?
  rw [List.set_set, List.getElem?_set_ne h.symm]
/-- [e for x in range(n)] -/
theorem ev_lcR {n : Int} {i : Nat} (hn0 : 0 ≤ n) (hn : n ≤ 1000) (hi : ρ[i]? = some none) (ha : EvP W H0 tn ρ (· = .int n))
    (he : ∀ j : Nat, (j : Int) < n → EvP W H0 te (ρ.set i (some (.dat (.int j)))) P) :
    EvP W H0 (tLc (iRng1 (tCons tn tNil)) (gName i) tYes te [i]) ρ (fun e => ∃ ds : List PyData, e = .list ds ∧ (ds.length : Int) = n ∧ ∀ d ∈ ds, P d) := fun τ l σ H S Q k =>
  ha τ l σ H S _ fun v e H1 S1 p => by
    subst p
    obtain ⟨N, n3, n5, n4, q⟩ := S1.ext
    have hv := n5 _ List.mem_cons_self
    cases hv
    refine ⟨n, rfl, by omega, by omega, fun D hD => ?_⟩
    -- the outer slots stand beside the block's
    refine lc_range (lo := 0) (n := n.toNat) (fun j H' => ∃ ds : List PyData, ds.length = j ∧ (∀ d ∈ ds, P d) ∧ St W H0 ρ τ ((D, ds) :: l) σ H') ?_ (fun j H' hj h => ?_) (fun H' h => ?_)
    · exact ⟨[], rfl, (fun d h => nomatch h), (S1.pop).newL hD⟩
    · obtain ⟨ds, hl, hd, S2⟩ := h
      have S3 : St W H0 (ρ.set i (some (.dat (.int j)))) τ ((D, ds) :: l) ((L2.wipe σ [i]).set i (some (.int (0 + (j : Int))))) H' := by
        have a := (S2.wipe [i])
        obtain ⟨N', m3, m5, m4, q'⟩ := a.ext
        have b := q' H' (((.int (0 + (j : Int)), .int (0 + (j : Int))) : V × PyData) :: τ) ex_refl fun p hp => by
          rcases List.mem_cons.mp hp with rfl | hp
          · exact .int _
          · exact m5 p hp
        have c := b.set (i := i)
        have e1 : (wipeR ρ [i]).set i (some (Sl.dat (.int (0 + (j : Int))))) = ρ.set i (some (.dat (.int j))) := by
          show (ρ.set i none).set i _ = _
          rw [List.set_set, Int.zero_add]
        rw [e1] at c
        exact c
      refine ⟨wipe_id, he j (by omega) τ _ _ H' S3 _ fun y e H4 S4 pe => ?_⟩
      have S5 := S4.re hi (fun j hj => wipe_set_ne hj) S.len
      obtain ⟨xs, x1, x2, S6⟩ := S5.app
      exact ⟨xs, x1, size_small' (by rw [x2]; omega), ds ++ [e], by rw [List.length_append, hl]; rfl, fun d h => by
        rcases List.mem_append.mp h with h | h
        · exact hd d h
        · rw [List.mem_singleton.mp h]; exact pe, S6⟩
    · obtain ⟨ds, hl, hd, S2⟩ := h
      exact k _ _ H' S2.frz ⟨ds, rfl, by omega, hd⟩
/-- a value's list, held fast: it is the same in every state over the new base -/
theorem St.baseL {τ : List (V × PyData)} {l : List (Addr × List PyData)} {σ : L2.St} {H : Hp} {v : V} {ds : List PyData} (S : St W H0 ρ ((v, .list ds) :: τ) l σ H) :
    ∃ a xs, v = .ref a ∧ H a = some (.lst xs) ∧ xs.length = ds.length ∧ ¬ W.N a ∧ (∀ b o, H0 b = some o → ¬ W.N b → upd H0 a (.lst xs) b = some o) ∧ (∀ b, upd H0 a (.lst xs) b = none → H0 b = none) ∧ St W (upd H0 a (.lst xs)) ρ ((v, .list ds) :: τ) l σ H := by
  obtain ⟨N, n1, n2, n3, n4, n5, n6⟩ := S.ex
  have hv := n5 _ List.mem_cons_self
  cases hv with
  | lst hA hn hr =>
    rename_i a xs
    refine ⟨a, xs, rfl, hA, hr.len, fun h => hn (n1 a h), fun b o e nb => ?_, fun b e => ?_, S.inv, fun b o e nb => ?_, N, n1, fun b h nb => ?_, n3, n4, n5, n6⟩
    · by_cases z : b = a
      · subst z
        have := S.off b o e nb
        rw [this] at hA
        cases hA
        exact upd_same
      · rw [upd_ne z]; exact e
    · by_cases z : b = a
      · rw [z, upd_same] at e; cases e
      · rw [upd_ne z] at e; exact e
    · by_cases z : b = a
      · rw [z, upd_same] at e; cases e; rw [z]; exact hA
      · rw [upd_ne z] at e; exact S.off b o e nb
    · rw [upd_ne (fun z => by rw [z] at h; exact hn h)]
      exact n2 b h nb
theorem St.baseT {τ : List (V × PyData)} {l : List (Addr × List PyData)} {σ : L2.St} {H : Hp} {v : V} {ds : List PyData} (S : St W H0 ρ ((v, .tuple ds) :: τ) l σ H) :
    ∃ a xs, v = .ref a ∧ H a = some (.tup xs) ∧ xs.length = ds.length ∧ ¬ W.N a ∧ (∀ b o, H0 b = some o → ¬ W.N b → upd H0 a (.tup xs) b = some o) ∧ (∀ b, upd H0 a (.tup xs) b = none → H0 b = none) ∧ St W (upd H0 a (.tup xs)) ρ ((v, .tuple ds) :: τ) l σ H := by
  obtain ⟨N, n1, n2, n3, n4, n5, n6⟩ := S.ex
  have hv := n5 _ List.mem_cons_self
  cases hv with
  | tup hA hn hr =>
    rename_i a xs
    refine ⟨a, xs, rfl, hA, hr.len, fun h => hn (n1 a h), fun b o e nb => ?_, fun b e => ?_, S.inv, fun b o e nb => ?_, N, n1, fun b h nb => ?_, n3, n4, n5, n6⟩
    · by_cases z : b = a
      · subst z
        have := S.off b o e nb
        rw [this] at hA
        cases hA
        exact upd_same
      · rw [upd_ne z]; exact e
    · by_cases z : b = a
      · rw [z, upd_same] at e; cases e
      · rw [upd_ne z] at e; exact e
    · by_cases z : b = a
      · rw [z, upd_same] at e; cases e; rw [z]; exact hA
      · rw [upd_ne z] at e; exact S.off b o e nb
    · rw [upd_ne (fun z => by rw [z] at h; exact hn h)]
      exact n2 b h nb
/-- back to the base ahead -/
theorem St.unbase {G : Hp} {τ : List (V × PyData)} {l : List (Addr × List PyData)} {σ : L2.St} {H : Hp} (h1 : ∀ b o, H0 b = some o → ¬ W.N b → G b = some o) (h2 : ∀ b, G b = none → H0 b = none) (S : St W G ρ τ l σ H) : St W H0 ρ τ l σ H := by
  obtain ⟨N, n1, n2, n3, n4, n5, n6⟩ := S.ex
  exact ⟨S.inv, fun b o e n => S.off b o (h1 b o e n) n, N, n1, fun b h n => h2 b (n2 b h n), n3, n4, n5, n6⟩
/-- an item of a list held fast, as the block's own name -/
theorem St.item {τ : List (V × PyData)} {l : List (Addr × List PyData)} {σ : L2.St} {H : Hp} {a : Addr} {xs : List V} {ds : List PyData} {c : PyData} {j : Nat} {x : V} (S : St W H0 ρ ((.ref a, c) :: τ) l σ H)
    (hc : ∀ N, Rg N H (.ref a) c → RgAll N H xs ds) (hx : xs[j]? = some x) : ∃ d, ds[j]? = some d ∧ St W H0 ρ ((x, d) :: (.ref a, c) :: τ) l σ H := by
  obtain ⟨N, n1, n2, n3, n4, n5, n6⟩ := S.ex
  obtain ⟨d, h1, h2⟩ := (hc N (n5 _ List.mem_cons_self)).get hx
  exact ⟨d, h1, S.inv, S.off, N, n1, n2, n3, n4, fun p hp => by
    rcases List.mem_cons.mp hp with rfl | hp
    · exact h2
    · exact n5 p hp, n6⟩
def Rel2 (R : PyData → PyData → Prop) (ds es : List PyData) : Prop := es.length = ds.length ∧ ∀ (i : Nat) (d e : PyData), ds[i]? = some d → es[i]? = some e → R d e
theorem Rel2.snoc {R : PyData → PyData → Prop} {ds es : List PyData} {j : Nat} {d e : PyData} (h : Rel2 R (ds.take j) es) (hd : ds[j]? = some d) (r : R d e) : Rel2 R (ds.take (j + 1)) (es ++ [e]) := by
  have jl : j < ds.length := (List.getElem?_eq_some_iff.mp hd).1
  have tl : (ds.take j).length = j := by rw [List.length_take]; omega
  have el : es.length = j := by rw [h.1, tl]
  refine ⟨by rw [List.length_append, List.length_take, el]; simp; omega, fun i x y hx hy => ?_⟩
  have il : i < j + 1 := by
    have := (List.getElem?_eq_some_iff.mp hy).1
    rw [List.length_append, el] at this
    exact this
  by_cases z : i < j
  · rw [List.getElem?_append_left (by omega)] at hy
    refine h.2 i x y ?_ hy
    rw [List.getElem?_take_of_lt z]
    rw [List.getElem?_take_of_lt il] at hx
    exact hx
  · have : i = j := by omega
    subst this
    rw [List.getElem?_append_right (by omega), el, Nat.sub_self] at hy
    rw [List.getElem?_take_of_lt il, hd] at hx
    cases hx
    have hy' : some e = some y := hy
    cases hy'
    exact r
/-- [e for x in t], t a tuple -/
theorem ev_lcT {i : Nat} {ds : List PyData} {R : PyData → PyData → Prop} (hl : ds.length ≤ 1000) (hi : ρ[i]? = some none) (ha : EvP W H0 ta ρ (· = .tuple ds))
    (he : ∀ G d, d ∈ ds → EvP W G te (ρ.set i (some (.dat d))) (R d)) :
    EvP W H0 (tLc (iTup K ta) (gName i) tYes te [i]) ρ (fun e => ∃ es : List PyData, e = .list es ∧ Rel2 R ds es) := fun τ l σ H S Q k =>
  ha τ l σ H S _ fun v e H1 S1 p => by
    subst p
    obtain ⟨a, xs, rfl, hA, hlen, hna, u1, u2, B⟩ := S1.baseT
    refine ⟨a, rfl, ⟨xs, .inl (.inl hA)⟩, fun D hD => ?_⟩
    have keep : ∀ {τ' l' σ' H'}, St W (upd H0 a (.tup xs)) ρ τ' l' σ' H' → H' a = some (.tup xs) := fun S => S.off a _ upd_same hna
    refine lc_tup (K := K) (a := a) (xs := xs) (fun j H' => ∃ es : List PyData, Rel2 R (ds.take j) es ∧ St W (upd H0 a (.tup xs)) ρ ((.ref a, .tuple ds) :: τ) ((D, es) :: l) σ H') ?_ (fun j H' _ h => ?_) (fun j x H' hx h => ?_) (fun H' h => ?_)
    · exact ⟨[], ⟨by simp, fun _ _ _ _ h => by simp at h⟩, B.newL hD⟩
    · obtain ⟨es, _, S2⟩ := h
      exact .inl (.inl (keep S2))
    · obtain ⟨es, hr, S2⟩ := h
      have hAk := keep S2
      obtain ⟨d, hd, S3⟩ := S2.item (xs := xs) (ds := ds) (fun N r => by
        cases r with
        | tup q1 q2 q3 => rw [hAk] at q1; cases q1; exact q3) hx
      have S4 := (S3.wipe [i]).set (i := i)
      have e1 : (wipeR ρ [i]).set i (some (Sl.dat d)) = ρ.set i (some (.dat d)) := by
        show (ρ.set i none).set i _ = _
        rw [List.set_set]
      rw [e1] at S4
      refine ⟨wipe_id, he _ d (List.mem_of_getElem? hd) _ _ _ H' S4 _ fun y e H4 S5 pe => ?_⟩
      have S6 := S5.re hi (fun j hj => wipe_set_ne hj) S.len
      obtain ⟨ys, x1, x2, S7⟩ := S6.app
      have el : es.length ≤ 1000 := by rw [hr.1, List.length_take]; omega
      exact ⟨ys, x1, size_small' (by rw [x2]; omega), es ++ [e], hr.snoc hd pe, S7⟩
    · obtain ⟨es, hr, S2⟩ := h
      rw [hlen, List.take_length] at hr
      exact k _ _ H' (((S2.unbase u1 u2).frz).mono fun p hp => by
        rcases List.mem_cons.mp hp with rfl | hp
        · exact List.mem_cons_self
        · exact List.mem_cons_of_mem _ (List.mem_cons_of_mem _ hp)) ⟨es, rfl, hr⟩
/-- [e for x in range(n) if t], known -/
theorem ev_lcRf {n : Int} {i : Nat} {b : Nat → Bool} {f : Nat → PyData} (hn0 : 0 ≤ n) (hn : n ≤ 1000) (hi : ρ[i]? = some none) (ha : EvP W H0 tn ρ (· = .int n))
    (ht : ∀ j : Nat, (j : Int) < n → EvT W H0 tt (ρ.set i (some (.dat (.int j)))) (· = b j)) (he : ∀ j : Nat, (j : Int) < n → b j = true → EvP W H0 te (ρ.set i (some (.dat (.int j)))) (· = f j)) :
    EvP W H0 (tLc (iRng1 (tCons tn tNil)) (gName i) tt te [i]) ρ (· = .list (((List.range n.toNat).filter b).map f)) := fun τ l σ H S Q k =>
  ha τ l σ H S _ fun v e H1 S1 p => by
    subst p
    obtain ⟨N, n3, n5, n4, q⟩ := S1.ext
    have hv := n5 _ List.mem_cons_self
    cases hv
    refine ⟨n, rfl, by omega, by omega, fun D hD => ?_⟩
    refine lc_range (lo := 0) (n := n.toNat) (fun j H' => St W H0 ρ τ ((D, ((List.range j).filter b).map f) :: l) σ H') ((S1.pop).newL hD) (fun j H' hj S2 => ?_) (fun H' S2 => k _ _ H' S2.frz rfl)
    have S3 : St W H0 (ρ.set i (some (.dat (.int j)))) τ ((D, ((List.range j).filter b).map f) :: l) ((L2.wipe σ [i]).set i (some (.int (0 + (j : Int))))) H' := by
      have a := (S2.wipe [i])
      obtain ⟨N', m3, m5, m4, q'⟩ := a.ext
      have c := (q' H' (((.int (0 + (j : Int)), .int (0 + (j : Int))) : V × PyData) :: τ) ex_refl fun p hp => by
        rcases List.mem_cons.mp hp with rfl | hp
        · exact .int _
        · exact m5 p hp).set (i := i)
      have e1 : (wipeR ρ [i]).set i (some (Sl.dat (.int (0 + (j : Int))))) = ρ.set i (some (.dat (.int j))) := by
        show (ρ.set i none).set i _ = _
        rw [List.set_set, Int.zero_add]
      rw [e1] at c
      exact c
    refine ⟨wipe_id, ht j (by omega) τ _ _ H' S3 _ fun c H3 S4 pc => ?_⟩
    subst pc
    have el : (((List.range j).filter b).map f).length ≤ 1000 := by
      rw [List.length_map]
      have := List.length_filter_le b (List.range j)
      rw [List.length_range] at this
      omega
    have er : (((List.range (j + 1)).filter b).map f) = (((List.range j).filter b).map f) ++ (if b j = true then [f j] else []) := by
      rw [List.range_succ, List.filter_append, List.map_append]
      cases hb : b j <;> simp [hb]
    cases hb : b j with
    | true =>
      refine (if_pos rfl).mpr (he j (by omega) hb τ _ _ H3 S4 _ fun y e H4 S5 pe => ?_)
      subst pe
      have S6 := S5.re hi (fun j hj => wipe_set_ne hj) S.len
      obtain ⟨ys, x1, x2, S7⟩ := S6.app
      rw [er, hb, if_pos rfl]
      exact ⟨ys, x1, size_small' (by rw [x2]; omega), S7⟩
    | false =>
      refine (if_neg Bool.false_ne_true).mpr ?_
      rw [er, hb, if_neg Bool.false_ne_true, List.append_nil]
      exact S4.re hi (fun j hj => wipe_set_ne hj) S.len
end
end DL
set_option Elab.async false
set_option linter.all false
set_option maxRecDepth 100000
/-! The layer over data: defs that draw numbers from the deck. -/
namespace DL
open PySem PySem.Spec PyProof.Rows L2 Evl TB
/-- what stands while a def that draws runs -/
def WD (d g l : Addr) (N : Addr → Prop) (B : Hp) : Wd where
  N := N
  I := fun H => NOk N H ∧ N d ∧ N g ∧ N l ∧ Deck H d g l ∧ ∀ a, N a → a ≠ d → a ≠ g → a ≠ l → H a = B a
  ok := fun H h => h.1
  stab := fun H H' h x => by
    obtain ⟨h1, h2, h3, h4, ⟨gs, ls, c, q1, q2, q3, q4⟩, h6⟩ := h
    exact ⟨fun a n => by rw [x a n]; exact h1 a n, h2, h3, h4, ⟨gs, ls, c, by rw [x d h2]; exact q1, by rw [x g h3]; exact q2, by rw [x l h4]; exact q3, q4⟩, fun a n n1 n2 n3 => by rw [x a n]; exact h6 a n n1 n2 n3⟩
def Oth (d g l : Addr) (H H' : Hp) : Prop := ∀ a o, H a = some o → a ≠ d → a ≠ g → a ≠ l → H' a = some o
def SpW (A : List PyData → Prop) (F : List PyData → PyData → Prop) : Sp := fun vs H Q _ => ∃ (d g l : Addr) (N : Addr → Prop) (es : List PyData) (vs' : List V), vs = .ref d :: vs' ∧ NOk N H ∧ N d ∧ N g ∧ N l ∧ Deck H d g l ∧ RgAll N H vs' es ∧ A es ∧
  ∀ v e H', Deck H' d g l → Oth d g l H H' → Rg N H' v e → F es e → Q v H'
section
variable {d g l : Addr} {N : Addr → Prop} {B H0 H H' : Hp} {ρ : List (Option Sl)} {te : TE} {tas : TA} {τ : List (V × PyData)} {loc : List (Addr × List PyData)} {σ : L2.St}
theorem Deck.tr {H : Hp} (D : Deck H d g l) : ∀ a, a = d ∨ a = g ∨ a = l → H a ≠ none := by
  obtain ⟨gs, ls, c, q1, q2, q3, _⟩ := D
  rintro a (rfl | rfl | rfl)
  · rw [q1]; simp
  · rw [q2]; simp
  · rw [q3]; simp
theorem nok_oth {M : Addr → Prop} (h : NOk M H) (D : Deck H' d g l) (x : Oth d g l H H') : NOk M H' := fun a n => by
  by_cases z : a = d ∨ a = g ∨ a = l
  · exact Deck.tr D a z
  · cases e : H a with
    | none => exact absurd e (h a n)
    | some o => rw [x a o e (fun q => z (.inl q)) (fun q => z (.inr (.inl q))) fun q => z (.inr (.inr q))]; simp
/-- the state behind a draw -/
theorem St.oth (S : St (WD d g l N B) H0 ρ τ loc σ H) :
    ∃ M : Addr → Prop, NOk M H ∧ M d ∧ M g ∧ M l ∧ Deck H d g l ∧ (∀ p ∈ τ, Rg M H p.1 p.2) ∧ ∀ (H' : Hp) (τ' : List (V × PyData)), Deck H' d g l → Oth d g l H H' → (∀ p ∈ τ', Rg M H' p.1 p.2) → St (WD d g l N B) H0 ρ τ' loc σ H' := by
  obtain ⟨M, n1, n2, n3, n4, n5, n6⟩ := S.ex
  obtain ⟨i1, i2, i3, i4, i5, i6⟩ := S.inv
  refine ⟨M, n3, n1 d i2, n1 g i3, n1 l i4, i5, n5, fun H' τ' D x h => ?_⟩
  have keep : ∀ {P : Addr → Prop}, P d → P g → P l → ∀ a o, H a = some o → ¬ P a → H' a = some o := fun {P} pd pg pl a o e n => x a o e (fun z => n (z ▸ pd)) (fun z => n (z ▸ pg)) fun z => n (z ▸ pl)
  have kM := keep (P := M) (n1 d i2) (n1 g i3) (n1 l i4)
  refine ⟨⟨nok_oth i1 D x, i2, i3, i4, D, fun a n q1 q2 q3 => ?_⟩, fun a o e n => keep (P := N) i2 i3 i4 a o (S.off a o e n) n, M, n1, n2, nok_oth n3 D x, ⟨n4.1, fun i s e => ?_⟩, h, n6.1, fun p hp => ?_⟩
  · rw [← i6 a n q1 q2 q3]
    cases e : H a with
    | none => exact absurd e (i1 a n)
    | some o => exact x a o e q1 q2 q3
  · obtain ⟨o, a1, a2⟩ := n4.2 i s e
    refine ⟨o, a1, ?_⟩
    cases s with
    | dat e => obtain ⟨v, b1, b2⟩ := a2; exact ⟨v, b1, Rg.to (fun a o h n => ⟨kM a o h n, n⟩) _ _ b2⟩
    | raw v => exact a2
  · obtain ⟨a1, a2, xs, a3, a4⟩ := n6.2 p hp
    have a2' : ¬ N p.1 := a2
    exact ⟨a1, a2, xs, keep (P := N) i2 i3 i4 _ _ a3 a2', RgAll.to (fun a o h n => ⟨kM a o h n, n⟩) _ _ a4⟩
theorem ev_callW {A : List PyData → Prop} {F : List PyData → PyData → Prop} {PA : List PyData → Prop} {i : Nat} (hr : ρ[i]? = some (some (.raw (.ref d)))) (ha : EvA (WD d g l N B) H0 tas ρ PA) (hA : ∀ es, PA es → A es) :
    EvP (WD d g l N B) H0 (tCall (SpW A F) [] E0 (tCons (tVar i) tas)) ρ (fun e => ∃ es, PA es ∧ F es e) := fun τ loc σ H S Q k =>
  ⟨.ref d, S.raw hr, ha τ loc σ H S _ fun vs es H1 S1 le pa => by
    obtain ⟨M, m1, m2, m3, m4, m5, m6, q⟩ := S1.oth
    refine ⟨d, g, l, M, es, vs, by rw [List.append_nil], m1, m2, m3, m4, m5, zip_all le fun p hp => m6 p (List.mem_append_left _ hp), hA es pa, fun v e H' D x r f => k v e H' (q H' _ D x fun p hp => ?_) ⟨es, pa, f⟩⟩
    rcases List.mem_cons.mp hp with rfl | hp
    · exact r
    · exact Rg.to (fun a o h n => ⟨x a o h (fun z => n (z ▸ m2)) (fun z => n (z ▸ m3)) fun z => n (z ▸ m4), n⟩) _ _ (m6 p (List.mem_append_right _ hp))⟩
theorem St.startW {vs : List V} {es : List PyData} {k : Nat} (ok : NOk N H) (h1 : N d) (h2 : N g) (h3 : N l) (D : Deck H d g l) (r : RgAll N H vs es) :
    St (WD d g l N H) H (some (.raw (.ref d)) :: slotsOf es k) [] [] (some (.ref d) :: (vs.map some ++ List.replicate k none)) H := by
  refine ⟨⟨ok, h1, h2, h3, D, fun _ _ _ _ _ => rfl⟩, fun _ _ e _ => e, N, fun _ h => h, fun _ h n => absurd h n, ok, ⟨?_, fun i s h => ?_⟩, (fun _ h => nomatch h), List.nodup_nil, fun _ h => nomatch h⟩
  · have := (slots_start (M := N) (k := k) r).1
    simpa using this
  · cases i with
    | zero =>
      have h' : some (some (Sl.raw (.ref d))) = some (some s) := h
      cases h'
      exact ⟨_, rfl, rfl⟩
    | succ i => exact (slots_start (M := N) (k := k) r).2 i s h
theorem St.endW {v : V} {e : PyData} (S : St (WD d g l N H) H ρ ((v, e) :: τ) loc σ H') : Deck H' d g l ∧ Oth d g l H H' ∧ Rg N H' v e := by
  obtain ⟨M, n1, n2, n3, n4, n5, n6⟩ := S.ex
  obtain ⟨i1, i2, i3, i4, i5, i6⟩ := S.inv
  refine ⟨i5, fun a o h q1 q2 q3 => ?_, (n5 _ List.mem_cons_self).sub n1⟩
  by_cases hn : N a
  · rw [i6 a hn q1 q2 q3]; exact h
  · exact S.off a o h hn
end
/-! ### the draws -/
def drawA (es : List PyData) : Prop := ∃ m : Int, es = [.int m] ∧ 0 < m ∧ m ≤ 1000000000000
def drawF (es : List PyData) (e : PyData) : Prop := ∃ m r : Int, es = [.int m] ∧ e = .int r ∧ 0 ≤ r ∧ r < m
theorem draw_imp {vs : List V} {H : Hp} {Q : VK} {E : XK} (h : SpW drawA drawF vs H Q E) : spDraw vs H Q E := by
  obtain ⟨d, g, l, N, es, vs', rfl, ok, nd, ng, nl, D, r, ⟨m, rfl, m0, m1⟩, q⟩ := h
  cases r with
  | cons r1 r2 =>
    cases r2; cases r1
    exact ⟨d, g, l, m, rfl, m0, m1, D, fun r H' r0 r1 D' o => q _ (.int r) H' D' (fun a o' e n1 n2 _ => o a o' e n1 n2) (.int r) ⟨m, r, rfl, rfl, r0, r1⟩⟩
def oneA (es : List PyData) : Prop := ∃ ds, es = [.list ds] ∧ 0 < ds.length ∧ ds.length ≤ 1000
def oneF (es : List PyData) (e : PyData) : Prop := ∃ ds, es = [.list ds] ∧ e ∈ ds
theorem one_imp {vs : List V} {H : Hp} {Q : VK} {E : XK} (h : SpW oneA oneF vs H Q E) : spOne vs H Q E := by
  obtain ⟨d, g, l, N, es, vs', rfl, ok, nd, ng, nl, D, r, ⟨ds, rfl, m0, m1⟩, q⟩ := h
  cases r with
  | cons r1 r2 =>
    cases r2
    cases r1 with
    | lst hA hn hr =>
      refine ⟨d, g, l, _, _, rfl, D, hA, fun z => hn (z ▸ nd), fun z => hn (z ▸ ng), by rw [hr.len]; exact m0, by rw [hr.len]; exact m1, fun i v H' hv D' o => ?_⟩
      obtain ⟨e, he, hre⟩ := hr.get hv
      exact q v e H' D' (fun a o' h n1 n2 _ => o a o' h n1 n2) (Rg.to (fun a o' h n => ⟨o a o' h (fun z => n (z ▸ nd)) (fun z => n (z ▸ ng)), n⟩) _ _ hre) ⟨ds, rfl, List.mem_of_getElem? he⟩
section
variable {P : Program} {w : World} {K : PySem.W.Frag} {mg : Str → Option Value} {base : Heap} {k : Nat} {x : Str} {ps : List Str}
theorem Keeps.imp {sp sp' : Sp} (h : Keeps P w K mg base k x ps sp) (i : ∀ vs H Q E, sp' vs H Q E → sp vs H Q E) : Keeps P w K mg base k x ps sp' := by
  obtain ⟨f, fd, a, b, c, G⟩ := h
  exact ⟨f, fd, a, b, c, G.imp i⟩
theorem Keeps.up {sp : Sp} {j : Nat} (h : Keeps P w K mg base k x ps sp) (i : k ≤ j) : Keeps P w K mg base j x ps sp := by
  obtain ⟨f, fd, a, b, c, G⟩ := h
  exact ⟨f, fd, a, b, c, G.mono i⟩
end
end DL
set_option Elab.async false
set_option linter.all false
set_option maxRecDepth 100000
/-! What is drawn. -/
namespace DL
open PySem PySem.Spec PyProof.Rows L2 Evl TB
section
variable {W : Wd} {H0 : Hp} {ρ : List (Option Sl)} {te ta tb tn : TE} {tas : TA} {P P1 P2 : PyData → Prop} {tt tu : TT} {R : Bool → Prop}
theorem ev_neg {i : Int} (h : EvP W H0 te ρ (· = .int i)) : EvP W H0 (tUn (rU fun i => .int (-i)) te) ρ (· = .int (-i)) := fun τ l σ H S Q k => h τ l σ H S _ fun v e H1 S1 p => by
  subst p
  obtain ⟨N, n3, n5, n4, q⟩ := S1.ext
  have := n5 _ List.mem_cons_self
  cases this
  refine ⟨i, rfl, k _ (.int (-i)) H1 (q _ _ ex_refl fun p hp => ?_) rfl⟩
  rcases List.mem_cons.mp hp with rfl | hp
  · exact .int _
  · exact n5 p (List.mem_cons_of_mem _ hp)
theorem ev_pow {i j : Int} (h : CPow i j) : EvP W H0 (tOp (rI CPow fun i j => .int (i ^ j.toNat)) (tC (.int i)) (tC (.int j))) ρ (· = .int (i ^ j.toNat)) := ev_op' ev_int ev_int (opd_I h fun _ _ => .int _)
theorem ev_catL {ds es : List PyData} (ha : EvP W H0 ta ρ (· = .list ds)) (hb : EvP W H0 tb ρ (· = .list es)) (h : ds.length + es.length ≤ 100000) : EvP W H0 (tOp rCat ta tb) ρ (· = .list (ds ++ es)) := ev_op' ha hb (opd_catL h)
theorem ev_dict0 : EvP W H0 tDNewK ρ (· = .dict []) := fun τ l σ H S Q k => fun p hp => by
  obtain ⟨N, n3, n5, n4, q⟩ := S.ext
  refine k _ (.dict []) _ (q _ _ (Ex.new hp) fun p' hp' => ?_) rfl
  rcases List.mem_cons.mp hp' with rfl | hp'
  · exact .dic upd_same (n3.new hp)
  · exact (n5 p' hp').ex (Ex.new hp)
theorem et_of' (ha : EvP W H0 te ρ P) (h : ∀ e, P e → ∃ b, e = .bool b ∧ R b) : EvT W H0 (tTest te) ρ R := fun τ l σ H S Q k => ha τ l σ H S _ fun v e H1 S1 p => by
  obtain ⟨b, rfl, rb⟩ := h e p
  obtain ⟨N, n3, n5, n4, q⟩ := S1.ext
  have := n5 _ List.mem_cons_self
  cases this
  exact ⟨b, rfl, k b H1 S1.pop rb⟩
theorem et_and1 (h1 : EvT W H0 tt ρ (· = true)) (h2 : EvT W H0 tu ρ R) : EvT W H0 (tAnd tt tu) ρ R := fun τ l σ H S Q k => h1 τ l σ H S _ fun b H1 S1 p => by
  subst p
  exact (if_pos rfl).mpr (h2 τ l σ H1 S1 Q k)
theorem et_and0 (h1 : EvT W H0 tt ρ (· = false)) (h : R false) : EvT W H0 (tAnd tt tu) ρ R := fun τ l σ H S Q k => h1 τ l σ H S _ fun b H1 S1 p => by
  subst p
  exact (if_neg Bool.false_ne_true).mpr (k false H1 S1 h)
theorem EvT.imp {R' : Bool → Prop} (h : EvT W H0 tt ρ R) (i : ∀ b, R b → R' b) : EvT W H0 tt ρ R' := fun τ l σ H S Q k => h τ l σ H S Q fun b H' S' p => k b H' S' (i b p)
end
theorem flds {xs ys : List PyData} : PyData.hasDictAll (xs ++ ys) = (PyData.hasDictAll xs || PyData.hasDictAll ys) := by
  induction xs with
  | nil => rw [List.nil_append, PyData.hasDictAll, Bool.false_or]
  | cons x xs ih => rw [List.cons_append, PyData.hasDictAll, PyData.hasDictAll, ih, Bool.or_assoc]
theorem flls {xs ys : List PyData} : hasLs (xs ++ ys) = (hasLs xs || hasLs ys) := by
  induction xs with
  | nil => rw [List.nil_append, hasLs, Bool.false_or]
  | cons x xs ih => rw [List.cons_append, hasLs, hasLs, ih, Bool.or_assoc]
/-- no list, no dict in it -/
def plain (e : PyData) : Prop := e.hasDict = false ∧ hasL e = false
theorem plains {xs : List PyData} (h : ∀ x ∈ xs, plain x) : PyData.hasDictAll xs = false ∧ hasLs xs = false := by
  induction xs with
  | nil => exact ⟨rfl, rfl⟩
  | cons x xs ih =>
    have := ih fun y hy => h y (List.mem_cons_of_mem _ hy)
    have hx := h x List.mem_cons_self
    exact ⟨by rw [PyData.hasDictAll, hx.1, this.1]; rfl, by rw [hasLs, hx.2, this.2]; rfl⟩
theorem okD_plain {e : PyData} (h : plain e) : okD e = true := by unfold okD; rw [h.1]; rfl
theorem okD_list {xs : List PyData} (h : ∀ x ∈ xs, plain x) : okD (.list xs) = true := by
  unfold okD
  rw [PyData.hasDict, (plains h).1]; rfl
theorem plain_tuple {xs : List PyData} (h : ∀ x ∈ xs, plain x) : plain (.tuple xs) := ⟨by rw [PyData.hasDict]; exact (plains h).1, by rw [hasL]; exact (plains h).2⟩
theorem okD_mid {xs ys : List PyData} {e : PyData} (hx : ∀ x ∈ xs, plain x) (hy : ∀ x ∈ ys, plain x) (he : okD e = true) : okD (.tuple (xs ++ [e] ++ ys)) = true := by
  unfold okD at he ⊢
  rw [PyData.hasDict, hasL, flds, flds, flls, flls, (plains hx).1, (plains hx).2, (plains hy).1, (plains hy).2]
  rw [PyData.hasDictAll, PyData.hasDictAll, hasLs, hasLs]
  simp only [Bool.or_false, Bool.false_or]
  exact he
theorem fit_nat {i : Int} (h : 0 ≤ i) (h2 : i < 10 ^ 40) : Fit 40 0 (.int i) := by
  refine ⟨?_, ?_, Nat.le_refl _⟩
  · rw [PyData.showable]
    refine decide_eq_true ?_
    by_cases h0 : i.natAbs = 0
    · rw [h0]; decide
    · exact Nat.lt_of_lt_of_le ((Nat.log2_lt h0).mpr (show i.natAbs < 2 ^ 133 by
        have : (10 : Int) ^ 40 < 2 ^ 133 := by decide
        omega)) (by decide)
  · show (numS i).length ≤ 40
    rw [← cs_len, cs_num h]
    unfold digs
    rw [List.length_map]
    exact digits10_le (by decide) (by
      have : ((i.toNat : Nat) : Int) = i := Int.toNat_of_nonneg h
      omega)
/-- what is good to be shown -/
def Gd (n k : Nat) (e : PyData) : Prop := okD e = true ∧ Fit n k e
theorem Gd.mono {n m k j : Nat} {e : PyData} (h : Gd n k e) (h1 : n ≤ m) (h2 : k ≤ j) : Gd m j e := ⟨h.1, h.2.mono h1 h2⟩
def Lv : Nat → PyData → Prop
  | 0, d => ∃ i : Int, d = .int i ∧ 0 ≤ i ∧ i ≤ MS
  | n + 1, d => ∃ ds : List PyData, d = .tuple ds ∧ ds.length ≤ 8 ∧ ∀ x ∈ ds, Lv n x
def Bo : Nat → Nat
  | 0 => 1000
  | n + 1 => 9 * Bo n + 100
theorem Bo_ge (n : Nat) : 1000 ≤ Bo n := by
  induction n with
  | zero => exact Nat.le_refl _
  | succ n ih => show 1000 ≤ 9 * Bo n + 100; omega
theorem Lv.plain : ∀ {n : Nat} {d : PyData}, Lv n d → plain d
  | 0, _, ⟨i, h, _⟩ => by rw [h]; exact ⟨rfl, rfl⟩
  | n + 1, _, ⟨ds, h, _, hx⟩ => by rw [h]; exact plain_tuple fun x hm => Lv.plain (hx x hm)
theorem fit_tup {n k m : Nat} {ds : List PyData} (h : ∀ d ∈ ds, Fit n k d) (hl : ds.length ≤ 9) (hm : 9 * n + 100 ≤ m) : Fit m (k + 1) (.tuple ds) :=
  (Fit.tuple h).mono (by have := Nat.mul_le_mul_right n hl; omega) (Nat.le_refl _)
theorem fit_lst {n k m : Nat} {ds : List PyData} (h : ∀ d ∈ ds, Fit n k d) (hl : ds.length ≤ 9) (hm : 9 * n + 100 ≤ m) : Fit m (k + 1) (.list ds) :=
  (Fit.list h).mono (by have := Nat.mul_le_mul_right n hl; omega) (Nat.le_refl _)
theorem Lv.fit : ∀ {n : Nat} {d : PyData}, Lv n d → Fit (Bo n) n d
  | 0, _, ⟨i, h, h0, h1⟩ => by rw [h]; exact (fit_int h0 h1).mono (by decide) (Nat.le_refl _)
  | n + 1, _, ⟨ds, h, hl, hx⟩ => by rw [h]; exact fit_tup (fun x hm => Lv.fit (hx x hm)) (by omega) (Nat.le_refl _)
/-! ### draws in expressions -/
section
variable {d g l : Addr} {N : Addr → Prop} {B H0 : Hp} {ρ : List (Option Sl)} {te : TE} {tas : TA} {P : PyData → Prop} {j : Nat}
theorem ev_draw {m : Int} (hr : ρ[j]? = some (some (.raw (.ref d)))) (hm : EvP (WD d g l N B) H0 te ρ (· = .int m)) (m0 : 0 < m) (m1 : m ≤ 1000000000000) :
    EvP (WD d g l N B) H0 (tCall (SpW drawA drawF) [] E0 (tCons (tVar j) (tCons te tNil))) ρ (fun e => ∃ r : Int, e = .int r ∧ 0 ≤ r ∧ r < m) :=
  (ev_callW hr (eva_one hm) fun es h => by rw [h]; exact ⟨m, rfl, m0, m1⟩).imp fun e ⟨es, h1, m', r, h2, h3, h4, h5⟩ => by
    rw [h1] at h2
    cases h2
    exact ⟨r, h3, h4, h5⟩
theorem ev_one (hr : ρ[j]? = some (some (.raw (.ref d)))) (hm : EvP (WD d g l N B) H0 te ρ P) (h : ∀ e, P e → ∃ ds, e = .list ds ∧ 0 < ds.length ∧ ds.length ≤ 1000) :
    EvP (WD d g l N B) H0 (tCall (SpW oneA oneF) [] E0 (tCons (tVar j) (tCons te tNil))) ρ (fun e => ∃ ds, P (.list ds) ∧ e ∈ ds) :=
  (ev_callW hr (PA := fun es => ∃ e, es = [e] ∧ P e) (eva_cons hm eva_nil fun e es h1 h2 => by rw [h2]; exact ⟨e, rfl, h1⟩) fun es ⟨e, h1, h2⟩ => by
    obtain ⟨ds, rfl, a, b⟩ := h e h2
    exact ⟨ds, h1, a, b⟩).imp fun x ⟨es, ⟨e, h1, h2⟩, ds, h3, h4⟩ => by
    rw [h1] at h3
    cases h3
    exact ⟨ds, h2, h4⟩
end
def nonA (es : List PyData) : Prop := es = []
def oddF (_ : List PyData) (e : PyData) : Prop := Gd 100 3 e
def farF (_ : List PyData) (e : PyData) : Prop := ∃ r : Int, e = .int r ∧ 1 ≤ r ∧ r ≤ MS
def wideA (es : List PyData) : Prop := ∃ n : Nat, es = [.int n] ∧ n ≤ 100
def wideF (es : List PyData) (e : PyData) : Prop := ∃ (n : Nat) (ns : List Int), es = [.int n] ∧ e = tupI ns ∧ ns.length = n ∧ ∀ x ∈ ns, 1 ≤ x ∧ x ≤ MS
theorem ints_of {R : Int → Prop} : ∀ {ds : List PyData}, (∀ d ∈ ds, ∃ n : Int, d = .int n ∧ R n) → ∃ ns : List Int, ds = ns.map PyData.int ∧ ∀ n ∈ ns, R n
  | [], _ => ⟨[], rfl, fun _ h => nomatch h⟩
  | d :: ds, h => by
    obtain ⟨n, rfl, hn⟩ := h d List.mem_cons_self
    obtain ⟨ns, rfl, hs⟩ := ints_of fun x hx => h x (List.mem_cons_of_mem _ hx)
    exact ⟨n :: ns, rfl, fun m hm => by
      rcases List.mem_cons.mp hm with rfl | hm
      · exact hn
      · exact hs m hm⟩
/-! ### statements in their readings -/
theorem d_asg {te : TE} {i : Nat} {ts : TS} {D : Ends} {σ : L2.St} {H : Hp} (h : te σ H fun x H1 => ts D (σ.set i (some x)) H1) : tSeq (tAsg te (gName i)) ts D σ H := h
theorem d_ret {te : TE} {D : Ends} {σ : L2.St} {H : Hp} (h : te σ H D.rt) : tRet te D σ H := h
theorem d_if {tt : TT} {t u ts : TS} {D : Ends} {σ : L2.St} {H : Hp} (h : tt σ H fun b H1 => if b = true then t { D with nx := fun σ H => ts D σ H } σ H1 else u { D with nx := fun σ H => ts D σ H } σ H1) : tSeq (tIfS tt t u) ts D σ H := h
theorem d_seq {t ts : TS} {D : Ends} {σ : L2.St} {H : Hp} (h : t { D with nx := fun σ H => ts D σ H } σ H) : tSeq t ts D σ H := h
abbrev St.rho {W : Wd} {H0 H : Hp} {ρ : List (Option Sl)} {τ : List (V × PyData)} {l : List (Addr × List PyData)} {σ : L2.St} (_ : St W H0 ρ τ l σ H) : List (Option Sl) := ρ
def goodB (n k : Nat) (e : PyData) : Bool := okD e && (e.showable && (decide (e.shown.length ≤ n) && decide (e.depth ≤ k)))
theorem gd_of {n k : Nat} {ds : List PyData} (h : ds.all (goodB n k) = true) {e : PyData} (he : e ∈ ds) : Gd n k e := by
  have := List.all_eq_true.mp h e he
  unfold goodB at this
  simp only [Bool.and_eq_true, decide_eq_true_eq] at this
  exact ⟨this.1, this.2.1, this.2.2.1, this.2.2.2⟩
theorem plain_of {e : PyData} {is : List Int} (h : e = tupI is) : plain e := by
  rw [h]
  exact plain_tuple fun x hx => by
    obtain ⟨n, _, rfl⟩ := List.mem_map.mp hx
    exact ⟨rfl, rfl⟩
theorem opd_add {i j : Int} : OpD (rI0 fun i j => .int (i + j)) (.int i) (.int j) (· = .int (i + j)) := opd_I0 fun _ _ => .int _
theorem opd_sub {i j : Int} : OpD (rI0 fun i j => .int (i - j)) (.int i) (.int j) (· = .int (i - j)) := opd_I0 fun _ _ => .int _
theorem opd_gt {i j : Int} : OpD (rI0 fun i j => .bl (decide (j < i))) (.int i) (.int j) (· = .bool (decide (j < i))) := opd_I0 fun _ _ => .bl _
theorem opd_lt {i j : Int} : OpD (rI0 fun i j => .bl (decide (i < j))) (.int i) (.int j) (· = .bool (decide (i < j))) := opd_I0 fun _ _ => .bl _
theorem OpD.imp {r : R2} {e1 e2 : PyData} {P P' : PyData → Prop} (h : OpD r e1 e2 P) (i : ∀ e, P e → P' e) : OpD r e1 e2 P' := fun N H v1 v2 ok q1 q2 Q k => h N H v1 v2 ok q1 q2 Q fun v e H' x y z => k v e H' x y (i e z)
theorem CaD.imp {r : List V → Hp → VK → Prop} {es : List PyData} {P P' : PyData → Prop} (h : CaD r es P) (i : ∀ e, P e → P' e) : CaD r es P' := fun N H vs ok q Q k => h N H vs ok q Q fun v e H' x y z => k v e H' x y (i e z)
theorem d_next {f : L2.St → Hp → Prop} {a : VK} {b c : L2.St → Hp → Prop} {σ : L2.St} {H : Hp} (h : f σ H) : tNext { nx := f, rt := a, bk := b, ct := c } σ H := h
theorem d_nx {f : L2.St → Hp → Prop} {a : VK} {b c : L2.St → Hp → Prop} {σ : L2.St} {H : Hp} (h : f σ H) : Ends.nx { nx := f, rt := a, bk := b, ct := c } σ H := h
end DL
set_option Elab.async false
set_option linter.all false
set_option maxRecDepth 100000
/-! The layer over data: loops over lists of data, a list of one's own made longer, a pair taken apart. -/
namespace DL
open PySem PySem.Spec PyProof.Rows L2 Evl TB
section
variable {W : Wd} {H0 H : Hp} {ρ : List (Option Sl)} {τ : List (V × PyData)} {l : List (Addr × List PyData)} {σ : L2.St} {K : PySem.W.Frag}
theorem St.un2 {v : V} {e1 e2 : PyData} (S : St W H0 ρ ((v, .tuple [e1, e2]) :: τ) l σ H) : ∃ a v1 v2, v = .ref a ∧ SqT K H a [v1, v2] ∧ St W H0 ρ ((v1, e1) :: (v2, e2) :: τ) l σ H := by
  obtain ⟨N, n1, n2, n3, n4, n5, n6⟩ := S.ex
  have hv := n5 _ List.mem_cons_self
  cases hv with
  | @tup a xs _ hA hn hr =>
    cases hr with
    | cons r1 r =>
      cases r with
      | cons r2 r =>
        cases r
        refine ⟨a, _, _, rfl, .inl (.inl hA), S.inv, S.off, N, n1, n2, n3, n4, fun p hp => ?_, n6⟩
        rcases List.mem_cons.mp hp with rfl | hp
        · exact r1
        · rcases List.mem_cons.mp hp with rfl | hp
          · exact r2
          · exact n5 p (List.mem_cons_of_mem _ hp)
/-- a list of one's own is made longer by another list -/
theorem St.more {p b : Addr} {ds es : List PyData} (S : St W H0 ρ ((.ref b, .list es) :: τ) ((p, ds) :: l) σ H) : ∃ xs zs, H p = some (.lst xs) ∧ H b = some (.lst zs) ∧ xs.length = ds.length ∧ zs.length = es.length ∧ St W H0 ρ τ ((p, ds ++ es) :: l) σ (upd H p (.lst (xs ++ zs))) := by
  obtain ⟨N, n1, n2, n3, n4, n5, n6⟩ := S.ex
  obtain ⟨b1, b2, xs, b3, b4⟩ := n6.2 _ List.mem_cons_self
  have hv := n5 _ List.mem_cons_self
  cases hv with
  | @lst _ zs _ hA hn hr =>
  refine ⟨xs, zs, b3, hA, b4.len, hr.len, W.stab H _ S.inv fun a na => ?_, fun a o e n => ?_, N, n1, n2, fun a h => ?_, ⟨n4.1, fun i s h => ?_⟩, fun q hq => (n5 q (List.mem_cons_of_mem _ hq)).upd b1, n6.1, fun q hq => ?_⟩
  · rw [upd_ne (fun z => by rw [z] at na; exact b2 na)]
  · rw [upd_ne (fun z => ?_)]
    · exact S.off a o e n
    · have := n2 p b1 b2
      rw [z, this] at e; cases e
  · by_cases z : a = p
    · rw [z, upd_same]; simp
    · rw [upd_ne z]; exact n3 a h
  · obtain ⟨o, h1, h2⟩ := n4.2 i s h
    refine ⟨o, h1, ?_⟩
    cases s with
    | dat e => obtain ⟨v, q1, q2⟩ := h2; exact ⟨v, q1, q2.upd b1⟩
    | raw v => exact h2
  · rcases List.mem_cons.mp hq with rfl | hq
    · exact ⟨b1, b2, _, upd_same, (b4.app hr).upd b1⟩
    · obtain ⟨a1, a2, ys, a3, a4⟩ := n6.2 q (List.mem_cons_of_mem _ hq)
      have nd := n6.1
      rw [List.map_cons, List.nodup_cons] at nd
      have hne : q.1 ≠ p := fun z => nd.1 (List.mem_map.mpr ⟨q, hq, z⟩)
      exact ⟨a1, a2, ys, by rw [upd_ne hne]; exact a3, a4.upd b1⟩
theorem St.loc {p : Addr} {ds : List PyData} (S : St W H0 ρ τ ((p, ds) :: l) σ H) : ∃ xs, H p = some (.lst xs) ∧ xs.length = ds.length := by
  obtain ⟨N, n1, n2, n3, n4, n5, n6⟩ := S.ex
  obtain ⟨b1, b2, xs, b3, b4⟩ := n6.2 _ List.mem_cons_self
  exact ⟨xs, b3, b4.len⟩
/-- for x in a list of data -/
theorem for_dataL {v : V} {ds : List PyData} {i : Nat} {tb : TS} {D : Ends} (S : St W H0 ρ ((v, .list ds) :: τ) l σ H) (J : Nat → List (Option Sl) → List (Addr × List PyData) → Prop) (hJ : J 0 ρ l)
    (hs : ∀ (G : Hp) (j : Nat) (d : PyData) (ρ' : List (Option Sl)) (l' : List (Addr × List PyData)) (σ' : L2.St) (H' : Hp), (∀ b o, H0 b = some o → ¬ W.N b → G b = some o) → (∀ b, G b = none → H0 b = none) → ds[j]? = some d → J j ρ' l' → St W G (ρ'.set i (some (.dat d))) ((v, .list ds) :: τ) l' σ' H' →
      ∀ Nx : L2.St → Hp → Prop, (∀ ρ2 l2 σ2 H2, J (j + 1) ρ2 l2 → St W G ρ2 ((v, .list ds) :: τ) l2 σ2 H2 → Nx σ2 H2) → tb { D with nx := Nx, ct := Nx, bk := D.nx } σ' H')
    (hd : ∀ ρ' l' σ' H', J ds.length ρ' l' → St W H0 ρ' ((v, .list ds) :: τ) l' σ' H' → D.nx σ' H') :
    ∃ a, v = .ref a ∧ (∃ xs, SqL K H a xs) ∧ ∃ Wx : Nat → Nat → L2.St → Hp → Prop, (∃ m, Wx 0 m σ H) ∧ ∀ i' m σ H, Wx i' m σ H → ((Itl K a).stop i' H ∧ D.nx σ H) ∨
      ((Itl K a).go i' H ∧ ∃ N : L2.St → Hp → Prop, (∀ σ' H', N σ' H' → ∃ m', m' < m ∧ Wx (i' + 1) m' σ' H') ∧ ∀ x H', (Itl K a).yld i' H x H' → gName i x σ H' fun σ2 H2 => tb { D with nx := N, ct := N, bk := D.nx } σ2 H2) := by
  obtain ⟨a, xs, rfl, hA, hlen, hna, u1, u2, B⟩ := S.baseL
  have keep : ∀ {τ' l' σ' H' ρ'}, St W (upd H0 a (.lst xs)) ρ' τ' l' σ' H' → H' a = some (.lst xs) := fun S => S.off a _ upd_same hna
  refine ⟨a, rfl, ⟨xs, .inl (.inl hA)⟩, for_list (K := K) (a := a) (xs := xs) (fun j σ' H' => ∃ ρ' l', J j ρ' l' ∧ St W (upd H0 a (.lst xs)) ρ' ((.ref a, .list ds) :: τ) l' σ' H') ⟨ρ, l, hJ, B⟩ (fun j σ' H' _ h => ?_) (fun j x σ' H' hx h => ?_) (fun σ' H' h => ?_)⟩
  · obtain ⟨ρ', l', _, S2⟩ := h
    exact .inl (.inl (keep S2))
  · obtain ⟨ρ', l', hj, S2⟩ := h
    have hAk := keep S2
    obtain ⟨d, hd', S3⟩ := S2.item (xs := xs) (ds := ds) (fun N r => by
      cases r with
      | lst q1 q2 q3 => rw [hAk] at q1; cases q1; exact q3) hx
    exact hs _ j d ρ' l' _ H' u1 u2 hd' hj S3.set _ fun ρ2 l2 σ2 H2 h1 h2 => ⟨ρ2, l2, h1, h2⟩
  · obtain ⟨ρ', l', hj, S2⟩ := h
    rw [hlen] at hj
    exact hd ρ' l' σ' H' hj (S2.unbase u1 u2)
end
/-- the law's own state, once its deck is made -/
theorem St.deck0 {d g l : Addr} {H : Hp} {ρ : List (Option Sl)} {σ : L2.St} (D : Deck H d g l) (hl : ρ.length = σ.length) (h : ∀ (i : Nat) (s : Sl), ρ[i]? = some (some s) → ∃ v, s = .raw v ∧ σ[i]? = some (some v)) :
    St (WD d g l (fun a => a = d ∨ a = g ∨ a = l) H) H ρ [] [] σ H := by
  have ok : NOk (fun a => a = d ∨ a = g ∨ a = l) H := fun a n => Deck.tr D a n
  refine ⟨⟨ok, .inl rfl, .inr (.inl rfl), .inr (.inr rfl), D, fun _ _ _ _ _ => rfl⟩, fun _ _ e _ => e, _, fun _ h => h, fun _ h n => absurd h n, ok, ⟨hl, fun i s e => ?_⟩, (fun _ h => nomatch h), List.nodup_nil, fun _ h => nomatch h⟩
  obtain ⟨v, rfl, hv⟩ := h i s e
  exact ⟨_, hv, rfl⟩
theorem fit_nat2 {i : Int} (h : 0 ≤ i) (h2 : i < 10 ^ 60) : Fit 60 0 (.int i) := by
  refine ⟨?_, ?_, Nat.le_refl _⟩
  · rw [PyData.showable]
    refine decide_eq_true ?_
    by_cases h0 : i.natAbs = 0
    · rw [h0]; decide
    · exact Nat.lt_of_lt_of_le ((Nat.log2_lt h0).mpr (show i.natAbs < 2 ^ 200 by
        have : (10 : Int) ^ 60 < 2 ^ 200 := by decide
        omega)) (by decide)
  · show (numS i).length ≤ 60
    rw [← cs_len, cs_num h]
    unfold digs
    rw [List.length_map]
    exact digits10_le (by decide) (by
      have : ((i.toNat : Nat) : Int) = i := Int.toNat_of_nonneg h
      omega)
section
variable {W : Wd} {H0 : Hp} {ρ : List (Option Sl)} {te ta tb : TE} {P : PyData → Prop}
/-- repr of what is good to be shown -/
theorem ev_repr {n k : Nat} {e : PyData} (h : EvP W H0 te ρ (· = e)) (g : Gd n k e) (hn : n ≤ 1000000) (hk : k < 60) : EvP W H0 (tCB rReprD (tCons te tNil)) ρ (· = .str e.shown) :=
  ev_cb' (eva_one h) (cad_repr g.1 g.2.sh (Nat.lt_of_le_of_lt g.2.dp hk) (Nat.le_trans g.2.len (Nat.le_trans hn (by decide))))
end
theorem d_forL {K : PySem.W.Frag} {te : TE} {i : Nat} {tb : TS} {D : Ends} {σ : L2.St} {H : Hp} (h : te σ H fun v H => ∃ a, v = .ref a ∧ (∃ xs, SqL K H a xs) ∧ ∃ Wx : Nat → Nat → L2.St → Hp → Prop, (∃ m, Wx 0 m σ H) ∧ ∀ i' m σ H, Wx i' m σ H → ((Itl K a).stop i' H ∧ D.nx σ H) ∨
      ((Itl K a).go i' H ∧ ∃ N : L2.St → Hp → Prop, (∀ σ' H', N σ' H' → ∃ m', m' < m ∧ Wx (i' + 1) m' σ' H') ∧ ∀ x H', (Itl K a).yld i' H x H' → gName i x σ H' fun σ2 H2 => tb { D with nx := N, ct := N, bk := D.nx } σ2 H2)) :
    tFor (iList K te) (gName i) tb D σ H := h
theorem g_name {i : Nat} {v : V} {σ : L2.St} {H : Hp} {Q : L2.St → Hp → Prop} (h : Q (σ.set i (some v)) H) : gName i v σ H Q := h
abbrev WL (d g l : Addr) (H : Hp) : Wd := WD d g l (fun a => a = d ∨ a = g ∨ a = l) H
theorem St.nil {W : Wd} {H0 H : Hp} {ρ : List (Option Sl)} {τ : List (V × PyData)} {l : List (Addr × List PyData)} {σ : L2.St} (S : St W H0 ρ τ l σ H) : St W H0 ρ [] l σ H := S.mono fun _ h => nomatch h
section
variable {W : Wd} {H0 : Hp} {ρ : List (Option Sl)} {te ta tb : TE} {P : PyData → Prop} {K : PySem.W.Frag} {tt : TT}
/-- [e for x in xs if t], where no item passes the test -/
theorem ev_lc0 {i : Nat} {Qd : List PyData → Prop} (hi : ρ[i]? = some none) (ha : EvP W H0 ta ρ (fun e => ∃ ds, e = .list ds ∧ Qd ds)) (ht : ∀ G ds dd, Qd ds → dd ∈ ds → EvT W G tt (ρ.set i (some (.dat dd))) (· = false)) :
    EvP W H0 (tLc (iList K ta) (gName i) tt te [i]) ρ (· = .list []) := fun τ l σ H S Q k =>
  ha τ l σ H S _ fun v e H1 S1 p => by
    obtain ⟨ds, rfl, hq⟩ := p
    obtain ⟨a, xs, rfl, hA, hlen, hna, u1, u2, B⟩ := S1.baseL
    refine ⟨a, rfl, ⟨xs, .inl (.inl hA)⟩, fun D hD => ?_⟩
    have keep : ∀ {τ' l' σ' H'}, St W (upd H0 a (.lst xs)) ρ τ' l' σ' H' → H' a = some (.lst xs) := fun S => S.off a _ upd_same hna
    refine lc_list (K := K) (a := a) (xs := xs) (fun j H' => St W (upd H0 a (.lst xs)) ρ ((.ref a, .list ds) :: τ) ((D, []) :: l) σ H') (B.newL hD) (fun j H' _ S2 => .inl (.inl (keep S2))) (fun j x H' hx S2 => ?_) (fun H' S2 => ?_)
    · have hAk := keep S2
      obtain ⟨d, hd, S3⟩ := S2.item (xs := xs) (ds := ds) (fun N r => by
        cases r with
        | lst q1 q2 q3 => rw [hAk] at q1; cases q1; exact q3) hx
      have S4 := (S3.wipe [i]).set (i := i)
      have e1 : (wipeR ρ [i]).set i (some (Sl.dat d)) = ρ.set i (some (.dat d)) := by
        show (ρ.set i none).set i _ = _
        rw [List.set_set]
      rw [e1] at S4
      refine ⟨wipe_id, ht _ ds d hq (List.mem_of_getElem? hd) _ _ _ H' S4 _ fun b H4 S5 pb => ?_⟩
      subst pb
      refine (if_neg Bool.false_ne_true).mpr ?_
      exact S5.re hi (fun j hj => wipe_set_ne hj) S.len
    · exact k _ _ H' (((S2.unbase u1 u2).frz).mono fun p hp => by
        rcases List.mem_cons.mp hp with rfl | hp
        · exact List.mem_cons_self
        · exact List.mem_cons_of_mem _ (List.mem_cons_of_mem _ hp)) rfl
end
theorem d_asgG {te : TE} {g : TG} {ts : TS} {D : Ends} {σ : L2.St} {H : Hp} (h : te σ H fun x H1 => g x σ H1 (ts D)) : tSeq (tAsg te g) ts D σ H := h
theorem d_ifl {tt : TT} {t u : TS} {D : Ends} {σ : L2.St} {H : Hp} (h : tt σ H fun b H1 => if b = true then t D σ H1 else u D σ H1) : tIfS tt t u D σ H := h
end DL
set_option Elab.async false
set_option linter.all false
set_option maxRecDepth 100000
namespace K03
open PySem PySem.Spec PyProof.Rows L2 Evl TB
def topS (i : Nat) : Stmt := PySem.Challenge.pw_twobricks_k03_cells_and_volumes.main.body.getD i (.Pass ⟨0, 0, 0, 0⟩)
abbrev s_is_int : Stmt := topS 1
abbrev n_is_int : List Str := ["value"]
abbrev p_is_int : List Str := ["value"]
theorem sc_is_int : FnScope n_is_int p_is_int (defScope s_is_int) := ⟨rfl, rfl, rfl, by decide +kernel, rfl, by decide +kernel, by decide +kernel⟩

abbrev s_is_index : Stmt := topS 2
abbrev n_is_index : List Str := ["value", "many"]
abbrev p_is_index : List Str := ["value", "many"]
theorem sc_is_index : FnScope n_is_index p_is_index (defScope s_is_index) := ⟨rfl, rfl, rfl, by decide +kernel, rfl, by decide +kernel, by decide +kernel⟩
abbrev s_is_cell : Stmt := topS 3
abbrev n_is_cell : List Str := ["box", "value", "number", "side"]
abbrev p_is_cell : List Str := ["box", "value"]
theorem sc_is_cell : FnScope n_is_cell p_is_cell (defScope s_is_cell) := ⟨rfl, rfl, rfl, by decide +kernel, rfl, by decide +kernel, by decide +kernel⟩

abbrev s_volume : Stmt := topS 4
abbrev n_volume : List Str := ["sides", "cells", "side"]
abbrev p_volume : List Str := ["sides"]
theorem sc_volume : FnScope n_volume p_volume (defScope s_volume) := ⟨rfl, rfl, rfl, by decide +kernel, rfl, by decide +kernel, by decide +kernel⟩

abbrev s__law_deck : Stmt := topS 6
abbrev n__law_deck : List Str := ["_law_script", "_law_cells_here", "_law_cell"]
abbrev p__law_deck : List Str := ["_law_script"]
theorem sc__law_deck : FnScope n__law_deck p__law_deck (defScope s__law_deck) := ⟨rfl, rfl, rfl, by decide +kernel, rfl, by decide +kernel, by decide +kernel⟩

abbrev s__law_draw : Stmt := topS 7
abbrev n__law_draw : List Str := ["_law_deck_here", "_law_many", "_law_rest", "_law_cell", "_law_mixed"]
abbrev p__law_draw : List Str := ["_law_deck_here", "_law_many"]
theorem sc__law_draw : FnScope n__law_draw p__law_draw (defScope s__law_draw) := ⟨rfl, rfl, rfl, by decide +kernel, rfl, by decide +kernel, by decide +kernel⟩

abbrev s__law_one : Stmt := topS 8
abbrev n__law_one : List Str := ["_law_deck_here", "_law_items"]
abbrev p__law_one : List Str := ["_law_deck_here", "_law_items"]
theorem sc__law_one : FnScope n__law_one p__law_one (defScope s__law_one) := ⟨rfl, rfl, rfl, by decide +kernel, rfl, by decide +kernel, by decide +kernel⟩

abbrev s__law_volume : Stmt := topS 9
abbrev n__law_volume : List Str := ["_law_sides_here", "_law_found", "_law_side"]
abbrev p__law_volume : List Str := ["_law_sides_here"]
theorem sc__law_volume : FnScope n__law_volume p__law_volume (defScope s__law_volume) := ⟨rfl, rfl, rfl, by decide +kernel, rfl, by decide +kernel, by decide +kernel⟩

abbrev s__law_odd : Stmt := topS 10
abbrev n__law_odd : List Str := ["_law_deck_here", "_law_some"]
abbrev p__law_odd : List Str := ["_law_deck_here"]
theorem sc__law_odd : FnScope n__law_odd p__law_odd (defScope s__law_odd) := ⟨rfl, rfl, rfl, by decide +kernel, rfl, by decide +kernel, by decide +kernel⟩

abbrev s__law_bent : Stmt := topS 11
abbrev n__law_bent : List Str := ["_law_deck_here", "_law_value", "_law_deep", "_law_at", "_law_near", "_law_some"]
abbrev p__law_bent : List Str := ["_law_deck_here", "_law_value", "_law_deep"]
theorem sc__law_bent : FnScope n__law_bent p__law_bent (defScope s__law_bent) := ⟨rfl, rfl, rfl, by decide +kernel, rfl, by decide +kernel, by decide +kernel⟩

abbrev s__law_whole : Stmt := topS 12
abbrev n__law_whole : List Str := ["_law_value", "_law_least", "_law_most"]
abbrev p__law_whole : List Str := ["_law_value", "_law_least", "_law_most"]
theorem sc__law_whole : FnScope n__law_whole p__law_whole (defScope s__law_whole) := ⟨rfl, rfl, rfl, by decide +kernel, rfl, by decide +kernel, by decide +kernel⟩

abbrev s__law_sides : Stmt := topS 13
abbrev n__law_sides : List Str := ["_law_deck_here", "_law_axes", "_law_most", "_law_axis"]
abbrev p__law_sides : List Str := ["_law_deck_here", "_law_axes", "_law_most"]
theorem sc__law_sides : FnScope n__law_sides p__law_sides (defScope s__law_sides) := ⟨rfl, rfl, rfl, by decide +kernel, rfl, by decide +kernel, by decide +kernel⟩

abbrev s__law_cells : Stmt := topS 14
abbrev n__law_cells : List Str := ["_law_sides_here", "_law_found", "_law_side", "_law_longer", "_law_cell", "_law_k"]
abbrev p__law_cells : List Str := ["_law_sides_here"]
theorem sc__law_cells : FnScope n__law_cells p__law_cells (defScope s__law_cells) := ⟨rfl, rfl, rfl, by decide +kernel, rfl, by decide +kernel, by decide +kernel⟩

abbrev s__law_far : Stmt := topS 15
abbrev n__law_far : List Str := ["_law_deck_here"]
abbrev p__law_far : List Str := ["_law_deck_here"]
theorem sc__law_far : FnScope n__law_far p__law_far (defScope s__law_far) := ⟨rfl, rfl, rfl, by decide +kernel, rfl, by decide +kernel, by decide +kernel⟩

abbrev s__law_wide : Stmt := topS 16
abbrev n__law_wide : List Str := ["_law_deck_here", "_law_axes", "_law_axis"]
abbrev p__law_wide : List Str := ["_law_deck_here", "_law_axes"]
theorem sc__law_wide : FnScope n__law_wide p__law_wide (defScope s__law_wide) := ⟨rfl, rfl, rfl, by decide +kernel, rfl, by decide +kernel, by decide +kernel⟩

abbrev s__law_with : Stmt := topS 17
abbrev n__law_with : List Str := ["_law_sides_here", "_law_axis", "_law_side"]
abbrev p__law_with : List Str := ["_law_sides_here", "_law_axis", "_law_side"]
theorem sc__law_with : FnScope n__law_with p__law_with (defScope s__law_with) := ⟨rfl, rfl, rfl, by decide +kernel, rfl, by decide +kernel, by decide +kernel⟩

abbrev s__law_is_cell : Stmt := topS 18
abbrev n__law_is_cell : List Str := ["_law_box", "_law_value", "_law_k"]
abbrev p__law_is_cell : List Str := ["_law_box", "_law_value"]
theorem sc__law_is_cell : FnScope n__law_is_cell p__law_is_cell (defScope s__law_is_cell) := ⟨rfl, rfl, rfl, by decide +kernel, rfl, by decide +kernel, by decide +kernel⟩

abbrev s_law : Stmt := topS 19
abbrev n_law : List Str := ["_law_script", "_law_deck_here", "_law_turn", "_law_box", "_law_cell", "_law_at", "_law_some", "_law_value", "_law_shown", "_law_side", "_law_k"]
abbrev p_law : List Str := ["_law_script"]
theorem sc_law : FnScope n_law p_law (defScope s_law) := ⟨rfl, rfl, rfl, by decide +kernel, rfl, by decide +kernel, by decide +kernel⟩

structure Txt (mg : Str → Option Value) : Prop where
  n_abs : mg "abs" = none
  n_bool : mg "bool" = none
  n_int : mg "int" = none
  n_isinstance : mg "isinstance" = none
  n_len : mg "len" = none
  n_list : mg "list" = none
  n_range : mg "range" = none
  n_repr : mg "repr" = none
  n_str : mg "str" = none
  n_tuple : mg "tuple" = none
  n_zip : mg "zip" = none
section
variable {P : Program} {w : World} {K : PySem.W.Frag} {mg : Str → Option Value} {base : Heap}
/-! ### the deck -/
theorem shaped_ints (ns : List Int) : SeqAt.shaped (.list (ns.map PyData.int)) = true := by
  have h1 : PyData.canLayAll0 (ns.map PyData.int) = true := by
    induction ns with
    | nil => rfl
    | cons n ns ih => rw [List.map_cons, PyData.canLayAll0, ih]; rfl
  have h2 : PyData.depthAll (ns.map PyData.int) = 0 := by
    induction ns with
    | nil => rfl
    | cons n ns ih => rw [List.map_cons, PyData.depthAll, ih (by rw [List.map_cons, PyData.canLayAll0] at h1; exact (Bool.and_eq_true_iff.mp h1).2)]; rfl
  unfold SeqAt.shaped
  rw [PyData.canLay0, h1, PyData.depth, h2]; rfl
theorem dpAll_ints {K : PySem.W.Frag} {H : Hp} (ns : List Int) : DpAll K H (ns.map V.int) (ns.map PyData.int) := by
  induction ns with
  | nil => exact .nil
  | cons n ns ih => exact .cons (.int n) ih
theorem eqv_nil (ns : List Int) : PyData.eqv (.list (ns.map PyData.int)) (.list []) = ns.isEmpty := by
  cases ns <;> rfl
theorem ok__law_draw (T : Txt mg) {f : Addr} {fd : FuncData} (F : Fun K "_law_draw" "_law_draw" s__law_draw f fd) : FnOk P w K mg base CX0 1 f fd p__law_draw spDraw := by
  refine F.ok sc__law_draw (fun vs H Q E h => ?_) (fun cdv A outer s H vs Q E hr h => ?_)
  · obtain ⟨d, g, l, m, rfl, _⟩ := h
    rfl
  obtain ⟨d, g, l, m, rfl, m0, m1, ⟨gs, ls, c, hd, hg, hl, dg, dl, gl, lpos⟩, k⟩ := h
  refine ⟨_, (pss_cons (ps_if (pt_cmpR (op_neD hr.units) (pe_ix ix_list (pv 0) pe_int (fun _ _ => rfl)) (pe_lst pa_nil) (nomark _))
 (pss_cons (ps_set (i := 2) sc__law_draw.nd rfl (.inl rfl) (pe_ix ix_list (pe_ix ix_list (pv 0) pe_int (fun _ _ => rfl)) pe_int (fun _ _ => rfl)))
 (pss_cons (ps_asg (pe_op op_fdivW (pv 2) (pv 1)) (pg_sub (pe_ix ix_list (pv 0) pe_int (fun _ _ => rfl)) pe_int set_list))
 (pss_cons (ps_if (pt_cmpR op_eq (pe_ix ix_list (pe_ix ix_list (pv 0) pe_int (fun _ _ => rfl)) pe_int (fun _ _ => rfl)) pe_int (nomark _))
 (pss_one (ps_expr (pe_bm PySem.F.plainAttrs_list PySem.F.slot_list_pop PySem.F.type_list_pop mt_popAt (pe_ix ix_list (pv 0) pe_int (fun _ _ => rfl)) (pa_cons pe_int pa_nil)))) pss_nil)
 (pss_one (ps_ret (pe_op op_modN (pe_callTy call_int1 (by rfl) T.n_int (by decide +kernel) (pa_cons (pv 2) pa_nil)) (pv 1))))))) pss_nil)
 (pss_cons (ps_asg (pe_op op_add (pe_ix ix_list (pv 0) pe_int (fun _ _ => rfl)) pe_int) (pg_sub (pv 0) pe_int set_list))
 (pss_cons (ps_set (i := 3) sc__law_draw.nd rfl (.inl rfl) (pe_ix ix_list (pe_ix ix_list (pv 0) pe_int (fun _ _ => rfl)) (pe_op op_modN (pe_callTy call_int1 (by rfl) T.n_int (by decide +kernel) (pa_cons (pe_ix ix_list (pv 0) pe_int (fun _ _ => rfl)) pa_nil)) (pe_callB call_len_seq (by rfl) T.n_len (by decide +kernel) (pa_cons (pe_ix ix_list (pv 0) pe_int (fun _ _ => rfl)) pa_nil))) (fun _ _ => rfl)))
 (pss_cons (ps_set (i := 4) sc__law_draw.nd rfl (.inl rfl) (pe_op op_modN (pe_callTy call_int1 (by rfl) T.n_int (by decide +kernel) (pa_cons (pe_op op_add (pe_op op_modN (pe_callTy call_int1 (by rfl) T.n_int (by decide +kernel) (pa_cons (pv 3) pa_nil)) pe_int) (pe_op op_mul pe_int (pe_ix ix_list (pv 0) pe_int (fun _ _ => rfl)))) pa_nil)) pe_int))
 (pss_cons (ps_set (i := 4) sc__law_draw.nd rfl (.inl rfl) (pe_op op_modN (pe_callTy call_int1 (by rfl) T.n_int (by decide +kernel) (pa_cons (pe_op op_add (pe_op op_mul (pv 4) (pv 4)) (pe_op op_mul pe_int (pe_ix ix_list (pv 0) pe_int (fun _ _ => rfl)))) pa_nil)) pe_int))
 (pss_one (ps_ret (pe_op op_modN (pe_op op_fdivW (pe_op op_modN (pe_callTy call_int1 (by rfl) T.n_int (by decide +kernel) (pa_cons (pe_op op_mul (pv 4) (pv 4)) pa_nil)) pe_int) pe_int) (pv 1))))))))), ?_⟩
  refine ⟨_, rfl, d, _, _, _, rfl, rfl, .inl (.inl hd), rfl, Nat.zero_le _, fun p hp => ?_⟩
  have e0 : Ex H (upd H p (.lst [])) := Ex.new hp
  refine ⟨.list (gs.map PyData.int), .list [], .lst (.inl (.inl (e0 _ _ hg))) (dpAll_ints gs), .lst (.inl (.inl upd_same)) .nil, shaped_ints gs, shaped_ints [], _, rfl, ?_⟩
  rw [eqv_nil]
  generalize hH : upd H p (.lst []) = H1 at e0 ⊢
  have hd1 := e0 _ _ hd
  have hg1 := e0 _ _ hg
  have hl1 := e0 _ _ hl
  have off1 : Off d g H H1 := Off.of e0
  have big : (m.natAbs.log2 < 9000) := by
    have : m.natAbs ≤ 1000000000000 := by omega
    exact Nat.lt_of_le_of_lt (Nat.log2_le_self m.natAbs |> fun _ => (Nat.log2_lt (by omega)).mpr (show m.natAbs < 2 ^ 41 by omega) |> Nat.le_of_lt) (by decide)
  cases gs with
  | cons a gr =>
    refine (if_pos rfl).mpr ?_
    -- rest = deck[0][0]; deck[0][0] = rest // many
    refine ⟨_, rfl, d, _, _, _, rfl, rfl, .inl (.inl hd1), rfl, g, _, _, _, rfl, rfl, .inl (.inl hg1), atI_nat (j := 0) rfl, ?_⟩
    refine ⟨_, rfl, _, rfl, _, _, rfl, rfl, ⟨m0, big⟩, _, rfl, d, _, _, _, rfl, rfl, .inl (.inl hd1), rfl, g, _, _, 0, rfl, rfl, hg1, ixN_zero (by simp), ?_⟩
    generalize hH2 : upd H1 g _ = H2
    have hg2 : H2 g = some (.lst ((a / m :: gr).map V.int)) := by rw [← hH2, upd_same]; rfl
    have hd2 : H2 d = some (.lst [.ref g, .ref l, .int c]) := by rw [← hH2, upd_ne dg]; exact hd1
    have hl2 : H2 l = some (.lst (ls.map V.int)) := by rw [← hH2, upd_ne gl.symm]; exact hl1
    have off2 : Off d g H H2 := off1.trans fun b o e _ n => by rw [← hH2, upd_ne n]; exact e
    -- if deck[0][0] == 0: deck[0].pop(0)
    refine ⟨_, rfl, d, _, _, _, rfl, rfl, .inl (.inl hd2), rfl, g, _, _, _, rfl, rfl, .inl (.inl hg2), atI_nat (j := 0) rfl, rfl, _, rfl, ite2 (fun _ => ?_) (fun _ => ?_)⟩
    · refine ⟨_, rfl, d, _, _, _, rfl, rfl, .inl (.inl hd2), rfl, .inl ⟨rfl, _, .inl (.inl hg2)⟩, g, _, 0, 0, _, rfl, rfl, hg2, by decide, by decide, ?_, rfl, ?_⟩
      · exact (ixN_seq (ixN_zero (by simp))).1
      · generalize hH3 : upd H2 g _ = H3
        have hg3 : H3 g = some (.lst (gr.map V.int)) := by rw [← hH3, upd_same]; rfl
        have hd3 : H3 d = some (.lst [.ref g, .ref l, .int c]) := by rw [← hH3, upd_ne dg]; exact hd2
        have hl3 : H3 l = some (.lst (ls.map V.int)) := by rw [← hH3, upd_ne gl.symm]; exact hl2
        refine ⟨_, rfl, .inl ⟨_, rfl, _, rfl, _, _, rfl, rfl, by omega, ?_⟩⟩
        exact k _ _ (fmod_rng m0).1 (fmod_rng m0).2 ⟨gr, ls, c, hd3, hg3, hl3, dg, dl, gl, lpos⟩ (off2.trans fun b o e _ n => by rw [← hH3, upd_ne n]; exact e)
    · refine ⟨_, rfl, .inl ⟨_, rfl, _, rfl, _, _, rfl, rfl, by omega, ?_⟩⟩
      exact k _ _ (fmod_rng m0).1 (fmod_rng m0).2 ⟨_, ls, c, hd2, hg2, hl2, dg, dl, gl, lpos⟩ off2
  | nil =>
    refine (if_neg (by decide)).mpr ?_
    -- deck[2] = deck[2] + 1
    refine ⟨_, rfl, d, _, _, _, rfl, rfl, .inl (.inl hd1), rfl, _, _, rfl, rfl, _, rfl, d, _, _, 2, rfl, rfl, hd1, rfl, ?_⟩
    generalize hH2 : upd H1 d _ = H2
    have hd2 : H2 d = some (.lst [.ref g, .ref l, .int (c + 1)]) := by rw [← hH2, upd_same]; rfl
    have hg2 : H2 g = some (.lst (([] : List Int).map V.int)) := by rw [← hH2, upd_ne dg.symm]; exact hg1
    have hl2 : H2 l = some (.lst (ls.map V.int)) := by rw [← hH2, upd_ne dl.symm]; exact hl1
    have off2 : Off d g H H2 := off1.trans fun b o e n _ => by rw [← hH2, upd_ne n]; exact e
    have hD : Deck H2 d g l := ⟨[], ls, c + 1, hd2, hg2, hl2, dg, dl, gl, lpos⟩
    have lp : (0 : Int) < ((ls.map V.int).length : Int) := by rw [List.length_map]; omega
    obtain ⟨i0, i1⟩ := fmod_rng (a := c + 1) lp
    obtain ⟨j, hj⟩ : ∃ j : Nat, (c + 1).fmod ((ls.map V.int).length : Int) = (j : Int) := ⟨_, (Int.toNat_of_nonneg i0).symm⟩
    have jl : j < ls.length := by rw [hj, List.length_map] at i1; omega
    have at_ : atI (ls.map V.int) ((c + 1).fmod ((ls.map V.int).length : Int)) = some (.int ls[j]) := by
      rw [hj]
      refine atI_nat ?_
      rw [List.getElem?_map, List.getElem?_eq_getElem jl]
      rfl
    -- cell = deck[1][int(deck[2]) % len(deck[1])]
    refine ⟨_, rfl, d, _, _, _, rfl, rfl, .inl (.inl hd2), rfl, _, rfl, d, _, _, _, rfl, rfl, .inl (.inl hd2), rfl, .inl ⟨_, rfl, ?_⟩⟩
    refine ⟨_, rfl, d, _, _, _, rfl, rfl, .inl (.inl hd2), rfl, l, _, rfl, .inl (.inl (.inl hl2)), _, _, rfl, rfl, by omega, l, _, _, _, rfl, rfl, .inl (.inl hl2), at_, ?_⟩
    generalize ls[j] = cell
    -- the first mix
    refine ⟨_, rfl, .inl ⟨_, rfl, _, _, rfl, rfl, (show (4294966477 : Int) ≠ 0 by decide), _, rfl, d, _, _, _, rfl, rfl, .inl (.inl hd2), rfl, _, _, rfl, rfl, .inl ⟨by decide, by decide⟩, _, _, rfl, rfl, .inl ⟨_, rfl, _, _, rfl, rfl, (show (4294966477 : Int) ≠ 0 by decide), ?_⟩⟩⟩
    refine ⟨_, rfl, _, rfl, _, _, rfl, rfl, .inl (fmod_small (by decide) (by decide)), _, rfl, d, _, _, _, rfl, rfl, .inl (.inl hd2), rfl, _, _, rfl, rfl, .inl ⟨by decide, by decide⟩, _, _, rfl, rfl, .inl ⟨_, rfl, _, _, rfl, rfl, (show (4294966427 : Int) ≠ 0 by decide), ?_⟩⟩
    refine ⟨_, rfl, _, rfl, _, _, rfl, rfl, .inl (fmod_small (by decide) (by decide)), .inl ⟨_, rfl, _, _, rfl, rfl, (show (4294966373 : Int) ≠ 0 by decide), _, _, rfl, rfl, ⟨by decide, by decide⟩, _, rfl, _, _, rfl, rfl, by omega, ?_⟩⟩
    exact k _ _ (fmod_rng m0).1 (fmod_rng m0).2 hD off2
theorem ok__law_one (T : Txt mg) {f : Addr} {fd : FuncData} (F : Fun K "_law_one" "_law_one" s__law_one f fd) (h__law_draw : Keeps P w K mg base 1 "_law_draw" p__law_draw spDraw) : FnOk P w K mg base CX0 2 f fd p__law_one spOne := by
  refine F.ok sc__law_one (fun vs H Q E h => ?_) (fun cdv A outer s H vs Q E hr h => ?_)
  · obtain ⟨d, g, l, p, xs, rfl, _⟩ := h
    rfl
  obtain ⟨d, g, l, p, xs, rfl, D, hp, pd, pg, x0, x1, k⟩ := h
  refine ⟨_, (pss_one (ps_ret (pe_ix ix_list (pv 1) (TB.pe_own h__law_draw (hr.mono (by decide)) (by rfl) (pa_cons (pv 0) (pa_cons (pe_callB call_len_seq (by rfl) T.n_len (by decide +kernel) (pa_cons (pv 1) pa_nil)) pa_nil))) (fun _ _ => rfl)))), ?_⟩
  refine ⟨_, rfl, _, rfl, _, rfl, p, xs, rfl, .inl (.inl (.inl hp)), d, g, l, _, rfl, by omega, by omega, D, fun r H1 r0 r1 D1 o1 => ?_⟩
  obtain ⟨j, rfl⟩ : ∃ j : Nat, r = (j : Int) := ⟨_, (Int.toNat_of_nonneg r0).symm⟩
  have jl : j < xs.length := by omega
  exact ⟨p, xs, _, xs[j], rfl, rfl, .inl (.inl (o1 _ _ hp pd pg)), atI_nat (List.getElem?_eq_getElem jl), k j _ _ (List.getElem?_eq_getElem jl) D1 o1⟩
theorem cut63 {ns : List V} (h : ns.length ≤ 63) : cutV ns none (some 63) = ns := by
  unfold cutV
  rw [HT.sIx_none, show HT.sIx ns.length ns.length (some 63) = min 63 ns.length from HT.sIx_nat _ _ 63]
  rw [Nat.min_eq_right h, List.drop_zero, Nat.sub_zero, List.take_length]
def absI (n : Int) : Int := if n < 0 then -n else n
theorem ok__law_deck (T : Txt mg) {f : Addr} {fd : FuncData} (F : Fun K "_law_deck" "_law_deck" s__law_deck f fd) : FnOk P w K mg base CX0 1 f fd p__law_deck (spDeck K) := by
  refine F.ok sc__law_deck (fun vs H Q E h => ?_) (fun cdv A outer s H vs Q E hr h => ?_)
  · obtain ⟨a, ns, rfl, _⟩ := h
    rfl
  obtain ⟨a, ns, rfl, hS, hn, k⟩ := h
  refine ⟨_, (pss_cons (ps_setLc (i := 1) (own := [("_law_cell", 2)]) (g := gName 2) rfl sc__law_deck.nd rfl rfl (sw_true rfl rfl rfl (by decide +kernel)) (pi_list (pe_slice sl_list (pv 0) po_none (po_some pe_int))) (blkOk_by (N := n__law_deck) (sc := defScope s__law_deck) (by decide +kernel)) (fun _ _ _ _ _ => pg_name (i := 2) sc__law_deck.nd rfl (.inl rfl)) (fun _ _ _ _ _ => pts_nil) (fun _ _ _ _ _ => (pe_callB call_abs (by rfl) T.n_abs (by decide +kernel) (pa_cons (pv 2) pa_nil))))
 (pss_one (ps_ret (pe_lst (pa_cons (pe_lc (own := [("_law_cell", 2)]) (g := gName 2) rfl sc__law_deck.nd (pi_list (pv 1)) (blkOk_by (N := n__law_deck) (sc := defScope s__law_deck) (by decide +kernel)) (fun _ _ _ _ _ => pg_name (i := 2) sc__law_deck.nd rfl (.inl rfl)) (fun _ _ _ _ _ => (pts_one (pt_cmpR op_ge (pv 2) (pe_op op_pow pe_int pe_int) (nomark _)))) (fun _ _ _ _ _ => (pv 2))) (pa_cons (pe_op op_cat (pv 1) (pe_lst (pa_cons (pe_op op_add pe_int (pe_callB call_len_seq (by rfl) T.n_len (by decide +kernel) (pa_cons (pv 1) pa_nil))) pa_nil))) (pa_cons pe_int pa_nil))))))), ?_⟩
  refine ⟨.ref a, rfl, 63, rfl, a, _, rfl, hS, fun p hp => ⟨p, rfl, ⟨_, .inl (.inl upd_same)⟩, fun D hD => ?_⟩⟩
  rw [cut63 (by rw [List.length_map]; exact hn)] at hD ⊢
  have e1 : Ex H (upd H p (.lst (ns.map V.int))) := Ex.new hp
  have pD : p ≠ D := ne_of_none upd_same hD
  refine lc_list (K := K) (a := p) (xs := ns.map V.int) (fun i H' => Ex H H' ∧ H' p = some (.lst (ns.map V.int)) ∧ H' D = some (.lst (((ns.map absI).take i).map V.int)))
    ⟨e1.trans (Ex.new hD), by rw [upd_ne pD]; exact upd_same, upd_same⟩ (fun i H' _ h => .inl (.inl h.2.1)) (fun i x H' hx h => ?_) (fun H' h => ?_)
  · obtain ⟨e, h1, h2⟩ := h
    rw [List.getElem?_map] at hx
    obtain ⟨n, hn1, rfl⟩ := Option.map_eq_some_iff.mp hx
    have il : i < ns.length := (List.getElem?_eq_some_iff.mp hn1).1
    refine ⟨rfl, _, rfl, n, rfl, _, h2, size_small' (by rw [List.length_map, List.length_take]; omega), e.mut (fresh_back e1 hD), by rw [upd_ne pD]; exact h1, ?_⟩
    rw [upd_same, List.take_add_one, List.getElem?_map, hn1, List.map_append]
    rfl
  obtain ⟨e, h1, h2⟩ := h
  rw [List.length_map, List.take_of_length_le (by rw [List.length_map]; omega)] at h2
  generalize hms : ns.map absI = ms at h2
  have ml : ms.length ≤ 63 := by rw [← hms, List.length_map]; exact hn
  -- the list of the great ones
  refine ⟨.ref D, rfl, D, rfl, ⟨_, .inl (.inl h2)⟩, fun B hB => ?_⟩
  have DB : D ≠ B := ne_of_none h2 hB
  refine lc_list (K := K) (a := D) (xs := ms.map V.int) (fun i H2 => Ex H' H2 ∧ H2 D = some (.lst (ms.map V.int)) ∧ ∃ gs : List Int, gs.length ≤ i ∧ H2 B = some (.lst (gs.map V.int)))
    ⟨Ex.new hB, by rw [upd_ne DB]; exact h2, [], Nat.le_refl _, upd_same⟩ (fun i H2 _ h => .inl (.inl h.2.1)) (fun i x H2 hx h => ?_) (fun H2 h => ?_)
  · obtain ⟨e2, g1, gs, gl, g2⟩ := h
    rw [List.getElem?_map] at hx
    obtain ⟨n, hn1, rfl⟩ := Option.map_eq_some_iff.mp hx
    have il : i < ms.length := (List.getElem?_eq_some_iff.mp hn1).1
    refine ⟨rfl, _, rfl, _, _, rfl, rfl, ⟨by decide, by decide, by decide⟩, _, _, rfl, rfl, _, rfl, ?_⟩
    refine ite2 (fun _ => ?_) (fun _ => ?_)
    · refine ⟨_, rfl, _, g2, size_small' (by rw [List.length_map]; omega), e2.mut hB, by rw [upd_ne DB]; exact g1, gs ++ [n], by rw [List.length_append]; exact Nat.succ_le_succ gl, ?_⟩
      rw [upd_same, List.map_append]
      rfl
    · exact ⟨e2, g1, gs, by omega, g2⟩
  obtain ⟨e2, g1, gs, gl, g2⟩ := h
  rw [List.length_map] at gl
  -- cells + [11228 + len(cells)]
  refine ⟨_, rfl, _, rfl, D, _, rfl, .inl (.inl (.inl g1)), _, _, rfl, rfl, (show 1 ≤ sizeLine by decide), fun c hc => ?_⟩
  have Dc : D ≠ c := ne_of_none g1 hc
  refine ⟨D, c, _, _, rfl, rfl, by rw [upd_ne Dc]; exact g1, upd_same, size_small (by simp; omega), fun L hL => ?_⟩
  have cL : c ≠ L := ne_of_none upd_same hL
  have BD : B ≠ D := DB.symm
  have hBc : B ≠ c := ne_of_none g2 hc
  have hBL : B ≠ L := ne_of_none (by rw [upd_ne hBc]; exact g2) hL
  refine ⟨(show 3 ≤ sizeLine by decide), fun d hd => ?_⟩
  have dL : d ≠ L := fun q => by rw [q, upd_same] at hd; cases hd
  have dB : d ≠ B := fun q => by rw [q, upd_ne hBL, upd_ne hBc, g2] at hd; cases hd
  have ec := Ex.new (o := .lst [.int (11228 + ((ms.map V.int).length : Int))]) hc
  have eL := ec.trans (Ex.new (o := .lst (ms.map V.int ++ [.int (11228 + ((ms.map V.int).length : Int))])) hL)
  refine k d B L _ ((e.trans e2).trans (eL.trans (Ex.new hd))) ?_ (fresh_back e hB) ?_
  · exact fresh_back ((e.trans e2).trans eL) hd
  · refine ⟨gs, ms ++ [11228 + ((ms.map V.int).length : Int)], 0, upd_same, ?_, ?_, dB, dL, hBL, by simp⟩
    · rw [upd_ne dB.symm, upd_ne hBL, upd_ne hBc]; exact g2
    · rw [upd_ne dL.symm, upd_same, List.map_append]
      rfl
def spFar : Sp := fun vs H Q _ => ∃ (d g l : Addr), vs = [.ref d] ∧ Deck H d g l ∧ ∀ r H', 1 ≤ r → r ≤ 1000000000000 → Deck H' d g l → Off d g H H' → Q (.int r) H'
theorem ok__law_far (T : Txt mg) {f : Addr} {fd : FuncData} (F : Fun K "_law_far" "_law_far" s__law_far f fd) (h__law_draw : Keeps P w K mg base 1 "_law_draw" p__law_draw spDraw) (h__law_one : Keeps P w K mg base 2 "_law_one" p__law_one spOne) : FnOk P w K mg base CX0 3 f fd p__law_far spFar := by
  refine F.ok sc__law_far (fun vs H Q E h => ?_) (fun cdv A outer s H vs Q E hr h => ?_)
  · obtain ⟨d, g, l, rfl, _⟩ := h
    rfl
  obtain ⟨d, g, l, rfl, D, k⟩ := h
  refine ⟨_, (pss_one (ps_ret (TB.pe_own h__law_one (hr.mono (by decide)) (by rfl) (pa_cons (pv 0) (pa_cons (pe_lst (pa_cons (pe_op op_add pe_int (TB.pe_own h__law_draw (hr.mono (by decide)) (by rfl) (pa_cons (pv 0) (pa_cons pe_int pa_nil)))) (pa_cons (pe_op op_add pe_int (TB.pe_own h__law_draw (hr.mono (by decide)) (by rfl) (pa_cons (pv 0) (pa_cons (pe_op op_pow pe_int pe_int) pa_nil)))) (pa_cons (pe_op op_add pe_int (TB.pe_own h__law_draw (hr.mono (by decide)) (by rfl) (pa_cons (pv 0) (pa_cons (pe_op op_pow pe_int pe_int) pa_nil)))) (pa_cons (pe_op op_pow pe_int pe_int) pa_nil))))) pa_nil))))), ?_⟩
  refine ⟨_, rfl, _, rfl, d, g, l, _, rfl, by decide, by decide, D, fun r1 H1 a1 b1 D1 o1 => ⟨_, _, rfl, rfl, ?_⟩⟩
  refine ⟨_, rfl, _, _, rfl, rfl, ⟨by decide, by decide, by decide⟩, d, g, l, _, rfl, by decide, by decide, D1, fun r2 H2 a2 b2 D2 o2 => ⟨_, _, rfl, rfl, ?_⟩⟩
  refine ⟨_, rfl, _, _, rfl, rfl, ⟨by decide, by decide, by decide⟩, d, g, l, _, rfl, by decide, by decide, D2, fun r3 H3 a3 b3 D3 o3 => ⟨_, _, rfl, rfl, ?_⟩⟩
  refine ⟨_, _, rfl, rfl, ⟨by decide, by decide, by decide⟩, (show 4 ≤ sizeLine by decide), fun p hp => ?_⟩
  obtain ⟨pd, pg⟩ := D3.ne hp
  refine ⟨d, g, l, p, _, rfl, D3.ex (Ex.new hp), upd_same, pd, pg, (show 0 < 4 by decide), (show 4 ≤ 1000 by decide), fun i v H4 hv D4 o4 => ?_⟩
  have b2' : r2 < 1000000 := b2
  have b3' : r3 < 1000000000000 := b3
  have off : Off d g H H4 := ((o1.trans o2).trans o3).trans ((Off.of (Ex.new hp)).trans o4)
  match i, hv with
  | 0, hv => cases hv; exact k _ _ (by omega) (by omega) D4 off
  | 1, hv => cases hv; exact k _ _ (by omega) (by omega) D4 off
  | 2, hv => cases hv; exact k _ _ (by omega) (by omega) D4 off
  | 3, hv => cases hv; exact k _ _ (by decide) (by decide) D4 off
def spWide : Sp := fun vs H Q _ => ∃ (d g l : Addr) (n : Nat), vs = [.ref d, .int n] ∧ n ≤ 100 ∧ Deck H d g l ∧
  ∀ p (ns : List Int) H', ns.length = n → (∀ x ∈ ns, 1 ≤ x ∧ x ≤ 1000000000000) → H p = none → H' p = some (.tup (ns.map V.int)) → Deck H' d g l → Off d g H H' → Q (.ref p) H'
theorem ok__law_wide (T : Txt mg) {f : Addr} {fd : FuncData} (F : Fun K "_law_wide" "_law_wide" s__law_wide f fd) (h__law_far : Keeps P w K mg base 3 "_law_far" p__law_far spFar) : FnOk P w K mg base CX0 4 f fd p__law_wide spWide := by
  refine F.ok sc__law_wide (fun vs H Q E h => ?_) (fun cdv A outer s H vs Q E hr h => ?_)
  · obtain ⟨d, g, l, n, rfl, _⟩ := h
    rfl
  obtain ⟨d, g, l, n, rfl, hn, D, k⟩ := h
  refine ⟨_, (pss_one (ps_ret (pe_callTy call_tuple_of (by rfl) T.n_tuple (by decide +kernel) (pa_cons (pe_lc (own := [("_law_axis", 2)]) (g := gName 2) rfl sc__law_wide.nd (pi_range1 (by rfl) T.n_range (pa_cons (pv 1) pa_nil)) (blkOk_by (N := n__law_wide) (sc := defScope s__law_wide) (by decide +kernel)) (fun _ _ _ _ _ => pg_name (i := 2) sc__law_wide.nd rfl (.inl rfl)) (fun _ _ _ _ _ => pts_nil) (fun _ _ _ _ _ => (TB.pe_own h__law_far (hr.mono (by decide)) (by rfl) (pa_cons (pv 0) pa_nil)))) pa_nil)))), ?_⟩
  refine ⟨_, rfl, n, rfl, by omega, by omega, fun B hB => ?_⟩
  obtain ⟨Bd, Bg⟩ := D.ne hB
  have lB : l ≠ B := by
    obtain ⟨gs, ls, c, q1, q2, q3, q4⟩ := D
    exact ne_of_none q3 hB
  refine lc_range (lo := 0) (n := (n : Int).toNat) (fun i H' => Deck H' d g l ∧ Off d g H H' ∧ ∃ ns : List Int, ns.length = i ∧ (∀ x ∈ ns, 1 ≤ x ∧ x ≤ 1000000000000) ∧ H' B = some (.lst (ns.map V.int)))
    ⟨D.ex (Ex.new hB), Off.of (Ex.new hB), [], rfl, (fun x h => nomatch h), upd_same⟩ (fun i H' hi h => ?_) (fun H' h => ?_)
  · obtain ⟨D1, o1, ns, hl, hx, h1⟩ := h
    refine ⟨rfl, _, rfl, d, g, l, rfl, D1, fun r H2 r1 r2 D2 o2 => ?_⟩
    have h2 := o2 _ _ h1 Bd Bg
    refine ⟨_, h2, size_small' (by rw [List.length_map]; omega), ?_, ?_, ns ++ [r], by rw [List.length_append]; simp [hl], ?_, ?_⟩
    · obtain ⟨gs, ls, c, q1, q2, q3, q4⟩ := D2
      exact ⟨gs, ls, c, by rw [upd_ne Bd.symm]; exact q1, by rw [upd_ne Bg.symm]; exact q2, by rw [upd_ne lB]; exact q3, q4⟩
    · intro b o e n1 n2
      rw [upd_ne (fun q => by rw [q, hB] at e; cases e)]
      exact o2 _ _ (o1 _ _ e n1 n2) n1 n2
    · intro x hx'
      rcases List.mem_append.mp hx' with q | q
      · exact hx x q
      · rw [List.mem_singleton.mp q]; exact ⟨r1, r2⟩
    · rw [upd_same, List.map_append]
      rfl
  obtain ⟨D1, o1, ns, hl, hx, h1⟩ := h
  refine ⟨B, _, rfl, .inl ⟨.inl (.inl h1), fun p hp => ?_⟩⟩
  refine k p ns _ (by omega) hx ?_ upd_same (D1.ex (Ex.new hp)) (o1.trans (Off.of (Ex.new hp)))
  cases q : H p with
  | none => rfl
  | some o =>
    by_cases pd : p = d
    · obtain ⟨gs, ls, c, q1, _⟩ := D1
      rw [pd, q1] at hp; cases hp
    · by_cases pg : p = g
      · obtain ⟨gs, ls, c, q1, q2, _⟩ := D1
        rw [pg, q2] at hp; cases hp
      · rw [o1 _ _ q pd pg] at hp; cases hp
end
end K03
set_option Elab.async false
set_option linter.all false
set_option maxRecDepth 100000
namespace K03
open PySem PySem.Spec PyProof.Rows L2 Evl TB DL
section
variable {P : Program} {w : World} {K : PySem.W.Frag} {mg : Str → Option Value} {base : Heap}
/-! ### ints, cells -/
def isI : PyData → Bool
  | .int _ => true
  | _ => false
theorem isI_eq (e : PyData) : (isA "int" e && !isA "bool" e) = isI e := by cases e <;> rfl
def rng (a b : Int) : PyData → Bool
  | .int i => decide (a ≤ i) && decide (i ≤ b)
  | _ => false
def inB (n : Int) : PyData → Bool
  | .int i => decide (0 ≤ i) && decide (i < n)
  | _ => false
theorem rng_inB (n : Int) (d : PyData) : rng 0 (n - 1) d = inB n d := by
  cases d <;> try rfl
  rename_i i
  show (decide (0 ≤ i) && decide (i ≤ n - 1)) = (decide (0 ≤ i) && decide (i < n))
  congr 1
  rw [decide_eq_decide]
  omega
def cellD (ns : List Int) : PyData → Bool
  | .tuple ds => ds.length == ns.length && (List.range ns.length).all fun k => inB (ns.getD k 0) (ds.getD k .none)
  | _ => false
def intA (es : List PyData) : Prop := ∃ e, es = [e]
def intF (es : List PyData) (r : PyData) : Prop := ∃ e, es = [e] ∧ r = .bool (isI e)
theorem ok_is_int (T : Txt mg) {f : Addr} {fd : FuncData} (F : Fun K "is_int" "is_int" s_is_int f fd) : FnOk P w K mg base CX0 1 f fd p_is_int (SpF intA intF) := by
  refine F.ok sc_is_int (fun vs H Q E h => ?_) (fun cdv A outer s H vs Q E hr h => ?_)
  · obtain ⟨N, es, _, r, ⟨e, rfl⟩, _⟩ := h
    rw [r.len]; rfl
  obtain ⟨N, es, ok, r, ⟨e, rfl⟩, q⟩ := h
  refine ⟨_, (pss_one (ps_ret (pe_and (pe_callB call_isi (by rfl) T.n_isinstance (by decide +kernel) (pa_cons (pv 0) (pa_cons (pe_bltn (v := .ty "int") (u := .type "int") (by rfl) T.n_int (by decide +kernel) rfl) pa_nil))) (pe_one (pe_not (pe_callB call_isi (by rfl) T.n_isinstance (by decide +kernel) (pa_cons (pv 0) (pa_cons (pe_bltn (v := .ty "bool") (u := .type "bool") (by rfl) T.n_bool (by decide +kernel) rfl) pa_nil)))))))), ?_⟩
  have S := St.startF (k := 0) ok r
  have L := r.len
  match vs, L with
  | [v], _ =>
  refine (ev_and (P := (· = .bool (isI e))) (ev_isi' (ev_dat (i := 0) rfl) kit_int) (fun h => (ev_not (ev_isi' (ev_dat (i := 0) rfl) kit_bool)).imp fun x hx => ?_) fun h => ?_) [] [] _ H S _ fun v' e' H' S' p => ?_
  · rw [hx, ← isI_eq, h, Bool.true_and]
  · rw [← isI_eq, h, Bool.false_and]
  · obtain ⟨x, y⟩ := S'.endF
    exact q v' e' H' x y ⟨e, rfl, p⟩
def boxA (es : List PyData) : Prop := ∃ (ns : List Int) (e : PyData), es = [tupI ns, e] ∧ ns.length ≤ 4
def boxF (es : List PyData) (r : PyData) : Prop := ∃ (ns : List Int) (e : PyData), es = [tupI ns, e] ∧ r = .bool (cellD ns e)
theorem tupI_inj {a b : List Int} (h : tupI a = tupI b) : a = b := by
  have h' := PyData.tuple.inj h
  have : ∀ {a b : List Int}, a.map PyData.int = b.map PyData.int → a = b := by
    intro a
    induction a with
    | nil => intro b h; cases b <;> simp at h; rfl
    | cons x a ih =>
      intro b h
      cases b with
      | nil => simp at h
      | cons y b =>
        simp only [List.map_cons, List.cons.injEq, PyData.int.injEq] at h
        rw [h.1, ih h.2]
  exact this h'
theorem cell_step {ns : List Int} {ds : List PyData} {i : Nat} (hl : ds.length = ns.length) : ((List.range ns.length).all fun k => inB (ns.getD k 0) (ds.getD k .none)) = true ↔ ∀ k, k < ns.length → inB (ns.getD k 0) (ds.getD k .none) = true := by
  rw [List.all_eq_true]
  exact ⟨fun h k hk => h k (List.mem_range.mpr hk), fun h k hk => h k (List.mem_range.mp hk)⟩
def idxA (es : List PyData) : Prop := ∃ (e : PyData) (n : Int), es = [e, .int n]
def idxF (es : List PyData) (r : PyData) : Prop := ∃ (e : PyData) (n : Int), es = [e, .int n] ∧ r = .bool (inB n e)
theorem ok_is_index (T : Txt mg) {f : Addr} {fd : FuncData} (F : Fun K "is_index" "is_index" s_is_index f fd) (h_is_int : Keeps P w K mg base 1 "is_int" p_is_int (SpF intA intF)) : FnOk P w K mg base CX0 2 f fd p_is_index (SpF idxA idxF) := by
  refine F.ok sc_is_index (fun vs H Q E h => ?_) (fun cdv A outer s H vs Q E hr h => ?_)
  · obtain ⟨N, es, _, r, ⟨e, n, rfl⟩, _⟩ := h
    rw [r.len]; rfl
  obtain ⟨N, es, ok, r, ⟨e, n, rfl⟩, q⟩ := h
  refine ⟨_, (pss_one (ps_ret (pe_and (TB.pe_own h_is_int (hr.mono (by decide)) (by rfl) (pa_cons (pv 0) pa_nil)) (pe_one (pe_chain op_le op_lt pe_int (pv 0) (pv 1)))))), ?_⟩
  have L := r.len
  match vs, L with
  | [v1, v2], _ =>
  cases r with
  | cons r1 r =>
  cases r with
  | cons r2 r =>
  cases r2
  refine ⟨_, rfl, N, [e], ok, .cons r1 .nil, ⟨e, rfl⟩, fun v e' H1 x1 rg h1 => ?_⟩
  obtain ⟨e0, he0, rfl⟩ := h1
  cases he0
  cases rg
  have fin : ∀ H' b, Ex H H' → b = inB n e → Q (.bl b) H' := fun H' b x hb => q _ (.bool b) H' x (.bl b) ⟨e, n, rfl, by rw [hb]⟩
  have other : isI e = false → Q (.bl false) H1 := fun h => fin H1 false x1 (by cases e <;> first | rfl | (cases h))
  refine ⟨_, rfl, ?_⟩
  cases e with
  | int z =>
    cases r1
    refine (if_pos (show isI (PyData.int z) = true from rfl)).mpr ?_
    refine ⟨_, rfl, _, _, rfl, rfl, _, rfl, ?_⟩
    refine ite2 (fun h0 => ?_) (fun h0 => ?_)
    · refine ⟨_, rfl, _, _, rfl, rfl, ?_⟩
      refine fin H1 _ x1 ?_
      show decide (z < n) = (decide (0 ≤ z) && decide (z < n))
      rw [h0, Bool.true_and]
    · refine fin H1 _ x1 ?_
      show false = (decide (0 ≤ z) && decide (z < n))
      rw [decide_eq_false (fun q => h0 (decide_eq_true q)), Bool.false_and]
  | bool b => exact (if_neg (show ¬ isI (PyData.bool b) = true from Bool.false_ne_true)).mpr (other rfl)
  | none => exact (if_neg (show ¬ isI PyData.none = true from Bool.false_ne_true)).mpr (other rfl)
  | str b => exact (if_neg (show ¬ isI (PyData.str b) = true from Bool.false_ne_true)).mpr (other rfl)
  | list b => exact (if_neg (show ¬ isI (PyData.list b) = true from Bool.false_ne_true)).mpr (other rfl)
  | tuple b => exact (if_neg (show ¬ isI (PyData.tuple b) = true from Bool.false_ne_true)).mpr (other rfl)
  | dict b => exact (if_neg (show ¬ isI (PyData.dict b) = true from Bool.false_ne_true)).mpr (other rfl)
theorem ok_is_cell (T : Txt mg) {f : Addr} {fd : FuncData} (F : Fun K "is_cell" "is_cell" s_is_cell f fd) (h_is_index : Keeps P w K mg base 2 "is_index" p_is_index (SpF idxA idxF)) : FnOk P w K mg base CX0 3 f fd p_is_cell (SpF boxA boxF) := by
  refine F.ok sc_is_cell (fun vs H Q E h => ?_) (fun cdv A outer s H vs Q E hr h => ?_)
  · obtain ⟨N, es, _, r, ⟨ns, e, rfl, _⟩, _⟩ := h
    rw [r.len]; rfl
  obtain ⟨N, es, ok, r, ⟨ns, e, rfl, hn⟩, q⟩ := h
  refine ⟨_, (pss_cons (ps_if (PW.pt (pw_or (pt_not (pt_val (pe_callB call_isi (by rfl) T.n_isinstance (by decide +kernel) (pa_cons (pv 1) (pa_cons (pe_bltn (v := .ty "tuple") (u := .type "tuple") (by rfl) T.n_tuple (by decide +kernel) rfl) pa_nil))))) (pw_or1 (pt_cmpR op_ne (pe_callB call_len_seq (by rfl) T.n_len (by decide +kernel) (pa_cons (pv 1) pa_nil)) (pe_callB call_len_seq (by rfl) T.n_len (by decide +kernel) (pa_cons (pv 0) pa_nil)) (nomark _)))))
 (pss_one (ps_ret pe_bl)) pss_nil)
 (pss_cons (ps_for PassesOwn.never rfl (RZ.pi_zipA (by rfl) T.n_zip (pa_cons (pv 1) (pa_cons (pv 0) pa_nil))) (pg_tup rfl (pgs_cons (pg_name (i := 2) sc_is_cell.nd rfl (.inl rfl)) (pgs_cons (pg_name (i := 3) sc_is_cell.nd rfl (.inl rfl)) pgs_nil)))
 (pss_one (ps_if (pt_not (pt_val (TB.pe_own h_is_index (hr.mono (by decide)) (by rfl) (pa_cons (pv 2) (pa_cons (pv 3) pa_nil)))))
 (pss_one (ps_ret pe_bl)) pss_nil)))
 (pss_one (ps_ret pe_bl)))), ?_⟩
  have S := St.startF (k := 2) ok r
  have L := r.len
  match vs, L with
  | [vb, vv], _ =>
  cases r with
  | cons rb r =>
  cases r with
  | cons rv r =>
  have fin : ∀ H', Ex H H' → ∀ b : Bool, b = cellD ns e → Q (.bl b) H' := fun H' x b hb => q _ (.bool b) H' x (.bl b) ⟨ns, e, rfl, by rw [hb]⟩
  -- if not isinstance(value, tuple) or len(value) != len(box): return False
  have t1 : EvT (WF N H) H (tNot (tB (tCB (rIsi K) (tCons (tVar 1) (tCons (tC (.ty "tuple")) tNil))))) (slotsOf [tupI ns, e] 2) (· = !isA "tuple" e) := et_not (et_b (ev_isi' (ev_dat rfl) kit_tuple))
  refine (et_or (b := !decide (((match e with | .tuple ds => ds.length | _ => 0 : Nat) : Int) = ns.length)) t1 fun ht => et_of ?_) [] [] _ H S _ fun b H1 S1 hb => ?_
  · cases e with
    | tuple ds =>
      refine ev_op' (ev_cb' (eva_one (ev_dat rfl)) cad_len) (ev_cb' (eva_one (ev_dat rfl)) cad_len) ?_
      rw [List.length_map]
      exact opd_neI
    | _ => cases ht
  subst hb
  have x1 : Ex H H1 := fun a o h => by
    by_cases hN : N a
    · rw [S1.inv.2 a hN]; exact h
    · exact S1.off a o h hN
  refine ite2 (fun hb => ?_) (fun hb => ?_)
  · refine fin H1 x1 false ?_
    cases e with
    | tuple ds =>
      have hb' : (false || !decide (((ds.length : Nat) : Int) = (ns.length : Int))) = true := hb
      have : ¬ ds.length = ns.length := fun z => by rw [z] at hb'; simp at hb'
      show false = (ds.length == ns.length && _)
      rw [beq_eq_false_iff_ne.mpr this]; rfl
    | _ => rfl
  · cases e with
    | tuple ds =>
      have hb' : ¬ (false || !decide (((ds.length : Nat) : Int) = (ns.length : Int))) = true := hb
      have hl : ds.length = ns.length := by
        refine Classical.byContradiction fun z => hb' ?_
        have : ¬ ((ds.length : Int) = (ns.length : Int)) := by omega
        simp [this]
      -- for number, side in zip(value, box)
      unfold tupI at rb
      cases rb with
      | @tup ab xb _ hB nB aB =>
      cases rv with
      | @tup av xv _ hV nV aV =>
      have xbe := rgInts_inv aB
      subst xbe
      have sl := St.startF (k := 2) ok (RgAll.cons (N := N) (H := H) (.tup hB nB aB) (.cons (.tup hV nV aV) .nil))
      have nok := ok
      refine ⟨_, rfl, _, rfl, av, ab, xv, _, rfl, .inr ⟨.inl (.inl (x1 _ _ hV)), .inl (.inl (x1 _ _ hB)), ?_⟩⟩
      refine RZ.for_zipT (K := K) (by rw [aV.len, hl, List.length_map]) (fun i σ H' => Ex H H' ∧ (∃ y2 y3 : Option V, σ = [some (.ref ab), some (.ref av), y2, y3]) ∧ ∀ k, k < i → inB (ns.getD k 0) (ds.getD k .none) = true)
        ⟨x1, ⟨_, _, rfl⟩, fun k hk => absurd hk (Nat.not_lt_zero k)⟩ (fun i σ H' h => ⟨.inl (.inl (h.1 _ _ hV)), .inl (.inl (h.1 _ _ hB))⟩) (fun i x y t σ H2 hx hy h ht => ?_) (fun σ H2 h => ?_)
      · obtain ⟨x2, ⟨y2, y3, rfl⟩, hp⟩ := h
        obtain ⟨d, hd, rd⟩ := aV.get hx
        rw [List.getElem?_map] at hy
        obtain ⟨n, hn', rfl⟩ := Option.map_eq_some_iff.mp hy
        have x3 := x2.trans (Ex.new (o := .tup [x, .int n]) ht)
        refine ⟨t, _, rfl, .inl (.inl upd_same), rfl, _, _, rfl, _, _, rfl, rfl, ?_⟩
        generalize upd H2 t (.tup [x, .int n]) = H3 at x3 ⊢
        have gd : ds.getD i .none = d := by rw [List.getD_eq_getElem?_getD, hd]; rfl
        have gn : ns.getD i 0 = n := by rw [List.getD_eq_getElem?_getD, hn']; rfl
        have il : i < ns.length := (List.getElem?_eq_some_iff.mp hn').1
        -- if not is_int(number) or not 0 <= number < side: return False
        refine ⟨_, rfl, _, rfl, N, [d, .int n], nok.ex x3, .cons (rd.ex x3) (.cons (.int n) .nil), ⟨d, n, rfl⟩, fun v e H4 x4 r4 h4 => ?_⟩
        obtain ⟨e0, n0, he0, rfl⟩ := h4
        cases he0
        cases r4
        have x5 := x3.trans x4
        have bad : inB n d = false → false = cellD ns (.tuple ds) := fun hz => by
          show false = (ds.length == ns.length && _)
          have : ((List.range ns.length).all fun k => inB (ns.getD k 0) (ds.getD k .none)) = false := by
            cases hh : ((List.range ns.length).all fun k => inB (ns.getD k 0) (ds.getD k .none)) with
            | false => rfl
            | true =>
              have := (cell_step (i := 0) hl).mp hh i il
              rw [gd, gn, hz] at this; cases this
          rw [this, Bool.and_false]
        refine ⟨_, rfl, ?_⟩
        cases hz : inB n d with
        | true =>
          refine (if_neg (show ¬ (!true) = true from Bool.false_ne_true)).mpr ⟨x5, ⟨_, _, rfl⟩, fun k hk => ?_⟩
          by_cases hki : k = i
          · subst hki
            rw [gd, gn]; exact hz
          · exact hp k (by omega)
        | false => exact (if_pos rfl).mpr (fin H4 x5 false (bad hz))
      · obtain ⟨x2, _, hp⟩ := h
        refine fin H2 x2 true ?_
        show true = (ds.length == ns.length && _)
        rw [(cell_step (i := 0) hl).mpr fun k hk => hp k (by rw [aV.len, hl]; exact hk), hl]
        simp
    | _ => exact absurd rfl hb
/-! ### volumes -/
def prod (ns : List Int) : Int := ns.foldl (· * ·) 1
theorem prod_take {ns : List Int} {i : Nat} {n : Int} (h : ns[i]? = some n) : prod (ns.take (i + 1)) = prod (ns.take i) * n := by
  unfold prod
  rw [List.take_add_one, h, List.foldl_append]
  rfl
def volA (es : List PyData) : Prop := ∃ ns : List Int, es = [tupI ns] ∧ ∀ n ∈ ns, 1 ≤ n ∧ n ≤ MS
def volF (es : List PyData) (r : PyData) : Prop := ∃ ns : List Int, es = [tupI ns] ∧ r = .int (prod ns)
theorem ok_volume (T : Txt mg) {f : Addr} {fd : FuncData} (F : Fun K "volume" "volume" s_volume f fd) : FnOk P w K mg base CX0 1 f fd p_volume (SpF volA volF) := by
  refine F.ok sc_volume (fun vs H Q E h => ?_) (fun cdv A outer s H vs Q E hr h => ?_)
  · obtain ⟨N, es, _, r, ⟨ns, rfl, _⟩, _⟩ := h
    rw [r.len]; rfl
  obtain ⟨N, es, ok, r, ⟨ns, rfl, hn⟩, q⟩ := h
  refine ⟨_, (pss_cons (ps_set (i := 1) sc_volume.nd rfl (.inl rfl) pe_int)
 (pss_cons (ps_for PassesOwn.never rfl (pi_tup (pv 0)) (pg_name (i := 2) sc_volume.nd rfl (.inl rfl))
 (pss_one (ps_set (i := 1) sc_volume.nd rfl (.inl rfl) (pe_op op_mul (pv 1) (pv 2)))))
 (pss_one (ps_ret (pv 1))))), ?_⟩
  have L := r.len
  match vs, L with
  | [vb], _ =>
  cases r with
  | cons rb r =>
  unfold tupI at rb
  cases rb with
  | @tup ab xb _ hB nB aB =>
  have xbe := rgInts_inv aB
  subst xbe
  refine ⟨_, rfl, ab, rfl, ⟨_, .inl (.inl hB)⟩, ?_⟩
  refine for_tup (K := K) (a := ab) (xs := ns.map V.int) (fun i σ H' => H' = H ∧ ∃ y2 : Option V, σ = [some (.ref ab), some (.int (prod (ns.take i))), y2]) ⟨rfl, _, rfl⟩ (fun i σ H' _ h => .inl (.inl (by rw [h.1]; exact hB))) (fun i x σ H' hx h => ?_) (fun σ H' h => ?_)
  · obtain ⟨rfl, y2, rfl⟩ := h
    rw [List.getElem?_map] at hx
    obtain ⟨n, hi, rfl⟩ := Option.map_eq_some_iff.mp hx
    have hm := hn n (List.mem_of_getElem? hi)
    have hms : MS = 1000000000000 := rfl
    refine ⟨_, rfl, _, rfl, _, _, rfl, rfl, .inr ⟨by omega, by omega⟩, rfl, some (.int n), ?_⟩
    rw [prod_take hi]
    rfl
  · obtain ⟨rfl, y2, rfl⟩ := h
    rw [List.length_map, List.take_length]
    exact ⟨_, rfl, q _ (.int (prod ns)) H' ex_refl (.int _) ⟨ns, rfl, rfl⟩⟩
theorem ok__law_volume (T : Txt mg) {f : Addr} {fd : FuncData} (F : Fun K "_law_volume" "_law_volume" s__law_volume f fd) : FnOk P w K mg base CX0 1 f fd p__law_volume (SpF volA volF) := by
  refine F.ok sc__law_volume (fun vs H Q E h => ?_) (fun cdv A outer s H vs Q E hr h => ?_)
  · obtain ⟨N, es, _, r, ⟨ns, rfl, _⟩, _⟩ := h
    rw [r.len]; rfl
  obtain ⟨N, es, ok, r, ⟨ns, rfl, hn⟩, q⟩ := h
  refine ⟨_, (pss_cons (ps_set (i := 1) sc__law_volume.nd rfl (.inl rfl) pe_int)
 (pss_cons (ps_for PassesOwn.never rfl (pi_tup (pv 0)) (pg_name (i := 2) sc__law_volume.nd rfl (.inl rfl))
 (pss_one (ps_set (i := 1) sc__law_volume.nd rfl (.inl rfl) (pe_op op_mul (pv 1) (pv 2)))))
 (pss_one (ps_ret (pv 1))))), ?_⟩
  have L := r.len
  match vs, L with
  | [vb], _ =>
  cases r with
  | cons rb r =>
  unfold tupI at rb
  cases rb with
  | @tup ab xb _ hB nB aB =>
  have xbe := rgInts_inv aB
  subst xbe
  refine ⟨_, rfl, ab, rfl, ⟨_, .inl (.inl hB)⟩, ?_⟩
  refine for_tup (K := K) (a := ab) (xs := ns.map V.int) (fun i σ H' => H' = H ∧ ∃ y2 : Option V, σ = [some (.ref ab), some (.int (prod (ns.take i))), y2]) ⟨rfl, _, rfl⟩ (fun i σ H' _ h => .inl (.inl (by rw [h.1]; exact hB))) (fun i x σ H' hx h => ?_) (fun σ H' h => ?_)
  · obtain ⟨rfl, y2, rfl⟩ := h
    rw [List.getElem?_map] at hx
    obtain ⟨n, hi, rfl⟩ := Option.map_eq_some_iff.mp hx
    have hm := hn n (List.mem_of_getElem? hi)
    have hms : MS = 1000000000000 := rfl
    refine ⟨_, rfl, _, rfl, _, _, rfl, rfl, .inr ⟨by omega, by omega⟩, rfl, some (.int n), ?_⟩
    rw [prod_take hi]
    rfl
  · obtain ⟨rfl, y2, rfl⟩ := h
    rw [List.length_map, List.take_length]
    exact ⟨_, rfl, q _ (.int (prod ns)) H' ex_refl (.int _) ⟨ns, rfl, rfl⟩⟩
/-! ### the law's own look -/
def whA (es : List PyData) : Prop := ∃ (e : PyData) (a b : Int), es = [e, .int a, .int b]
def whF (es : List PyData) (r : PyData) : Prop := ∃ (e : PyData) (a b : Int), es = [e, .int a, .int b] ∧ r = .bool (rng a b e)
theorem rng_eq (a b : Int) (e : PyData) : isI e = false → rng a b e = false := by cases e <;> intro h <;> first | rfl | cases h
theorem ok__law_whole (T : Txt mg) {f : Addr} {fd : FuncData} (F : Fun K "_law_whole" "_law_whole" s__law_whole f fd) : FnOk P w K mg base CX0 1 f fd p__law_whole (SpF whA whF) := by
  refine F.ok sc__law_whole (fun vs H Q E h => ?_) (fun cdv A outer s H vs Q E hr h => ?_)
  · obtain ⟨N, es, _, r, ⟨e, a, b, rfl⟩, _⟩ := h
    rw [r.len]; rfl
  obtain ⟨N, es, ok, r, ⟨e, a, b, rfl⟩, q⟩ := h
  refine ⟨_, (pss_one (ps_ret (pe_and (pe_callB call_isi (by rfl) T.n_isinstance (by decide +kernel) (pa_cons (pv 0) (pa_cons (pe_bltn (v := .ty "int") (u := .type "int") (by rfl) T.n_int (by decide +kernel) rfl) pa_nil))) (pe_and (pe_not (pe_callB call_isi (by rfl) T.n_isinstance (by decide +kernel) (pa_cons (pv 0) (pa_cons (pe_bltn (v := .ty "bool") (u := .type "bool") (by rfl) T.n_bool (by decide +kernel) rfl) pa_nil)))) (pe_one (pe_chain op_le op_le (pv 1) (pv 0) (pv 2))))))), ?_⟩
  have S := St.startF (k := 0) ok r
  have L := r.len
  match vs, L with
  | [v1, v2, v3], _ =>
  have e1 : EvP (WF N H) H (tCB (rIsi K) (tCons (tVar 0) (tCons (tC (.ty "int")) tNil))) (slotsOf [e, .int a, .int b] 0) (· = .bool (isA "int" e)) := ev_isi' (ev_dat rfl) kit_int
  have e2 : EvP (WF N H) H (tNotV (tCB (rIsi K) (tCons (tVar 0) (tCons (tC (.ty "bool")) tNil)))) (slotsOf [e, .int a, .int b] 0) (· = .bool (!isA "bool" e)) := ev_not (ev_isi' (ev_dat rfl) kit_bool)
  refine (ev_and (P := (· = .bool (rng a b e))) e1 (fun h1 => ev_and e2 (fun h2 => ?_) fun h2 => ?_) fun h1 => ?_) [] [] _ H S _ fun v' e' H' S' p => ?_
  · cases e with
    | int i => exact ev_chain (g := fun x y => decide (x ≤ y)) (g' := fun x y => decide (x ≤ y)) (ev_dat rfl) (ev_dat rfl) (ev_dat rfl)
    | bool b => cases h2
    | _ => cases h1
  · rw [rng_eq a b e (by rw [← isI_eq, h1, h2]; rfl)]
  · rw [rng_eq a b e (by rw [← isI_eq, h1]; rfl)]
  · obtain ⟨x, y⟩ := S'.endF
    exact q v' e' H' x y ⟨e, a, b, rfl, p⟩
def withA (es : List PyData) : Prop := ∃ (ds : List PyData) (a : Nat) (e : PyData), es = [.tuple ds, .int a, e] ∧ ds.length ≤ 1000
def withF (es : List PyData) (r : PyData) : Prop := ∃ (ds : List PyData) (a : Nat) (e : PyData), es = [.tuple ds, .int a, e] ∧ r = .tuple (ds.take a ++ [e] ++ ds.drop (a + 1))
theorem cutD_to {α : Type} {ds : List α} {k : Nat} : DL.cutD ds none (some (k : Int)) = ds.take k := by
  unfold DL.cutD
  rw [HT.sIx_none, HT.sIx_nat, List.drop_zero, Nat.sub_zero]
  rcases Nat.le_total k ds.length with h | h
  · rw [Nat.min_eq_left h]
  · rw [Nat.min_eq_right h, List.take_of_length_le (Nat.le_refl _), List.take_of_length_le h]
theorem cutD_from {α : Type} {ds : List α} {k : Nat} : DL.cutD ds (some (k : Int)) none = ds.drop k := by
  unfold DL.cutD
  rw [HT.sIx_none, HT.sIx_nat]
  rcases Nat.le_total k ds.length with h | h
  · rw [Nat.min_eq_left h, List.take_of_length_le (by rw [List.length_drop]; omega)]
  · rw [Nat.min_eq_right h, List.drop_eq_nil_of_le h, List.drop_eq_nil_of_le (Nat.le_refl _)]
    simp
theorem ok__law_with (T : Txt mg) {f : Addr} {fd : FuncData} (F : Fun K "_law_with" "_law_with" s__law_with f fd) : FnOk P w K mg base CX0 1 f fd p__law_with (SpF withA withF) := by
  refine F.ok sc__law_with (fun vs H Q E h => ?_) (fun cdv A outer s H vs Q E hr h => ?_)
  · obtain ⟨N, es, _, r, ⟨ds, a, e, rfl, _⟩, _⟩ := h
    rw [r.len]; rfl
  obtain ⟨N, es, ok, r, ⟨ds, a, e, rfl, hl⟩, q⟩ := h
  refine ⟨_, (pss_one (ps_ret (pe_op op_catA (pe_op op_catA (pe_slice sl_tupA (pv 0) po_none (po_some (pv 1))) (pe_tup (pa_cons (pv 2) pa_nil))) (pe_slice sl_tupA (pv 0) (po_some (pe_op op_add (pv 1) pe_int)) po_none)))), ?_⟩
  have S := St.startF (k := 0) ok r
  have L := r.len
  match vs, L with
  | [v1, v2, v3], _ =>
  have d0 : EvP (WF N H) H (tVar 0) (slotsOf [.tuple ds, .int a, e] 0) (· = .tuple ds) := ev_dat rfl
  have d1 : EvP (WF N H) H (tVar 1) (slotsOf [.tuple ds, .int a, e] 0) (· = .int a) := ev_dat rfl
  have l1 : (DL.cutD ds none (some (a : Int))).length ≤ 1000 := by rw [cutD_to, List.length_take]; omega
  have l2 : (DL.cutD ds (some ((a : Int) + 1)) none).length ≤ 1000 := by
    rw [show (a : Int) + 1 = ((a + 1 : Nat) : Int) from rfl, cutD_from, List.length_drop]; omega
  refine (ev_op' (ev_op' (ev_slT d0 eo_none (eo_some d1)) (ev_tup' (eva_one (ev_dat (i := 2) rfl)) (show 1 ≤ 100000 by decide)) (opd_catT ?_)) (ev_slT d0 (eo_some (ev_op' d1 ev_int (opd_I0 fun _ _ => .int _))) eo_none) (opd_catT ?_)) [] [] _ H S _ fun v' e' H' S' p => ?_
  · simp only [List.length_singleton]; omega
  · simp only [List.length_append, List.length_singleton]; omega
  · obtain ⟨x, y⟩ := S'.endF
    refine q v' e' H' x y ⟨ds, a, e, rfl, ?_⟩
    rw [p, cutD_to, show (a : Int) + 1 = ((a + 1 : Nat) : Int) from rfl, cutD_from]
theorem filter_nil {n : Nat} {b : Nat → Bool} : ((List.range n).filter fun k => !b k) = [] ↔ (List.range n).all b = true := by
  rw [List.filter_eq_nil_iff, List.all_eq_true]
  exact ⟨fun h x hx => by simpa using h x hx, fun h x hx => by simpa using h x hx⟩
theorem ok__law_is_cell (T : Txt mg) {f : Addr} {fd : FuncData} (F : Fun K "_law_is_cell" "_law_is_cell" s__law_is_cell f fd) (h__law_whole : Keeps P w K mg base 1 "_law_whole" p__law_whole (SpF whA whF)) : FnOk P w K mg base CX0 2 f fd p__law_is_cell (SpF boxA boxF) := by
  refine F.ok sc__law_is_cell (fun vs H Q E h => ?_) (fun cdv A outer s H vs Q E hr h => ?_)
  · obtain ⟨N, es, _, r, ⟨ns, e, rfl, _⟩, _⟩ := h
    rw [r.len]; rfl
  obtain ⟨N, es, ok, r, ⟨ns, e, rfl, hn⟩, q⟩ := h
  refine ⟨_, (pss_cons (ps_if (PW.pt (pw_or (pt_not (pt_val (pe_callB call_isi (by rfl) T.n_isinstance (by decide +kernel) (pa_cons (pv 1) (pa_cons (pe_bltn (v := .ty "tuple") (u := .type "tuple") (by rfl) T.n_tuple (by decide +kernel) rfl) pa_nil))))) (pw_or1 (pt_cmpR op_ne (pe_callB call_len_seq (by rfl) T.n_len (by decide +kernel) (pa_cons (pv 1) pa_nil)) (pe_callB call_len_seq (by rfl) T.n_len (by decide +kernel) (pa_cons (pv 0) pa_nil)) (nomark _)))))
 (pss_one (ps_ret pe_bl)) pss_nil)
 (pss_one (ps_ret (pe_cmpR (op_eqD hr.units) (pe_lc (own := [("_law_k", 2)]) (g := gName 2) rfl sc__law_is_cell.nd (pi_range1 (by rfl) T.n_range (pa_cons (pe_callB call_len_seq (by rfl) T.n_len (by decide +kernel) (pa_cons (pv 0) pa_nil)) pa_nil)) (blkOk_by (N := n__law_is_cell) (sc := defScope s__law_is_cell) (by decide +kernel)) (fun _ _ _ _ _ => pg_name (i := 2) sc__law_is_cell.nd rfl (.inl rfl)) (fun _ _ _ _ _ => (pts_one (pt_not (pt_val (TB.pe_own h__law_whole (hr.mono (by decide)) (by rfl) (pa_cons (pe_ix (r := rIxT K) ix_tup (pv 1) (pv 2) (fun _ _ => rfl)) (pa_cons pe_int (pa_cons (pe_op op_sub (pe_ix (r := rIxT K) ix_tup (pv 0) (pv 2) (fun _ _ => rfl)) pe_int) pa_nil)))))))) (fun _ _ _ _ _ => pe_int)) (pe_lst pa_nil) (nomark _))))), ?_⟩
  have S := St.startF (k := 1) ok r
  have L := r.len
  match vs, L with
  | [vb, vv], _ =>
  have fin : ∀ H', Ex H H' → ∀ b : Bool, b = cellD ns e → Q (.bl b) H' := fun H' x b hb => q _ (.bool b) H' x (.bl b) ⟨ns, e, rfl, by rw [hb]⟩
  have t1 : EvT (WF N H) H (tNot (tB (tCB (rIsi K) (tCons (tVar 1) (tCons (tC (.ty "tuple")) tNil))))) (slotsOf [tupI ns, e] 1) (· = !isA "tuple" e) := et_not (et_b (ev_isi' (ev_dat rfl) kit_tuple))
  refine (et_or (b := !decide (((match e with | .tuple ds => ds.length | _ => 0 : Nat) : Int) = ns.length)) t1 fun ht => et_of ?_) [] [] _ H S _ fun b H1 S1 hb => ?_
  · cases e with
    | tuple ds =>
      refine ev_op' (ev_cb' (eva_one (ev_dat rfl)) cad_len) (ev_cb' (eva_one (ev_dat rfl)) cad_len) ?_
      rw [List.length_map]
      exact opd_neI
    | _ => cases ht
  subst hb
  have x1 : Ex H H1 := fun a o h => by
    by_cases hN : N a
    · rw [S1.inv.2 a hN]; exact h
    · exact S1.off a o h hN
  refine ite2 (fun hb => ?_) (fun hb => ?_)
  · refine fin H1 x1 false ?_
    cases e with
    | tuple ds =>
      have hb' : (false || !decide (((ds.length : Nat) : Int) = (ns.length : Int))) = true := hb
      have : ¬ ds.length = ns.length := fun z => by rw [z] at hb'; simp at hb'
      show false = (ds.length == ns.length && _)
      rw [beq_eq_false_iff_ne.mpr this]; rfl
    | _ => rfl
  · cases e with
    | tuple ds =>
      have hb' : ¬ (false || !decide (((ds.length : Nat) : Int) = (ns.length : Int))) = true := hb
      have hl : ds.length = ns.length := by
        refine Classical.byContradiction fun z => hb' ?_
        have : ¬ ((ds.length : Int) = (ns.length : Int)) := by omega
        simp [this]
      have ln : (((ns.map PyData.int).length : Nat) : Int) = ns.length := by rw [List.length_map]
      have arg : EvP (WF N H) H (tCB (fun xs H Q => ∃ p ys, xs = [.ref p] ∧ (SqL K H p ys ∨ SqT K H p ys) ∧ Q (.int ys.length) H) (tCons (tVar 0) tNil)) (slotsOf [tupI ns, .tuple ds] 1) (· = .int ns.length) := by
        have := ev_cb' (W := WF N H) (H0 := H) (ρ := slotsOf [tupI ns, .tuple ds] 1) (eva_one (ev_dat (i := 0) (e := tupI ns) rfl)) (cad_len (K := K))
        rw [ln] at this
        exact this
      refine (ev_op' (ev_lcRf (n := ns.length) (i := 2) (b := fun k => !inB (ns.getD k 0) (ds.getD k .none)) (f := fun _ => .int 1) (by omega) (by omega) rfl arg (fun j hj => et_not (et_b ?_)) fun j hj _ => ev_int) (ev_lst' eva_nil (by decide))
        (opd_eqD (d := .list (((List.range ns.length).filter fun k => !inB (ns.getD k 0) (ds.getD k .none)).map fun _ => .int 1)) (e := .list []) ?_ (by decide))) [] [] _ H1 S1 _ fun v' e' H' S' p => ?_
      · have jl : j < ns.length := by omega
        have a1 : atI ds (j : Int) = some (ds.getD j .none) := atI_nat (by rw [List.getD_eq_getElem?_getD, List.getElem?_eq_getElem (by omega : j < ds.length)]; rfl)
        have a2 : atI (ns.map PyData.int) (j : Int) = some (.int (ns.getD j 0)) := atI_nat (by rw [List.getElem?_map, List.getD_eq_getElem?_getD, List.getElem?_eq_getElem jl]; rfl)
        refine (ev_callF (eva_more (ev_op' (ev_dat (i := 1) rfl) (ev_dat (i := 2) rfl) (opd_ixT a1)) (eva_more ev_int (eva_one (ev_op' (ev_op' (ev_dat (i := 0) rfl) (ev_dat (i := 2) rfl) (opd_ixT a2)) ev_int (opd_I0 fun _ _ => .int _))))) fun es h => ?_).imp fun x hx => ?_
        · rw [h]; exact ⟨_, _, _, rfl⟩
        · obtain ⟨es, rfl, e0, x0, y0, he, rfl⟩ := hx
          cases he
          rw [rng_inB]
      · unfold SeqAt.shaped
        have c1 : ∀ l : List Nat, PyData.canLayAll0 (l.map fun _ => PyData.int 1) = true := fun l => by
          induction l with
          | nil => rfl
          | cons a l ih => rw [List.map_cons, PyData.canLayAll0, ih]; rfl
        have c2 : ∀ l : List Nat, PyData.depthAll (l.map fun _ => PyData.int 1) = 0 := fun l => by
          induction l with
          | nil => rfl
          | cons a l ih => rw [List.map_cons, PyData.depthAll, ih]; rfl
        rw [PyData.canLay0, c1, PyData.depth, c2]; rfl
      · obtain ⟨x, y⟩ := S'.endF
        refine q v' e' H' x y ⟨ns, .tuple ds, rfl, ?_⟩
        rw [p]
        congr 1
        show PyData.eqv (.list _) (.list []) = (ds.length == ns.length && _)
        have e3 : (ds.length == ns.length) = true := by rw [hl]; simp
        rw [e3, Bool.true_and]
        cases hh : (List.range ns.length).all (fun k => inB (ns.getD k 0) (ds.getD k .none)) with
        | true => rw [filter_nil.mpr hh]; rfl
        | false =>
          cases hf : (List.range ns.length).filter (fun k => !inB (ns.getD k 0) (ds.getD k .none)) with
          | nil => rw [filter_nil.mp hf] at hh; cases hh
          | cons a b => rfl
    | _ => exact absurd rfl hb
end
end K03
set_option Elab.async false
set_option linter.all false
set_option maxRecDepth 100000
namespace K03
open PySem PySem.Spec PyProof.Rows L2 Evl TB DL
section
variable {P : Program} {w : World} {K : PySem.W.Frag} {mg : Str → Option Value} {base : Heap}
theorem wide_imp {vs : List V} {H : Hp} {Q : VK} {E : XK} (h : SpW wideA wideF vs H Q E) : spWide vs H Q E := by
  obtain ⟨d, g, l, N, es, vs', rfl, ok, nd, ng, nl, D, r, ⟨n, rfl, hn⟩, q⟩ := h
  cases r with
  | cons r1 r2 =>
    cases r2; cases r1
    refine ⟨d, g, l, n, rfl, hn, D, fun p ns H' h1 h2 h3 h4 D' o => q _ (tupI ns) H' D' (fun a o' e n1 n2 _ => o a o' e n1 n2) (.tup h4 (ok.new h3) (rgInts ns)) ⟨n, ns, rfl, rfl, h1, h2⟩⟩
set_option maxHeartbeats 400000 in
theorem ok__law_odd (T : Txt mg) {f : Addr} {fd : FuncData} (F : Fun K "_law_odd" "_law_odd" s__law_odd f fd) (h__law_one' : Keeps P w K mg base 2 "_law_one" p__law_one spOne) : FnOk P w K mg base CX0 3 f fd p__law_odd (SpW nonA oddF) := by
  have h__law_one := DL.Keeps.imp h__law_one' fun _ _ _ _ => one_imp
  refine F.ok sc__law_odd (fun vs H Q E h => ?_) (fun cdv A outer s H vs Q E hr h => ?_)
  · obtain ⟨d, g, l, N, es, vs', rfl, _, _, _, _, _, r, rfl, _⟩ := h
    rw [List.length_cons, r.len]; rfl
  obtain ⟨d, g, l, N, es, vs', rfl, ok, nd, ng, nl, D, r, rfl, q⟩ := h
  cases r
  refine ⟨_, (pss_cons (ps_set (i := 1) sc__law_odd.nd rfl (.inl rfl) (pe_lst (pa_cons pe_non (pa_cons pe_bl (pa_cons pe_bl (pa_cons pe_int (pa_cons pe_int (pa_cons pe_int (pa_cons (pe_un un_neg pe_int) (pa_cons (pe_op op_pow pe_int pe_int) (pa_cons pe_str (pa_cons pe_str (pa_cons pe_str (pa_cons pe_str (pa_cons (pe_tup pa_nil) (pa_cons (pe_lst pa_nil) (pa_cons pe_dnewK (pa_cons (pe_tup (pa_cons pe_int pa_nil)) (pa_cons (pe_tup (pa_cons pe_int pa_nil)) (pa_cons (pe_tup (pa_cons pe_int (pa_cons pe_int pa_nil))) (pa_cons (pe_tup (pa_cons pe_int (pa_cons pe_int pa_nil))) pa_nil)))))))))))))))))))))
 (pss_cons (ps_set (i := 1) sc__law_odd.nd rfl (.inl rfl) (pe_op op_cat (pv 1) (pe_lst (pa_cons (pe_tup (pa_cons pe_bl pa_nil)) (pa_cons (pe_tup (pa_cons pe_int (pa_cons (pe_tup (pa_cons pe_int pa_nil)) pa_nil))) (pa_cons (pe_tup (pa_cons pe_int (pa_cons (pe_tup (pa_cons pe_int (pa_cons pe_int pa_nil))) pa_nil))) (pa_cons (pe_tup (pa_cons pe_int (pa_cons (pe_tup (pa_cons pe_int (pa_cons pe_int pa_nil))) pa_nil))) (pa_cons (pe_tup (pa_cons pe_int (pa_cons (pe_tup (pa_cons pe_int (pa_cons pe_int pa_nil))) (pa_cons pe_int pa_nil)))) (pa_cons (pe_tup (pa_cons (pe_tup (pa_cons pe_int (pa_cons pe_int pa_nil))) (pa_cons pe_int pa_nil))) (pa_cons (pe_tup (pa_cons (pe_tup (pa_cons pe_int pa_nil)) (pa_cons pe_int pa_nil))) (pa_cons (pe_tup (pa_cons pe_str (pa_cons pe_int pa_nil))) pa_nil)))))))))))
 (pss_one (ps_ret (TB.pe_own h__law_one (hr.mono (by decide)) (by rfl) (pa_cons (pv 0) (pa_cons (pe_op op_cat (pv 1) (pe_lst (pa_cons (pe_tup (pa_cons pe_non pa_nil)) (pa_cons (pe_tup (pa_cons (pe_un un_neg pe_int) pa_nil)) (pa_cons (pe_tup (pa_cons pe_int (pa_cons (pe_tup (pa_cons (pe_un un_neg pe_int) pa_nil)) pa_nil))) (pa_cons (pe_tup (pa_cons pe_int (pa_cons (pe_tup (pa_cons pe_bl (pa_cons pe_int pa_nil))) pa_nil))) (pa_cons (pe_tup (pa_cons pe_int (pa_cons pe_int pa_nil))) (pa_cons (pe_tup (pa_cons (pe_tup (pa_cons pe_int (pa_cons pe_int pa_nil))) (pa_cons (pe_tup (pa_cons pe_int (pa_cons pe_int pa_nil))) pa_nil))) (pa_cons (pe_tup (pa_cons (pe_tup (pa_cons pe_int pa_nil)) (pa_cons (pe_tup (pa_cons pe_int pa_nil)) pa_nil))) pa_nil))))))))) pa_nil))))))), ?_⟩
  have S := St.startW (k := 1) ok nd ng nl D (.nil (N := N) (H := H))
  have E1 := fun ρ => ((ev_lst' (eva_more ev_non (eva_more (ev_bl (b := true)) (eva_more (ev_bl (b := false)) (eva_more (ev_int (i := 0)) (eva_more (ev_int (i := 1)) (eva_more (ev_int (i := 2)) (eva_more (ev_neg (ev_int (i := 1))) (eva_more (ev_pow (i := 10) (j := 30) ⟨by decide, by decide, by decide⟩) (eva_more (ev_str (x := "")) (eva_more (ev_str (x := "a")) (eva_more (ev_str (x := "0")) (eva_more (ev_str (x := "2x3")) (eva_more (ev_tup' eva_nil (show 0 ≤ 100000 by decide)) (eva_more (ev_lst' eva_nil (show 0 ≤ 100000 by decide)) (eva_more ev_dict0 (eva_more (ev_tup' (eva_more (ev_int (i := 0)) eva_nil) (show 1 ≤ 100000 by decide)) (eva_more (ev_tup' (eva_more (ev_int (i := 1)) eva_nil) (show 1 ≤ 100000 by decide)) (eva_more (ev_tup' (eva_more (ev_int (i := 0)) (eva_more (ev_int (i := 0)) eva_nil)) (show 2 ≤ 100000 by decide)) (eva_more (ev_tup' (eva_more (ev_int (i := 1)) (eva_more (ev_int (i := 1)) eva_nil)) (show 2 ≤ 100000 by decide)) eva_nil))))))))))))))))))) (show 19 ≤ 100000 by decide)) : EvP (WD d g l N H) H _ ρ _)
  refine d_asg ?_
  refine (E1 _) [] [] _ H S _ fun v1 e1 H1 S1 p1 => ?_
  have S2 := S1.set (i := 1)
  rw [p1] at S2
  clear p1 S1 E1
  have E2 : EvP (WD d g l N H) H _ S2.rho _ := (ev_catL (ev_dat (i := 1) rfl) (ev_lst' (eva_more (ev_tup' (eva_more (ev_bl (b := true)) eva_nil) (show 1 ≤ 100000 by decide)) (eva_more (ev_tup' (eva_more (ev_int (i := 0)) (eva_more (ev_tup' (eva_more (ev_int (i := 0)) eva_nil) (show 1 ≤ 100000 by decide)) eva_nil)) (show 2 ≤ 100000 by decide)) (eva_more (ev_tup' (eva_more (ev_int (i := 0)) (eva_more (ev_tup' (eva_more (ev_int (i := 0)) (eva_more (ev_int (i := 0)) eva_nil)) (show 2 ≤ 100000 by decide)) eva_nil)) (show 2 ≤ 100000 by decide)) (eva_more (ev_tup' (eva_more (ev_int (i := 1)) (eva_more (ev_tup' (eva_more (ev_int (i := 0)) (eva_more (ev_int (i := 0)) eva_nil)) (show 2 ≤ 100000 by decide)) eva_nil)) (show 2 ≤ 100000 by decide)) (eva_more (ev_tup' (eva_more (ev_int (i := 0)) (eva_more (ev_tup' (eva_more (ev_int (i := 0)) (eva_more (ev_int (i := 0)) eva_nil)) (show 2 ≤ 100000 by decide)) (eva_more (ev_int (i := 1)) eva_nil))) (show 3 ≤ 100000 by decide)) (eva_more (ev_tup' (eva_more (ev_tup' (eva_more (ev_int (i := 0)) (eva_more (ev_int (i := 0)) eva_nil)) (show 2 ≤ 100000 by decide)) (eva_more (ev_int (i := 1)) eva_nil)) (show 2 ≤ 100000 by decide)) (eva_more (ev_tup' (eva_more (ev_tup' (eva_more (ev_int (i := 0)) eva_nil) (show 1 ≤ 100000 by decide)) (eva_more (ev_int (i := 1)) eva_nil)) (show 2 ≤ 100000 by decide)) (eva_more (ev_tup' (eva_more (ev_str (x := "step")) (eva_more (ev_int (i := 0)) eva_nil)) (show 2 ≤ 100000 by decide)) eva_nil)))))))) (show 8 ≤ 100000 by decide)) (Nat.le_of_ble_eq_true rfl))
  refine d_asg ?_
  refine E2 [] [] _ H1 S2 _ fun v2 e2 H2 S3 p2 => ?_
  have S4 := S3.set (i := 1)
  rw [p2] at S4
  clear p2 S3 E2
  have E3 : EvP (WD d g l N H) H _ S4.rho _ := ev_one (d := d) (g := g) (l := l) (N := N) (B := H) (j := 0) rfl (ev_catL (ev_dat (i := 1) rfl) (ev_lst' (eva_more (ev_tup' (eva_more ev_non eva_nil) (show 1 ≤ 100000 by decide)) (eva_more (ev_tup' (eva_more (ev_neg (ev_int (i := 1))) eva_nil) (show 1 ≤ 100000 by decide)) (eva_more (ev_tup' (eva_more (ev_int (i := 0)) (eva_more (ev_tup' (eva_more (ev_neg (ev_int (i := 1))) eva_nil) (show 1 ≤ 100000 by decide)) eva_nil)) (show 2 ≤ 100000 by decide)) (eva_more (ev_tup' (eva_more (ev_int (i := 0)) (eva_more (ev_tup' (eva_more (ev_bl (b := true)) (eva_more (ev_int (i := 0)) eva_nil)) (show 2 ≤ 100000 by decide)) eva_nil)) (show 2 ≤ 100000 by decide)) (eva_more (ev_tup' (eva_more (ev_int (i := 2)) (eva_more (ev_int (i := 1)) eva_nil)) (show 2 ≤ 100000 by decide)) (eva_more (ev_tup' (eva_more (ev_tup' (eva_more (ev_int (i := 2)) (eva_more (ev_int (i := 1)) eva_nil)) (show 2 ≤ 100000 by decide)) (eva_more (ev_tup' (eva_more (ev_int (i := 1)) (eva_more (ev_int (i := 2)) eva_nil)) (show 2 ≤ 100000 by decide)) eva_nil)) (show 2 ≤ 100000 by decide)) (eva_more (ev_tup' (eva_more (ev_tup' (eva_more (ev_int (i := 2)) eva_nil) (show 1 ≤ 100000 by decide)) (eva_more (ev_tup' (eva_more (ev_int (i := 3)) eva_nil) (show 1 ≤ 100000 by decide)) eva_nil)) (show 2 ≤ 100000 by decide)) eva_nil))))))) (show 7 ≤ 100000 by decide)) (Nat.le_of_ble_eq_true rfl)) fun e h => ⟨_, h, Nat.le_of_ble_eq_true rfl, Nat.le_of_ble_eq_true rfl⟩
  refine d_ret ?_
  refine E3 [] [] _ H2 S4 _ fun v e H' S' p => ?_
  obtain ⟨D', o', r'⟩ := S'.endW
  refine q v e H' D' o' r' ?_
  obtain ⟨ds, hds, he⟩ := p
  have hl := PyData.list.inj hds
  rw [hl] at he
  exact gd_of (by decide +kernel) he
/-! ### sides -/
def sidA (es : List PyData) : Prop := ∃ (a : Nat) (m : Int), es = [.int a, .int m] ∧ a ≤ 100 ∧ 1 ≤ m ∧ m ≤ MS
def sidF (es : List PyData) (e : PyData) : Prop := ∃ (a : Nat) (m : Int) (ns : List Int), es = [.int a, .int m] ∧ e = tupI ns ∧ ns.length = a ∧ ∀ n ∈ ns, 1 ≤ n ∧ n ≤ m
theorem ok__law_sides (T : Txt mg) {f : Addr} {fd : FuncData} (F : Fun K "_law_sides" "_law_sides" s__law_sides f fd) (h__law_draw' : Keeps P w K mg base 1 "_law_draw" p__law_draw spDraw) : FnOk P w K mg base CX0 2 f fd p__law_sides (SpW sidA sidF) := by
  have h__law_draw := DL.Keeps.imp h__law_draw' fun _ _ _ _ => draw_imp
  refine F.ok sc__law_sides (fun vs H Q E h => ?_) (fun cdv A outer s H vs Q E hr h => ?_)
  · obtain ⟨d, g, l, N, es, vs', rfl, _, _, _, _, _, r, ⟨a, m, rfl, _⟩, _⟩ := h
    rw [List.length_cons, r.len]; rfl
  obtain ⟨d, g, l, N, es, vs', rfl, ok, nd, ng, nl, D, r, ⟨a, m, rfl, ha, m1, m2⟩, q⟩ := h
  refine ⟨_, (pss_one (ps_ret (pe_callTy call_tuple_of (by rfl) T.n_tuple (by decide +kernel) (pa_cons (pe_lc (own := [("_law_axis", 3)]) (g := gName 3) rfl sc__law_sides.nd (pi_range1 (by rfl) T.n_range (pa_cons (pv 1) pa_nil)) (blkOk_by (N := n__law_sides) (sc := defScope s__law_sides) (by decide +kernel)) (fun _ _ _ _ _ => pg_name (i := 3) sc__law_sides.nd rfl (.inl rfl)) (fun _ _ _ _ _ => pts_nil) (fun _ _ _ _ _ => (pe_op op_add pe_int (TB.pe_own h__law_draw (hr.mono (by decide)) (by rfl) (pa_cons (pv 0) (pa_cons (pv 2) pa_nil)))))) pa_nil)))), ?_⟩
  have S := St.startW (k := 1) ok nd ng nl D r
  have L := r.len
  match vs', L with
  | [v1, v2], _ =>
  have hms : MS = 1000000000000 := rfl
  have E1 : EvP (WD d g l N H) H _ S.rho _ := ev_cb (P := fun e => ∃ ns : List Int, e = tupI ns ∧ ns.length = a ∧ ∀ n ∈ ns, 1 ≤ n ∧ n ≤ m) (PA := fun es => ∃ ds, es = [.list ds] ∧ (ds.length : Int) = a ∧ ∀ d ∈ ds, ∃ n : Int, d = .int n ∧ (1 ≤ n ∧ n ≤ m))
    (eva_cons (ev_lcR (n := a) (i := 3) (P := fun d => ∃ n : Int, d = .int n ∧ (1 ≤ n ∧ n ≤ m)) (by omega) (by omega) rfl (ev_dat (i := 1) rfl) fun j hj =>
      ev_op (P2 := fun e => ∃ r : Int, e = .int r ∧ 0 ≤ r ∧ r < m) ev_int (ev_draw (j := 0) rfl (ev_dat (i := 2) rfl) (by omega) (by omega)) fun e1 e2 h1 h2 => by
        obtain ⟨r, rfl, r0, r1⟩ := h2
        subst h1
        exact opd_add.imp fun e z => ⟨1 + r, z, by omega, by omega⟩) eva_nil fun e es h1 h2 => by
      obtain ⟨ds, rfl, h3, h4⟩ := h1
      rw [h2]
      exact ⟨ds, rfl, h3, h4⟩)
    fun es h => by
      obtain ⟨ds, rfl, h3, h4⟩ := h
      obtain ⟨ns, rfl, h5⟩ := ints_of h4
      rw [List.length_map] at h3
      exact (cad_tuple (K := K)).imp fun e z => ⟨ns, z, by omega, h5⟩
  refine d_ret ?_
  refine E1 [] [] _ H S _ fun v e H' S' p => ?_
  obtain ⟨D', o', r'⟩ := S'.endW
  obtain ⟨ns, h1, h2, h3⟩ := p
  exact q v e H' D' o' r' ⟨a, m, ns, rfl, h1, h2, h3⟩
end
end K03
set_option Elab.async false
set_option linter.all false
set_option maxRecDepth 100000
namespace DL
open PySem PySem.Spec PyProof.Rows L2 Evl TB
theorem cutD_mem {α : Type} {ds : List α} {lo hi : Option Int} {x : α} (h : x ∈ DL.cutD ds lo hi) : x ∈ ds := List.mem_of_mem_drop (List.mem_of_mem_take h)
theorem cutD_len {α : Type} {ds : List α} {lo hi : Option Int} : (DL.cutD ds lo hi).length ≤ ds.length := by
  unfold DL.cutD
  rw [List.length_take, List.length_drop]
  omega
theorem Lv.lay : ∀ {n : Nat} {d : PyData}, Lv n d → d.canLay0 = true ∧ d.depth ≤ n
  | 0, _, ⟨i, h, _⟩ => by rw [h]; exact ⟨rfl, Nat.le_refl _⟩
  | n + 1, _, ⟨ds, h, _, hx⟩ => by
    rw [h, PyData.canLay0, PyData.depth]
    have : ∀ l : List PyData, (∀ x ∈ l, Lv n x) → PyData.canLayAll0 l = true ∧ PyData.depthAll l ≤ n := fun l => by
      induction l with
      | nil => exact fun _ => ⟨rfl, Nat.zero_le _⟩
      | cons a l ih =>
        intro hl
        obtain ⟨b1, b2⟩ := ih fun x hx => hl x (List.mem_cons_of_mem _ hx)
        obtain ⟨a1, a2⟩ := Lv.lay (hl a List.mem_cons_self)
        exact ⟨by rw [PyData.canLayAll0, a1, b1]; rfl, by rw [PyData.depthAll]; omega⟩
    obtain ⟨b1, b2⟩ := this ds hx
    exact ⟨b1, by omega⟩
theorem Lv.shaped {n : Nat} {d : PyData} (h : Lv n d) (hn : n ≤ 10) : SeqAt.shaped d = true := by
  obtain ⟨a, b⟩ := h.lay
  unfold SeqAt.shaped
  rw [a, decide_eq_true (by omega : d.depth ≤ 64)]
  rfl
def bentA (m : Nat) (es : List PyData) : Prop := ∃ n v, es = [v, .int m] ∧ n ≤ 2 ∧ Lv n v
def bentF (m : Nat) (es : List PyData) (e : PyData) : Prop := ∀ n v, es = [v, .int m] → n ≤ 2 → Lv n v → Gd (Bo n) (n + 5) e
theorem gd_lv {n : Nat} {d : PyData} (h : Lv n d) : Gd (Bo n) n d := ⟨okD_plain h.plain, h.fit⟩
theorem gd_tup {n k : Nat} {ds : List PyData} (h : ∀ x ∈ ds, Lv n x) (hl : ds.length ≤ 9) (hk : n + 1 ≤ k) : Gd (Bo (n + 1)) k (.tuple ds) :=
  ⟨okD_plain (plain_tuple fun x hx => (h x hx).plain), (fit_tup (fun x hx => (h x hx).fit) hl (Nat.le_refl _)).mono (Nat.le_refl _) hk⟩
theorem gd_lst {n k : Nat} {ds : List PyData} (h : ∀ x ∈ ds, Lv n x) (hl : ds.length ≤ 9) (hk : n + 1 ≤ k) : Gd (Bo (n + 1)) k (.list ds) :=
  ⟨okD_list fun x hx => (h x hx).plain, (fit_lst (fun x hx => (h x hx).fit) hl (Nat.le_refl _)).mono (Nat.le_refl _) hk⟩
theorem gd_mid {n k : Nat} {xs ys : List PyData} {e : PyData} (hx : ∀ x ∈ xs, Lv n x) (hy : ∀ x ∈ ys, Lv n x) (he : Gd (Bo n) (n + 5) e) (hl : xs.length + 1 + ys.length ≤ 9) (hk : n + 6 ≤ k) : Gd (Bo (n + 1)) k (.tuple (xs ++ [e] ++ ys)) :=
  ⟨okD_mid (fun x h => (hx x h).plain) (fun x h => (hy x h).plain) he.1, (fit_tup (k := n + 5) (fun x hm => by
    rcases List.mem_append.mp hm with hm | hm
    · rcases List.mem_append.mp hm with hm | hm
      · exact (hx x hm).fit.mono (Nat.le_refl _) (by omega)
      · rw [List.mem_singleton.mp hm]; exact he.2
    · exact (hy x hm).fit.mono (Nat.le_refl _) (by omega)) (by simp only [List.length_append, List.length_singleton]; omega) (Nat.le_refl _)).mono (Nat.le_refl _) hk⟩
theorem gd_odd {n k : Nat} {e : PyData} (h : Gd 100 3 e) (hk : 3 ≤ k) : Gd (Bo n) k e := h.mono (by have := Bo_ge n; omega) hk
theorem gd_int {i : Int} (h : -1 ≤ i) (h2 : i < 10 ^ 40) : Gd 40 0 (.int i) := by
  refine ⟨rfl, ?_⟩
  by_cases h0 : 0 ≤ i
  · exact fit_nat h0 h2
  · have : i = -1 := by omega
    subst this
    exact ⟨by decide +kernel, by decide +kernel, by decide +kernel⟩
theorem gd_bool (b : Bool) : Gd 40 0 (.bool b) := by cases b <;> exact ⟨by decide +kernel, by decide +kernel, by decide +kernel, by decide +kernel⟩
theorem gd_num {i : Int} (h : 0 ≤ i) (h2 : i ≤ MS) : Gd 132 0 (.str (numS i)) := by
  have hms : MS = 1000000000000 := rfl
  refine ⟨rfl, fit_str (n := 13) ?_ fun c hc => ?_⟩
  · rw [← cs_len, cs_num h]; exact digs_len (by omega)
  · rw [cs_num h] at hc
    have := digs_mem _ _ hc
    exact Nat.lt_of_le_of_lt this.2 (by decide)
theorem tup_mono {n : Nat} {ds es : List PyData} (h : ∀ x ∈ ds, Lv n x) (s : ∀ x ∈ es, x ∈ ds) : ∀ x ∈ es, Lv n x := fun x hx => h x (s x hx)
end DL
namespace K03
open PySem PySem.Spec PyProof.Rows L2 Evl TB DL
section
variable {P : Program} {w : World} {K : PySem.W.Frag} {mg : Str → Option Value} {base : Heap}
set_option maxHeartbeats 1000000 in
theorem bent_step (T : Txt mg) {f : Addr} {fd : FuncData} (F : Fun K "_law_bent" "_law_bent" s__law_bent f fd) {m : Nat} {sp0 : Sp} {kb : Nat} (hkb : kb ≤ 3 + m) (hsp : ∀ m', m = m' + 1 → sp0 = SpW (bentA m') (bentF m'))
    (h__law_draw : Keeps P w K mg base 1 "_law_draw" p__law_draw (SpW drawA drawF)) (h__law_one : Keeps P w K mg base 2 "_law_one" p__law_one (SpW oneA oneF)) (h__law_odd : Keeps P w K mg base 3 "_law_odd" p__law_odd (SpW nonA oddF))
    (h__law_bent : Keeps P w K mg base kb "_law_bent" p__law_bent sp0) : FnOk P w K mg base CX0 (3 + m + 1) f fd p__law_bent (SpW (bentA m) (bentF m)) := by
  refine F.ok sc__law_bent (fun vs H Q E h => ?_) (fun cdv A outer s H vs Q E hr h => ?_)
  · obtain ⟨d, g, l, N, es, vs', rfl, _, _, _, _, _, r, ⟨n, v, rfl, _⟩, _⟩ := h
    rw [List.length_cons, r.len]; rfl
  obtain ⟨d, g, l, N, es, vs', rfl, ok, nd, ng, nl, D, r, ⟨n0, dv, rfl, hn0, hv0⟩, q⟩ := h
  refine ⟨_, (pss_cons (ps_if (PW.pt (pw_and (pt_val (pe_callB call_isi (by rfl) T.n_isinstance (by decide +kernel) (pa_cons (pv 1) (pa_cons (pe_bltn (v := .ty "tuple") (u := .type "tuple") (by rfl) T.n_tuple (by decide +kernel) rfl) pa_nil)))) (pw_and (pt_cmpR (op_neD hr.units) (pv 1) (pe_tup pa_nil) (nomark _)) (pw_and (pt_cmpR op_gt (pv 2) pe_int (nomark _)) (pw_and1 (pt_cmpR op_gt (TB.pe_own h__law_draw (hr.mono (by first | decide | omega)) (by rfl) (pa_cons (pv 0) (pa_cons pe_int pa_nil))) pe_int (nomark _)))))))
 (pss_cons (ps_set (i := 3) sc__law_bent.nd rfl (.inl rfl) (TB.pe_own h__law_draw (hr.mono (by first | decide | omega)) (by rfl) (pa_cons (pv 0) (pa_cons (pe_callB call_len_seq (by rfl) T.n_len (by decide +kernel) (pa_cons (pv 1) pa_nil)) pa_nil))))
 (pss_one (ps_ret (pe_op op_catA (pe_op op_catA (pe_slice sl_tupA (pv 1) po_none (po_some (pv 3))) (pe_tup (pa_cons (TB.pe_own h__law_bent (hr.mono (by first | decide | omega)) (by rfl) (pa_cons (pv 0) (pa_cons (pe_ix ix_tup (pv 1) (pv 3) (fun _ _ => rfl)) (pa_cons (pe_op op_sub (pv 2) pe_int) pa_nil)))) pa_nil))) (pe_slice sl_tupA (pv 1) (po_some (pe_op op_add (pv 3) pe_int)) po_none))))) pss_nil)
 (pss_cons (ps_if (pt_not (pt_val (pe_callB call_isi (by rfl) T.n_isinstance (by decide +kernel) (pa_cons (pv 1) (pa_cons (pe_bltn (v := .ty "tuple") (u := .type "tuple") (by rfl) T.n_tuple (by decide +kernel) rfl) pa_nil)))))
 (pss_cons (ps_set (i := 4) sc__law_bent.nd rfl (.inl rfl) (pe_ifExp (pt_val (pe_callB call_isi (by rfl) T.n_isinstance (by decide +kernel) (pa_cons (pv 1) (pa_cons (pe_bltn (v := .ty "int") (u := .type "int") (by rfl) T.n_int (by decide +kernel) rfl) pa_nil)))) (pe_lst (pa_cons (pe_op op_add (pv 1) pe_int) (pa_cons (pe_op op_sub (pv 1) pe_int) (pa_cons (pe_callTy call_bool1 (by rfl) T.n_bool (by decide +kernel) (pa_cons (pv 1) pa_nil)) (pa_cons (pe_callTy call_str_int (by rfl) T.n_str (by decide +kernel) (pa_cons (pv 1) pa_nil)) pa_nil))))) (pe_lst pa_nil)))
 (pss_one (ps_ret (TB.pe_own h__law_one (hr.mono (by first | decide | omega)) (by rfl) (pa_cons (pv 0) (pa_cons (pe_op op_cat (pv 4) (pe_lst (pa_cons (TB.pe_own h__law_odd (hr.mono (by first | decide | omega)) (by rfl) (pa_cons (pv 0) pa_nil)) (pa_cons (TB.pe_own h__law_odd (hr.mono (by first | decide | omega)) (by rfl) (pa_cons (pv 0) pa_nil)) pa_nil)))) pa_nil)))))) pss_nil)
 (pss_cons (ps_set (i := 3) sc__law_bent.nd rfl (.inl rfl) (TB.pe_own h__law_draw (hr.mono (by first | decide | omega)) (by rfl) (pa_cons (pv 0) (pa_cons (pe_op op_add (pe_callB call_len_seq (by rfl) T.n_len (by decide +kernel) (pa_cons (pv 1) pa_nil)) pe_int) pa_nil))))
 (pss_cons (ps_set (i := 5) sc__law_bent.nd rfl (.inl rfl) (pe_lst (pa_cons (TB.pe_own h__law_odd (hr.mono (by first | decide | omega)) (by rfl) (pa_cons (pv 0) pa_nil)) (pa_cons (pe_slice sl_tupA (pv 1) (po_some pe_int) po_none) (pa_cons (pe_slice sl_tupA (pv 1) po_none (po_some (pe_un un_neg pe_int))) (pa_cons (DL.pe_revT (pv 1)) (pa_cons (pe_callTy call_list_of (by rfl) T.n_list (by decide +kernel) (pa_cons (pv 1) pa_nil)) (pa_cons (pe_op op_catA (pv 1) (pe_slice sl_tupA (pv 1) (po_some (pe_un un_neg pe_int)) po_none)) pa_nil))))))))
 (pss_one (ps_ret (TB.pe_own h__law_one (hr.mono (by first | decide | omega)) (by rfl) (pa_cons (pv 0) (pa_cons (pe_op op_cat (pv 5) (pe_lst (pa_cons (pe_op op_catA (pe_slice sl_tupA (pv 1) po_none (po_some (pv 3))) (pe_slice sl_tupA (pv 1) (po_some (pe_op op_add (pv 3) pe_int)) po_none)) (pa_cons (pe_op op_catA (pe_op op_catA (pe_slice sl_tupA (pv 1) po_none (po_some (pv 3))) (pe_tup (pa_cons (TB.pe_own h__law_odd (hr.mono (by first | decide | omega)) (by rfl) (pa_cons (pv 0) pa_nil)) pa_nil))) (pe_slice sl_tupA (pv 1) (po_some (pv 3)) po_none)) pa_nil)))) pa_nil))))))))), ?_⟩
  have S := St.startW (k := 3) ok nd ng nl D r
  have L := r.len
  match vs', L with
  | [v1, v2], _ =>
  have hms : MS = 1000000000000 := rfl
  refine d_if ?_
  cases n0 with
  | zero =>
    obtain ⟨i, rfl, i0, i1⟩ := hv0
    have t1 := fun tu => (et_and0 (tu := tu) (et_b (a := isA "tuple" (.int i)) (ev_isi' (K := K) (T := "tuple") (d := .int i) (ev_dat (i := 1) rfl) kit_tuple)) rfl : EvT (WD d g l N H) H _ S.rho (fun b => b = false))
    refine t1 _ [] [] _ H S _ fun b H1 S1 hb => ?_
    subst hb
    refine (if_neg Bool.false_ne_true).mpr ?_
    refine d_next ?_
    refine d_if ?_
    refine (et_not (et_b (ev_isi' (K := K) (T := "tuple") (ev_dat (i := 1) rfl) kit_tuple))) [] [] _ H1 S1 _ fun b H2 S2 hb => ?_
    subst hb
    refine (if_pos rfl).mpr ?_
    have E1 : EvP (WD d g l N H) H _ S2.rho _ := ev_if (tb := tLst tNil) (P := (· = .list [.int (i + 1), .int (i - 1), .bool (i != 0), .str (numS i)])) (et_b (ev_isi' (K := K) (T := "int") (ev_dat (i := 1) rfl) kit_int))
      (fun _ => ev_lst' (eva_more (ev_op' (ev_dat (i := 1) rfl) (ev_int (i := 1)) opd_add) (eva_more (ev_op' (ev_dat (i := 1) rfl) (ev_int (i := 1)) opd_sub) (eva_more (ev_cb' (eva_one (ev_dat (i := 1) rfl)) cad_boolI)
        (eva_one (ev_cb' (eva_one (ev_dat (i := 1) rfl)) (cad_strI (by
          by_cases h0 : i.natAbs = 0
          · rw [h0]; decide
          · exact Nat.lt_of_lt_of_le ((Nat.log2_lt h0).mpr (show i.natAbs < 2 ^ 41 by omega)) (by decide))))))) ) (show 4 ≤ 100000 by decide)) (fun h => nomatch h)
    refine d_asg ?_
    refine E1 [] [] _ H2 S2 _ fun x e H3 S3 p => ?_
    have S4 := S3.set (i := 4)
    rw [p] at S4
    clear p S3 E1
    have E2 : EvP (WD d g l N H) H _ S4.rho _ := ev_one (j := 0) rfl (ev_op (P1 := (· = .list [.int (i + 1), .int (i - 1), .bool (i != 0), .str (numS i)])) (P2 := fun e => ∃ o1 o2, e = .list [o1, o2] ∧ Gd 100 3 o1 ∧ Gd 100 3 o2)
        (P := fun e => ∃ o1 o2, e = .list ([.int (i + 1), .int (i - 1), .bool (i != 0), .str (numS i)] ++ [o1, o2]) ∧ Gd 100 3 o1 ∧ Gd 100 3 o2) (ev_dat (i := 4) rfl)
        ((ev_lst (PA := fun es => ∃ o1 o2, es = [o1, o2] ∧ Gd 100 3 o1 ∧ Gd 100 3 o2) (eva_cons (PA := fun es => ∃ o2, es = [o2] ∧ Gd 100 3 o2) (ev_callW (A := nonA) (F := oddF) (i := 0) rfl eva_nil fun es h => h)
          (eva_cons (ev_callW (A := nonA) (F := oddF) (i := 0) rfl eva_nil fun es h => h) eva_nil fun e es h1 h2 => ⟨e, by rw [h2], h1.choose_spec.2⟩) fun e es h1 h2 => by
            obtain ⟨o2, rfl, h3⟩ := h2
            exact ⟨e, o2, rfl, h1.choose_spec.2, h3⟩) fun es h => by
            obtain ⟨o1, o2, rfl, _⟩ := h
            exact (show 2 ≤ 100000 by decide)).imp fun e h => by
            obtain ⟨es, rfl, o1, o2, rfl, h1, h2⟩ := h
            exact ⟨o1, o2, rfl, h1, h2⟩)
        fun e1 e2 h1 h2 => by
          obtain ⟨o1, o2, rfl, g1, g2⟩ := h2
          subst h1
          exact (opd_catL (ds := [.int (i + 1), .int (i - 1), .bool (i != 0), .str (numS i)]) (es := [o1, o2]) (show 4 + 2 ≤ 100000 by decide)).imp fun e h => ⟨o1, o2, h, g1, g2⟩) fun e h => by
          obtain ⟨o1, o2, rfl, _⟩ := h
          exact ⟨_, rfl, (show 0 < 6 by decide), (show 6 ≤ 1000 by decide)⟩
    refine d_ret ?_
    refine E2 [] [] _ H3 S4 _ fun x e H' S' p => ?_
    obtain ⟨D', o', r'⟩ := S'.endW
    refine q x e H' D' o' r' fun n v hnv hn hl => ?_
    obtain ⟨ds, ⟨o1, o2, hd, g1, g2⟩, he⟩ := p
    cases hd
    have : n = 0 := by
      cases n with
      | zero => rfl
      | succ n =>
        obtain ⟨ds, h1, _⟩ := hl
        rw [h1] at hnv
        cases hnv
    subst this
    have b0 : Bo 0 = 1000 := rfl
    simp only [List.cons_append, List.nil_append, List.mem_cons, List.not_mem_nil, or_false] at he
    rcases he with rfl | rfl | rfl | rfl | rfl | rfl
    · exact (gd_int (by omega) (by have : (10 : Int) ^ 40 > 10 ^ 20 := by decide
                                   have : (10 : Int) ^ 20 > 2000000000000 := by decide
                                   omega)).mono (by omega) (by omega)
    · exact (gd_int (by omega) (by have : (10 : Int) ^ 40 > 10 ^ 20 := by decide
                                   have : (10 : Int) ^ 20 > 2000000000000 := by decide
                                   omega)).mono (by omega) (by omega)
    · exact (gd_bool _).mono (by omega) (by omega)
    · exact (gd_num i0 i1).mono (by omega) (by omega)
    · exact gd_odd g1 (by omega)
    · exact gd_odd g2 (by omega)
  | succ n0 =>
    obtain ⟨ds, rfl, hl, hds⟩ := hv0
    have lay : SeqAt.shaped (.tuple ds) = true := Lv.shaped (n := n0 + 1) ⟨ds, rfl, hl, hds⟩ (by omega)
    have dv : EvP (WD d g l N H) H (tVar 1) S.rho (· = .tuple ds) := ev_dat rfl
    have t1 : EvT (WD d g l N H) H _ S.rho (· = true) := et_b (a := isA "tuple" (.tuple ds)) (ev_isi' (K := K) (T := "tuple") (d := .tuple ds) dv kit_tuple)
    have t2 : EvT (WD d g l N H) H (tTest (tOp (rNeD K) (tVar 1) (tTup tNil))) S.rho (· = !(PyData.eqv (.tuple ds) (.tuple []))) := et_of (ev_op' dv (ev_tup' eva_nil (by decide)) (opd_neD lay (by decide)))
    have t3 : EvT (WD d g l N H) H (tTest (tOp (rI0 fun i j => .bl (decide (j < i))) (tVar 2) (tC (.int 0)))) S.rho (· = decide ((0 : Int) < m)) := et_of (ev_op' (ev_dat (i := 2) rfl) (ev_int (i := 0)) opd_gt)
    have t4 : EvT (WD d g l N H) H (tTest (tOp (rI0 fun i j => .bl (decide (j < i))) (tCall (SpW drawA drawF) [] E0 (tCons (tVar 0) (tCons (tC (.int 4)) tNil))) (tC (.int 0)))) S.rho (fun _ => True) :=
      et_of' (ev_op (P := fun e => ∃ b, e = .bool b) (ev_draw (j := 0) rfl (ev_int (i := 4)) (by decide) (by decide)) (ev_int (i := 0)) fun e1 e2 h1 h2 => by
        obtain ⟨r, rfl, _⟩ := h1
        subst h2
        exact opd_gt.imp fun e h => ⟨_, h⟩) fun e h => by
        obtain ⟨b, rfl⟩ := h
        exact ⟨b, rfl, trivial⟩
    refine (et_and1 t1 (by
      cases h2 : !(PyData.eqv (.tuple ds) (.tuple [])) with
      | false =>
        rw [h2] at t2
        exact et_and0 t2 fun h => nomatch h
      | true =>
        rw [h2] at t2
        refine et_and1 t2 ?_
        cases h3 : decide ((0 : Int) < m) with
        | false =>
          rw [h3] at t3
          exact et_and0 t3 fun h => nomatch h
        | true =>
          rw [h3] at t3
          refine et_and1 t3 (t4.imp fun b _ _ => ⟨fun z => ?_, by have := of_decide_eq_true h3; omega⟩)
          subst z
          exact absurd h2 (by decide)) : EvT (WD d g l N H) H _ S.rho (fun b => b = true → ds ≠ [] ∧ 0 < m)) [] [] _ H S _ fun b H1 S1 hb => ?_
    cases b with
    | true =>
      obtain ⟨hne, hm⟩ := hb rfl
      obtain ⟨m', rfl⟩ : ∃ m', m = m' + 1 := ⟨m - 1, by omega⟩
      have hs := hsp m' rfl
      subst hs
      refine (if_pos rfl).mpr ?_
      have dpos : 0 < ds.length := by cases ds with | nil => exact absurd rfl hne | cons a b => simp
      refine d_asg ?_
      refine (ev_draw (j := 0) rfl (ev_cb' (eva_one (ev_dat (i := 1) rfl)) (cad_len (K := K) (ds := ds))) (by omega) (by omega)) [] [] _ H1 S1 _ fun x e H2 S2 p => ?_
      obtain ⟨r, rfl, r0, r1⟩ := p
      obtain ⟨rn, rfl⟩ : ∃ rn : Nat, r = (rn : Int) := ⟨_, (Int.toNat_of_nonneg r0).symm⟩
      have rl : rn < ds.length := by omega
      have S3 := S2.set (i := 3)
      have dv3 : EvP (WD d g l N H) H (tVar 1) S3.rho (· = .tuple ds) := ev_dat rfl
      have dr3 : EvP (WD d g l N H) H (tVar 3) S3.rho (· = .int rn) := ev_dat rfl
      have at_ : atI ds (rn : Int) = some ds[rn] := atI_nat (List.getElem?_eq_getElem rl)
      have E1 : EvP (WD d g l N H) H _ S3.rho (fun e => ∃ x, e = .tuple ((DL.cutD ds none (some (rn : Int))) ++ [x] ++ (DL.cutD ds (some ((rn : Int) + 1)) none)) ∧ bentF m' [ds[rn], .int m'] x) :=
        ev_op (P1 := fun e => ∃ x, e = .tuple ((DL.cutD ds none (some (rn : Int))) ++ [x]) ∧ bentF m' [ds[rn], .int m'] x)
          (ev_op (P2 := fun e => ∃ x, e = .tuple [x] ∧ bentF m' [ds[rn], .int m'] x) (ev_slT (K := K) dv3 eo_none (eo_some dr3))
            ((ev_tup (PA := fun es => ∃ x, es = [x] ∧ bentF m' [ds[rn], .int m'] x) (eva_cons (ev_callW (A := bentA m') (F := bentF m') (PA := (· = [ds[rn], .int m'])) (i := 0) rfl
                (eva_more (ev_op' dv3 dr3 (opd_ixT (K := K) at_)) (eva_one (ev_op' (e := .int m') (ev_dat (i := 2) rfl) (ev_int (i := 1)) (opd_sub.imp fun e h => by rw [h]; congr 1; omega)))) fun es h => by
                  rw [h]; exact ⟨n0, _, rfl, by omega, hds _ (List.getElem_mem rl)⟩)
                eva_nil fun e es h1 h2 => by
                  obtain ⟨es', rfl, h3⟩ := h1
                  exact ⟨e, by rw [h2], h3⟩) fun es h => by
                  obtain ⟨x, rfl, _⟩ := h
                  exact (show 1 ≤ 100000 by decide)).imp fun e h => by
                  obtain ⟨es, rfl, x, rfl, h1⟩ := h
                  exact ⟨x, rfl, h1⟩)
            fun e1 e2 h1 h2 => by
              obtain ⟨x, rfl, h3⟩ := h2
              rw [h1]
              exact (opd_catT (K := K) (by have := cutD_len (ds := ds) (lo := none) (hi := some (rn : Int)); simp only [List.length_singleton]; omega)).imp fun e h => ⟨x, h, h3⟩)
          (ev_slT (K := K) dv3 (eo_some (ev_op' dr3 (ev_int (i := 1)) opd_add)) eo_none)
          fun e1 e2 h1 h2 => by
            obtain ⟨x, rfl, h3⟩ := h1
            rw [h2]
            exact (opd_catT (K := K) (by
              have a := cutD_len (ds := ds) (lo := none) (hi := some (rn : Int))
              have b := cutD_len (ds := ds) (lo := some ((rn : Int) + 1)) (hi := none)
              simp only [List.length_append, List.length_singleton]; omega)).imp fun e h => ⟨x, h, h3⟩
      refine d_ret ?_
      refine E1 [] [] _ H2 S3 _ fun x e H' S' p => ?_
      obtain ⟨D', o', r'⟩ := S'.endW
      refine q x e H' D' o' r' fun n v hnv hn hlv => ?_
      obtain ⟨y, rfl, hy⟩ := p
      have hv := (List.cons.inj hnv).1
      cases n with
      | zero =>
        obtain ⟨i, h1, _⟩ := hlv
        rw [h1] at hv; cases hv
      | succ n =>
        obtain ⟨ds', h1, h2, h3⟩ := hlv
        rw [h1] at hv
        cases hv
        refine gd_mid (n := n) (fun x hx => h3 x (cutD_mem hx)) (fun x hx => h3 x (cutD_mem hx)) (hy n _ rfl (by omega) (h3 _ (List.getElem_mem rl))) ?_ (by omega)
        rw [show (rn : Int) + 1 = ((rn + 1 : Nat) : Int) from rfl, cutD_to, cutD_from, List.length_take, List.length_drop]
        omega
    | false =>
      refine (if_neg Bool.false_ne_true).mpr ?_
      refine d_next ?_
      refine d_if ?_
      refine (et_not (et_b (a := isA "tuple" (.tuple ds)) (ev_isi' (K := K) (T := "tuple") (d := .tuple ds) (ev_dat (i := 1) rfl) kit_tuple))) [] [] _ H1 S1 _ fun b H2 S2 hb => ?_
      subst hb
      refine (if_neg Bool.false_ne_true).mpr ?_
      refine d_next ?_
      refine d_asg ?_
      refine (ev_draw (j := 0) rfl (ev_op' (ev_cb' (eva_one (ev_dat (i := 1) rfl)) (cad_len (K := K) (ds := ds))) (ev_int (i := 1)) opd_add) (by omega) (by omega)) [] [] _ H2 S2 _ fun x e H3 S3' p => ?_
      obtain ⟨r, rfl, r0, r1⟩ := p
      obtain ⟨rn, rfl⟩ : ∃ rn : Nat, r = (rn : Int) := ⟨_, (Int.toNat_of_nonneg r0).symm⟩
      have S3 := S3'.set (i := 3)
      have dv3 : EvP (WD d g l N H) H (tVar 1) S3.rho (· = .tuple ds) := ev_dat rfl
      have E1 : EvP (WD d g l N H) H _ S3.rho (fun e => ∃ o, Gd 100 3 o ∧ e = .list (o :: [.tuple (DL.cutD ds (some 1) none), .tuple (DL.cutD ds none (some (-1))), .tuple ds.reverse, .list ds, .tuple (ds ++ DL.cutD ds (some (-1)) none)])) :=
        (ev_lst (PA := fun es => ∃ o, Gd 100 3 o ∧ es = o :: [.tuple (DL.cutD ds (some 1) none), .tuple (DL.cutD ds none (some (-1))), .tuple ds.reverse, .list ds, .tuple (ds ++ DL.cutD ds (some (-1)) none)])
          (eva_cons (ev_callW (A := nonA) (F := oddF) (i := 0) rfl eva_nil fun es h => h) (eva_more (ev_slT (K := K) dv3 (eo_some (ev_int (i := 1))) eo_none) (eva_more (ev_slT (K := K) dv3 eo_none (eo_some (ev_neg (ev_int (i := 1)))))
            (eva_more (ev_revT (K := K) dv3) (eva_more (ev_cb' (eva_one dv3) (cad_list (K := K))) (eva_one (ev_op' dv3 (ev_slT (K := K) dv3 (eo_some (ev_neg (ev_int (i := 1)))) eo_none) (opd_catT (K := K) (by have := cutD_len (ds := ds) (lo := some (-1)) (hi := none); omega))))))))
            fun e es h1 h2 => ⟨e, h1.choose_spec.2, by rw [h2]⟩) fun es h => by
            obtain ⟨o, _, rfl⟩ := h
            exact (show 6 ≤ 100000 by decide)).imp fun e h => by
            obtain ⟨es, rfl, o, ho, rfl⟩ := h
            exact ⟨o, ho, rfl⟩
      refine d_asg ?_
      refine E1 [] [] _ H3 S3 _ fun x e H4 S4' p => ?_
      obtain ⟨o, ho, rfl⟩ := p
      have S4 := S4'.set (i := 5)
      clear E1 dv3
      have dv4 : EvP (WD d g l N H) H (tVar 1) S4.rho (· = .tuple ds) := ev_dat rfl
      have dr4 : EvP (WD d g l N H) H (tVar 3) S4.rho (· = .int rn) := ev_dat rfl
      have c1 := cutD_len (ds := ds) (lo := none) (hi := some (rn : Int))
      have c2 := cutD_len (ds := ds) (lo := some ((rn : Int) + 1)) (hi := none)
      have c3 := cutD_len (ds := ds) (lo := some (rn : Int)) (hi := none)
      have s0 := ev_slT (K := K) dv4 eo_none (eo_some dr4)
      have s1 := ev_slT (K := K) dv4 (eo_some (ev_op' dr4 (ev_int (i := 1)) opd_add)) eo_none
      have s2 := ev_slT (K := K) dv4 (eo_some dr4) eo_none
      have B1 : EvP (WD d g l N H) H _ S4.rho (fun e => ∃ o2, Gd 100 3 o2 ∧ e = .tuple (DL.cutD ds none (some (rn : Int)) ++ [o2] ++ DL.cutD ds (some (rn : Int)) none)) :=
        ev_op (P1 := fun e => ∃ o2, Gd 100 3 o2 ∧ e = .tuple (DL.cutD ds none (some (rn : Int)) ++ [o2]))
          (ev_op (P2 := fun e => ∃ o2, Gd 100 3 o2 ∧ e = .tuple [o2]) s0
            ((ev_tup (PA := fun es => ∃ o2, Gd 100 3 o2 ∧ es = [o2]) (eva_cons (ev_callW (A := nonA) (F := oddF) (i := 0) rfl eva_nil fun es h => h) eva_nil fun e es h1 h2 => ⟨e, h1.choose_spec.2, by rw [h2]⟩) fun es h => by
              obtain ⟨o2, _, rfl⟩ := h
              exact (show 1 ≤ 100000 by decide)).imp fun e h => by
              obtain ⟨es, rfl, o2, ho2, rfl⟩ := h
              exact ⟨o2, ho2, rfl⟩)
            fun e1 e2 h1 h2 => by
              obtain ⟨o2, ho2, rfl⟩ := h2
              rw [h1]
              exact (opd_catT (K := K) (by simp only [List.length_singleton]; omega)).imp fun e h => ⟨o2, ho2, h⟩)
          s2 fun e1 e2 h1 h2 => by
            obtain ⟨o2, ho2, rfl⟩ := h1
            rw [h2]
            exact (opd_catT (K := K) (by simp only [List.length_append, List.length_singleton]; omega)).imp fun e h => ⟨o2, ho2, h⟩
      have E2 : EvP (WD d g l N H) H _ S4.rho _ := ev_one (j := 0) rfl
        (ev_op (P1 := (· = .list (o :: [.tuple (DL.cutD ds (some 1) none), .tuple (DL.cutD ds none (some (-1))), .tuple ds.reverse, .list ds, .tuple (ds ++ DL.cutD ds (some (-1)) none)])))
          (P2 := fun e => ∃ o2, Gd 100 3 o2 ∧ e = .list [.tuple (DL.cutD ds none (some (rn : Int)) ++ DL.cutD ds (some ((rn : Int) + 1)) none), .tuple (DL.cutD ds none (some (rn : Int)) ++ [o2] ++ DL.cutD ds (some (rn : Int)) none)])
          (P := fun e => ∃ o2, Gd 100 3 o2 ∧ e = .list ((o :: [.tuple (DL.cutD ds (some 1) none), .tuple (DL.cutD ds none (some (-1))), .tuple ds.reverse, .list ds, .tuple (ds ++ DL.cutD ds (some (-1)) none)]) ++ [.tuple (DL.cutD ds none (some (rn : Int)) ++ DL.cutD ds (some ((rn : Int) + 1)) none), .tuple (DL.cutD ds none (some (rn : Int)) ++ [o2] ++ DL.cutD ds (some (rn : Int)) none)]))
          (ev_dat (i := 5) rfl)
          ((ev_lst (PA := fun es => ∃ o2, Gd 100 3 o2 ∧ es = [.tuple (DL.cutD ds none (some (rn : Int)) ++ DL.cutD ds (some ((rn : Int) + 1)) none), .tuple (DL.cutD ds none (some (rn : Int)) ++ [o2] ++ DL.cutD ds (some (rn : Int)) none)])
            (eva_cons (PA := fun es => ∃ o2, Gd 100 3 o2 ∧ es = [.tuple (DL.cutD ds none (some (rn : Int)) ++ [o2] ++ DL.cutD ds (some (rn : Int)) none)]) (ev_op' s0 s1 (opd_catT (K := K) (by omega)))
              (eva_cons B1 eva_nil fun e es h1 h2 => by
                obtain ⟨o2, ho2, rfl⟩ := h1
                exact ⟨o2, ho2, by rw [h2]⟩) fun e es h1 h2 => by
              obtain ⟨o2, ho2, rfl⟩ := h2
              exact ⟨o2, ho2, by rw [h1]⟩) fun es h => by
              obtain ⟨o2, _, rfl⟩ := h
              exact (show 2 ≤ 100000 by decide)).imp fun e h => by
              obtain ⟨es, rfl, o2, ho2, rfl⟩ := h
              exact ⟨o2, ho2, rfl⟩)
          fun e1 e2 h1 h2 => by
            obtain ⟨o2, ho2, rfl⟩ := h2
            rw [h1]
            exact (opd_catL (by exact (show 6 + 2 ≤ 100000 by decide))).imp fun e h => ⟨o2, ho2, h⟩)
        fun e h => by
          obtain ⟨o2, _, rfl⟩ := h
          exact ⟨_, rfl, (show 0 < 8 by decide), (show 8 ≤ 1000 by decide)⟩
      refine d_ret ?_
      refine E2 [] [] _ H4 S4 _ fun x e H' S' p => ?_
      obtain ⟨D', o', r'⟩ := S'.endW
      refine q x e H' D' o' r' fun n v hnv hn hlv => ?_
      obtain ⟨ls, ⟨o2, ho2, hd⟩, he⟩ := p
      cases hd
      have hv := (List.cons.inj hnv).1
      cases n with
      | zero =>
        obtain ⟨i, h1, _⟩ := hlv
        rw [h1] at hv; cases hv
      | succ n =>
        obtain ⟨ds', h1, h2, h3⟩ := hlv
        rw [h1] at hv
        cases hv
        have m1 := cutD_len (ds := ds) (lo := some 1) (hi := none)
        have m2 := cutD_len (ds := ds) (lo := none) (hi := some (-1))
        have m3 : (DL.cutD ds (some (-1)) none).length ≤ 1 := by
          unfold DL.cutD
          rw [HT.sIx_none]
          show (List.take (ds.length - (if (-1 : Int) < 0 then ((-1 : Int) + (ds.length : Int)).toNat else min (-1 : Int).toNat ds.length)) (ds.drop (if (-1 : Int) < 0 then ((-1 : Int) + (ds.length : Int)).toNat else min (-1 : Int).toNat ds.length))).length ≤ 1
          rw [if_pos (by decide), List.length_take, List.length_drop]
          omega
        have t1 : (DL.cutD ds none (some (rn : Int))).length + (DL.cutD ds (some ((rn : Int) + 1)) none).length ≤ ds.length := by
          rw [show (rn : Int) + 1 = ((rn + 1 : Nat) : Int) from rfl, cutD_to, cutD_from, List.length_take, List.length_drop]; omega
        have t2 : (DL.cutD ds none (some (rn : Int))).length + (DL.cutD ds (some (rn : Int)) none).length ≤ ds.length := by
          rw [cutD_to, cutD_from, List.length_take, List.length_drop]; omega
        simp only [List.cons_append, List.nil_append, List.mem_cons, List.not_mem_nil, or_false] at he
        rcases he with rfl | rfl | rfl | rfl | rfl | rfl | rfl | rfl
        · exact gd_odd ho (by omega)
        · exact gd_tup (fun x hx => h3 x (cutD_mem hx)) (by omega) (by omega)
        · exact gd_tup (fun x hx => h3 x (cutD_mem hx)) (by omega) (by omega)
        · exact gd_tup (fun x hx => h3 x (List.mem_reverse.mp hx)) (by rw [List.length_reverse]; omega) (by omega)
        · exact gd_lst h3 (by omega) (by omega)
        · exact gd_tup (fun x hx => (List.mem_append.mp hx).elim (h3 x) fun h => h3 x (cutD_mem h)) (by rw [List.length_append]; omega) (by omega)
        · exact gd_tup (fun x hx => (List.mem_append.mp hx).elim (fun h => h3 x (cutD_mem h)) fun h => h3 x (cutD_mem h)) (by rw [List.length_append]; omega) (by omega)
        · exact gd_mid (n := n) (fun x hx => h3 x (cutD_mem hx)) (fun x hx => h3 x (cutD_mem hx)) (gd_odd ho2 (by omega)) (by omega) (by omega)
theorem ok__law_bent (T : Txt mg) {f : Addr} {fd : FuncData} (F : Fun K "_law_bent" "_law_bent" s__law_bent f fd) (hg : mg "_law_bent" = some (.ref f)) (hb : Binds K fd p__law_bent [])
    (h__law_draw' : Keeps P w K mg base 1 "_law_draw" p__law_draw spDraw) (h__law_one' : Keeps P w K mg base 2 "_law_one" p__law_one spOne) (h__law_odd : Keeps P w K mg base 3 "_law_odd" p__law_odd (SpW nonA oddF)) :
    ∀ m, FnOk P w K mg base CX0 (3 + m + 1) f fd p__law_bent (SpW (bentA m) (bentF m)) := by
  have h__law_draw := DL.Keeps.imp h__law_draw' fun _ _ _ _ => draw_imp
  have h__law_one := DL.Keeps.imp h__law_one' fun _ _ _ _ => one_imp
  intro m
  induction m with
  | zero => exact bent_step T F (m := 0) (sp0 := fun _ _ _ _ => False) (kb := 0) (by omega) (fun m' h => by omega) h__law_draw h__law_one h__law_odd ⟨f, fd, hg, F.kp, hb, ⟨fun _ _ _ _ h => h.elim, fun _ _ _ _ _ _ _ _ _ _ _ _ _ h => h.elim⟩⟩
  | succ m ih => exact bent_step T F (m := m + 1) (kb := 3 + m + 1) (by omega) (fun m' h => by rw [show m' = m by omega]) h__law_draw h__law_one h__law_odd ⟨f, fd, hg, F.kp, hb, ih⟩
end
end K03
set_option Elab.async false
set_option linter.all false
set_option maxRecDepth 100000
namespace K03
open PySem PySem.Spec PyProof.Rows L2 Evl TB DL
section
variable {P : Program} {w : World} {K : PySem.W.Frag} {mg : Str → Option Value} {base : Heap}
/-! ### all cells of a small box -/
def CellI (ns : List Int) (i : Nat) (c : PyData) : Prop := ∃ is : List Int, c = tupI is ∧ is.length = i ∧ ∀ k, k < i → 0 ≤ is.getD k 0 ∧ is.getD k 0 < ns.getD k 0
theorem cellI_snoc {ns : List Int} {i : Nat} {c : PyData} {j n : Int} (h : CellI ns i c) (hn : ns[i]? = some n) (j0 : 0 ≤ j) (j1 : j < n) : ∃ is : List Int, c = tupI is ∧ CellI ns (i + 1) (.tuple (is.map PyData.int ++ [.int j])) := by
  obtain ⟨is, rfl, hl, hk⟩ := h
  refine ⟨is, rfl, is ++ [j], by unfold tupI; rw [List.map_append]; rfl, by rw [List.length_append, hl]; rfl, fun k hk' => ?_⟩
  by_cases z : k < i
  · have e : (is ++ [j]).getD k 0 = is.getD k 0 := by
      rw [List.getD_eq_getElem?_getD, List.getElem?_append_left (by omega), ← List.getD_eq_getElem?_getD]
    rw [e]; exact hk k z
  · have : k = i := by omega
    subst this
    have e : (is ++ [j]).getD k 0 = j := by
      rw [List.getD_eq_getElem?_getD, List.getElem?_append_right (by omega), hl, Nat.sub_self]; rfl
    have e2 : ns.getD k 0 = n := by rw [List.getD_eq_getElem?_getD, hn]; rfl
    rw [e, e2]; exact ⟨j0, j1⟩
theorem cellI_cell {ns : List Int} {c : PyData} (h : CellI ns ns.length c) : cellD ns c = true := by
  obtain ⟨is, rfl, hl, hk⟩ := h
  show ((is.map PyData.int).length == ns.length && _) = true
  rw [List.length_map, hl, beq_self_eq_true, Bool.true_and, List.all_eq_true]
  intro k hk'
  have kl := List.mem_range.mp hk'
  have e : (is.map PyData.int).getD k .none = .int (is.getD k 0) := by
    rw [List.getD_eq_getElem?_getD, List.getElem?_map, List.getD_eq_getElem?_getD, List.getElem?_eq_getElem (by omega : k < is.length)]; rfl
  rw [e]
  obtain ⟨a, b⟩ := hk k kl
  show (decide _ && decide _) = true
  rw [decide_eq_true a, decide_eq_true b]; rfl
def celA (es : List PyData) : Prop := ∃ ns : List Int, es = [tupI ns] ∧ ns.length ≤ 2 ∧ ∀ n ∈ ns, 1 ≤ n ∧ n ≤ 16
def celF (es : List PyData) (e : PyData) : Prop := ∃ (ns : List Int) (cs : List PyData), es = [tupI ns] ∧ e = .list cs ∧ cs.length ≤ 256 ∧ ∀ c ∈ cs, cellD ns c = true
theorem ok__law_cells (T : Txt mg) {f : Addr} {fd : FuncData} (F : Fun K "_law_cells" "_law_cells" s__law_cells f fd) : FnOk P w K mg base CX0 1 f fd p__law_cells (SpF celA celF) := by
  refine F.ok sc__law_cells (fun vs H Q E h => ?_) (fun cdv A outer s H vs Q E hr h => ?_)
  · obtain ⟨N, es, _, r, ⟨ns, rfl, _⟩, _⟩ := h
    rw [r.len]; rfl
  obtain ⟨N, es, ok, r, ⟨ns, rfl, hn2, hn⟩, q⟩ := h
  refine ⟨_, (pss_cons (ps_set (i := 1) sc__law_cells.nd rfl (.inl rfl) (pe_lst (pa_cons (pe_tup pa_nil) pa_nil)))
 (pss_cons (ps_for PassesOwn.never rfl (pi_tup (pv 0)) (pg_name (i := 2) sc__law_cells.nd rfl (.inl rfl))
 (pss_cons (ps_set (i := 3) sc__law_cells.nd rfl (.inl rfl) (pe_lst pa_nil))
 (pss_cons (ps_for PassesOwn.never rfl (pi_list (pe_callTy call_list_of (by rfl) T.n_list (by decide +kernel) (pa_cons (pv 1) pa_nil))) (pg_name (i := 4) sc__law_cells.nd rfl (.inr rfl))
 (pss_one (ps_expr (pe_bm PySem.F.plainAttrs_list PySem.F.slot_list_extend PySem.F.type_list_extend mt_extend (pv 3) (pa_cons (pe_lc (own := [("_law_k", 5)]) (g := gName 5) rfl sc__law_cells.nd (pi_range1 (by rfl) T.n_range (pa_cons (pv 2) pa_nil)) (blkOk_by (N := n__law_cells) (sc := defScope s__law_cells) (by decide +kernel)) (fun _ _ _ _ _ => pg_name (i := 5) sc__law_cells.nd rfl (.inl rfl)) (fun _ _ _ _ _ => pts_nil) (fun _ _ _ _ _ => (pe_op (r := rCatA K) op_catA (pv 4) (pe_tup (pa_cons (pv 5) pa_nil))))) pa_nil)))))
 (pss_one (ps_set (i := 1) sc__law_cells.nd rfl (.inl rfl) (pv 3))))))
 (pss_one (ps_ret (pv 1))))), ?_⟩
  have S := St.startF (k := 5) ok r
  have L := r.len
  match vs, L with
  | [vb], _ =>
  cases r with
  | cons rb r =>
  unfold tupI at rb
  cases rb with
  | @tup ab xb _ hB nB aB =>
  have xbe := rgInts_inv aB
  subst xbe
  have E1 : EvP (WF N H) H _ S.rho _ := ev_lst' (eva_one (ev_tup' eva_nil (by decide))) (show 1 ≤ 100000 by decide)
  refine d_asg ?_
  refine E1 [] [] _ H S _ fun v e H1 S1' p => ?_
  subst p
  have S1 := (S1'.set (i := 1)).less (ρ' := [some (.dat (tupI ns)), some (.dat (.list [.tuple []])), none, none, none, none]) rfl (fun i s h => h)
  refine ⟨_, rfl, ab, rfl, ⟨_, .inl (.inl (S1.off ab _ hB nB))⟩, ?_⟩
  refine for_tup (K := K) (a := ab) (xs := ns.map V.int) (fun i σ H' => ∃ cs : List PyData, St (WF N H) H [some (.dat (tupI ns)), some (.dat (.list cs)), none, none, none, none] [] [] σ H' ∧ cs.length ≤ 16 ^ i ∧ ∀ c ∈ cs, CellI ns i c)
    ⟨_, S1, Nat.le_refl _, fun c hc => by rw [List.mem_singleton.mp hc]; exact ⟨[], rfl, rfl, fun k hk => absurd hk (Nat.not_lt_zero k)⟩⟩ (fun i σ H' _ h => ?_) (fun i x σ H' hx h => ?_) (fun σ H' h => ?_)
  · obtain ⟨cs, S2, _⟩ := h
    exact .inl (.inl (S2.off ab _ hB nB))
  · obtain ⟨cs, S2, cl, hc⟩ := h
    rw [List.getElem?_map] at hx
    obtain ⟨n, hi, rfl⟩ := Option.map_eq_some_iff.mp hx
    have hm := hn n (List.mem_of_getElem? hi)
    have il : i < ns.length := (List.getElem?_eq_some_iff.mp hi).1
    have cl16 : cs.length ≤ 16 := Nat.le_trans cl (by
      have : i ≤ 1 := by omega
      rcases Nat.le_one_iff_eq_zero_or_eq_one.mp this with rfl | rfl <;> decide)
    -- side = x
    have S3 : St (WF N H) H [some (.dat (tupI ns)), some (.dat (.list cs)), some (.dat (.int n)), none, none, none] [] [] (σ.set 2 (some (.int n))) H' := by
      obtain ⟨N', m3, m5, m4, q'⟩ := S2.ext
      exact (q' H' [((.int n, .int n) : V × PyData)] ex_refl fun p hp => by rw [List.mem_singleton.mp hp]; exact .int n).set (i := 2)
    -- longer = []
    refine ⟨Nat.zero_le _, fun p hp => ?_⟩
    have S4' := S3.newL hp
    have S4 : St (WF N H) H [some (.dat (tupI ns)), some (.dat (.list cs)), some (.dat (.int n)), some (.raw (.ref p)), none, none] [] [(p, [])] ((σ.set 2 (some (.int n))).set 3 (some (.ref p))) (upd H' p (.lst [])) :=
      (S4'.clr (i := 3) (o := some (.ref p))).raws (i := 3) (v := .ref p) (List.getElem?_set_self (by rw [← S4'.len]; exact (show 3 < 6 by decide))) (show 3 < 6 by decide)
    generalize upd H' p (.lst []) = H4 at S4
    clear S4' hp
    -- for cell in list(found)
    have E2 : EvP (WF N H) H _ S4.rho _ := ev_cb' (eva_one (ev_dat (i := 1) rfl)) (cad_listL (K := K))
    refine d_nx ?_
    refine d_seq ?_
    refine d_forL ?_
    refine E2 [] _ _ H4 S4 _ fun v e H5 S5 pe => ?_
    subst pe
    refine for_dataL (K := K) (i := 4) S5 (fun j ρ' l' => ∃ (acc : List PyData) (x4 : Option Sl), ρ' = [some (.dat (tupI ns)), some (.dat (.list cs)), some (.dat (.int n)), some (.raw (.ref p)), x4, none] ∧ l' = [(p, acc)] ∧ acc.length ≤ j * 16 ∧ ∀ c ∈ acc, CellI ns (i + 1) c)
      ⟨[], none, rfl, rfl, Nat.zero_le _, fun _ h => nomatch h⟩ (fun G j dd ρ' l' σ' H6 u1 u2 hd hJ S6 Nx nx => ?_) (fun ρ' l' σ' H6 hJ S6 => ?_)
    · obtain ⟨acc, x4, rfl, rfl, al, ac⟩ := hJ
      have S6 : St (WF N H) G [some (.dat (tupI ns)), some (.dat (.list cs)), some (.dat (.int n)), some (.raw (.ref p)), some (.dat dd), none] [(v, .list cs)] [(p, acc)] σ' H6 := S6
      have jl : j < cs.length := (List.getElem?_eq_some_iff.mp hd).1
      have hcd := hc dd (List.mem_of_getElem? hd)
      obtain ⟨is, hdd, hl, hk⟩ := id hcd
      subst hdd
      obtain ⟨ys, hy, yl⟩ := S6.loc
      have E3 : EvP (WF N H) G _ S6.rho _ := ev_lcR (n := n) (i := 5) (P := fun c => CellI ns (i + 1) c) (by omega) (by omega) rfl (ev_dat (i := 2) rfl) fun k hk' =>
        (ev_op' (ev_dat (i := 4) (e := tupI is) rfl) (ev_tup' (eva_one (ev_dat (i := 5) rfl)) (show 1 ≤ 100000 by decide)) (opd_catT (K := K) (by rw [List.length_map]; simp only [List.length_singleton]; omega))).imp fun e h => by
          subst h
          obtain ⟨is', h1, h2⟩ := cellI_snoc hcd hi (j := k) (by omega) hk'
          rw [tupI_inj h1]; exact h2
      refine ⟨_, S6.raw (i := 3) rfl, .inl ⟨rfl, _, .inl (.inl hy)⟩, ?_⟩
      refine E3 _ _ _ H6 S6 _ fun v2 e2 H7 S7 pe2 => ?_
      obtain ⟨es, rfl, el, eP⟩ := pe2
      obtain ⟨b, bxs, rfl, _⟩ := S7.baseL
      obtain ⟨xs, zs, x1, x2, x3, x4', S8⟩ := S7.more
      refine ⟨p, b, xs, zs, rfl, rfl, x1, x2, size_small (by rw [x3, x4']; omega), ?_⟩
      refine nx _ _ _ _ ⟨acc ++ es, _, rfl, rfl, by rw [List.length_append]; omega, fun c hc' => ?_⟩ S8
      rcases List.mem_append.mp hc' with h | h
      · exact ac c h
      · exact eP c h
    · obtain ⟨acc, x4, rfl, rfl, al, ac⟩ := hJ
      refine ⟨_, S6.raw (i := 3) rfl, acc, ?_, ?_, ac⟩
      · have S7 := (S6.frz).set (i := 1)
        exact (S7.less (ρ' := [some (.dat (tupI ns)), some (.dat (.list acc)), none, none, none, none]) rfl (fun i s h => by
          match i, h with
          | 0, h => exact h
          | 1, h => exact h
          | 2, h => cases h
          | 3, h => cases h
          | 4, h => cases h
          | 5, h => cases h)).mono fun _ h => nomatch h
      · rw [Nat.pow_succ]
        exact Nat.le_trans al (Nat.mul_le_mul_right 16 cl)
  · obtain ⟨cs, S2, cl, hc⟩ := h
    rw [List.length_map] at cl hc
    refine d_nx ?_
    refine d_ret ?_
    refine (ev_dat (i := 1) (e := .list cs) rfl) [] [] _ H' S2 _ fun v e H3 S3 p => ?_
    obtain ⟨x, y⟩ := S3.endF
    refine q v e H3 x y ⟨ns, cs, rfl, p, Nat.le_trans cl ?_, fun c h => cellI_cell (hc c h)⟩
    exact Nat.le_trans (Nat.pow_le_pow_right (by decide) hn2) (by decide)
end
end K03
set_option Elab.async false
set_option linter.all false
set_option maxRecDepth 100000
namespace K03
open PySem PySem.Spec PyProof.Rows L2 Evl TB DL
section
variable {P : Program} {w : World} {K : PySem.W.Frag} {mg : Str → Option Value} {base : Heap}
def spLaw (K : PySem.W.Frag) : Sp := fun vs H Q _ => ∃ (a : Addr) (ns : List Int), vs = [.ref a] ∧ SqL K H a (ns.map V.int) ∧ ns.length ≤ 63 ∧ ∀ H', Q (.bl true) H'
def Bx (ns : List Int) : Prop := 1 ≤ ns.length ∧ ns.length ≤ 4 ∧ ∀ n ∈ ns, 1 ≤ n ∧ n ≤ MS
theorem prod_cons (n : Int) (ns : List Int) : prod (n :: ns) = n * prod ns := by
  unfold prod
  have : ∀ (l : List Int) (a b : Int), l.foldl (· * ·) (a * b) = a * l.foldl (· * ·) b := fun l => by
    induction l with
    | nil => exact fun _ _ => rfl
    | cons x l ih => intro a b; rw [List.foldl_cons, List.foldl_cons, Int.mul_assoc, ih]
  rw [List.foldl_cons, Int.one_mul]
  have e := this ns n 1
  rw [Int.mul_one] at e
  exact e
theorem prod_pos : ∀ {ns : List Int}, (∀ n ∈ ns, 1 ≤ n ∧ n ≤ MS) → 1 ≤ prod ns ∧ ∀ n ∈ ns, n ≤ prod ns
  | [], _ => ⟨by decide, fun _ h => nomatch h⟩
  | n :: ns, h => by
    obtain ⟨a, b⟩ := prod_pos fun m hm => h m (List.mem_cons_of_mem _ hm)
    have hn := (h n List.mem_cons_self).1
    rw [prod_cons]
    have k1 : prod ns ≤ n * prod ns := by
      have := Int.mul_le_mul_of_nonneg_right hn (by omega : 0 ≤ prod ns)
      rw [Int.one_mul] at this
      exact this
    have k2 : n ≤ n * prod ns := by
      have := Int.mul_le_mul_of_nonneg_left a (by omega : 0 ≤ n)
      rw [Int.mul_one] at this
      exact this
    refine ⟨by omega, fun m hm => ?_⟩
    rcases List.mem_cons.mp hm with rfl | hm
    · exact k2
    · have := b m hm; omega
theorem prod_le : ∀ {ns : List Int}, (∀ n ∈ ns, 1 ≤ n ∧ n ≤ MS) → prod ns ≤ MS ^ ns.length
  | [], _ => by decide
  | n :: ns, h => by
    have ih := prod_le fun m hm => h m (List.mem_cons_of_mem _ hm)
    have p := (prod_pos fun m hm => h m (List.mem_cons_of_mem _ hm)).1
    obtain ⟨h1, h2⟩ := h n List.mem_cons_self
    rw [prod_cons, List.length_cons, Int.pow_succ, Int.mul_comm (MS ^ ns.length)]
    have hms : MS = 1000000000000 := rfl
    exact Int.mul_le_mul h2 ih (by omega) (by omega)
theorem gd_prod {ns : List Int} (h : Bx ns) : Gd 60 0 (.int (prod ns)) := by
  refine ⟨rfl, fit_nat2 (by have := (prod_pos h.2.2).1; omega) ?_⟩
  have a := prod_le h.2.2
  have b : MS ^ ns.length ≤ MS ^ 4 := by
    have : ns.length = 1 ∨ ns.length = 2 ∨ ns.length = 3 ∨ ns.length = 4 := by have := h.1; have := h.2.1; omega
    rcases this with e | e | e | e <;> rw [e] <;> decide
  have c : MS ^ 4 < 10 ^ 60 := by decide
  omega
theorem lv_cell {ds : List Int} (hl : ds.length ≤ 4) (h : ∀ n ∈ ds, 0 ≤ n ∧ n ≤ MS) : Lv 1 (tupI ds) := ⟨_, rfl, by rw [List.length_map]; omega, fun x hx => by
  obtain ⟨n, hn, rfl⟩ := List.mem_map.mp hx
  exact ⟨n, rfl, h n hn⟩⟩
set_option maxHeartbeats 4000000 in
theorem ok_law (T : Txt mg) {f : Addr} {fd : FuncData} (F : Fun K "law" "law" s_law f fd)
    (h_is_cell : Keeps P w K mg base 3 "is_cell" p_is_cell (SpF boxA boxF)) (h_volume : Keeps P w K mg base 1 "volume" p_volume (SpF volA volF)) (h__law_deck : Keeps P w K mg base 1 "_law_deck" p__law_deck (spDeck K))
    (h__law_draw' : Keeps P w K mg base 1 "_law_draw" p__law_draw spDraw) (h__law_one' : Keeps P w K mg base 2 "_law_one" p__law_one spOne) (h__law_volume : Keeps P w K mg base 1 "_law_volume" p__law_volume (SpF volA volF))
    (h__law_odd : Keeps P w K mg base 3 "_law_odd" p__law_odd (SpW nonA oddF)) (h__law_bent : Keeps P w K mg base (3 + 2 + 1) "_law_bent" p__law_bent (SpW (bentA 2) (bentF 2))) (h__law_sides : Keeps P w K mg base 2 "_law_sides" p__law_sides (SpW sidA sidF))
    (h__law_cells : Keeps P w K mg base 1 "_law_cells" p__law_cells (SpF celA celF)) (h__law_wide' : Keeps P w K mg base 4 "_law_wide" p__law_wide spWide) (h__law_with : Keeps P w K mg base 1 "_law_with" p__law_with (SpF withA withF))
    (h__law_is_cell : Keeps P w K mg base 2 "_law_is_cell" p__law_is_cell (SpF boxA boxF)) : AtTop P w K mg base f fd "_law_script" (spLaw K) := by
  have h__law_draw := DL.Keeps.imp h__law_draw' fun _ _ _ _ => draw_imp
  have h__law_one := DL.Keeps.imp h__law_one' fun _ _ _ _ => one_imp
  have h__law_wide := DL.Keeps.imp h__law_wide' fun _ _ _ _ => wide_imp
  refine atTop_of F sc_law ⟨rfl, by decide, by decide⟩ (k := 8) (fun cdv s H v Q E hr h => ?_)
  obtain ⟨a, ns, ⟨⟩, hS, hn, k⟩ := h
  refine ⟨_, (pss_cons (ps_set (i := 1) sc_law.nd rfl (.inr rfl) (TB.pe_own h__law_deck (hr.mono (by decide)) (by rfl) (pa_cons (pv 0) pa_nil)))
 (pss_cons (ps_for PassesOwn.never rfl (pi_range1 (by rfl) T.n_range (pa_cons pe_int pa_nil)) (pg_name (i := 2) sc_law.nd rfl (.inl rfl))
 (pss_cons (ps_set (i := 3) sc_law.nd rfl (.inr rfl) (TB.pe_own h__law_one (hr.mono (by decide)) (by rfl) (pa_cons (pv 1) (pa_cons (pe_lst (pa_cons (TB.pe_own h__law_wide (hr.mono (by decide)) (by rfl) (pa_cons (pv 1) (pa_cons (pe_op op_add pe_int (TB.pe_own h__law_draw (hr.mono (by decide)) (by rfl) (pa_cons (pv 1) (pa_cons pe_int pa_nil)))) pa_nil))) (pa_cons (TB.pe_own h__law_sides (hr.mono (by decide)) (by rfl) (pa_cons (pv 1) (pa_cons (pe_op op_add pe_int (TB.pe_own h__law_draw (hr.mono (by decide)) (by rfl) (pa_cons (pv 1) (pa_cons pe_int pa_nil)))) (pa_cons pe_int pa_nil)))) pa_nil))) pa_nil))))
 (pss_cons (ps_if (pt_cmpR op_ne (pe_callB (DL.call_reprD rfl hr.units) (by rfl) T.n_repr (by decide +kernel) (pa_cons (TB.pe_own h_volume (hr.mono (by decide)) (by rfl) (pa_cons (pv 3) pa_nil)) pa_nil)) (pe_callB (DL.call_reprD rfl hr.units) (by rfl) T.n_repr (by decide +kernel) (pa_cons (TB.pe_own h__law_volume (hr.mono (by decide)) (by rfl) (pa_cons (pv 3) pa_nil)) pa_nil)) (nomark _))
 (pss_one (ps_ret pe_bl)) pss_nil)
 (pss_cons (ps_asg (pe_tup (pa_cons (pe_callTy call_tuple_of (by rfl) T.n_tuple (by decide +kernel) (pa_cons (pe_lc (own := [("_law_side", 9)]) (g := gName 9) rfl sc_law.nd (pi_tup (pv 3)) (blkOk_by (N := n_law) (sc := defScope s_law) (by decide +kernel)) (fun _ _ _ _ _ => pg_name (i := 9) sc_law.nd rfl (.inl rfl)) (fun _ _ _ _ _ => pts_nil) (fun _ _ _ _ _ => (TB.pe_own h__law_draw (hr.mono (by decide)) (by rfl) (pa_cons (pv 1) (pa_cons (pv 9) pa_nil))))) pa_nil)) (pa_cons (TB.pe_own h__law_draw (hr.mono (by decide)) (by rfl) (pa_cons (pv 1) (pa_cons (pe_callB call_len_seq (by rfl) T.n_len (by decide +kernel) (pa_cons (pv 3) pa_nil)) pa_nil))) pa_nil))) (pg_tup rfl (pgs_cons (pg_name (i := 4) sc_law.nd rfl (.inr rfl)) (pgs_cons (pg_name (i := 5) sc_law.nd rfl (.inl rfl)) pgs_nil))))
 (pss_cons (ps_set (i := 6) sc_law.nd rfl (.inl rfl) (pe_lst (pa_cons (pv 4) (pa_cons (TB.pe_own h__law_with (hr.mono (by decide)) (by rfl) (pa_cons (pv 4) (pa_cons (pv 5) (pa_cons (pe_ix ix_tup (pv 3) (pv 5) (fun _ _ => rfl)) pa_nil)))) (pa_cons (TB.pe_own h__law_with (hr.mono (by decide)) (by rfl) (pa_cons (pv 4) (pa_cons (pv 5) (pa_cons (pe_op op_sub (pe_ix ix_tup (pv 3) (pv 5) (fun _ _ => rfl)) pe_int) pa_nil)))) (pa_cons (TB.pe_own h__law_with (hr.mono (by decide)) (by rfl) (pa_cons (pv 4) (pa_cons (pv 5) (pa_cons (pe_un un_neg pe_int) pa_nil)))) (pa_cons (pe_op op_catA (pv 4) (pe_tup (pa_cons pe_int pa_nil))) pa_nil)))))))
 (pss_cons (ps_set (i := 6) sc_law.nd rfl (.inl rfl) (pe_op op_cat (pv 6) (pe_lst (pa_cons (pe_slice sl_tupA (pv 4) (po_some pe_int) po_none) (pa_cons (pe_callTy call_list_of (by rfl) T.n_list (by decide +kernel) (pa_cons (pv 4) pa_nil)) (pa_cons (TB.pe_own h__law_with (hr.mono (by decide)) (by rfl) (pa_cons (pv 4) (pa_cons (pv 5) (pa_cons pe_bl pa_nil)))) (pa_cons (TB.pe_own h__law_with (hr.mono (by decide)) (by rfl) (pa_cons (pv 4) (pa_cons (pv 5) (pa_cons (pe_callTy call_str_int (by rfl) T.n_str (by decide +kernel) (pa_cons (pe_ix ix_tup (pv 4) (pv 5) (fun _ _ => rfl)) pa_nil)) pa_nil)))) (pa_cons (TB.pe_own h__law_odd (hr.mono (by decide)) (by rfl) (pa_cons (pv 1) pa_nil)) pa_nil))))))))
 (pss_cons (ps_for PassesOwn.never rfl (pi_list (pe_op op_cat (pv 6) (pe_lc (own := [("_law_k", 10)]) (g := gName 10) rfl sc_law.nd (pi_range1 (by rfl) T.n_range (pa_cons pe_int pa_nil)) (blkOk_by (N := n_law) (sc := defScope s_law) (by decide +kernel)) (fun _ _ _ _ _ => pg_name (i := 10) sc_law.nd rfl (.inl rfl)) (fun _ _ _ _ _ => pts_nil) (fun _ _ _ _ _ => (TB.pe_own h__law_bent (hr.mono (by decide)) (by rfl) (pa_cons (pv 1) (pa_cons (pv 4) (pa_cons pe_int pa_nil)))))))) (pg_name (i := 7) sc_law.nd rfl (.inl rfl))
 (pss_cons (ps_set (i := 8) sc_law.nd rfl (.inl rfl) (pe_callB (DL.call_reprD rfl hr.units) (by rfl) T.n_repr (by decide +kernel) (pa_cons (pv 7) pa_nil)))
 (pss_one (ps_if (PW.pt (pw_or (pt_cmpR op_ne (pe_callB (DL.call_reprD rfl hr.units) (by rfl) T.n_repr (by decide +kernel) (pa_cons (TB.pe_own h_is_cell (hr.mono (by decide)) (by rfl) (pa_cons (pv 3) (pa_cons (pv 7) pa_nil))) pa_nil)) (pe_callB (DL.call_reprD rfl hr.units) (by rfl) T.n_repr (by decide +kernel) (pa_cons (TB.pe_own h__law_is_cell (hr.mono (by decide)) (by rfl) (pa_cons (pv 3) (pa_cons (pv 7) pa_nil))) pa_nil)) (nomark _)) (pw_or1 (pt_cmpR op_ne (pe_callB (DL.call_reprD rfl hr.units) (by rfl) T.n_repr (by decide +kernel) (pa_cons (pv 7) pa_nil)) (pv 8) (nomark _)))))
 (pss_one (ps_ret pe_bl)) pss_nil))))
 (pss_one (ps_if (PW.pt (pw_and (pt_cmpR op_lt (pe_callB call_len_seq (by rfl) T.n_len (by decide +kernel) (pa_cons (pv 3) pa_nil)) pe_int (nomark _)) (pw_and1 (pt_cmpR op_lt (TB.pe_own h__law_volume (hr.mono (by decide)) (by rfl) (pa_cons (pv 3) pa_nil)) pe_int (nomark _)))))
 (pss_one (ps_if (pt_cmpR (op_neD hr.units) (pe_lc (own := [("_law_cell", 4)]) (g := gName 4) rfl sc_law.nd (pi_list (TB.pe_own h__law_cells (hr.mono (by decide)) (by rfl) (pa_cons (pv 3) pa_nil))) (blkOk_by (N := n_law) (sc := defScope s_law) (by decide +kernel)) (fun _ _ _ _ _ => pg_name (i := 4) sc_law.nd rfl (.inl rfl)) (fun _ _ _ _ _ => (pts_one (pt_cmpR op_notBl (TB.pe_own h_is_cell (hr.mono (by decide)) (by rfl) (pa_cons (pv 3) (pa_cons (pv 4) pa_nil))) pe_bl (nomark _)))) (fun _ _ _ _ _ => (pv 4))) (pe_lst pa_nil) (nomark _))
 (pss_one (ps_ret pe_bl)) pss_nil)) pss_nil)))))))))
 (pss_one (ps_ret pe_bl)))), ?_⟩
  have hms : MS = 1000000000000 := rfl
  refine ⟨_, rfl, a, ns, rfl, hS, hn, fun d g l H1 e1 hd hg D1 => ?_⟩
  have S0 : St (WL d g l H1) H1 [none, some (.raw (.ref d)), none, none, none, none, none, none, none, none, none] [] [] [some (.ref a), some (.ref d), none, none, none, none, none, none, none, none, none] H1 :=
    St.deck0 D1 rfl fun i s h => by
      match i, h with
      | 0, h => cases h
      | 1, h => cases h; exact ⟨_, rfl, rfl⟩
      | 2, h => cases h
      | 3, h => cases h
      | 4, h => cases h
      | 5, h => cases h
      | 6, h => cases h
      | 7, h => cases h
      | 8, h => cases h
      | 9, h => cases h
      | 10, h => cases h
      | i + 11, h => simp at h
  refine ⟨10, rfl, by decide, by decide, for_range (lo := 0) (n := 10) (fun i σ H' => St (WL d g l H1) H1 [none, some (.raw (.ref d)), none, none, none, none, none, none, none, none, none] [] [] σ H') S0 (fun i σ H2 hi Sa => ?_) (fun σ H' _ => k _)⟩
  refine g_name ?_
  have S := Sa.clr (i := 2) (o := some (.int (0 + (i : Int))))
  -- box
  have draw4 : ∀ {H0 ρ}, ρ[1]? = some (some (Sl.raw (.ref d))) → EvP (WL d g l H1) H0 (tOp (rI0 fun i j => .int (i + j)) (tC (.int 1)) (tCall (SpW drawA drawF) [] E0 (tCons (tVar 1) (tCons (tC (.int 4)) tNil)))) ρ (fun e => ∃ n : Nat, e = .int n ∧ 1 ≤ n ∧ n ≤ 4) := fun {H0 ρ} hρ =>
    ev_op (P2 := fun e => ∃ r : Int, e = .int r ∧ 0 ≤ r ∧ r < 4) (ev_int (i := 1)) (ev_draw (j := 1) hρ (ev_int (i := 4)) (by decide) (by decide)) fun e1 e2 h1 h2 => by
      obtain ⟨r, rfl, r0, r1⟩ := h2
      subst h1
      exact opd_add.imp fun e h => ⟨(1 + r).toNat, by rw [h, Int.toNat_of_nonneg (by omega)], by omega, by omega⟩
  have EB : EvP (WL d g l H1) H1 _ S.rho (fun e => ∃ n1 n2, e = .list [tupI n1, tupI n2] ∧ Bx n1 ∧ Bx n2) :=
    (ev_lst (PA := fun es => ∃ n1 n2, es = [tupI n1, tupI n2] ∧ Bx n1 ∧ Bx n2) (eva_cons (P1 := fun e => ∃ n1, e = tupI n1 ∧ Bx n1) (PA := fun es => ∃ n2, es = [tupI n2] ∧ Bx n2)
      ((ev_callW (A := wideA) (F := wideF) (PA := fun es => ∃ n : Nat, es = [.int n] ∧ 1 ≤ n ∧ n ≤ 4) (i := 1) rfl (eva_cons (draw4 rfl) eva_nil fun e es h1 h2 => by
          obtain ⟨n, rfl, h⟩ := h1
          exact ⟨n, by rw [h2], h⟩) fun es h => by
          obtain ⟨n, rfl, h⟩ := h
          exact ⟨n, rfl, by omega⟩).imp fun e h => by
          obtain ⟨es, ⟨n, rfl, h1, h2⟩, m, ns, h3, rfl, h4, h5⟩ := h
          have := Int.ofNat.inj (PyData.int.inj (List.cons.inj h3).1)
          exact ⟨ns, rfl, by omega, by omega, h5⟩)
      (eva_cons (P1 := fun e => ∃ n1, e = tupI n1 ∧ Bx n1) ((ev_callW (A := sidA) (F := sidF) (PA := fun es => ∃ n : Nat, es = [.int n, .int 4] ∧ 1 ≤ n ∧ n ≤ 4) (i := 1) rfl (eva_cons (draw4 rfl) (eva_one (ev_int (i := 4))) fun e es h1 h2 => by
          obtain ⟨n, rfl, h⟩ := h1
          exact ⟨n, by rw [h2], h⟩) fun es h => by
          obtain ⟨n, rfl, h⟩ := h
          exact ⟨n, 4, rfl, by omega, by decide, by decide⟩).imp fun e h => by
          obtain ⟨es, ⟨n, rfl, h1, h2⟩, m, q4, ns, h3, rfl, h4, h5⟩ := h
          have e1 := Int.ofNat.inj (PyData.int.inj (List.cons.inj h3).1)
          have e2 := PyData.int.inj (List.cons.inj (List.cons.inj h3).2).1
          exact ⟨ns, rfl, by omega, by omega, fun x hx => by have := h5 x hx; omega⟩) eva_nil fun e es h1 h2 => by
          obtain ⟨n2, rfl, h⟩ := h1
          exact ⟨n2, by rw [h2], h⟩) fun e es h1 h2 => by
          obtain ⟨n1, rfl, h⟩ := h1
          obtain ⟨n2, rfl, h'⟩ := h2
          exact ⟨n1, n2, rfl, h, h'⟩) fun es h => by
      obtain ⟨n1, n2, rfl, _⟩ := h
      exact (show 2 ≤ 100000 by decide)).imp fun e h => by
      obtain ⟨es, rfl, n1, n2, rfl, h⟩ := h
      exact ⟨n1, n2, rfl, h⟩
  refine d_asg ?_
  refine (ev_one (j := 1) rfl EB fun e h => by
    obtain ⟨n1, n2, rfl, _⟩ := h
    exact ⟨_, rfl, (show 0 < 2 by decide), (show 2 ≤ 1000 by decide)⟩) [] [] _ H2 S _ fun x e H3 S3' p => ?_
  clear EB draw4
  obtain ⟨bx, rfl, hB⟩ : ∃ bx, e = tupI bx ∧ Bx bx := by
    obtain ⟨ds, ⟨n1, n2, hd, b1, b2⟩, he⟩ := p
    cases hd
    simp only [List.mem_cons, List.not_mem_nil, or_false] at he
    rcases he with rfl | rfl
    · exact ⟨n1, rfl, b1⟩
    · exact ⟨n2, rfl, b2⟩
  have S3 : St (WL d g l H1) H1 [none, some (.raw (.ref d)), none, some (.dat (tupI bx)), none, none, none, none, none, none, none] [] [] _ H3 := S3'.set (i := 3)
  clear S3' p S Sa S0
  -- if repr(volume(box)) != repr(_law_volume(box))
  have vol : ∀ {H0 ρ}, ρ[3]? = some (some (Sl.dat (tupI bx))) → EvP (WL d g l H1) H0 (tCall (SpF volA volF) [] E0 (tCons (tVar 3) tNil)) ρ (· = .int (prod bx)) := fun hρ =>
    (ev_callF (A := volA) (F := volF) (PA := (· = [tupI bx])) (eva_one (ev_dat hρ)) fun es h => by rw [h]; exact ⟨bx, rfl, hB.2.2⟩).imp fun e h => by
      obtain ⟨es, rfl, ns', h1, rfl⟩ := h
      rw [tupI_inj (List.cons.inj h1).1]
  have T1 : EvT (WL d g l H1) H1 _ S3.rho (· = !decide ((PyData.int (prod bx)).shown = (PyData.int (prod bx)).shown)) := et_of (ev_op' (ev_repr (vol rfl) (gd_prod hB) (by decide) (by decide)) (ev_repr (vol rfl) (gd_prod hB) (by decide) (by decide)) opd_neS)
  refine d_if ?_
  refine T1 [] [] _ H3 S3 _ fun b H4 S4 hb => ?_
  rw [decide_eq_true rfl] at hb
  subst hb
  refine (if_neg Bool.false_ne_true).mpr ?_
  refine d_next ?_
  clear T1
  -- cell, at
  have EC : EvP (WL d g l H1) H1 _ S4.rho (fun e => ∃ cs : List Int, e = tupI cs ∧ cs.length = bx.length ∧ ∀ n ∈ cs, 0 ≤ n ∧ n ≤ MS) :=
    ev_cb (r := TB.rTupQ K) (PA := fun es => ∃ ds, es = [.list ds] ∧ ds.length = bx.length ∧ ∀ x ∈ ds, ∃ n : Int, x = .int n ∧ (0 ≤ n ∧ n ≤ MS)) (eva_cons (ev_lcT (K := K) (i := 9) (te := tCall (SpW drawA drawF) [] E0 (tCons (tVar 1) (tCons (tVar 9) tNil))) (ds := bx.map PyData.int) (R := fun _ e => ∃ n : Int, e = .int n ∧ (0 ≤ n ∧ n ≤ MS)) (by rw [List.length_map]; have := hB.2.1; omega) rfl (ev_dat (i := 3) rfl) fun G dd hd => by
        obtain ⟨n, hn', rfl⟩ := List.mem_map.mp hd
        have := hB.2.2 n hn'
        exact (ev_draw (j := 1) rfl (ev_dat (i := 9) rfl) (by omega) (by omega)).imp fun e h => by
          obtain ⟨r, h1, h2, h3⟩ := h
          exact ⟨r, h1, h2, by omega⟩) eva_nil fun e es h1 h2 => by
        obtain ⟨ds, rfl, h3, h4⟩ := h1
        rw [List.length_map] at h3
        refine ⟨ds, by rw [h2], h3, fun x hx => ?_⟩
        obtain ⟨j, hj, hjx⟩ := List.mem_iff_getElem.mp hx
        refine h4 j (.int (bx[j]'(by omega))) x ?_ (by rw [List.getElem?_eq_getElem hj, hjx])
        rw [List.getElem?_map, List.getElem?_eq_getElem (by omega)]
        rfl) fun es h => by
        obtain ⟨ds, rfl, h3, h4⟩ := h
        obtain ⟨cs, rfl, h5⟩ := ints_of h4
        rw [List.length_map] at h3
        exact (cad_tuple (K := K)).imp fun e h => ⟨cs, h, h3, h5⟩
  have EA : EvP (WL d g l H1) H1 _ S4.rho (fun e => ∃ at_ : Nat, e = .int at_ ∧ at_ < bx.length) :=
    (ev_draw (j := 1) rfl (ev_cb' (eva_one (ev_dat (i := 3) (e := tupI bx) rfl)) (cad_len (K := K))) (by rw [List.length_map]; have := hB.1; omega) (by rw [List.length_map]; have := hB.2.1; omega)).imp fun e h => by
      obtain ⟨r, h1, h2, h3⟩ := h
      rw [List.length_map] at h3
      exact ⟨r.toNat, by rw [h1, Int.toNat_of_nonneg h2], by omega⟩
  have ET := ev_tup (PA := fun es => ∃ (cs : List Int) (at_ : Nat), es = [tupI cs, .int at_] ∧ cs.length = bx.length ∧ (∀ n ∈ cs, 0 ≤ n ∧ n ≤ MS) ∧ at_ < bx.length) (eva_cons (PA := fun es => ∃ at_ : Nat, es = [.int at_] ∧ at_ < bx.length) EC (eva_cons EA eva_nil fun e es h1 h2 => by
      obtain ⟨at_, rfl, h⟩ := h1
      exact ⟨at_, by rw [h2], h⟩) fun e es h1 h2 => by
      obtain ⟨cs, rfl, h3, h4⟩ := h1
      obtain ⟨at_, rfl, h5⟩ := h2
      exact ⟨cs, at_, rfl, h3, h4, h5⟩) fun es h => by
      obtain ⟨cs, at_, rfl, _⟩ := h
      exact (show 2 ≤ 100000 by decide)
  refine d_asgG ?_
  refine ET [] [] _ H4 S4 _ fun x e H5 S5' p => ?_
  obtain ⟨es, rfl, cs, at_, rfl, cl, cr, al⟩ := p
  obtain ⟨pa, w1, w2, rfl, hsq, S6'⟩ := S5'.un2
  refine ⟨pa, _, rfl, hsq, rfl, _, _, rfl, _, _, rfl, rfl, ?_⟩
  have S6 : St (WL d g l H1) H1 [none, some (.raw (.ref d)), none, some (.dat (tupI bx)), some (.dat (tupI cs)), some (.dat (.int at_)), none, none, none, none, none] [] [] _ H5 := (S6'.set (i := 4)).set (i := 5)
  clear S5' S6' ET EA EC hsq S4 S3
  -- some
  have cl' : (cs.map PyData.int).length ≤ 4 := by rw [List.length_map]; have := hB.2.1; omega
  have ca : at_ < cs.length := by omega
  have b_at : atI (bx.map PyData.int) (at_ : Int) = some (.int bx[at_]) := atI_nat (by rw [List.getElem?_map, List.getElem?_eq_getElem al]; rfl)
  have c_at : atI (cs.map PyData.int) (at_ : Int) = some (.int cs[at_]) := atI_nat (by rw [List.getElem?_map, List.getElem?_eq_getElem ca]; rfl)
  have cr_at := cr _ (List.getElem_mem ca)
  have br_at := hB.2.2 _ (List.getElem_mem al)
  have lv0 : ∀ x ∈ cs.map PyData.int, Lv 0 x := fun x hx => by
    obtain ⟨n, hn', rfl⟩ := List.mem_map.mp hx
    exact ⟨n, rfl, cr n hn'⟩
  obtain ⟨Wi, hWi⟩ : ∃ Wi : PyData → PyData, Wi = fun e => .tuple ((cs.map PyData.int).take at_ ++ [e] ++ (cs.map PyData.int).drop (at_ + 1)) := ⟨_, rfl⟩
  have ew : ∀ {H0 ρ} {tx : TE} {e : PyData}, ρ[4]? = some (some (Sl.dat (tupI cs))) → ρ[5]? = some (some (Sl.dat (.int at_))) → EvP (WL d g l H1) H0 tx ρ (· = e) → EvP (WL d g l H1) H0 (tCall (SpF withA withF) [] E0 (tCons (tVar 4) (tCons (tVar 5) (tCons tx tNil)))) ρ (· = Wi e) := fun {H0 ρ tx e} h4 h5 hx =>
    (ev_callF (A := withA) (F := withF) (PA := (· = [tupI cs, .int at_, e])) (eva_more (ev_dat h4) (eva_more (ev_dat h5) (eva_one hx))) fun es h => by rw [h]; exact ⟨_, at_, e, rfl, by omega⟩).imp fun r h => by
      obtain ⟨es, rfl, ds, a', e', h1, rfl⟩ := h
      have h2 := PyData.tuple.inj (List.cons.inj h1).1
      have h3 := Int.ofNat.inj (PyData.int.inj (List.cons.inj (List.cons.inj h1).2).1)
      have h4' := (List.cons.inj (List.cons.inj (List.cons.inj h1).2).2).1
      rw [hWi, ← h2, ← h3, ← h4']
  have gw : ∀ {e : PyData}, Gd 1000 5 e → Gd 200000 20 (Wi e) := fun {e} h => by
    rw [hWi]
    exact (gd_mid (n := 0) (k := 6) (fun x hx => lv0 x (List.mem_of_mem_take hx)) (fun x hx => lv0 x (List.mem_of_mem_drop hx)) h (by rw [List.length_take, List.length_drop]; omega) (by omega)).mono (by decide) (by decide)
  have E4 : EvP (WL d g l H1) H1 _ S6.rho (· = .list [tupI cs, Wi (.int bx[at_]), Wi (.int (bx[at_] - 1)), Wi (.int (-1)), .tuple (cs.map PyData.int ++ [.int 0])]) :=
    ev_lst' (eva_more (ev_dat (i := 4) rfl) (eva_more (ew rfl rfl (ev_op' (ev_dat (i := 3) (e := tupI bx) rfl) (ev_dat (i := 5) rfl) (opd_ixT (K := K) b_at))) (eva_more (ew rfl rfl (ev_op' (ev_op' (ev_dat (i := 3) (e := tupI bx) rfl) (ev_dat (i := 5) rfl) (opd_ixT (K := K) b_at)) (ev_int (i := 1)) opd_sub))
      (eva_more (ew rfl rfl (ev_neg (ev_int (i := 1)))) (eva_one (ev_op' (ev_dat (i := 4) (e := tupI cs) rfl) (ev_tup' (eva_one (ev_int (i := 0))) (show 1 ≤ 100000 by decide)) (opd_catT (K := K) (by simp only [List.length_singleton]; omega)))))))) (show 5 ≤ 100000 by decide)
  refine d_asg ?_
  refine E4 [] [] _ H5 S6 _ fun x e H6 S7' p => ?_
  subst p
  have S7 : St (WL d g l H1) H1 [none, some (.raw (.ref d)), none, some (.dat (tupI bx)), some (.dat (tupI cs)), some (.dat (.int at_)), some (.dat (.list [tupI cs, Wi (.int bx[at_]), Wi (.int (bx[at_] - 1)), Wi (.int (-1)), .tuple (cs.map PyData.int ++ [.int 0])])), none, none, none, none] [] [] _ H6 := S7'.set (i := 6)
  clear S7' E4 S6
  have big : (10 : Int) ^ 40 > 2000000000000 := by decide
  have E5 : EvP (WL d g l H1) H1 _ S7.rho (fun e => ∃ vs : List PyData, e = .list vs ∧ vs.length = 10 ∧ ∀ x ∈ vs, Gd 200000 20 x) :=
    ev_op (P1 := (· = .list [tupI cs, Wi (.int bx[at_]), Wi (.int (bx[at_] - 1)), Wi (.int (-1)), .tuple (cs.map PyData.int ++ [.int 0])]))
      (P2 := fun e => ∃ o, Gd 100 3 o ∧ e = .list [.tuple (DL.cutD (cs.map PyData.int) (some 1) none), .list (cs.map PyData.int), Wi (.bool true), Wi (.str (numS cs[at_])), o]) (ev_dat (i := 6) rfl)
      ((ev_lst (PA := fun es => ∃ o, Gd 100 3 o ∧ es = [.tuple (DL.cutD (cs.map PyData.int) (some 1) none), .list (cs.map PyData.int), Wi (.bool true), Wi (.str (numS cs[at_])), o])
        (eva_cons (PA := fun es => ∃ o, Gd 100 3 o ∧ es = [.list (cs.map PyData.int), Wi (.bool true), Wi (.str (numS cs[at_])), o]) (ev_slT (K := K) (ev_dat (i := 4) (e := tupI cs) rfl) (eo_some (ev_int (i := 1))) eo_none)
          (eva_cons (PA := fun es => ∃ o, Gd 100 3 o ∧ es = [Wi (.bool true), Wi (.str (numS cs[at_])), o]) (ev_cb' (eva_one (ev_dat (i := 4) (e := tupI cs) rfl)) (cad_list (K := K)))
            (eva_cons (PA := fun es => ∃ o, Gd 100 3 o ∧ es = [Wi (.str (numS cs[at_])), o]) (ew rfl rfl (ev_bl (b := true)))
              (eva_cons (PA := fun es => ∃ o, Gd 100 3 o ∧ es = [o]) (ew rfl rfl (ev_cb' (eva_one (ev_op' (ev_dat (i := 4) (e := tupI cs) rfl) (ev_dat (i := 5) rfl) (opd_ixT (K := K) c_at))) (cad_strI (by
                  by_cases h0 : (cs[at_]).natAbs = 0
                  · rw [h0]; decide
                  · exact Nat.lt_of_lt_of_le ((Nat.log2_lt h0).mpr (show (cs[at_]).natAbs < 2 ^ 41 by omega)) (by decide)))))
                (eva_cons (ev_callW (A := nonA) (F := oddF) (i := 1) rfl eva_nil fun es h => h) eva_nil fun e es h1 h2 => ⟨e, h1.choose_spec.2, by rw [h2]⟩)
                fun e es h1 h2 => by obtain ⟨o, ho, rfl⟩ := h2; exact ⟨o, ho, by rw [h1]⟩)
              fun e es h1 h2 => by obtain ⟨o, ho, rfl⟩ := h2; exact ⟨o, ho, by rw [h1]⟩)
            fun e es h1 h2 => by obtain ⟨o, ho, rfl⟩ := h2; exact ⟨o, ho, by rw [h1]⟩)
          fun e es h1 h2 => by obtain ⟨o, ho, rfl⟩ := h2; exact ⟨o, ho, by rw [h1]⟩) fun es h => by
        obtain ⟨o, _, rfl⟩ := h
        exact (show 5 ≤ 100000 by decide)).imp fun e h => by
        obtain ⟨es, rfl, o, ho, rfl⟩ := h
        exact ⟨o, ho, rfl⟩)
      fun e1 e2 h1 h2 => by
        obtain ⟨o, ho, rfl⟩ := h2
        rw [h1]
        refine OpD.imp (opd_catL (by exact (show 5 + 5 ≤ 100000 by decide))) fun e h => ⟨_, h, rfl, fun x hx => ?_⟩
        simp only [List.cons_append, List.nil_append, List.mem_cons, List.not_mem_nil, or_false] at hx
        have b1 : Bo 1 ≤ 200000 := by decide
        rcases hx with rfl | rfl | rfl | rfl | rfl | rfl | rfl | rfl | rfl | rfl
        · exact (gd_lv (lv_cell (by have := hB.2.1; omega) cr)).mono b1 (by decide)
        · exact gw ((gd_int (by omega) (by omega)).mono (by decide) (by decide))
        · exact gw ((gd_int (by omega) (by omega)).mono (by decide) (by decide))
        · exact gw ((gd_int (by omega) (by omega)).mono (by decide) (by decide))
        · exact (gd_tup (n := 0) (k := 1) (fun x hx => (List.mem_append.mp hx).elim (lv0 x) fun h => by rw [List.mem_singleton.mp h]; exact ⟨0, rfl, by decide, by decide⟩) (by rw [List.length_append]; simp only [List.length_singleton]; omega) (by decide)).mono b1 (by decide)
        · exact (gd_tup (n := 0) (k := 1) (fun x hx => lv0 x (cutD_mem hx)) (by have := cutD_len (ds := cs.map PyData.int) (lo := some 1) (hi := none); omega) (by decide)).mono b1 (by decide)
        · exact (gd_lst (n := 0) (k := 1) lv0 (by omega) (by decide)).mono b1 (by decide)
        · exact gw ((gd_bool true).mono (by decide) (by decide))
        · exact gw ((gd_num cr_at.1 cr_at.2).mono (by decide) (by decide))
        · exact ho.mono (by decide) (by decide)
  refine d_asg ?_
  refine E5 [] [] _ H6 S7 _ fun x e H7 S8' p => ?_
  obtain ⟨vs, rfl, vl, vg⟩ := p
  have S8 : St (WL d g l H1) H1 [none, some (.raw (.ref d)), none, some (.dat (tupI bx)), some (.dat (tupI cs)), some (.dat (.int at_)), some (.dat (.list vs)), none, none, none, none] [] [] _ H7 := S8'.set (i := 6)
  clear S8' E5 S7 ew gw
  -- the values
  have E6 : EvP (WL d g l H1) H1 _ S8.rho (fun e => ∃ us : List PyData, e = .list us ∧ ∀ x ∈ us, Gd 200000 20 x) :=
    ev_op (P1 := (· = .list vs)) (P2 := fun e => ∃ ds : List PyData, e = .list ds ∧ (ds.length : Int) = 4 ∧ ∀ x ∈ ds, Gd (Bo 1) 6 x) (ev_dat (i := 6) rfl)
      (ev_lcR (n := 4) (i := 10) (te := tCall (SpW (bentA 2) (bentF 2)) [] E0 (tCons (tVar 1) (tCons (tVar 4) (tCons (tC (.int 2)) tNil)))) (by decide) (by decide) rfl (ev_int (i := 4)) fun j hj =>
        (ev_callW (A := bentA 2) (F := bentF 2) (PA := (· = [tupI cs, .int 2])) (i := 1) rfl (eva_more (ev_dat (i := 4) rfl) (eva_one (ev_int (i := 2)))) fun es h => by rw [h]; exact ⟨1, _, rfl, by decide, lv_cell (by have := hB.2.1; omega) cr⟩).imp fun e h => by
          obtain ⟨es, rfl, hb⟩ := h
          exact hb 1 _ rfl (by decide) (lv_cell (by have := hB.2.1; omega) cr))
      fun e1 e2 h1 h2 => by
        obtain ⟨ds, rfl, hl4, hd4⟩ := h2
        rw [h1]
        refine OpD.imp (opd_catL (by omega)) fun e h => ⟨_, h, fun x hx => ?_⟩
        rcases List.mem_append.mp hx with h | h
        · exact vg x h
        · exact (hd4 x h).mono (by decide) (by decide)
  refine d_seq ?_
  refine d_forL ?_
  refine E6 [] [] _ H7 S8 _ fun x e H8 S9' p => ?_
  obtain ⟨us, rfl, ug⟩ := p
  have S9 : St (WL d g l H1) H1 [none, some (.raw (.ref d)), none, some (.dat (tupI bx)), none, none, none, none, none, none, none] [(x, .list us)] [] _ H8 := S9'.less rfl fun i s h => by
    match i, h with
    | 0, h => cases h
    | 1, h => exact h
    | 2, h => cases h
    | 3, h => exact h
    | 4, h => cases h
    | 5, h => cases h
    | 6, h => cases h
    | 7, h => cases h
    | 8, h => cases h
    | 9, h => cases h
    | 10, h => cases h
    | i + 11, h => simp at h
  clear E6 S8 S9'
  have ic : ∀ {G ρ} {dd : PyData} {i3 i7 : Nat}, ρ[i3]? = some (some (Sl.dat (tupI bx))) → ρ[i7]? = some (some (Sl.dat dd)) → EvP (WL d g l H1) G (tCall (SpF boxA boxF) [] E0 (tCons (tVar i3) (tCons (tVar i7) tNil))) ρ (· = .bool (cellD bx dd)) := fun {G ρ dd i3 i7} h3 h7 =>
    (ev_callF (A := boxA) (F := boxF) (PA := (· = [tupI bx, dd])) (eva_more (ev_dat h3) (eva_one (ev_dat h7))) fun es h => by rw [h]; exact ⟨bx, dd, rfl, hB.2.1⟩).imp fun r h => by
      obtain ⟨es, rfl, ns', e', h1, rfl⟩ := h
      rw [tupI_inj (List.cons.inj h1).1, (List.cons.inj (List.cons.inj h1).2).1]
  refine for_dataL (K := K) (i := 7) S9 (fun j ρ' l' => ∃ x7 x8, ρ' = [none, some (.raw (.ref d)), none, some (.dat (tupI bx)), none, none, none, x7, x8, none, none] ∧ l' = []) ⟨none, none, rfl, rfl⟩
    (fun G j dd ρ' l' σ' H9 u1 u2 hd hJ S10 Nx nx => ?_) (fun ρ' l' σ' H9 hJ S10 => ?_)
  · obtain ⟨x7, x8, rfl, rfl⟩ := hJ
    have S10 : St (WL d g l H1) G [none, some (.raw (.ref d)), none, some (.dat (tupI bx)), none, none, none, some (.dat dd), x8, none, none] [(x, .list us)] [] σ' H9 := S10
    have gd := ug dd (List.mem_of_getElem? hd)
    refine d_asg ?_
    refine (ev_repr (ev_dat (i := 7) rfl) gd (by decide) (by decide)) _ _ _ H9 S10 _ fun y e H10 S11' p => ?_
    subst p
    have S11 : St (WL d g l H1) G [none, some (.raw (.ref d)), none, some (.dat (tupI bx)), none, none, none, some (.dat dd), some (.dat (.str dd.shown)), none, none] [(x, .list us)] [] _ H10 := S11'.set (i := 8)
    have t1 : EvT (WL d g l H1) G _ S11.rho (· = !decide ((PyData.bool (cellD bx dd)).shown = (PyData.bool (cellD bx dd)).shown)) := et_of (ev_op' (ev_repr (ic (i3 := 3) (i7 := 7) rfl rfl) (gd_bool _) (by decide) (by decide)) (ev_repr (ic (i3 := 3) (i7 := 7) rfl rfl) (gd_bool _) (by decide) (by decide)) opd_neS)
    have t2 : EvT (WL d g l H1) G _ S11.rho (· = !decide (dd.shown = dd.shown)) := et_of (ev_op' (ev_repr (ev_dat (i := 7) rfl) gd (by decide) (by decide)) (ev_dat (i := 8) rfl) opd_neS)
    rw [decide_eq_true rfl] at t1 t2
    refine d_ifl ?_
    refine (et_or t1 fun _ => t2) _ _ _ H10 S11 _ fun b H11 S12 hb => ?_
    subst hb
    refine (if_neg Bool.false_ne_true).mpr ?_
    exact nx _ _ _ _ ⟨_, _, rfl, rfl⟩ S12
  · obtain ⟨x7, x8, rfl, rfl⟩ := hJ
    have fin : ∀ {H'} , St (WL d g l H1) H1 [none, some (.raw (.ref d)), none, some (.dat (tupI bx)), none, none, none, x7, x8, none, none] [(x, .list us)] [] σ' H' → St (WL d g l H1) H1 [none, some (.raw (.ref d)), none, none, none, none, none, none, none, none, none] [] [] σ' H' := fun {H'} S => (S.nil).less (ρ' := [none, some (.raw (.ref d)), none, none, none, none, none, none, none, none, none]) rfl fun i s h => by
      match i, h with
      | 0, h => cases h
      | 1, h => exact h
      | 2, h => cases h
      | 3, h => cases h
      | 4, h => cases h
      | 5, h => cases h
      | 6, h => cases h
      | 7, h => cases h
      | 8, h => cases h
      | 9, h => cases h
      | 10, h => cases h
      | i + 11, h => simp at h
    have t1 : EvT (WL d g l H1) H1 _ S10.rho (· = decide (((bx.map PyData.int).length : Int) < 3)) := et_of (ev_op' (ev_cb' (eva_one (ev_dat (i := 3) (e := tupI bx) rfl)) (cad_len (K := K))) (ev_int (i := 3)) opd_lt)
    have t2 : EvT (WL d g l H1) H1 _ S10.rho (· = decide (prod bx < 17)) := et_of (ev_op' (vol rfl) (ev_int (i := 17)) opd_lt)
    refine d_nx ?_
    refine d_ifl ?_
    refine (et_and t1 fun _ => t2) _ _ _ H9 S10 _ fun b H10 S11 hb => ?_
    cases b with
    | false =>
      refine (if_neg Bool.false_ne_true).mpr ?_
      exact fin S11
    | true =>
      have hb := hb.symm
      rw [Bool.and_eq_true, decide_eq_true_eq, decide_eq_true_eq, List.length_map] at hb
      refine (if_pos rfl).mpr ?_
      have small : ∀ n ∈ bx, 1 ≤ n ∧ n ≤ 16 := fun n hn' => by
        have a := (hB.2.2 n hn').1
        have b := (prod_pos hB.2.2).2 n hn'
        omega
      have EL : EvP (WL d g l H1) H1 _ S11.rho (· = .list []) := ev_lc0 (K := K) (i := 4) (te := tVar 4) (tt := tTest (tOp rNotB (tCall (SpF boxA boxF) [] E0 (tCons (tVar 3) (tCons (tVar 4) tNil))) (tC (.bl true)))) (Qd := fun ds => ∀ c ∈ ds, cellD bx c = true) rfl
        ((ev_callF (A := celA) (F := celF) (PA := (· = [tupI bx])) (eva_one (ev_dat (i := 3) rfl)) fun es h => by rw [h]; exact ⟨bx, rfl, by omega, small⟩).imp fun e h => by
          obtain ⟨es, rfl, ns', cs', h1, rfl, _, h3⟩ := h
          rw [← tupI_inj (List.cons.inj h1).1] at h3
          exact ⟨cs', rfl, h3⟩)
        fun G ds dd hq hd => by
          have e := hq dd hd
          refine (et_of (ev_op' (ic (G := G) (i3 := 3) (i7 := 4) rfl rfl) (ev_bl (b := true)) opd_notB)).imp fun b h => ?_
          rw [h, e]
          rfl
      refine d_ifl ?_
      refine (et_of (ev_op' EL (ev_lst' eva_nil (by decide)) (opd_neD (K := K) (d := .list []) (e := .list []) (by decide) (by decide)))) _ _ _ H10 S11 _ fun b H11 S12 hb => ?_
      have hb : b = false := hb
      subst hb
      refine (if_neg Bool.false_ne_true).mpr ?_
      exact fin S12
theorem sp_start {H : Hp} {a : Addr} {ns : List Int} (hl : ns.length ≤ 63) (hS : SqL K H a (ns.map V.int)) : spLaw K [.ref a] H (fun v _ => v = .bl true) fun _ _ _ => False := ⟨a, ns, rfl, hS, hl, fun _ => rfl⟩
end
end K03
set_option Elab.async false
set_option linter.all false
set_option maxRecDepth 100000
namespace K03
open PySem PySem.Spec PyProof.Rows L2 Evl TB DL
theorem all_mk {l : PySem.W.OpenLaw} {w : World} {K : PySem.W.Frag} {h : Heap} {mg : Str → Option Value} {fa f1 f2 f3 f4 f5 f6 f7 f8 f9 f10 f11 f12 f13 f14 f15 f16 f17 f18 : Addr} (X : K.In h) (G : h.Ns mainGlobals mg) (hfa : mg "law" = some (.ref fa))
    {od1 an1 od2 an2 od3 an3 od4 an4 od5 an5 od6 an6 od7 an7 od8 an8 od9 an9 od10 an10 od11 an11 od12 an12 od13 an13 od14 an14 od15 an15 od16 an16 od17 an17 od18 an18 : Option Addr} {sl1 sl2 sl3 sl4 sl5 sl6 sl7 sl8 sl9 sl10 sl11 sl12 sl13 sl14 sl15 sl16 sl17 sl18 : Array (Option Value)} {oc1 kV1 dc1 pm1 cd1 ct1 oc2 kV2 dc2 pm2 cd2 ct2 oc3 kV3 dc3 pm3 cd3 ct3 oc4 kV4 dc4 pm4 cd4 ct4 oc5 kV5 dc5 pm5 cd5 ct5 oc6 kV6 dc6 pm6 cd6 ct6 oc7 kV7 dc7 pm7 cd7 ct7 oc8 kV8 dc8 pm8 cd8 ct8 oc9 kV9 dc9 pm9 cd9 ct9 oc10 kV10 dc10 pm10 cd10 ct10 oc11 kV11 dc11 pm11 cd11 ct11 oc12 kV12 dc12 pm12 cd12 ct12 oc13 kV13 dc13 pm13 cd13 ct13 oc14 kV14 dc14 pm14 cd14 ct14 oc15 kV15 dc15 pm15 cd15 ct15 oc16 kV16 dc16 pm16 cd16 ct16 oc17 kV17 dc17 pm17 cd17 ct17 oc18 kV18 dc18 pm18 cd18 ct18 : Value}
    (a1 : PySem.W.nsIn K mainGlobals "is_int" = some (some (.ref f1))) (l1 : K.lookup f1 = some ⟨oc1, od1, .func (PySem.W.fnOf "is_int" "is_int" (defArgs s_is_int) (defBody s_is_int) (defScope s_is_int) .none kV1 dc1 pm1 an1 cd1 ct1), sl1⟩) (c1 : PySem.W.codeIn K cd1 "is_int" = true) (k1 : PySem.W.keepIn K (.ref f1) = true)
    (a2 : PySem.W.nsIn K mainGlobals "is_cell" = some (some (.ref f2))) (l2 : K.lookup f2 = some ⟨oc2, od2, .func (PySem.W.fnOf "is_cell" "is_cell" (defArgs s_is_cell) (defBody s_is_cell) (defScope s_is_cell) .none kV2 dc2 pm2 an2 cd2 ct2), sl2⟩) (c2 : PySem.W.codeIn K cd2 "is_cell" = true) (k2 : PySem.W.keepIn K (.ref f2) = true)
    (a3 : PySem.W.nsIn K mainGlobals "volume" = some (some (.ref f3))) (l3 : K.lookup f3 = some ⟨oc3, od3, .func (PySem.W.fnOf "volume" "volume" (defArgs s_volume) (defBody s_volume) (defScope s_volume) .none kV3 dc3 pm3 an3 cd3 ct3), sl3⟩) (c3 : PySem.W.codeIn K cd3 "volume" = true) (k3 : PySem.W.keepIn K (.ref f3) = true)
    (a4 : PySem.W.nsIn K mainGlobals "_law_deck" = some (some (.ref f4))) (l4 : K.lookup f4 = some ⟨oc4, od4, .func (PySem.W.fnOf "_law_deck" "_law_deck" (defArgs s__law_deck) (defBody s__law_deck) (defScope s__law_deck) .none kV4 dc4 pm4 an4 cd4 ct4), sl4⟩) (c4 : PySem.W.codeIn K cd4 "_law_deck" = true) (k4 : PySem.W.keepIn K (.ref f4) = true)
    (a5 : PySem.W.nsIn K mainGlobals "_law_draw" = some (some (.ref f5))) (l5 : K.lookup f5 = some ⟨oc5, od5, .func (PySem.W.fnOf "_law_draw" "_law_draw" (defArgs s__law_draw) (defBody s__law_draw) (defScope s__law_draw) .none kV5 dc5 pm5 an5 cd5 ct5), sl5⟩) (c5 : PySem.W.codeIn K cd5 "_law_draw" = true) (k5 : PySem.W.keepIn K (.ref f5) = true)
    (a6 : PySem.W.nsIn K mainGlobals "_law_one" = some (some (.ref f6))) (l6 : K.lookup f6 = some ⟨oc6, od6, .func (PySem.W.fnOf "_law_one" "_law_one" (defArgs s__law_one) (defBody s__law_one) (defScope s__law_one) .none kV6 dc6 pm6 an6 cd6 ct6), sl6⟩) (c6 : PySem.W.codeIn K cd6 "_law_one" = true) (k6 : PySem.W.keepIn K (.ref f6) = true)
    (a7 : PySem.W.nsIn K mainGlobals "_law_volume" = some (some (.ref f7))) (l7 : K.lookup f7 = some ⟨oc7, od7, .func (PySem.W.fnOf "_law_volume" "_law_volume" (defArgs s__law_volume) (defBody s__law_volume) (defScope s__law_volume) .none kV7 dc7 pm7 an7 cd7 ct7), sl7⟩) (c7 : PySem.W.codeIn K cd7 "_law_volume" = true) (k7 : PySem.W.keepIn K (.ref f7) = true)
    (a8 : PySem.W.nsIn K mainGlobals "_law_odd" = some (some (.ref f8))) (l8 : K.lookup f8 = some ⟨oc8, od8, .func (PySem.W.fnOf "_law_odd" "_law_odd" (defArgs s__law_odd) (defBody s__law_odd) (defScope s__law_odd) .none kV8 dc8 pm8 an8 cd8 ct8), sl8⟩) (c8 : PySem.W.codeIn K cd8 "_law_odd" = true) (k8 : PySem.W.keepIn K (.ref f8) = true)
    (a9 : PySem.W.nsIn K mainGlobals "_law_bent" = some (some (.ref f9))) (l9 : K.lookup f9 = some ⟨oc9, od9, .func (PySem.W.fnOf "_law_bent" "_law_bent" (defArgs s__law_bent) (defBody s__law_bent) (defScope s__law_bent) .none kV9 dc9 pm9 an9 cd9 ct9), sl9⟩) (c9 : PySem.W.codeIn K cd9 "_law_bent" = true) (k9 : PySem.W.keepIn K (.ref f9) = true)
    (a10 : PySem.W.nsIn K mainGlobals "_law_whole" = some (some (.ref f10))) (l10 : K.lookup f10 = some ⟨oc10, od10, .func (PySem.W.fnOf "_law_whole" "_law_whole" (defArgs s__law_whole) (defBody s__law_whole) (defScope s__law_whole) .none kV10 dc10 pm10 an10 cd10 ct10), sl10⟩) (c10 : PySem.W.codeIn K cd10 "_law_whole" = true) (k10 : PySem.W.keepIn K (.ref f10) = true)
    (a11 : PySem.W.nsIn K mainGlobals "_law_sides" = some (some (.ref f11))) (l11 : K.lookup f11 = some ⟨oc11, od11, .func (PySem.W.fnOf "_law_sides" "_law_sides" (defArgs s__law_sides) (defBody s__law_sides) (defScope s__law_sides) .none kV11 dc11 pm11 an11 cd11 ct11), sl11⟩) (c11 : PySem.W.codeIn K cd11 "_law_sides" = true) (k11 : PySem.W.keepIn K (.ref f11) = true)
    (a12 : PySem.W.nsIn K mainGlobals "_law_cells" = some (some (.ref f12))) (l12 : K.lookup f12 = some ⟨oc12, od12, .func (PySem.W.fnOf "_law_cells" "_law_cells" (defArgs s__law_cells) (defBody s__law_cells) (defScope s__law_cells) .none kV12 dc12 pm12 an12 cd12 ct12), sl12⟩) (c12 : PySem.W.codeIn K cd12 "_law_cells" = true) (k12 : PySem.W.keepIn K (.ref f12) = true)
    (a13 : PySem.W.nsIn K mainGlobals "_law_far" = some (some (.ref f13))) (l13 : K.lookup f13 = some ⟨oc13, od13, .func (PySem.W.fnOf "_law_far" "_law_far" (defArgs s__law_far) (defBody s__law_far) (defScope s__law_far) .none kV13 dc13 pm13 an13 cd13 ct13), sl13⟩) (c13 : PySem.W.codeIn K cd13 "_law_far" = true) (k13 : PySem.W.keepIn K (.ref f13) = true)
    (a14 : PySem.W.nsIn K mainGlobals "_law_wide" = some (some (.ref f14))) (l14 : K.lookup f14 = some ⟨oc14, od14, .func (PySem.W.fnOf "_law_wide" "_law_wide" (defArgs s__law_wide) (defBody s__law_wide) (defScope s__law_wide) .none kV14 dc14 pm14 an14 cd14 ct14), sl14⟩) (c14 : PySem.W.codeIn K cd14 "_law_wide" = true) (k14 : PySem.W.keepIn K (.ref f14) = true)
    (a15 : PySem.W.nsIn K mainGlobals "_law_with" = some (some (.ref f15))) (l15 : K.lookup f15 = some ⟨oc15, od15, .func (PySem.W.fnOf "_law_with" "_law_with" (defArgs s__law_with) (defBody s__law_with) (defScope s__law_with) .none kV15 dc15 pm15 an15 cd15 ct15), sl15⟩) (c15 : PySem.W.codeIn K cd15 "_law_with" = true) (k15 : PySem.W.keepIn K (.ref f15) = true)
    (a16 : PySem.W.nsIn K mainGlobals "_law_is_cell" = some (some (.ref f16))) (l16 : K.lookup f16 = some ⟨oc16, od16, .func (PySem.W.fnOf "_law_is_cell" "_law_is_cell" (defArgs s__law_is_cell) (defBody s__law_is_cell) (defScope s__law_is_cell) .none kV16 dc16 pm16 an16 cd16 ct16), sl16⟩) (c16 : PySem.W.codeIn K cd16 "_law_is_cell" = true) (k16 : PySem.W.keepIn K (.ref f16) = true)
    (a17 : PySem.W.nsIn K mainGlobals "law" = some (some (.ref f17))) (l17 : K.lookup f17 = some ⟨oc17, od17, .func (PySem.W.fnOf "law" "law" (defArgs s_law) (defBody s_law) (defScope s_law) .none kV17 dc17 pm17 an17 cd17 ct17), sl17⟩) (c17 : PySem.W.codeIn K cd17 "law" = true) (k17 : PySem.W.keepIn K (.ref f17) = true)
    (a18 : PySem.W.nsIn K mainGlobals "is_index" = some (some (.ref f18))) (l18 : K.lookup f18 = some ⟨oc18, od18, .func (PySem.W.fnOf "is_index" "is_index" (defArgs s_is_index) (defBody s_is_index) (defScope s_is_index) .none kV18 dc18 pm18 an18 cd18 ct18), sl18⟩) (c18 : PySem.W.codeIn K cd18 "is_index" = true) (k18 : PySem.W.keepIn K (.ref f18) = true)
    (z_abs : PySem.W.nsIn K mainGlobals "abs" = some none)
    (z_bool : PySem.W.nsIn K mainGlobals "bool" = some none)
    (z_int : PySem.W.nsIn K mainGlobals "int" = some none)
    (z_isinstance : PySem.W.nsIn K mainGlobals "isinstance" = some none)
    (z_len : PySem.W.nsIn K mainGlobals "len" = some none)
    (z_list : PySem.W.nsIn K mainGlobals "list" = some none)
    (z_range : PySem.W.nsIn K mainGlobals "range" = some none)
    (z_repr : PySem.W.nsIn K mainGlobals "repr" = some none)
    (z_str : PySem.W.nsIn K mainGlobals "str" = some none)
    (z_tuple : PySem.W.nsIn K mainGlobals "tuple" = some none)
    (z_zip : PySem.W.nsIn K mainGlobals "zip" = some none)
    : ∃ fd : FuncData, (∀ (s : Shared) (v : Value), BindsTo s fd ⟨[v], []⟩ [("_law_script", v)]) ∧ ∀ base : Heap, K.In base → base.Ns mainGlobals mg → TB.AtTop l.prog w K mg base fa fd "_law_script" (spLaw K) := by
  have e := hfa.symm.trans (PySem.W.mg_of X G a17)
  cases e
  have T : Txt mg := ⟨PySem.W.mg_none_of X G z_abs, PySem.W.mg_none_of X G z_bool, PySem.W.mg_none_of X G z_int, PySem.W.mg_none_of X G z_isinstance, PySem.W.mg_none_of X G z_len, PySem.W.mg_none_of X G z_list, PySem.W.mg_none_of X G z_range, PySem.W.mg_none_of X G z_repr, PySem.W.mg_none_of X G z_str, PySem.W.mg_none_of X G z_tuple, PySem.W.mg_none_of X G z_zip⟩
  have F1 := fun_mk (st := s_is_int) l1 c1 k1
  have F2 := fun_mk (st := s_is_cell) l2 c2 k2
  have F3 := fun_mk (st := s_volume) l3 c3 k3
  have F4 := fun_mk (st := s__law_deck) l4 c4 k4
  have F5 := fun_mk (st := s__law_draw) l5 c5 k5
  have F6 := fun_mk (st := s__law_one) l6 c6 k6
  have F7 := fun_mk (st := s__law_volume) l7 c7 k7
  have F8 := fun_mk (st := s__law_odd) l8 c8 k8
  have F9 := fun_mk (st := s__law_bent) l9 c9 k9
  have F10 := fun_mk (st := s__law_whole) l10 c10 k10
  have F11 := fun_mk (st := s__law_sides) l11 c11 k11
  have F12 := fun_mk (st := s__law_cells) l12 c12 k12
  have F13 := fun_mk (st := s__law_far) l13 c13 k13
  have F14 := fun_mk (st := s__law_wide) l14 c14 k14
  have F15 := fun_mk (st := s__law_with) l15 c15 k15
  have F16 := fun_mk (st := s__law_is_cell) l16 c16 k16
  have F18 := fun_mk (st := s_is_index) l18 c18 k18
  have F17 := fun_mk (st := s_law) l17 c17 k17
  refine ⟨PySem.W.fnOf "law" "law" (defArgs s_law) (defBody s_law) (defScope s_law) .none kV17 dc17 pm17 an17 cd17 ct17, fun s v => .of_eq rfl, fun base _ _ => ?_⟩
  have h_is_int := TB.keeps_of (F := F1) (PySem.W.mg_of X G a1) (F1.binds (ps := p_is_int) fun _ _ _ _ _ _ us hl => match us, hl with | [_], _ => rfl) (ok_is_int (P := l.prog) (w := w) (base := base) T F1 )
  have h_is_index := TB.keeps_of (F := F18) (PySem.W.mg_of X G a18) (F18.binds (ps := p_is_index) fun _ _ _ _ _ _ us hl => match us, hl with | [_, _], _ => rfl) (ok_is_index (P := l.prog) (w := w) (base := base) T F18 h_is_int)
  have h_is_cell := TB.keeps_of (F := F2) (PySem.W.mg_of X G a2) (F2.binds (ps := p_is_cell) fun _ _ _ _ _ _ us hl => match us, hl with | [_, _], _ => rfl) (ok_is_cell (P := l.prog) (w := w) (base := base) T F2 h_is_index)
  have h_volume := TB.keeps_of (F := F3) (PySem.W.mg_of X G a3) (F3.binds (ps := p_volume) fun _ _ _ _ _ _ us hl => match us, hl with | [_], _ => rfl) (ok_volume (P := l.prog) (w := w) (base := base) T F3 )
  have h__law_deck := TB.keeps_of (F := F4) (PySem.W.mg_of X G a4) (F4.binds (ps := p__law_deck) fun _ _ _ _ _ _ us hl => match us, hl with | [_], _ => rfl) (ok__law_deck (P := l.prog) (w := w) (base := base) T F4 )
  have h__law_draw := TB.keeps_of (F := F5) (PySem.W.mg_of X G a5) (F5.binds (ps := p__law_draw) fun _ _ _ _ _ _ us hl => match us, hl with | [_, _], _ => rfl) (ok__law_draw (P := l.prog) (w := w) (base := base) T F5 )
  have h__law_one := TB.keeps_of (F := F6) (PySem.W.mg_of X G a6) (F6.binds (ps := p__law_one) fun _ _ _ _ _ _ us hl => match us, hl with | [_, _], _ => rfl) (ok__law_one (P := l.prog) (w := w) (base := base) T F6 h__law_draw)
  have h__law_volume := TB.keeps_of (F := F7) (PySem.W.mg_of X G a7) (F7.binds (ps := p__law_volume) fun _ _ _ _ _ _ us hl => match us, hl with | [_], _ => rfl) (ok__law_volume (P := l.prog) (w := w) (base := base) T F7 )
  have h__law_odd := TB.keeps_of (F := F8) (PySem.W.mg_of X G a8) (F8.binds (ps := p__law_odd) fun _ _ _ _ _ _ us hl => match us, hl with | [_], _ => rfl) (ok__law_odd (P := l.prog) (w := w) (base := base) T F8 h__law_one)
  have g__law_bent := PySem.W.mg_of X G a9
  have b__law_bent := F9.binds (ps := p__law_bent) fun _ _ _ _ _ _ us hl => match us, hl with | [_, _, _], _ => rfl
  have h__law_bent := TB.keeps_of (F := F9) g__law_bent b__law_bent (ok__law_bent (P := l.prog) (w := w) (base := base) T F9 g__law_bent b__law_bent h__law_draw h__law_one h__law_odd 2)
  have h__law_whole := TB.keeps_of (F := F10) (PySem.W.mg_of X G a10) (F10.binds (ps := p__law_whole) fun _ _ _ _ _ _ us hl => match us, hl with | [_, _, _], _ => rfl) (ok__law_whole (P := l.prog) (w := w) (base := base) T F10 )
  have h__law_sides := TB.keeps_of (F := F11) (PySem.W.mg_of X G a11) (F11.binds (ps := p__law_sides) fun _ _ _ _ _ _ us hl => match us, hl with | [_, _, _], _ => rfl) (ok__law_sides (P := l.prog) (w := w) (base := base) T F11 h__law_draw)
  have h__law_cells := TB.keeps_of (F := F12) (PySem.W.mg_of X G a12) (F12.binds (ps := p__law_cells) fun _ _ _ _ _ _ us hl => match us, hl with | [_], _ => rfl) (ok__law_cells (P := l.prog) (w := w) (base := base) T F12 )
  have h__law_far := TB.keeps_of (F := F13) (PySem.W.mg_of X G a13) (F13.binds (ps := p__law_far) fun _ _ _ _ _ _ us hl => match us, hl with | [_], _ => rfl) (ok__law_far (P := l.prog) (w := w) (base := base) T F13 h__law_draw h__law_one)
  have h__law_wide := TB.keeps_of (F := F14) (PySem.W.mg_of X G a14) (F14.binds (ps := p__law_wide) fun _ _ _ _ _ _ us hl => match us, hl with | [_, _], _ => rfl) (ok__law_wide (P := l.prog) (w := w) (base := base) T F14 h__law_far)
  have h__law_with := TB.keeps_of (F := F15) (PySem.W.mg_of X G a15) (F15.binds (ps := p__law_with) fun _ _ _ _ _ _ us hl => match us, hl with | [_, _, _], _ => rfl) (ok__law_with (P := l.prog) (w := w) (base := base) T F15 )
  have h__law_is_cell := TB.keeps_of (F := F16) (PySem.W.mg_of X G a16) (F16.binds (ps := p__law_is_cell) fun _ _ _ _ _ _ us hl => match us, hl with | [_, _], _ => rfl) (ok__law_is_cell (P := l.prog) (w := w) (base := base) T F16 h__law_whole)
  exact ok_law T F17 h_is_cell h_volume h__law_deck h__law_draw h__law_one h__law_volume h__law_odd h__law_bent h__law_sides h__law_cells h__law_wide h__law_with h__law_is_cell

end K03
open PySem PySem.W PyProof.Rows
set_option maxHeartbeats 0 in
theorem PySem.Challenge.cw_twobricks_k03_cells_and_volumes_holds : PySem.Challenge.rw_twobricks_k03_cells_and_volumes.Holds := by
  w_on; o_law; k_head; (case hw => w_witness2)
  k_fill
  refine TB.walk_top (l := PySem.Challenge.rw_twobricks_k03_cells_and_volumes) (n := 63) (x := "_law_script") (sp := fun w => K03.spLaw _) rfl (by decide) rfl (fun w h Y => PySem.W.kIn_of Y) ?F (fun _ _ a ns hl _ _ hS => K03.sp_start hl hS)
  case F =>
    intro w mg fa h KX G hmg
    refine' K03.all_mk KX G hmg ?a1 ?l1 ?c1 ?k1 ?a2 ?l2 ?c2 ?k2 ?a3 ?l3 ?c3 ?k3 ?a4 ?l4 ?c4 ?k4 ?a5 ?l5 ?c5 ?k5 ?a6 ?l6 ?c6 ?k6 ?a7 ?l7 ?c7 ?k7 ?a8 ?l8 ?c8 ?k8 ?a9 ?l9 ?c9 ?k9 ?a10 ?l10 ?c10 ?k10 ?a11 ?l11 ?c11 ?k11 ?a12 ?l12 ?c12 ?k12 ?a13 ?l13 ?c13 ?k13 ?a14 ?l14 ?c14 ?k14 ?a15 ?l15 ?c15 ?k15 ?a16 ?l16 ?c16 ?k16 ?a17 ?l17 ?c17 ?k17 ?a18 ?l18 ?c18 ?k18 ?z_abs ?z_bool ?z_int ?z_isinstance ?z_len ?z_list ?z_range ?z_repr ?z_str ?z_tuple ?z_zip
    (case a1 => k_is)
    (case l1 => k_is)
    (case c1 => k_is)
    (case k1 => k_is)
    (case a2 => k_is)
    (case l2 => k_is)
    (case c2 => k_is)
    (case k2 => k_is)
    (case a3 => k_is)
    (case l3 => k_is)
    (case c3 => k_is)
    (case k3 => k_is)
    (case a4 => k_is)
    (case l4 => k_is)
    (case c4 => k_is)
    (case k4 => k_is)
    (case a5 => k_is)
    (case l5 => k_is)
    (case c5 => k_is)
    (case k5 => k_is)
    (case a6 => k_is)
    (case l6 => k_is)
    (case c6 => k_is)
    (case k6 => k_is)
    (case a7 => k_is)
    (case l7 => k_is)
    (case c7 => k_is)
    (case k7 => k_is)
    (case a8 => k_is)
    (case l8 => k_is)
    (case c8 => k_is)
    (case k8 => k_is)
    (case a9 => k_is)
    (case l9 => k_is)
    (case c9 => k_is)
    (case k9 => k_is)
    (case a10 => k_is)
    (case l10 => k_is)
    (case c10 => k_is)
    (case k10 => k_is)
    (case a11 => k_is)
    (case l11 => k_is)
    (case c11 => k_is)
    (case k11 => k_is)
    (case a12 => k_is)
    (case l12 => k_is)
    (case c12 => k_is)
    (case k12 => k_is)
    (case a13 => k_is)
    (case l13 => k_is)
    (case c13 => k_is)
    (case k13 => k_is)
    (case a14 => k_is)
    (case l14 => k_is)
    (case c14 => k_is)
    (case k14 => k_is)
    (case a15 => k_is)
    (case l15 => k_is)
    (case c15 => k_is)
    (case k15 => k_is)
    (case a16 => k_is)
    (case l16 => k_is)
    (case c16 => k_is)
    (case k16 => k_is)
    (case a17 => k_is)
    (case l17 => k_is)
    (case c17 => k_is)
    (case k17 => k_is)
    (case a18 => k_is)
    (case l18 => k_is)
    (case c18 => k_is)
    (case k18 => k_is)
    (case z_abs => k_is)
    (case z_bool => k_is)
    (case z_int => k_is)
    (case z_isinstance => k_is)
    (case z_len => k_is)
    (case z_list => k_is)
    (case z_range => k_is)
    (case z_repr => k_is)
    (case z_str => k_is)
    (case z_tuple => k_is)
    (case z_zip => k_is)
