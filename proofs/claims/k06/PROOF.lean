import PyProof.Rows.All
import Wide.All
import OpenK.AllK
import Wide.FinOn
import HandS.ForMost
import HandS.Wide
import HandS.EndBits
import HandS.TupAny
import HandS.Style
import HandS.IsInst
import HandS.Evl
import PyProof.ReprRoads
import KE.KIntText
import KE.GoesMore
import HandS.Zip
import HandS.Steps
import HandS.ExcInit
import HandS.ExcField
import HandS.WordsExc
import KE.IntTextLaws
import PyProof.StrBlock2
import HandS.Walk
import PySem.Challenge.RW_twobricks_k06_texts_of_no_kinds
set_option Elab.async false
set_option linter.all false
set_option maxRecDepth 100000
/-! The base of the law proofs of Twobricks: repr of data, the end of a row whose law asks repr (its guards told). -/
namespace TB
open PySem PySem.Spec PyProof.Rows L2
/-! ### data in the abstract heap, dicts of nothing among them -/
mutual
inductive Rp (K : PySem.W.Frag) (H : Hp) : V → PyData → Prop
  | non : Rp K H .non .none
  | bl (b : Bool) : Rp K H (.bl b) (.bool b)
  | int (i : Int) : Rp K H (.int i) (.int i)
  | str (x : Str) : Rp K H (.str x) (.str x)
  | lst {a : Addr} {xs : List V} {ds : List PyData} : SqL K H a xs → RpAll K H xs ds → Rp K H (.ref a) (.list ds)
  | tup {a : Addr} {xs : List V} {ds : List PyData} : SqT K H a xs → RpAll K H xs ds → Rp K H (.ref a) (.tuple ds)
inductive RpAll (K : PySem.W.Frag) (H : Hp) : List V → List PyData → Prop
  | nil : RpAll K H [] []
  | cons {v : V} {vs : List V} {d : PyData} {ds : List PyData} : Rp K H v d → RpAll K H vs ds → RpAll K H (v :: vs) (d :: ds)
end
section
variable {X : Cx} {pins : List (Addr × Obj)} {σ : L2.St} {H : Hp} {s : Shared}
mutual
theorem Rp.reads (J : Inv X pins σ H s) : ∀ (e : PyData) (z : V) (y : Value), Rp X.K H z e → RelV z y → (∃ as, Reads s.heap y e as) ∧ e.hasDict = false
  | .none, _, _, q, r => by
    cases q; cases r
    exact ⟨⟨_, Reads.none⟩, rfl⟩
  | .bool c, _, _, q, r => by
    cases q; cases r
    exact ⟨⟨_, Reads.bool c⟩, rfl⟩
  | .int j, _, _, q, r => by
    cases q
    obtain ⟨tk, rfl⟩ := r
    exact ⟨⟨_, Reads.int j tk⟩, rfl⟩
  | .str y, _, _, q, r => by
    cases q
    obtain ⟨tk, rfl⟩ := r
    exact ⟨⟨_, Reads.str y tk⟩, rfl⟩
  | .list es, _, _, q, r => by
    cases q with
    | lst hq hz =>
      cases r
      obtain ⟨iq, rz, ⟨oq, nq, hoq, hcq, _, hdq⟩, _⟩ := J.list hq
      obtain ⟨⟨as, hr⟩, hn⟩ := Rp.readsAll J es _ iq hz rz
      exact ⟨⟨_, Reads.list hoq hcq hdq hr⟩, hn⟩
  | .tuple es, _, _, q, r => by
    cases q with
    | tup hq hz =>
      cases r
      obtain ⟨iq, rz, ⟨oq, hoq, hcq, nq, hdq⟩, _⟩ := J.tuple hq
      obtain ⟨⟨as, hr⟩, hn⟩ := Rp.readsAll J es _ iq hz rz
      exact ⟨⟨_, Reads.tuple hoq hcq hdq hr⟩, hn⟩
  | .dict _, _, _, q, _ => by cases q
theorem Rp.readsAll (J : Inv X pins σ H s) : ∀ (es : List PyData) (zs : List V) (ys : List Value), RpAll X.K H zs es → Vals zs ys → (∃ as, ReadsAll s.heap ys es as) ∧ PyData.hasDictAll es = false
  | [], _, _, q, r => by
    cases q; cases r
    exact ⟨⟨_, ReadsAll.nil⟩, rfl⟩
  | e :: es, _, _, q, r => by
    cases q with
    | cons q1 q2 =>
      cases r with
      | cons r1 r2 =>
        obtain ⟨⟨as, g1⟩, n1⟩ := Rp.reads J e _ _ q1 r1
        obtain ⟨⟨bs, g2⟩, n2⟩ := Rp.readsAll J es _ _ q2 r2
        exact ⟨⟨_, ReadsAll.cons g1 g2⟩, by rw [PyData.hasDictAll, n1, n2]; rfl⟩
end
end
def rRep (K : PySem.W.Frag) : List V → Hp → VK → Prop := fun xs H Q =>
  ∃ z e, xs = [z] ∧ Rp K H z e ∧ e.showable = true ∧ e.depth < 60 ∧ e.shown.length ≤ sizeLine ∧ Q (.str e.shown) H
theorem call_repr {X : Cx} (hg : X.A.guards = some []) (hu : X.A.units + 64 < cLine) : CallR X (.builtin "repr") (rRep X.K) := by
  intro pins s σ H xs us Q J r h
  obtain ⟨z, e, rfl, hz, hs, hd, hl, q⟩ := h
  obtain ⟨u, rfl, ru⟩ := vals1 r
  obtain ⟨⟨as, hr⟩, hn⟩ := Rp.reads J e z u hz ru
  cases hz with
  | non =>
    cases ru
    exact PySem.P.repr_of_none ⟨.str _, H, J.tok _, ⟨_, rfl⟩, q⟩
  | bl b =>
    cases ru
    exact PySem.P.repr_of_bool ⟨.str _, H, J.tok _, ⟨_, rfl⟩, by cases b <;> exact q⟩
  | int i =>
    obtain ⟨t, rfl⟩ := ru
    exact PySem.P.repr_of_int (of_decide_eq_true hs) ⟨.str _, H, J.tok _, ⟨_, rfl⟩, q⟩
  | str x =>
    obtain ⟨t, rfl⟩ := ru
    exact PySem.P.repr_of_str (hsz := hl) ⟨.str _, H, J.tok _, ⟨_, rfl⟩, q⟩
  | lst h1 h2 =>
    cases ru
    exact repr_of_reads' hr hs (fun hx => by rw [hn] at hx; cases hx) hg (by omega) (fun b o e => e) (fun h' u tk hk => ⟨.str _, H, J.kept hk, ⟨_, rfl⟩, q⟩) hl
  | tup h1 h2 =>
    cases ru
    exact repr_of_reads' hr hs (fun hx => by rw [hn] at hx; cases hx) hg (by omega) (fun b o e => e) (fun h' u tk hk => ⟨.str _, H, J.kept hk, ⟨_, rfl⟩, q⟩) hl
/-! ### a def that is called from the row's own caller, its guards known -/
/-- what the def at fa does, called by the row's caller -/
def AtTop (P : Program) (w : World) (K : PySem.W.Frag) (mg : Str → Option Value) (base : Heap) (fa : Addr) (fd : FuncData) (x : Str) (sp : Sp) : Prop :=
  ∀ (s : Shared) (H : Hp) (u : Value) (v : V) (Q : VK) (E : XK), Env0 P w K mg base callerA [] s H → BindsTo s fd ⟨[u], []⟩ [(x, u)] → RelV v u → sp [v] H Q E →
    codeAny (model P w) callerA (.call (.ref fa) ⟨[u], []⟩) (CR CX0 [] P w H s Q E) s
theorem atTop_of {P : Program} {w : World} {K : PySem.W.Frag} {mg : Str → Option Value} {base : Heap} {k : Nat} {x qual : Str} {st : Stmt} {f : Addr} {fd : FuncData} {N : List Str} {arg : Str} {sp : Sp}
    (F : Fun K x qual st f fd) (S : FnScope N [arg] (defScope st)) (hrm : Room (k + 1) callerA)
    (hbody : ∀ (cdv : Value) (s : Shared) (H : Hp) (v : V) (Q : VK) (E : XK), Room k (callerA.deeper (envOfC qual (defScope st) s.heap.objs.size f cdv)) → sp [v] H Q E →
      ∃ t, PSs (cxOf CX0 P w K mg base N qual (defScope st) f cdv callerA [] s H E).nox (defBody st) t ∧ t { nx := fun _ H' => Q .non H', rt := Q } (start N [v]) H) :
    AtTop P w K mg base f fd arg sp := by
  intro s H u v Q E e0 hb rv hsp
  obtain ⟨oc, od, kV, doc, pm, an, cdv, ct, osl, rfl, lk, hcd⟩ := F.ex
  have kin : K.In s.heap := e0.mod.kin.keeps fun b o q => (e0.bs b o q).1
  have nolim : s.heap.NoLimit := e0.mod.nolimit.keeps fun b o q => (e0.bs b o q).1
  have kinds : ∀ y ∈ [arg].zip [u], (defScope st).names.lookup y.1 = some .local ∨ ((defScope st).names.lookup y.1 = some .cell ∧ ((cellsFrom (s.heap.objs.size + 1) (defScope st).names []).lookup y.1).isSome = true) := fun ⟨m, z⟩ hy => by
    rcases S.par m (List.of_mem_zip hy).1 with c | c
    · exact .inl c
    · exact .inr ⟨c, PySem.W.cellsFrom_some _ _ _ (.inl c)⟩
  refine codeAny_call_function hrm.depth (kin _ _ lk) rfl S.co S.gen rfl (PySem.W.codeRec_of kin hcd) (hb _ _ _ _ ?_)
  refine wpAny_newFunctionEnv_cells S.kind kinds fun env henv s1 hin => ?_
  subst henv
  refine ⟨nolim.keeps hin.toInCall.keep, codeAny_func ?_⟩
  obtain ⟨t, ht, hq⟩ := hbody cdv s H v Q E (hrm.deeper _) hsp
  have J := inv_start (CX := CX0) (E := E) S hrm.hd e0 (vs := [v]) rfl (.cons rv .nil) hin
  refine wpAny_mono (ht.nox.run [] s1 (start N [v]) H _ J hq) (fun fl s' hs => ?_) fun _ _ hs => hs
  have done : ∀ {τ : L2.St} {H' : Hp} {z : V} {y : Value}, Inv (cxOf CX0 P w K mg base N qual (defScope st) f cdv callerA [] s H E) [] τ H' s' → RelV z y → Q z H' → CE [] P w H s Q y s' :=
    fun {τ H' z y} I r q => ⟨z, H', I.os, I.bare, I.base, I.hok, r, q⟩
  cases fl with
  | ret y =>
    obtain ⟨z, τ, H', I, r, q⟩ := hs
    exact done I r q
  | next =>
    obtain ⟨τ, H', I, q⟩ := hs
    exact done (z := V.non) (y := Value.none) I rfl q
  | brk =>
    obtain ⟨_, _, _, q⟩ := hs
    exact q.elim
  | cont =>
    obtain ⟨_, _, _, q⟩ := hs
    exact q.elim
theorem law_top {P : Program} {w : World} {K : PySem.W.Frag} {mg mb : Str → Option Value} {fa a : Addr} {fd : FuncData} {x : Str} {sp : Sp} {s₁ : Shared} {vs : List Value} {ns : List Int}
    (kin : K.In s₁.heap) (gn : s₁.heap.Ns mainGlobals mg) (bn : s₁.heap.Ns builtinsNs mb) (bnb : ∀ y : Str, y ≠ "__name__" → mb y = bootBuiltins y) (nolim : s₁.heap.NoLimit) (gens : s₁.gens = #[])
    (ho : s₁.heap.get? a = some { cls := .type "list", data := .seq vs.toArray }) (hi : IntsAre vs ns) (hl : ns.length ≤ sizeLine)
    (F : ∀ base : Heap, K.In base → base.Ns mainGlobals mg → AtTop P w K mg base fa fd x sp) (hb : ∀ (s : Shared) (u : Value), BindsTo s fd ⟨[u], []⟩ [(x, u)])
    (hsp : ∀ H : Hp, Only H → SqL K H a (ns.map V.int) → sp [.ref a] H (fun v _ => v = .bl true) fun _ _ _ => False) :
    codeAny (model P w) callerA (.call (.ref fa) ⟨[.ref a], []⟩) (fun r s' => r = .ok (.ret (.bool true)) ∧ OldK s₁.heap s'.heap ∧ s'.os = s₁.os ∧ AllBare s'.gens) s₁ := by
  have rv := vals_ints hi
  have main : ∀ H : Hp, Only H → SqL K H a (ns.map V.int) → HOk P w H s₁.heap → (∀ b, H b ≠ none → b = a) → (H a ≠ none → K.lookup a = none) →
      codeAny (model P w) callerA (.call (.ref fa) ⟨[.ref a], []⟩) (fun r s' => r = .ok (.ret (.bool true)) ∧ OldK s₁.heap s'.heap ∧ s'.os = s₁.os ∧ AllBare s'.gens) s₁ := by
    intro H only hS hok onlyA noK
    have notA : ∀ {b : Addr} {o : Obj} {es : Array DictEntry} {n : Nat}, s₁.heap.get? b = some o → o.data = .dict es n → H b = none := fun {b o es n} e d => by
      cases q : H b with
      | none => rfl
      | some u =>
        have eb : b = a := onlyA b (by rw [q]; simp)
        subst eb
        rw [ho] at e
        cases e
        exact nomatch d
    have keepNs : ∀ {b : Addr} {m : Str → Option Value}, s₁.heap.Ns b m → (hidT s₁.heap H).Ns b m := fun {b m} ⟨o, es, n, e, d, r⟩ => ⟨o, es, n, hidT_get e (notA e d), d, r⟩
    have kinT : K.In (hidT s₁.heap H) := fun b o e => hidT_get (kin b o e) (by
      cases q : H b with
      | none => rfl
      | some u =>
        have eb : b = a := onlyA b (by rw [q]; simp)
        subst eb
        rw [noK (by rw [q]; simp)] at e
        cases e)
    have hM : Mod K mg (hidT s₁.heap H) := ⟨kinT, keepNs gn, ⟨mb, keepNs bn, bnb⟩, let ⟨mc, c1, c2⟩ := nolim; ⟨mc, keepNs c1, c2⟩⟩
    have e0 : Env0 P w K mg (hidT s₁.heap H) callerA [] s₁ H := ⟨rfl, hM, fun b o e => of_hidT e, Nat.le_of_eq (hidT_size _ _), trivial, fun b hb => (by cases hb), hok, .of_eq gens⟩
    refine codeAny_mono (F _ kinT (keepNs gn) s₁ H (.ref a) (.ref a) _ _ e0 (hb s₁ (.ref a)) rfl (hsp H only hS)) fun r s' h => ?_
    cases r with
    | error e => exact False.elim h
    | ok fl =>
      cases fl with
      | next => exact h.elim
      | brk => exact h.elim
      | cont => exact h.elim
      | ret u =>
        obtain ⟨v, H', os, bare, un, hok', r', q⟩ := h
        have q' : v = .bl true := q
        subst q'
        cases r'
        refine ⟨rfl, OldK.of_keep fun b o e => ?_, os, bare⟩
        cases q : H b with
        | none => exact un.keep b o e q (fun z => by cases z) (fun z => by cases z)
        | some u =>
          rcases only b with z | ⟨ob, xs, z⟩
          · rw [q] at z; cases z
          · obtain ⟨e1, _⟩ := hok b _ z
            obtain ⟨e2, _⟩ := hok' b _ (un.frzs b ob _ z)
            rw [e] at e1
            cases e1
            exact e2
  cases hk : K.lookup a with
  | some o =>
    have e := kin a o hk
    rw [ho] at e
    cases e
    exact main (fun _ => none) (fun _ => .inl rfl) (.inr ⟨_, vs.toArray, _, hk, rfl, rfl, rfl, by rw [List.size_toArray, hi.length]; exact hl, by simpa using rv⟩) (fun b u z => nomatch z) (fun b z => (z rfl).elim) fun z => (z rfl).elim
  | none =>
    refine main (fun b => if b = a then some (.frz { cls := .type "list", data := .seq vs.toArray } (.lst (ns.map V.int))) else none) (fun b => ?_) (.inl (.inr ⟨{ cls := .type "list", data := .seq vs.toArray }, if_pos rfl⟩)) (fun b u z => ?_) (fun b z => ?_) fun _ => hk
    · by_cases eb : b = a
      · exact .inr ⟨_, _, if_pos eb⟩
      · exact .inl (if_neg eb)
    · by_cases eb : b = a
      · have z' := (if_pos eb).symm.trans z
        cases z'
        subst eb
        exact ⟨ho, by rw [List.length_map]; exact hl, vs, _, rv, ho⟩
      · exact nomatch (if_neg eb).symm.trans z
    · by_cases eb : b = a
      · exact eb
      · exact (z (if_neg eb)).elim
/-- the goal behind the head, from the law's promise at its caller; the script's bits told -/
theorem walk_top {l : PySem.W.OpenLaw} {n : Nat} {q : Program} {loose : List Str} {XP : (Str → Option Value) → Heap → Prop} {YP : World → Heap → Prop} {d : DefRec} {K : Params → PySem.W.Frag} {sp : World → Sp} {x : Str}
    (hn : l.most = some n) (hn2 : n ≤ sizeLine) (hdf : d.params.defaults = [])
    (hY : ∀ (w : World) (h : Heap), YP w h → (K w.params).In h)
    (F : ∀ (w : World) (mg : Str → Option Value) (fa : Addr) (h : Heap), (K w.params).In h → h.Ns mainGlobals mg → mg d.name = some (.ref fa) →
      ∃ fd : FuncData, (∀ (s : Shared) (u : Value), BindsTo s fd ⟨[u], []⟩ [(x, u)]) ∧ ∀ base : Heap, (K w.params).In base → base.Ns mainGlobals mg → AtTop l.prog w (K w.params) mg base fa fd x (sp w))
    (hsp : ∀ (w : World) (H : Hp) (a : Addr) (ns : List Int), ns.length ≤ n → (∀ z ∈ ns, Builtin.Int.intBits z ≤ 1048576) → Only H → SqL (K w.params) H a (ns.map V.int) → sp w [.ref a] H (fun v _ => v = .bl true) fun _ _ _ => False) :
    PySem.W.WalkO q loose XP YP l.row.toRowW d [] (fun f vs => PySem.call f vs) := by
  refine Att.attach_callB hn hdf fun w s₀ s₁ mg mb fa o pm cd doc a vs ns G Y _ _ _ hmg hobj hints hlen hbits hg => ?_
  have kin := hY w _ Y
  obtain ⟨fd, hb, hF⟩ := F w mg fa _ kin G.T.g hmg
  exact law_top kin G.T.g G.T.b G.T.builtins G.T.nolimit hg hobj hints (Nat.le_trans hlen hn2) hF hb fun H hO hS => hsp w H a ns hlen hbits hO hS
end TB
namespace TB
open PySem PySem.Spec PyProof.Rows L2 Evl
/-! ### a def that keeps a promise, called by its name -/
def Keeps (P : Program) (w : World) (K : PySem.W.Frag) (mg : Str → Option Value) (base : Heap) (k : Nat) (x : Str) (ps : List Str) (sp : Sp) : Prop :=
  ∃ (f : Addr) (fd : FuncData), mg x = some (.ref f) ∧ PySem.W.keepIn K (.ref f) = true ∧ Binds K fd ps [] ∧ FnOk P w K mg base CX0 k f fd ps sp
theorem keeps_of {P : Program} {w : World} {K : PySem.W.Frag} {mg : Str → Option Value} {base : Heap} {k : Nat} {x q : Str} {st : Stmt} {f : Addr} {fd : FuncData} {ps : List Str} {sp : Sp}
    (F : Fun K x q st f fd) {y : Str} (g : mg y = some (.ref f)) (b : Binds K fd ps []) (G : FnOk P w K mg base CX0 k f fd ps sp) : Keeps P w K mg base k y ps sp := ⟨f, fd, g, F.kp, b, G⟩
theorem pe_own {X : Cx} {k : Nat} {x : Str} {ps : List Str} {sp : Sp} {e : Expr} {es : List Expr} {t : TA} {p pos : Pos}
    (h : Keeps X.prog X.w X.K X.mg X.base k x ps sp) (hr : Room k X.A) (hg : Gl X x) (ha : PA X (e :: es) t) (hdb : (x == ("__debug__" : Str)) = false := by decide)
    (he : starEach (e :: es) X.env = (false, eval e X.env) :: starEach es X.env := by rfl) (hpl : (backTo pos (starEach es X.env)).any (·.1) = false := by rfl) :
    PE X (.Call (.Name x p) (e :: es) [] pos) (tCall sp [] E0 t) := by
  obtain ⟨f, fd, g, kp, b, G⟩ := h
  exact pe_call G hr hg g kp b .nil pass0 ha hdb he hpl
theorem pe_con {X : Cx} {x : Str} {i : Int} {pos : Pos} (hg : Gl X x) (h : ∃ t, X.mg x = some (.int i t)) (hdb : (x == ("__debug__" : Str)) = false := by decide) : PE X (.Name x pos) (tC (.int i)) := by
  obtain ⟨t, h⟩ := h
  exact pe_glob hg h ⟨t, rfl⟩ hdb
/-! ### the deck of drawn numbers -/
/-- at d stands the deck: the great numbers at g, all numbers at l, a count -/
def Deck (H : Hp) (d g l : Addr) : Prop := ∃ (gs ls : List Int) (c : Int),
  H d = some (.lst [.ref g, .ref l, .int c]) ∧ H g = some (.lst (gs.map V.int)) ∧ H l = some (.lst (ls.map V.int)) ∧ d ≠ g ∧ d ≠ l ∧ g ≠ l ∧ 0 < ls.length
/-- all but the deck's two changing lists stands as before -/
def Off (d g : Addr) (H H' : Hp) : Prop := ∀ a o, H a = some o → a ≠ d → a ≠ g → H' a = some o
theorem Off.refl {d g : Addr} {H : Hp} : Off d g H H := fun _ _ e _ _ => e
theorem Off.trans {d g : Addr} {H H1 H2 : Hp} (a : Off d g H H1) (b : Off d g H1 H2) : Off d g H H2 := fun x o e n m => b x o (a x o e n m) n m
theorem Off.of {d g : Addr} {H H' : Hp} (e : Ex H H') : Off d g H H' := fun a o h _ _ => e a o h
theorem Deck.ex {H H' : Hp} {d g l : Addr} (e : Ex H H') (h : Deck H d g l) : Deck H' d g l := by
  obtain ⟨gs, ls, c, h1, h2, h3, r⟩ := h
  exact ⟨gs, ls, c, e _ _ h1, e _ _ h2, e _ _ h3, r⟩
theorem Deck.ne {H : Hp} {d g l a : Addr} (h : Deck H d g l) (n : H a = none) : a ≠ d ∧ a ≠ g := by
  obtain ⟨gs, ls, c, h1, h2, h3, r⟩ := h
  exact ⟨fun q => (by rw [q, h1] at n; cases n), fun q => (by rw [q, h2] at n; cases n)⟩
/-- a tuple is none of the deck's lists -/
theorem Off.tup {d g l a : Addr} {H H' : Hp} {xs : List V} (e : Off d g H H') (D : Deck H d g l) (h : H a = some (.tup xs)) : H' a = some (.tup xs) := by
  obtain ⟨gs, ls, c, h1, h2, h3, r⟩ := D
  exact e a _ h (fun q => by rw [q, h1] at h; cases h) fun q => by rw [q, h2] at h; cases h
theorem Off.sqT {K : PySem.W.Frag} {d g l a : Addr} {H H' : Hp} {xs : List V} (e : Off d g H H') (D : Deck H d g l) (h : SqT K H a xs) : SqT K H' a xs := by
  obtain ⟨gs, ls, c, h1, h2, h3, r⟩ := D
  rcases h with (h | ⟨o, h⟩) | h
  · exact .inl (.inl (e a _ h (fun q => by rw [q, h1] at h; cases h) fun q => by rw [q, h2] at h; cases h))
  · exact .inl (.inr ⟨o, e a _ h (fun q => by rw [q, h1] at h; cases h) (fun q => by rw [q, h2] at h; cases h)⟩)
  · exact .inr h
def spDeck (K : PySem.W.Frag) : Sp := fun vs H Q _ => ∃ (a : Addr) (ns : List Int), vs = [.ref a] ∧ SqL K H a (ns.map V.int) ∧ ns.length ≤ 63 ∧
  ∀ d g l H', Ex H H' → H d = none → H g = none → Deck H' d g l → Q (.ref d) H'
def spDraw : Sp := fun vs H Q _ => ∃ (d g l : Addr) (m : Int), vs = [.ref d, .int m] ∧ 0 < m ∧ m ≤ 1000000000000 ∧ Deck H d g l ∧
  ∀ r H', 0 ≤ r → r < m → Deck H' d g l → Off d g H H' → Q (.int r) H'
def spOne : Sp := fun vs H Q _ => ∃ (d g l p : Addr) (xs : List V), vs = [.ref d, .ref p] ∧ Deck H d g l ∧ H p = some (.lst xs) ∧ p ≠ d ∧ p ≠ g ∧ 0 < xs.length ∧ xs.length ≤ 1000 ∧
  ∀ (i : Nat) (v : V) H', xs[i]? = some v → Deck H' d g l → Off d g H H' → Q v H'
theorem fmod_rng {a m : Int} (h : 0 < m) : 0 ≤ a.fmod m ∧ a.fmod m < m := ⟨Int.fmod_nonneg_of_pos a h, Int.fmod_lt_of_pos a h⟩
theorem fmod_small {a m : Int} (h : 0 < m) (h2 : m ≤ 2 ^ 64) : -(2 ^ 64) < a.fmod m ∧ a.fmod m < 2 ^ 64 := by
  have := fmod_rng (a := a) h
  omega
theorem ixN_zero {n : Nat} (h : 0 < n) : ixN n 0 = some 0 := by
  unfold ixN
  rw [if_pos (by omega), if_pos (by omega)]
  rfl
theorem size_small {n : Nat} (h : n ≤ 100000) : n ≤ sizeLine := Nat.le_trans h (by decide)
theorem size_small' {n : Nat} (h : n ≤ 100000) : n < sizeLine := Nat.lt_of_le_of_lt h (by decide)
end TB

namespace TB
open PySem PySem.Spec PyProof.Rows L2 Evl
/-! ### data kept -/
mutual
def flatD : PyData → Bool
  | .none | .bool _ | .int _ | .str _ => true
  | .list _ => false
  | .tuple ds => flatDs ds
  | .dict _ => false
def flatDs : List PyData → Bool
  | [] => true
  | d :: ds => flatD d && flatDs ds
end
section
variable {K : PySem.W.Frag} {H H' : Hp}
mutual
theorem Rp.ex (x : Ex H H') : ∀ (e : PyData) (z : V), Rp K H z e → Rp K H' z e
  | .none, _, q => by cases q; exact .non
  | .bool c, _, q => by cases q; exact .bl c
  | .int j, _, q => by cases q; exact .int j
  | .str y, _, q => by cases q; exact .str y
  | .list es, _, q => by
    cases q with
    | lst hq hz => exact .lst (ex_l x hq) (RpAll.ex x es _ hz)
  | .tuple es, _, q => by
    cases q with
    | tup hq hz => exact .tup (ex_t x hq) (RpAll.ex x es _ hz)
  | .dict _, _, q => by cases q
theorem RpAll.ex (x : Ex H H') : ∀ (es : List PyData) (zs : List V), RpAll K H zs es → RpAll K H' zs es
  | [], _, q => by cases q; exact .nil
  | e :: es, _, q => by
    cases q with
    | cons q1 q2 => exact .cons (Rp.ex x e _ q1) (RpAll.ex x es _ q2)
end
mutual
/-- what holds no lists stays when numbers are drawn -/
theorem Rp.off {d g l : Addr} (D : Deck H d g l) (x : Off d g H H') : ∀ (e : PyData) (z : V), flatD e = true → Rp K H z e → Rp K H' z e
  | .none, _, _, q => by cases q; exact .non
  | .bool c, _, _, q => by cases q; exact .bl c
  | .int j, _, _, q => by cases q; exact .int j
  | .str y, _, _, q => by cases q; exact .str y
  | .list es, _, f, q => by rw [flatD] at f; cases f
  | .tuple es, _, f, q => by
    rw [flatD] at f
    cases q with
    | tup hq hz => exact .tup (x.sqT D hq) (RpAll.off D x es _ f hz)
  | .dict _, _, _, q => by cases q
theorem RpAll.off {d g l : Addr} (D : Deck H d g l) (x : Off d g H H') : ∀ (es : List PyData) (zs : List V), flatDs es = true → RpAll K H zs es → RpAll K H' zs es
  | [], _, _, q => by cases q; exact .nil
  | e :: es, _, f, q => by
    rw [flatDs, Bool.and_eq_true] at f
    cases q with
    | cons q1 q2 => exact .cons (Rp.off D x e _ f.1 q1) (RpAll.off D x es _ f.2 q2)
end
theorem RpAll.len : ∀ {zs : List V} {es : List PyData}, RpAll K H zs es → zs.length = es.length
  | _, _, .nil => rfl
  | _, _, .cons _ t => congrArg (· + 1) t.len
theorem RpAll.get : ∀ {zs : List V} {es : List PyData} {i : Nat} {z : V}, RpAll K H zs es → zs[i]? = some z → ∃ e, es[i]? = some e ∧ Rp K H z e
  | _, _, _, _, .nil, h => by simp at h
  | _, _, 0, z, .cons q _, h => by simp at h; subst h; exact ⟨_, rfl, q⟩
  | _, _, i + 1, z, .cons _ t, h => by
    obtain ⟨e, h1, h2⟩ := RpAll.get (i := i) t (by simpa using h)
    exact ⟨e, by simpa using h1, h2⟩
theorem RpAll.get' : ∀ {zs : List V} {es : List PyData} {i : Nat} {e : PyData}, RpAll K H zs es → es[i]? = some e → ∃ z, zs[i]? = some z ∧ Rp K H z e
  | _, _, _, _, .nil, h => by simp at h
  | _, _, 0, e, .cons q _, h => by simp at h; subst h; exact ⟨_, rfl, q⟩
  | _, _, i + 1, e, .cons _ t, h => by
    obtain ⟨z, h1, h2⟩ := RpAll.get' (i := i) t (by simpa using h)
    exact ⟨z, by simpa using h1, h2⟩
theorem RpAll.append : ∀ {zs ys : List V} {es fs : List PyData}, RpAll K H zs es → RpAll K H ys fs → RpAll K H (zs ++ ys) (es ++ fs)
  | _, _, _, _, .nil, s => s
  | _, _, _, _, .cons q t, s => .cons q (t.append s)
theorem rpInts : ∀ ns : List Int, RpAll K H (ns.map V.int) (ns.map PyData.int)
  | [] => .nil
  | n :: ns => .cons (.int n) (rpInts ns)
theorem rpInts_inv : ∀ {ns : List Int} {zs : List V}, RpAll K H zs (ns.map PyData.int) → zs = ns.map V.int
  | [], _, h => by cases h; rfl
  | n :: ns, _, h => by
    cases h with
    | cons q t => cases q; rw [rpInts_inv t]; rfl
/-- sides as data, kinds as data -/
def tupI (ns : List Int) : PyData := .tuple (ns.map PyData.int)
def tupK (nss : List (List Int)) : PyData := .tuple (nss.map tupI)
theorem flat_ints : ∀ ns : List Int, flatDs (ns.map PyData.int) = true
  | [] => rfl
  | n :: ns => by rw [List.map_cons, flatDs, flat_ints ns]; rfl
theorem flat_tupI (ns : List Int) : flatD (tupI ns) = true := by unfold tupI; rw [flatD]; exact flat_ints ns
theorem flat_tupK (nss : List (List Int)) : flatD (tupK nss) = true := by
  unfold tupK
  rw [flatD]
  induction nss with
  | nil => rfl
  | cons n ns ih => rw [List.map_cons, flatDs, flat_tupI, ih]; rfl
theorem rp_tupI {a : Addr} {ns : List Int} (h : SqT K H a (ns.map V.int)) : Rp K H (.ref a) (tupI ns) := .tup h (rpInts ns)
theorem tupI_inv {z : V} {ns : List Int} (h : Rp K H z (tupI ns)) : ∃ a, z = .ref a ∧ SqT K H a (ns.map V.int) := by
  unfold tupI at h
  cases h with
  | tup hs ha => rw [rpInts_inv ha] at hs; exact ⟨_, rfl, hs⟩
theorem tupK_inv {z : V} {nss : List (List Int)} (h : Rp K H z (tupK nss)) : ∃ a xs, z = .ref a ∧ SqT K H a xs ∧ RpAll K H xs (nss.map tupI) := by
  unfold tupK at h
  cases h with
  | tup hs ha => exact ⟨_, _, rfl, hs, ha⟩
theorem sum_le {α : Type} (f : α → Nat) (k : Nat) : ∀ l : List α, (∀ x ∈ l, f x ≤ k) → (l.map f).sum ≤ l.length * k
  | [], _ => Nat.zero_le _
  | x :: l, h => by
    have h1 := h x List.mem_cons_self
    have h2 := sum_le f k l fun y hy => h y (List.mem_cons_of_mem _ hy)
    rw [List.map_cons, List.sum_cons, List.length_cons, Nat.succ_mul]
    omega
end
end TB

namespace TB
open PySem PySem.Spec PyProof.Rows L2 Evl
section
variable {K : PySem.W.Frag} {H : Hp}
mutual
/-- what holds no lists stays when a list changes -/
theorem Rp.mut {L : Addr} {xs : List V} {o : HO} (hL : H L = some (.lst xs)) : ∀ (e : PyData) (z : V), flatD e = true → Rp K H z e → Rp K (upd H L o) z e
  | .none, _, _, q => by cases q; exact .non
  | .bool c, _, _, q => by cases q; exact .bl c
  | .int j, _, _, q => by cases q; exact .int j
  | .str y, _, _, q => by cases q; exact .str y
  | .list es, _, f, q => by rw [flatD] at f; cases f
  | .tuple es, _, f, q => by
    rw [flatD] at f
    cases q with
    | tup hq hz =>
      refine .tup ?_ (rpAll_flat_mut hL es _ f hz)
      rcases hq with (h | ⟨ob, h⟩) | h
      · exact .inl (.inl (by rw [upd_ne (ne_of h hL (by intro z; cases z))]; exact h))
      · exact .inl (.inr ⟨ob, by rw [upd_ne (ne_of h hL (by intro z; cases z))]; exact h⟩)
      · exact .inr h
  | .dict _, _, _, q => by cases q
theorem rpAll_flat_mut {L : Addr} {xs : List V} {o : HO} (hL : H L = some (.lst xs)) : ∀ (es : List PyData) (zs : List V), flatDs es = true → RpAll K H zs es → RpAll K (upd H L o) zs es
  | [], _, _, q => by cases q; exact .nil
  | e :: es, _, f, q => by
    rw [flatDs, Bool.and_eq_true] at f
    cases q with
    | cons q1 q2 => exact .cons (Rp.mut hL e _ f.1 q1) (rpAll_flat_mut hL es _ f.2 q2)
end
theorem flats_tupI : ∀ nss : List (List Int), flatDs (nss.map tupI) = true
  | [] => rfl
  | n :: ns => by rw [List.map_cons, flatDs, flat_tupI, flats_tupI ns]; rfl
end
end TB

namespace TB
open PySem PySem.Spec PyProof.Rows L2 Evl
section
variable {K : PySem.W.Frag} {H : Hp}
theorem cut_take {xs : List V} {k : Nat} : cutV xs none (some (k : Int)) = xs.take k := by
  unfold cutV
  rw [HT.sIx_none, HT.sIx_nat, List.drop_zero, Nat.sub_zero]
  rcases Nat.le_total k xs.length with h | h
  · rw [Nat.min_eq_left h]
  · rw [Nat.min_eq_right h, List.take_of_length_le (Nat.le_refl _), List.take_of_length_le h]
theorem RpAll.take : ∀ {zs : List V} {es : List PyData} (k : Nat), RpAll K H zs es → RpAll K H (zs.take k) (es.take k)
  | _, _, 0, _ => .nil
  | _, _, _ + 1, .nil => .nil
  | _, _, k + 1, .cons q t => .cons q (RpAll.take k t)
theorem RpAll.mem : ∀ {zs : List V} {es : List PyData} {z : V}, RpAll K H zs es → z ∈ zs → ∃ e ∈ es, Rp K H z e
  | _, _, _, .nil, h => by cases h
  | _, _, z, .cons q t, h => by
    rcases List.mem_cons.mp h with h | h
    · subst h; exact ⟨_, List.mem_cons_self, q⟩
    · obtain ⟨e, h1, h2⟩ := t.mem h
      exact ⟨e, List.mem_cons_of_mem _ h1, h2⟩
/-- t[:k] of a tuple of data: the same one, or a new one -/
theorem slA_take {z : V} {ds : List PyData} {k : Nat} {Q : VK} (hz : Rp K H z (.tuple ds)) (q : ∀ v H', Ex H H' → Rp K H' v (.tuple (ds.take k)) → Q v H') : rSlA K z none (some (k : Int)) H Q := by
  cases hz with
  | tup hs ha =>
    rename_i a xs
    refine ⟨a, xs, rfl, hs, fun h => ?_, fun _ p hp => ?_⟩
    · rw [HT.sIx_nat] at h
      have e : ds.take k = ds := List.take_of_length_le (by rw [← ha.len]; have := h.2; omega)
      exact q _ _ (fun _ _ e => e) (by rw [e]; exact .tup hs ha)
    · refine q _ _ (Ex.new hp) (.tup (.inl (.inl upd_same)) ?_)
      rw [cut_take]
      exact RpAll.ex (Ex.new hp) _ _ (ha.take k)
theorem ex_refl : Ex H H := fun _ _ e => e
/-- a list of data, made anew -/
theorem rp_new {p : Addr} {zs : List V} {ds : List PyData} (hp : H p = none) (h : RpAll K H zs ds) : Rp K (upd H p (.lst zs)) (.ref p) (.list ds) := .lst (.inl (.inl upd_same)) (RpAll.ex (Ex.new hp) _ _ h)
theorem rp_newT {p : Addr} {zs : List V} {ds : List PyData} (hp : H p = none) (h : RpAll K H zs ds) : Rp K (upd H p (.tup zs)) (.ref p) (.tuple ds) := .tup (.inl (.inl upd_same)) (RpAll.ex (Ex.new hp) _ _ h)
end
end TB

namespace TB
open PySem PySem.Spec PyProof.Rows L2
/-! readings by name, for a comprehension's block -/
abbrev rLenQ (K : PySem.W.Frag) : List V → Hp → VK → Prop := fun xs H Q => ∃ p ys, xs = [.ref p] ∧ (SqL K H p ys ∨ SqT K H p ys) ∧ Q (.int ys.length) H
abbrev rTupQ (K : PySem.W.Frag) : List V → Hp → VK → Prop := fun xs H Q => ∃ p ys, xs = [.ref p] ∧ ((SqL K H p ys ∧ ∀ l, H l = none → Q (.ref l) (upd H l (.tup ys))) ∨ (SqT K H p ys ∧ Q (.ref p) H))
abbrev rListQ (K : PySem.W.Frag) : List V → Hp → VK → Prop := fun xs H Q => ∃ p ys, xs = [.ref p] ∧ (SqL K H p ys ∨ SqT K H p ys) ∧ ∀ l, H l = none → Q (.ref l) (upd H l (.lst ys))
end TB
set_option Elab.async false
set_option linter.all false
set_option maxRecDepth 100000
/-! Texts of sides and kinds: plain mathematics. -/
namespace TB
open PySem PySem.Spec PyProof.Rows L2
abbrev cs (z : Str) : List Nat := z.cps.toList
theorem cs_app (a b : Str) : cs (a ++ b) = cs a ++ cs b := by show (a ++ b).cps.toList = _; rw [Str.cps_append, Array.toList_append]
theorem cs_len (z : Str) : (cs z).length = z.length := Array.length_toList
theorem cs_ext {a b : Str} (h : cs a = cs b) : a = b := by
  cases a; cases b
  have : ∀ {x y : Array Nat}, x.toList = y.toList → x = y := fun {x y} e => by cases x; cases y; simpa using e
  exact congrArg Str.mk (this h)
/-! ### digits -/
def digs (n : Nat) : List Nat := (Nat.toDigits 10 n).map Char.toNat
theorem digitChar_code : ∀ d : Nat, d < 10 → (Nat.digitChar d).toNat = 48 + d := by decide
theorem digs_lt {n : Nat} (h : n < 10) : digs n = [48 + n] := by
  unfold digs
  rw [Nat.toDigits_of_lt_base h, List.map_singleton, digitChar_code n h]
theorem digs_ge {n : Nat} (h : 10 ≤ n) : digs n = digs (n / 10) ++ [48 + n % 10] := by
  have hm : n % 10 < 10 := Nat.mod_lt n (by decide)
  have t : Nat.toDigits 10 (n / 10) ++ Nat.toDigits 10 (n % 10) = Nat.toDigits 10 (10 * (n / 10) + n % 10) := Nat.toDigits_append_toDigits (by decide) (by omega) hm
  rw [Nat.div_add_mod] at t
  unfold digs
  rw [← t, List.map_append, Nat.toDigits_of_lt_base hm, List.map_singleton, digitChar_code _ hm]
theorem digs_mem : ∀ (n c : Nat), c ∈ digs n → 48 ≤ c ∧ c ≤ 57 := by
  intro n
  induction n using Nat.strongRecOn with
  | _ n ih =>
    intro c hc
    by_cases h : n < 10
    · rw [digs_lt h, List.mem_singleton] at hc; omega
    · rw [digs_ge (by omega), List.mem_append] at hc
      rcases hc with hc | hc
      · exact ih _ (by omega) c hc
      · rw [List.mem_singleton] at hc; omega
theorem digs_ne (n : Nat) : digs n ≠ [] := by
  by_cases h : n < 10
  · rw [digs_lt h]; simp
  · rw [digs_ge (by omega)]; simp
theorem digs_len {n : Nat} (h : n ≤ 1000000000000) : (digs n).length ≤ 13 := by
  unfold digs
  rw [List.length_map]
  exact digits10_le (by decide) (by omega)
def numS (n : Int) : Str := Str.ofString (toString n)
theorem cs_num {n : Int} (h : 0 ≤ n) : cs (numS n) = digs n.toNat := by
  obtain ⟨m, rfl⟩ := Int.eq_ofNat_of_zero_le h
  exact PySem.W.KIN.signs_num m
/-! ### reading numbers -/
def MS : Int := 1000000000000
def scan : List Nat → Int → Nat → Int × Nat
  | [], a, p => (a, p)
  | c :: r, a, p => if 48 ≤ c ∧ c ≤ 57 ∧ 1 ≤ a * 10 + ((c : Int) - 48) ∧ a * 10 + ((c : Int) - 48) ≤ MS then scan r (a * 10 + ((c : Int) - 48)) (p + 1) else (a, p)
def NoDigit (r : List Nat) : Prop := ∀ c t, r = c :: t → ¬ (48 ≤ c ∧ c ≤ 57)
theorem scan_stop {r : List Nat} {a : Int} {p : Nat} (h : NoDigit r) : scan r a p = (a, p) := by
  cases r with
  | nil => rfl
  | cons c t =>
    have := h c t rfl
    unfold scan
    rw [if_neg (fun q => this ⟨q.1, q.2.1⟩)]
theorem scan_digs : ∀ (n : Nat), 1 ≤ n → (n : Int) ≤ MS → ∀ (r : List Nat) (p : Nat), scan (digs n ++ r) 0 p = scan r n (p + (digs n).length) := by
  intro n
  induction n using Nat.strongRecOn with
  | _ n ih =>
    intro h1 h2 r p
    have hms : MS = 1000000000000 := rfl
    by_cases h : n < 10
    · rw [digs_lt h]
      show scan ((48 + n) :: r) 0 p = _
      rw [scan, if_pos (by refine ⟨?_, ?_, ?_, ?_⟩ <;> omega)]
      congr 1
      omega
    · rw [digs_ge (by omega), List.append_assoc, ih (n / 10) (by omega) (by omega) (by omega)]
      show scan ((48 + n % 10) :: r) _ _ = _
      rw [scan, if_pos (by refine ⟨?_, ?_, ?_, ?_⟩ <;> omega), List.length_append]
      congr 1
      omega
theorem scan_rng : ∀ (l : List Nat) (a : Int) (p : Nat), 0 ≤ a → a ≤ MS → 0 ≤ (scan l a p).1 ∧ (scan l a p).1 ≤ MS ∧ p ≤ (scan l a p).2 ∧ (scan l a p).2 ≤ p + l.length
  | [], a, p, h1, h2 => ⟨h1, h2, Nat.le_refl _, Nat.le_refl _⟩
  | c :: r, a, p, h1, h2 => by
    unfold scan
    by_cases h : 48 ≤ c ∧ c ≤ 57 ∧ 1 ≤ a * 10 + ((c : Int) - 48) ∧ a * 10 + ((c : Int) - 48) ≤ MS
    · rw [if_pos h]
      have := scan_rng r (a * 10 + ((c : Int) - 48)) (p + 1) (by omega) h.2.2.2
      rw [List.length_cons]
      omega
    · rw [if_neg h]
      exact ⟨h1, h2, Nat.le_refl _, Nat.le_add_right _ _⟩
/-- the sides whose text begins at p, at most k of them; a wrong sign's place -/
def sidesL (c : List Nat) : Nat → List Int → Nat → Except Nat (List Int × Nat)
  | 0, _, p => .error p
  | k + 1, acc, p =>
    let r := scan (c.drop p) 0 p
    if r.1 = 0 then .error r.2
    else if k = 0 ∨ r.2 = c.length ∨ c[r.2]? ≠ some 120 then .ok (acc ++ [r.1], r.2)
    else sidesL c k (acc ++ [r.1]) (r.2 + 1)
/-- the same, least of them at least -/
def sidesAt (c : List Nat) (p least most : Nat) : Except Nat (List Int × Nat) :=
  match sidesL c most [] p with
  | .ok (ns, q) => if ns.length < least then .error q else .ok (ns, q)
  | .error q => .error q
def parseS (c : List Nat) : Except Nat (List Int) :=
  match sidesAt c 0 1 4 with
  | .ok (ns, q) => if q < c.length then .error q else .ok ns
  | .error q => .error q
def kindsL (c : List Nat) (n : Nat) : Nat → List (List Int) → Nat → Except Nat (List (List Int))
  | k, acc, p =>
    if p < c.length then
      if c[p]? ≠ some 32 then .error p
      else match k with
        | 0 => .error p
        | k + 1 => match sidesAt c (p + 1) n n with
          | .ok (ns, q) => kindsL c n k (acc ++ [ns]) q
          | .error q => .error q
    else .ok acc
def parseK (c : List Nat) : Except Nat (List (List Int)) :=
  match sidesAt c 0 1 4 with
  | .ok (ns, q) => kindsL c ns.length 3 [ns] q
  | .error q => .error q
/-! ### the texts -/
def gl (sep : List Nat) : List (List Nat) → List Nat
  | [] => []
  | [x] => x
  | x :: r => x ++ sep ++ gl sep r
theorem cs_join (sep : Str) : ∀ ys : List Str, cs (Txt.join sep ys) = gl (cs sep) (ys.map cs) := by
  intro ys
  show cs (Builtin.Str.glued sep ys) = _
  rw [StrLaws.glued_eq_join]
  induction ys with
  | nil => rfl
  | cons x r ih =>
    cases r with
    | nil => rfl
    | cons y r =>
      show cs (x ++ sep ++ Str.join sep (y :: r)) = cs x ++ cs sep ++ gl (cs sep) ((y :: r).map cs)
      rw [cs_app, cs_app, ih]
def sideT (ns : List Int) : Str := Txt.join "x" (ns.map numS)
def kindT (nss : List (List Int)) : Str := Txt.join " " (nss.map sideT)
def sideC (ns : List Int) : List Nat := gl [120] (ns.map fun n => digs n.toNat)
def kindC (nss : List (List Int)) : List Nat := gl [32] (nss.map sideC)
def SideOk (ns : List Int) : Prop := 1 ≤ ns.length ∧ ns.length ≤ 4 ∧ ∀ n ∈ ns, 1 ≤ n ∧ n ≤ MS
theorem cs_side {ns : List Int} (h : ∀ n ∈ ns, 1 ≤ n ∧ n ≤ MS) : cs (sideT ns) = sideC ns := by
  unfold sideT sideC
  rw [cs_join, List.map_map]
  have : cs ("x" : Str) = [120] := by decide +kernel
  rw [this]
  congr 1
  refine List.map_congr_left fun n hn => ?_
  exact cs_num (by have := (h n hn).1; omega)
theorem cs_kind {nss : List (List Int)} (h : ∀ ns ∈ nss, ∀ n ∈ ns, 1 ≤ n ∧ n ≤ MS) : cs (kindT nss) = kindC nss := by
  unfold kindT kindC
  rw [cs_join, List.map_map]
  have : cs (" " : Str) = [32] := by decide +kernel
  rw [this]
  congr 1
  exact List.map_congr_left fun ns hn => cs_side (h ns hn)
/-- what may stand behind sides that are at an end -/
def Behind (r : List Nat) : Prop := ∀ c t, r = c :: t → c = 32
theorem sidesL_text : ∀ (ns : List Int) (k : Nat) (acc : List Int) (pre r : List Nat), 1 ≤ ns.length → ns.length ≤ k → (∀ n ∈ ns, 1 ≤ n ∧ n ≤ MS) → Behind r →
    sidesL (pre ++ (sideC ns ++ r)) k acc pre.length = .ok (acc ++ ns, (pre ++ sideC ns).length)
  | [], _, _, _, _, h, _, _, _ => by simp at h
  | n :: ns, 0, _, _, _, _, h, _, _ => by simp at h
  | n :: ns, k + 1, acc, pre, r, h1, h2, h3, h4 => by
    have hn := h3 n List.mem_cons_self
    have hN : ((n.toNat : Nat) : Int) = n := Int.toNat_of_nonneg (by omega)
    have nr : NoDigit r := fun c t e q => by have := h4 c t e; omega
    unfold sidesL
    rw [List.drop_left]
    cases ns with
    | nil =>
      have e : sideC [n] = digs n.toNat := rfl
      rw [e, scan_digs _ (by omega) (by rw [hN]; exact hn.2), scan_stop nr, hN]
      dsimp only
      rw [if_neg (by omega), if_pos, List.length_append]
      by_cases hk : k = 0
      · exact .inl hk
      · right
        cases r with
        | nil => left; simp
        | cons c t =>
          right
          have hc := h4 c t rfl
          rw [← List.append_assoc, ← List.length_append, List.getElem?_append_right (Nat.le_refl _), Nat.sub_self, hc]
          simp
    | cons m ns =>
      have e : sideC (n :: m :: ns) = digs n.toNat ++ [120] ++ sideC (m :: ns) := rfl
      have nx : NoDigit ([120] ++ (sideC (m :: ns) ++ r)) := fun c t e q => by
        have e2 : 120 = c := (List.cons.inj e).1
        omega
      rw [e, List.append_assoc, List.append_assoc, List.append_assoc, scan_digs _ (by omega) (by rw [hN]; exact hn.2), scan_stop nx, hN]
      dsimp only
      rw [if_neg (by omega), if_neg]
      · have ih := sidesL_text (m :: ns) k (acc ++ [n]) (pre ++ digs n.toNat ++ [120]) r (by simp) (by simp at h2 ⊢; omega) (fun x hx => h3 x (List.mem_cons_of_mem _ hx)) h4
        have e1 : pre ++ digs n.toNat ++ [120] ++ (sideC (m :: ns) ++ r) = pre ++ (digs n.toNat ++ ([120] ++ (sideC (m :: ns) ++ r))) := by simp
        rw [e1] at ih
        have e2 : (pre ++ digs n.toNat ++ [120]).length = pre.length + (digs n.toNat).length + 1 := by simp; omega
        rw [e2] at ih
        rw [ih]
        congr 2
        · simp
        · simp
      · intro q
        rcases q with q | q | q
        · simp at h2; omega
        · simp at q
        · apply q
          rw [← List.append_assoc, ← List.length_append, List.getElem?_append_right (Nat.le_refl _), Nat.sub_self]
          rfl
theorem sidesAt_text {ns : List Int} {k l : Nat} (pre r : List Nat) (h1 : 1 ≤ ns.length) (h2 : ns.length ≤ k) (hl : l ≤ ns.length) (h3 : ∀ n ∈ ns, 1 ≤ n ∧ n ≤ MS) (h4 : Behind r) :
    sidesAt (pre ++ (sideC ns ++ r)) pre.length l k = .ok (ns, (pre ++ sideC ns).length) := by
  unfold sidesAt
  rw [sidesL_text ns k [] pre r h1 h2 h3 h4]
  dsimp only
  rw [List.nil_append, if_neg (by omega)]
theorem parseS_text {ns : List Int} (h : SideOk ns) : parseS (sideC ns) = .ok ns := by
  have e := sidesAt_text (l := 1) (k := 4) [] [] h.1 h.2.1 h.1 h.2.2 (fun c t e => nomatch e)
  simp only [List.nil_append, List.append_nil, List.length_nil] at e
  unfold parseS
  rw [e]
  dsimp only
  rw [if_neg (Nat.lt_irrefl _)]
theorem kindsL_text : ∀ (nss : List (List Int)) (n k : Nat) (acc : List (List Int)) (pre : List Nat), nss.length ≤ k → 1 ≤ n → (∀ ns ∈ nss, ns.length = n ∧ ∀ m ∈ ns, 1 ≤ m ∧ m ≤ MS) →
    kindsL (pre ++ (nss.map fun ns => 32 :: sideC ns).flatten) n k acc pre.length = .ok (acc ++ nss)
  | [], n, k, acc, pre, _, _, _ => by
    unfold kindsL
    rw [if_neg (by simp)]
    simp
  | ns :: nss, n, 0, acc, pre, h, _, _ => by simp at h
  | ns :: nss, n, k + 1, acc, pre, h, h1, h2 => by
    have hn := h2 ns List.mem_cons_self
    unfold kindsL
    rw [if_pos (by simp)]
    have g : (pre ++ (List.map (fun ns => 32 :: sideC ns) (ns :: nss)).flatten)[pre.length]? = some 32 := by
      rw [List.getElem?_append_right (Nat.le_refl _), Nat.sub_self]
      rfl
    rw [if_neg (by rw [g]; simp)]
    dsimp only
    have bh : Behind (List.map (fun ns => 32 :: sideC ns) nss).flatten := fun c t e => by
      cases nss with
      | nil => exact nomatch e
      | cons a b =>
        have : 32 = c := (List.cons.inj e).1
        exact this.symm
    have e := sidesAt_text (ns := ns) (l := n) (k := n) (pre ++ [32]) (List.map (fun ns => 32 :: sideC ns) nss).flatten (by omega) (by omega) (by omega) hn.2 bh
    have e1 : pre ++ [32] ++ (sideC ns ++ (List.map (fun ns => 32 :: sideC ns) nss).flatten) = pre ++ (List.map (fun ns => 32 :: sideC ns) (ns :: nss)).flatten := by simp
    have e2 : (pre ++ [32]).length = pre.length + 1 := by simp
    rw [e1, e2] at e
    rw [e]
    dsimp only
    have ih := kindsL_text nss n k (acc ++ [ns]) (pre ++ [32] ++ sideC ns) (by simp at h; omega) h1 fun x hx => h2 x (List.mem_cons_of_mem _ hx)
    have e3 : pre ++ [32] ++ sideC ns ++ (List.map (fun ns => 32 :: sideC ns) nss).flatten = pre ++ (List.map (fun ns => 32 :: sideC ns) (ns :: nss)).flatten := by simp
    rw [e3] at ih
    rw [ih]
    simp
theorem kindC_cons (ns : List Int) : ∀ nss : List (List Int), kindC (ns :: nss) = sideC ns ++ (nss.map fun ns => 32 :: sideC ns).flatten
  | [] => by simp [kindC, gl]
  | m :: nss => by
    show sideC ns ++ [32] ++ kindC (m :: nss) = _
    rw [kindC_cons m nss]
    simp
def KindOk (nss : List (List Int)) (n : Nat) : Prop := 1 ≤ n ∧ n ≤ 4 ∧ 1 ≤ nss.length ∧ nss.length ≤ 4 ∧ ∀ ns ∈ nss, ns.length = n ∧ ∀ m ∈ ns, 1 ≤ m ∧ m ≤ MS
theorem parseK_text {nss : List (List Int)} {n : Nat} (h : KindOk nss n) : parseK (kindC nss) = .ok nss := by
  obtain ⟨h1, h2, h3, h4, h5⟩ := h
  cases nss with
  | nil => simp at h3
  | cons ns nss =>
    have hn := h5 ns List.mem_cons_self
    have bh : Behind (List.map (fun ns => 32 :: sideC ns) nss).flatten := fun c t e => by
      cases nss with
      | nil => exact nomatch e
      | cons a b =>
        have : 32 = c := (List.cons.inj e).1
        exact this.symm
    have e := sidesAt_text (ns := ns) (l := 1) (k := 4) [] (List.map (fun ns => 32 :: sideC ns) nss).flatten (by omega) (by omega) (by omega) hn.2 bh
    simp only [List.nil_append, List.length_nil] at e
    unfold parseK
    rw [kindC_cons, e]
    dsimp only
    have k := kindsL_text nss ns.length 3 [ns] (sideC ns) (by simp at h4; omega) (by omega) fun x hx => by
      have := h5 x (List.mem_cons_of_mem _ hx)
      exact ⟨by omega, this.2⟩
    rw [k]
    rfl
/-! ### sizes -/
theorem gl_len (sep : List Nat) : ∀ (l : List (List Nat)) (k : Nat), (∀ x ∈ l, x.length ≤ k) → (gl sep l).length ≤ l.length * (k + sep.length)
  | [], _, _ => Nat.zero_le _
  | [x], k, h => by
    have := h x List.mem_cons_self
    show x.length ≤ 1 * _
    omega
  | x :: y :: r, k, h => by
    have h1 := h x List.mem_cons_self
    have h2 := gl_len sep (y :: r) k fun z hz => h z (List.mem_cons_of_mem _ hz)
    show (x ++ sep ++ gl sep (y :: r)).length ≤ (r.length + 1 + 1) * _
    rw [List.length_append, List.length_append, Nat.succ_mul]
    have : (y :: r).length = r.length + 1 := rfl
    rw [this] at h2
    omega
theorem sideC_len {ns : List Int} (h : ns.length ≤ 4) (h2 : ∀ n ∈ ns, 1 ≤ n ∧ n ≤ MS) : (sideC ns).length ≤ 56 := by
  have hms : MS = 1000000000000 := rfl
  have := gl_len [120] (ns.map fun n => digs n.toNat) 13 fun x hx => by
    obtain ⟨n, hn, rfl⟩ := List.mem_map.mp hx
    have := h2 n hn
    exact digs_len (by omega)
  rw [List.length_map] at this
  show (gl [120] _).length ≤ 56
  have e : ([120] : List Nat).length = 1 := rfl
  rw [e] at this
  omega
theorem kindC_len {nss : List (List Int)} (h : nss.length ≤ 4) (h2 : ∀ ns ∈ nss, ns.length ≤ 4 ∧ ∀ n ∈ ns, 1 ≤ n ∧ n ≤ MS) : (kindC nss).length ≤ 228 := by
  have := gl_len [32] (nss.map sideC) 56 fun x hx => by
    obtain ⟨ns, hn, rfl⟩ := List.mem_map.mp hx
    exact sideC_len (h2 ns hn).1 (h2 ns hn).2
  rw [List.length_map] at this
  show (gl [32] _).length ≤ 228
  have e : ([32] : List Nat).length = 1 := rfl
  rw [e] at this
  omega
/-! ### a sign among the digits -/
theorem find_digit (c : Nat) : Txt.find ("0123456789" : Str) ⟨#[c]⟩ = if 48 ≤ c ∧ c ≤ 57 then (c : Int) - 48 else -1 := by
  by_cases h : 48 ≤ c ∧ c ≤ 57
  · rw [if_pos h]
    obtain ⟨h1, h2⟩ := h
    have : c = 48 ∨ c = 49 ∨ c = 50 ∨ c = 51 ∨ c = 52 ∨ c = 53 ∨ c = 54 ∨ c = 55 ∨ c = 56 ∨ c = 57 := by omega
    rcases this with rfl | rfl | rfl | rfl | rfl | rfl | rfl | rfl | rfl | rfl <;> decide +kernel
  · rw [if_neg h]
    have e := StrLaws.found_one ("0123456789" : Str) c
    have e2 : decide (c ∈ ("0123456789" : Str).cps.toList) = false := by
      have : ("0123456789" : Str).cps.toList = [48, 49, 50, 51, 52, 53, 54, 55, 56, 57] := by decide +kernel
      rw [this]
      refine decide_eq_false ?_
      simp only [List.mem_cons, List.not_mem_nil, or_false]
      omega
    rw [e2] at e
    unfold Txt.find
    cases ho : Builtin.Str.occurrences ("0123456789" : Str) ⟨#[c]⟩ 0 ("0123456789" : Str).length 1 with
    | nil => rfl
    | cons a b => rw [ho] at e; cases e
/-! ### what repr asks of data: their texts are not too long -/
structure Fit (n k : Nat) (d : PyData) : Prop where
  sh : d.showable = true
  len : d.shown.length ≤ n
  dp : d.depth ≤ k
theorem Fit.mono {n m k j : Nat} {d : PyData} (h : Fit n k d) (h1 : n ≤ m) (h2 : k ≤ j) : Fit m j d := ⟨h.sh, Nat.le_trans h.len h1, Nat.le_trans h.dp h2⟩
theorem fit_all {n k : Nat} : ∀ ds : List PyData, (∀ d ∈ ds, Fit n k d) → PyData.showableAll ds = true ∧ PyData.depthAll ds ≤ k ∧ ((PyData.shownAll ds).map (·.length)).sum ≤ ds.length * n ∧ (PyData.shownAll ds).length = ds.length
  | [], _ => ⟨rfl, Nat.zero_le _, Nat.zero_le _, rfl⟩
  | d :: ds, h => by
    obtain ⟨a, b, c, e⟩ := fit_all ds fun x hx => h x (List.mem_cons_of_mem _ hx)
    have f := h d List.mem_cons_self
    refine ⟨by rw [PyData.showableAll, f.sh, a]; rfl, by rw [PyData.depthAll]; have := f.dp; omega, ?_, by rw [PyData.shownAll, List.length_cons, e]; rfl⟩
    rw [PyData.shownAll, List.map_cons, List.sum_cons, List.length_cons, Nat.succ_mul]
    have := f.len
    omega
theorem Fit.list {n k : Nat} {ds : List PyData} (h : ∀ d ∈ ds, Fit n k d) : Fit (ds.length * n + 2 * ds.length + 3) (k + 1) (.list ds) := by
  obtain ⟨a, b, c, e⟩ := fit_all ds h
  refine ⟨by rw [PyData.showable]; exact a, ?_, by rw [PyData.depth]; omega⟩
  have := listText_len_le (PyData.shownAll ds)
  rw [PyData.shown]
  omega
theorem Fit.tuple {n k : Nat} {ds : List PyData} (h : ∀ d ∈ ds, Fit n k d) : Fit (ds.length * n + 2 * ds.length + 3) (k + 1) (.tuple ds) := by
  obtain ⟨a, b, c, e⟩ := fit_all ds h
  refine ⟨by rw [PyData.showable]; exact a, ?_, by rw [PyData.depth]; omega⟩
  have := tupleText_len_le (PyData.shownAll ds)
  rw [PyData.shown]
  omega
theorem fit_int {i : Int} (h : 0 ≤ i) (h2 : i ≤ MS) : Fit 13 0 (.int i) := by
  have hms : MS = 1000000000000 := rfl
  refine ⟨?_, ?_, Nat.le_refl _⟩
  · rw [PyData.showable]
    refine decide_eq_true ?_
    by_cases h0 : i.natAbs = 0
    · rw [h0]; decide
    · exact Nat.lt_of_lt_of_le ((Nat.log2_lt h0).mpr (show i.natAbs < 2 ^ 41 by omega)) (by decide)
  · show (numS i).length ≤ 13
    rw [← cs_len, cs_num h]
    exact digs_len (by omega)
theorem fit_str {x : Str} {n : Nat} (h : x.length ≤ n) (hc : ∀ c ∈ cs x, c < 16 ^ 8) : Fit (10 * n + 2) 0 (.str x) := by
  refine ⟨rfl, ?_, Nat.le_refl _⟩
  have := StrLaws.reprText_len x hc
  rw [PyData.shown]
  omega
theorem gl_mem {sep : List Nat} {c : Nat} : ∀ {l : List (List Nat)}, c ∈ gl sep l → c ∈ sep ∨ ∃ x ∈ l, c ∈ x
  | [], h => by cases h
  | [x], h => .inr ⟨x, List.mem_cons_self, h⟩
  | x :: y :: r, h => by
    have h' : c ∈ x ++ sep ++ gl sep (y :: r) := h
    rcases List.mem_append.mp h' with h1 | h1
    · rcases List.mem_append.mp h1 with h2 | h2
      · exact .inr ⟨x, List.mem_cons_self, h2⟩
      · exact .inl h2
    · rcases gl_mem h1 with h2 | ⟨z, hz, h2⟩
      · exact .inl h2
      · exact .inr ⟨z, List.mem_cons_of_mem _ hz, h2⟩
theorem side_code {ns : List Int} {c : Nat} (h : c ∈ sideC ns) : c < 1000 := by
  rcases gl_mem h with h | ⟨x, hx, h⟩
  · rw [List.mem_singleton.mp h]; decide
  · obtain ⟨n, _, rfl⟩ := List.mem_map.mp hx
    have := digs_mem _ _ h
    omega
theorem kind_code {nss : List (List Int)} {c : Nat} (h : c ∈ kindC nss) : c < 1000 := by
  rcases gl_mem h with h | ⟨x, hx, h⟩
  · rw [List.mem_singleton.mp h]; decide
  · obtain ⟨n, _, rfl⟩ := List.mem_map.mp hx
    exact side_code h
theorem fit_side {ns : List Int} (h : ns.length ≤ 4) (h2 : ∀ n ∈ ns, 1 ≤ n ∧ n ≤ MS) : Fit 3000 0 (.str (sideT ns)) := by
  refine (fit_str (n := 56) ?_ fun c hc => ?_).mono (by decide) (Nat.le_refl _)
  · rw [← cs_len, cs_side h2]; exact sideC_len h h2
  · rw [cs_side h2] at hc
    exact Nat.lt_of_lt_of_le (side_code hc) (by decide)
theorem fit_kind {nss : List (List Int)} (h : nss.length ≤ 4) (h2 : ∀ ns ∈ nss, ns.length ≤ 4 ∧ ∀ n ∈ ns, 1 ≤ n ∧ n ≤ MS) : Fit 3000 0 (.str (kindT nss)) := by
  have e := cs_kind fun ns hn => (h2 ns hn).2
  refine (fit_str (n := 228) ?_ fun c hc => ?_).mono (by decide) (Nat.le_refl _)
  · rw [← cs_len, e]; exact kindC_len h h2
  · rw [e] at hc
    exact Nat.lt_of_lt_of_le (kind_code hc) (by decide)
theorem fit_tupI {ns : List Int} (h : ns.length ≤ 4) (h2 : ∀ n ∈ ns, 1 ≤ n ∧ n ≤ MS) : Fit 100 1 (tupI ns) := by
  have := Fit.tuple (n := 13) (k := 0) (ds := ns.map PyData.int) fun d hd => by
    obtain ⟨n, hn, rfl⟩ := List.mem_map.mp hd
    have := h2 n hn
    exact fit_int (by omega) this.2
  rw [List.length_map] at this
  exact this.mono (by omega) (Nat.le_refl _)
theorem fit_tupK {nss : List (List Int)} (h : nss.length ≤ 4) (h2 : ∀ ns ∈ nss, ns.length ≤ 4 ∧ ∀ n ∈ ns, 1 ≤ n ∧ n ≤ MS) : Fit 3000 2 (tupK nss) := by
  have := Fit.tuple (n := 100) (k := 1) (ds := nss.map tupI) fun d hd => by
    obtain ⟨ns, hn, rfl⟩ := List.mem_map.mp hd
    exact fit_tupI (h2 ns hn).1 (h2 ns hn).2
  rw [List.length_map] at this
  exact this.mono (by omega) (Nat.le_refl _)
theorem sizeLine_big {n : Nat} (h : n ≤ 100000) : n ≤ sizeLine := Nat.le_trans h (by decide)
end TB
set_option Elab.async false
set_option linter.all false
set_option maxRecDepth 100000
/-! A layer over data: what an expression evaluates to, said of data (PyData), the heap's bookkeeping hidden in one state St. -/
namespace DL
open PySem PySem.Spec PyProof.Rows L2 Evl TB
mutual
/-- v stands for the data e, none of its objects at an address of N -/
inductive Rg (N : Addr → Prop) (H : Hp) : V → PyData → Prop
  | non : Rg N H .non .none
  | bl (b : Bool) : Rg N H (.bl b) (.bool b)
  | int (i : Int) : Rg N H (.int i) (.int i)
  | str (x : Str) : Rg N H (.str x) (.str x)
  | lst {a : Addr} {xs : List V} {ds : List PyData} : H a = some (.lst xs) → ¬ N a → RgAll N H xs ds → Rg N H (.ref a) (.list ds)
  | tup {a : Addr} {xs : List V} {ds : List PyData} : H a = some (.tup xs) → ¬ N a → RgAll N H xs ds → Rg N H (.ref a) (.tuple ds)
  | dic {a : Addr} : H a = some (.dK []) → ¬ N a → Rg N H (.ref a) (.dict [])
inductive RgAll (N : Addr → Prop) (H : Hp) : List V → List PyData → Prop
  | nil : RgAll N H [] []
  | cons {v : V} {vs : List V} {d : PyData} {ds : List PyData} : Rg N H v d → RgAll N H vs ds → RgAll N H (v :: vs) (d :: ds)
end
mutual
def hasL : PyData → Bool
  | .none | .bool _ | .int _ | .str _ => false
  | .list _ => true
  | .tuple ds => hasLs ds
  | .dict _ => false
def hasLs : List PyData → Bool
  | [] => false
  | d :: ds => hasL d || hasLs ds
end
/-- not both a list and a dict in it -/
def okD (e : PyData) : Bool := !(e.hasDict) || !(hasL e)
section
variable {N M : Addr → Prop} {H H' : Hp}
mutual
theorem Rg.to (x : ∀ a o, H a = some o → ¬ N a → H' a = some o ∧ ¬ M a) : ∀ (e : PyData) (z : V), Rg N H z e → Rg M H' z e
  | .none, _, q => by cases q; exact .non
  | .bool c, _, q => by cases q; exact .bl c
  | .int j, _, q => by cases q; exact .int j
  | .str y, _, q => by cases q; exact .str y
  | .list es, _, q => by
    cases q with
    | lst h n r => exact .lst (x _ _ h n).1 (x _ _ h n).2 (RgAll.to x es _ r)
  | .tuple es, _, q => by
    cases q with
    | tup h n r => exact .tup (x _ _ h n).1 (x _ _ h n).2 (RgAll.to x es _ r)
  | .dict es, _, q => by
    cases q with
    | dic h n => exact .dic (x _ _ h n).1 (x _ _ h n).2
theorem RgAll.to (x : ∀ a o, H a = some o → ¬ N a → H' a = some o ∧ ¬ M a) : ∀ (es : List PyData) (zs : List V), RgAll N H zs es → RgAll M H' zs es
  | [], _, q => by cases q; exact .nil
  | e :: es, _, q => by
    cases q with
    | cons q1 q2 => exact .cons (Rg.to x e _ q1) (RgAll.to x es _ q2)
end
theorem Rg.ex {v : V} {e : PyData} (x : Ex H H') (r : Rg N H v e) : Rg N H' v e := Rg.to (fun a o h n => ⟨x a o h, n⟩) e v r
theorem RgAll.ex {vs : List V} {es : List PyData} (x : Ex H H') (r : RgAll N H vs es) : RgAll N H' vs es := RgAll.to (fun a o h n => ⟨x a o h, n⟩) es vs r
theorem Rg.sub {v : V} {e : PyData} (x : ∀ a, M a → N a) (r : Rg N H v e) : Rg M H v e := Rg.to (fun a o h n => ⟨h, fun q => n (x a q)⟩) e v r
theorem RgAll.len : ∀ {zs : List V} {es : List PyData}, RgAll N H zs es → zs.length = es.length
  | _, _, .nil => rfl
  | _, _, .cons _ t => congrArg (· + 1) t.len
theorem RgAll.get : ∀ {zs : List V} {es : List PyData} {i : Nat} {z : V}, RgAll N H zs es → zs[i]? = some z → ∃ e, es[i]? = some e ∧ Rg N H z e
  | _, _, _, _, .nil, h => by simp at h
  | _, _, 0, z, .cons q _, h => by simp at h; subst h; exact ⟨_, rfl, q⟩
  | _, _, i + 1, z, .cons _ t, h => by
    obtain ⟨e, h1, h2⟩ := RgAll.get (i := i) t (by simpa using h)
    exact ⟨e, by simpa using h1, h2⟩
theorem RgAll.get' : ∀ {zs : List V} {es : List PyData} {i : Nat} {e : PyData}, RgAll N H zs es → es[i]? = some e → ∃ z, zs[i]? = some z ∧ Rg N H z e
  | _, _, _, _, .nil, h => by simp at h
  | _, _, 0, e, .cons q _, h => by simp at h; subst h; exact ⟨_, rfl, q⟩
  | _, _, i + 1, e, .cons _ t, h => by
    obtain ⟨z, h1, h2⟩ := RgAll.get' (i := i) t (by simpa using h)
    exact ⟨z, by simpa using h1, h2⟩
theorem RgAll.app : ∀ {zs ys : List V} {es fs : List PyData}, RgAll N H zs es → RgAll N H ys fs → RgAll N H (zs ++ ys) (es ++ fs)
  | _, _, _, _, .nil, s => s
  | _, _, _, _, .cons q t, s => .cons q (t.app s)
theorem RgAll.take : ∀ {zs : List V} {es : List PyData} (k : Nat), RgAll N H zs es → RgAll N H (zs.take k) (es.take k)
  | _, _, 0, _ => .nil
  | _, _, _ + 1, .nil => .nil
  | _, _, k + 1, .cons q t => .cons q (RgAll.take k t)
theorem RgAll.drop : ∀ {zs : List V} {es : List PyData} (k : Nat), RgAll N H zs es → RgAll N H (zs.drop k) (es.drop k)
  | _, _, 0, r => r
  | _, _, _ + 1, .nil => .nil
  | _, _, k + 1, .cons _ t => RgAll.drop k t
theorem RgAll.rev : ∀ {zs : List V} {es : List PyData}, RgAll N H zs es → RgAll N H zs.reverse es.reverse
  | _, _, .nil => .nil
  | _, _, .cons q t => by
    rw [List.reverse_cons, List.reverse_cons]
    exact t.rev.app (.cons q .nil)
theorem RgAll.mem : ∀ {zs : List V} {es : List PyData} {z : V}, RgAll N H zs es → z ∈ zs → ∃ e ∈ es, Rg N H z e
  | _, _, _, .nil, h => by cases h
  | _, _, z, .cons q t, h => by
    rcases List.mem_cons.mp h with h | h
    · subst h; exact ⟨_, List.mem_cons_self, q⟩
    · obtain ⟨e, h1, h2⟩ := t.mem h
      exact ⟨e, List.mem_cons_of_mem _ h1, h2⟩
theorem rgInts : ∀ ns : List Int, RgAll N H (ns.map V.int) (ns.map PyData.int)
  | [] => .nil
  | n :: ns => .cons (.int n) (rgInts ns)
theorem rgStrs : ∀ ns : List Str, RgAll N H (ns.map V.str) (ns.map PyData.str)
  | [] => .nil
  | n :: ns => .cons (.str n) (rgStrs ns)
theorem rgInts_inv : ∀ {ns : List Int} {zs : List V}, RgAll N H zs (ns.map PyData.int) → zs = ns.map V.int
  | [], _, h => by cases h; rfl
  | n :: ns, _, h => by
    cases h with
    | cons q t => cases q; rw [rgInts_inv t]; rfl
end
/-! ### repr -/
section
variable {X : Cx} {pins : List (Addr × Obj)} {σ : L2.St} {N : Addr → Prop} {H : Hp} {s : Shared}
mutual
theorem Rg.reads (J : Inv X pins σ H s) : ∀ (e : PyData) (z : V) (y : Value), Rg N H z e → RelV z y → ∃ as, Reads s.heap y e as ∧ (hasL e = false → sysModules ∉ as)
  | .none, _, _, q, r => by cases q; cases r; exact ⟨_, Reads.none, fun _ h => nomatch h⟩
  | .bool c, _, _, q, r => by cases q; cases r; exact ⟨_, Reads.bool c, fun _ h => nomatch h⟩
  | .int j, _, _, q, r => by cases q; obtain ⟨tk, rfl⟩ := r; exact ⟨_, Reads.int j tk, fun _ h => nomatch h⟩
  | .str y, _, _, q, r => by cases q; obtain ⟨tk, rfl⟩ := r; exact ⟨_, Reads.str y tk, fun _ h => nomatch h⟩
  | .list es, _, _, q, r => by
    cases q with
    | lst hq _ hz =>
      cases r
      obtain ⟨iq, rz, ⟨oq, nq, hoq, hcq, _, hdq⟩, _⟩ := J.list (.inl (.inl hq))
      obtain ⟨as, hr, _⟩ := Rg.readsAll J es _ iq hz rz
      exact ⟨_, Reads.list hoq hcq hdq hr, fun h => by rw [hasL] at h; cases h⟩
  | .tuple es, _, _, q, r => by
    cases q with
    | tup hq _ hz =>
      cases r
      obtain ⟨iq, rz, ⟨oq, hoq, hcq, nq, hdq⟩, _⟩ := J.tuple (.inl (.inl hq))
      obtain ⟨as, hr, hn⟩ := Rg.readsAll J es _ iq hz rz
      exact ⟨_, Reads.tuple hoq hcq hdq hr, fun h => hn (by rw [hasL] at h; exact h)⟩
  | .dict es, _, _, q, r => by
    cases q with
    | dic hq _ =>
      cases r
      obtain ⟨_, hne, vs, kv, o, es, ep, ho, ⟨hc, _⟩, hd, _, hp, _⟩ := J.hok _ _ hq
      cases kv
      have e0 : es.toList = [] := by
        cases h : es.toList with
        | nil => rfl
        | cons a b => rw [h] at hp; cases hp
      refine ⟨_, Reads.dict ho hc hd (by rw [e0]; exact .nil) (by rw [e0]; exact .nil), fun _ hm => ?_⟩
      simp only [List.append_nil, List.mem_singleton] at hm
      rw [← hm] at hne
      simp at hne
theorem Rg.readsAll (J : Inv X pins σ H s) : ∀ (es : List PyData) (zs : List V) (ys : List Value), RgAll N H zs es → Vals zs ys → ∃ as, ReadsAll s.heap ys es as ∧ (hasLs es = false → sysModules ∉ as)
  | [], _, _, q, r => by cases q; cases r; exact ⟨_, ReadsAll.nil, fun _ h => nomatch h⟩
  | e :: es, _, _, q, r => by
    cases q with
    | cons q1 q2 =>
      cases r with
      | cons r1 r2 =>
        obtain ⟨as, g1, n1⟩ := Rg.reads J e _ _ q1 r1
        obtain ⟨bs, g2, n2⟩ := Rg.readsAll J es _ _ q2 r2
        refine ⟨_, ReadsAll.cons g1 g2, fun h hm => ?_⟩
        rw [hasLs, Bool.or_eq_false_iff] at h
        rcases List.mem_append.mp hm with hm | hm
        · exact n1 h.1 hm
        · exact n2 h.2 hm
end
end
def rReprD : List V → Hp → VK → Prop := fun xs H Q =>
  ∃ N z e, xs = [z] ∧ Rg N H z e ∧ okD e = true ∧ e.showable = true ∧ e.depth < 60 ∧ e.shown.length ≤ sizeLine ∧ Q (.str e.shown) H
theorem call_reprD {X : Cx} (hg : X.A.guards = some []) (hu : X.A.units + 64 < cLine) : CallR X (.builtin "repr") rReprD := by
  intro pins s σ H xs us Q J r h
  obtain ⟨N, z, e, rfl, hz, hk, hs, hd, hl, q⟩ := h
  obtain ⟨u, rfl, ru⟩ := vals1 r
  obtain ⟨as, hr, hn⟩ := Rg.reads J e z u hz ru
  have hk' : e.hasDict = true → sysModules ∉ as := fun h => by
    unfold okD at hk
    rw [h] at hk
    exact hn (by simpa using hk)
  cases hz with
  | non =>
    cases ru
    exact PySem.P.repr_of_none ⟨.str _, H, J.tok _, ⟨_, rfl⟩, q⟩
  | bl b =>
    cases ru
    exact PySem.P.repr_of_bool ⟨.str _, H, J.tok _, ⟨_, rfl⟩, by cases b <;> exact q⟩
  | int i =>
    obtain ⟨t, rfl⟩ := ru
    exact PySem.P.repr_of_int (of_decide_eq_true hs) ⟨.str _, H, J.tok _, ⟨_, rfl⟩, q⟩
  | str x =>
    obtain ⟨t, rfl⟩ := ru
    exact PySem.P.repr_of_str (hsz := hl) ⟨.str _, H, J.tok _, ⟨_, rfl⟩, q⟩
  | lst h1 h2 =>
    cases ru
    exact repr_of_reads' hr hs hk' hg (by omega) (fun b o e => e) (fun h' u tk hk => ⟨.str _, H, J.kept hk, ⟨_, rfl⟩, q⟩) hl
  | tup h1 h2 =>
    cases ru
    exact repr_of_reads' hr hs hk' hg (by omega) (fun b o e => e) (fun h' u tk hk => ⟨.str _, H, J.kept hk, ⟨_, rfl⟩, q⟩) hl
  | dic h1 h2 =>
    cases ru
    exact repr_of_reads' hr hs hk' hg (by omega) (fun b o e => e) (fun h' u tk hk => ⟨.str _, H, J.kept hk, ⟨_, rfl⟩, q⟩) hl
/-! ### the state -/
def NOk (N : Addr → Prop) (H : Hp) : Prop := ∀ a, N a → H a ≠ none
theorem NOk.ex {N : Addr → Prop} {H H' : Hp} (h : NOk N H) (x : Ex H H') : NOk N H' := fun a n => by
  cases e : H a with
  | none => exact absurd e (h a n)
  | some o => rw [x a o e]; simp
theorem NOk.new {N : Addr → Prop} {H : Hp} {p : Addr} (h : NOk N H) (hp : H p = none) : ¬ N p := fun n => h p n hp
inductive Sl where
  | dat (e : PyData)
  | raw (v : V)
/-- what must stand while a def runs: the objects of N may change, I is what is known of them -/
structure Wd where
  N : Addr → Prop
  I : Hp → Prop
  ok : ∀ H, I H → NOk N H
  stab : ∀ H H', I H → (∀ a, N a → H' a = H a) → I H'
def SlOk (N M : Addr → Prop) (H : Hp) : Sl → Option V → Prop
  | .dat e, o => ∃ v, o = some v ∧ Rg N H v e
  | .raw v, o => o = some v
def Slots (N M : Addr → Prop) (H : Hp) (ρ : List (Option Sl)) (σ : L2.St) : Prop := ρ.length = σ.length ∧ ∀ (i : Nat) (s : Sl), ρ[i]? = some (some s) → ∃ o, σ[i]? = some o ∧ SlOk N M H s o
/-- the lists of one's own that still grow -/
def LocOk (N M : Addr → Prop) (H : Hp) (l : List (Addr × List PyData)) : Prop := (l.map (·.1)).Nodup ∧ ∀ p ∈ l, N p.1 ∧ ¬ M p.1 ∧ ∃ xs, H p.1 = some (.lst xs) ∧ RgAll N H xs p.2
structure St (W : Wd) (H0 : Hp) (ρ : List (Option Sl)) (τ : List (V × PyData)) (l : List (Addr × List PyData)) (σ : L2.St) (H : Hp) : Prop where
  inv : W.I H
  off : ∀ a o, H0 a = some o → ¬ W.N a → H a = some o
  ex : ∃ N : Addr → Prop, (∀ a, W.N a → N a) ∧ (∀ a, N a → ¬ W.N a → H0 a = none) ∧ NOk N H ∧ Slots N W.N H ρ σ ∧ (∀ p ∈ τ, Rg N H p.1 p.2) ∧ LocOk N W.N H l
theorem LocOk.ex {N M : Addr → Prop} {H H' : Hp} {l : List (Addr × List PyData)} (x : Ex H H') (h : LocOk N M H l) : LocOk N M H' l :=
  ⟨h.1, fun p hp => let ⟨a, b, xs, c, d⟩ := h.2 p hp; ⟨a, b, xs, x _ _ c, d.ex x⟩⟩
theorem SlOk.ex {N M : Addr → Prop} {H H' : Hp} {s : Sl} {o : Option V} (x : Ex H H') (h : SlOk N M H s o) : SlOk N M H' s o := by
  cases s with
  | dat e => obtain ⟨v, h1, h2⟩ := h; exact ⟨v, h1, h2.ex x⟩
  | raw v => exact h
theorem Slots.ex {N M : Addr → Prop} {H H' : Hp} {ρ : List (Option Sl)} {σ : L2.St} (x : Ex H H') (h : Slots N M H ρ σ) : Slots N M H' ρ σ :=
  ⟨h.1, fun i s e => let ⟨o, a, b⟩ := h.2 i s e; ⟨o, a, b.ex x⟩⟩
section
variable {W : Wd} {H0 H H' : Hp} {ρ : List (Option Sl)} {τ τ' : List (V × PyData)} {l : List (Addr × List PyData)} {σ : L2.St}
/-- the state at an extension of the heap, with the values that were made -/
theorem St.ext (S : St W H0 ρ τ l σ H) : ∃ N : Addr → Prop, NOk N H ∧ (∀ p ∈ τ, Rg N H p.1 p.2) ∧ (∀ (i : Nat) (s : Sl), ρ[i]? = some (some s) → ∃ o, σ[i]? = some o ∧ SlOk N W.N H s o) ∧
    ∀ H' (τ' : List (V × PyData)), Ex H H' → (∀ p ∈ τ', Rg N H' p.1 p.2) → St W H0 ρ τ' l σ H' := by
  obtain ⟨N, n1, n2, n3, n4, n5, n6⟩ := S.ex
  refine ⟨N, n3, n5, n4.2, fun H' τ' x h => ⟨W.stab H H' S.inv fun a na => ?_, fun a o e n => x _ _ (S.off a o e n), N, n1, n2, n3.ex x, n4.ex x, h, n6.ex x⟩⟩
  cases e : H a with
  | none => exact absurd e (n3 a (n1 a na))
  | some o => exact x a o e
theorem St.mono (S : St W H0 ρ τ l σ H) (h : ∀ p ∈ τ', p ∈ τ) : St W H0 ρ τ' l σ H := by
  obtain ⟨N, n1, n2, n3, n4, n5, n6⟩ := S.ex
  exact ⟨S.inv, S.off, N, n1, n2, n3, n4, fun p hp => n5 p (h p hp), n6⟩
theorem St.pop (S : St W H0 ρ (p :: τ) l σ H) : St W H0 ρ τ l σ H := S.mono fun _ h => List.mem_cons_of_mem _ h
theorem St.len (S : St W H0 ρ τ l σ H) : ρ.length = σ.length := let ⟨_, _, _, _, n4, _⟩ := S.ex; n4.1
/-- the last value goes to a slot -/
theorem St.set {v : V} {e : PyData} {i : Nat} (S : St W H0 ρ ((v, e) :: τ) l σ H) : St W H0 (ρ.set i (some (.dat e))) τ l (σ.set i (some v)) H := by
  obtain ⟨N, n1, n2, n3, n4, n5, n6⟩ := S.ex
  refine ⟨S.inv, S.off, N, n1, n2, n3, ⟨by rw [List.length_set, List.length_set]; exact n4.1, fun j s h => ?_⟩, fun p hp => n5 p (List.mem_cons_of_mem _ hp), n6⟩
  by_cases hj : i = j
  · subst hj
    have il : i < ρ.length := by
      have := (List.getElem?_eq_some_iff.mp h).1
      rw [List.length_set] at this
      exact this
    rw [List.getElem?_set_self il] at h
    cases h
    exact ⟨some v, List.getElem?_set_self (by rw [← n4.1]; exact il), v, rfl, n5 _ List.mem_cons_self⟩
  · rw [List.getElem?_set_ne hj] at h
    obtain ⟨o, h1, h2⟩ := n4.2 j s h
    exact ⟨o, by rw [List.getElem?_set_ne hj]; exact h1, h2⟩
/-- a slot is forgotten -/
theorem St.clr {i : Nat} {o : Option V} (S : St W H0 ρ τ l σ H) : St W H0 (ρ.set i none) τ l (σ.set i o) H := by
  obtain ⟨N, n1, n2, n3, n4, n5, n6⟩ := S.ex
  refine ⟨S.inv, S.off, N, n1, n2, n3, ⟨by rw [List.length_set, List.length_set]; exact n4.1, fun j s h => ?_⟩, n5, n6⟩
  by_cases hj : i = j
  · subst hj
    have il : i < ρ.length := by
      have := (List.getElem?_eq_some_iff.mp h).1
      rw [List.length_set] at this
      exact this
    rw [List.getElem?_set_self il] at h
    cases h
  · rw [List.getElem?_set_ne hj] at h
    obtain ⟨o', h1, h2⟩ := n4.2 j s h
    exact ⟨o', by rw [List.getElem?_set_ne hj]; exact h1, h2⟩
theorem St.dat {i : Nat} {e : PyData} (S : St W H0 ρ τ l σ H) (h : ρ[i]? = some (some (.dat e))) : ∃ v, σ[i]? = some (some v) ∧ St W H0 ρ ((v, e) :: τ) l σ H := by
  obtain ⟨N, n3, n5, n4, k⟩ := S.ext
  obtain ⟨o, h1, v, rfl, h2⟩ := n4 i _ h
  refine ⟨v, h1, k H _ ex_refl fun p hp => ?_⟩
  rcases List.mem_cons.mp hp with rfl | hp
  · exact h2
  · exact n5 p hp
theorem St.raw {i : Nat} {v : V} (S : St W H0 ρ τ l σ H) (h : ρ[i]? = some (some (.raw v))) : σ[i]? = some (some v) := by
  obtain ⟨N, n3, n5, n4, k⟩ := S.ext
  obtain ⟨o, h1, h2⟩ := n4 i _ h
  have h2 : o = some v := h2
  rw [h2] at h1
  exact h1
end
/-! ### expressions -/
def EvP (W : Wd) (H0 : Hp) (te : TE) (ρ : List (Option Sl)) (P : PyData → Prop) : Prop :=
  ∀ τ l σ H, St W H0 ρ τ l σ H → ∀ Q : VK, (∀ v e H', St W H0 ρ ((v, e) :: τ) l σ H' → P e → Q v H') → te σ H Q
def EvA (W : Wd) (H0 : Hp) (ta : TA) (ρ : List (Option Sl)) (P : List PyData → Prop) : Prop :=
  ∀ τ l σ H, St W H0 ρ τ l σ H → ∀ Q : List V → Hp → Prop, (∀ vs es H', St W H0 ρ (vs.zip es ++ τ) l σ H' → vs.length = es.length → P es → Q vs H') → ta σ H Q
def EvT (W : Wd) (H0 : Hp) (tt : TT) (ρ : List (Option Sl)) (P : Bool → Prop) : Prop :=
  ∀ τ l σ H, St W H0 ρ τ l σ H → ∀ Q : Bool → Hp → Prop, (∀ b H', St W H0 ρ τ l σ H' → P b → Q b H') → tt σ H Q
/-- what an operation on values does, said of data -/
def Res (N : Addr → Prop) (H : Hp) (P : PyData → Prop) (k : VK → Prop) : Prop := ∀ Q : VK, (∀ v e H', Ex H H' → Rg N H' v e → P e → Q v H') → k Q
def OpD (r : R2) (e1 e2 : PyData) (P : PyData → Prop) : Prop := ∀ N H v1 v2, NOk N H → Rg N H v1 e1 → Rg N H v2 e2 → Res N H P (r v1 v2 H)
def CaD (r : List V → Hp → VK → Prop) (es : List PyData) (P : PyData → Prop) : Prop := ∀ N H vs, NOk N H → RgAll N H vs es → Res N H P (r vs H)
section
variable {W : Wd} {H0 : Hp} {ρ : List (Option Sl)} {te ta tb : TE} {tas : TA} {P P1 P2 : PyData → Prop}
theorem EvP.imp (h : EvP W H0 te ρ P1) (i : ∀ e, P1 e → P2 e) : EvP W H0 te ρ P2 := fun τ l σ H S Q k => h τ l σ H S Q fun v e H' S' p => k v e H' S' (i e p)
theorem ev_dat {i : Nat} {e : PyData} (h : ρ[i]? = some (some (.dat e))) : EvP W H0 (tVar i) ρ (· = e) := fun τ l σ H S Q k => by
  obtain ⟨v, h1, S'⟩ := S.dat h
  exact ⟨v, h1, k v e H S' rfl⟩
theorem ev_const {v : V} {e : PyData} (h : ∀ N H, Rg N H v e) : EvP W H0 (tC v) ρ (· = e) := fun τ l σ H S Q k => by
  obtain ⟨N, n3, n5, n4, q⟩ := S.ext
  refine k v e H (q H _ ex_refl fun p hp => ?_) rfl
  rcases List.mem_cons.mp hp with rfl | hp
  · exact h _ _
  · exact n5 p hp
theorem ev_int {i : Int} : EvP W H0 (tC (.int i)) ρ (· = .int i) := ev_const fun _ _ => .int i
theorem ev_str {x : Str} : EvP W H0 (tC (.str x)) ρ (· = .str x) := ev_const fun _ _ => .str x
theorem ev_bl {b : Bool} : EvP W H0 (tC (.bl b)) ρ (· = .bool b) := ev_const fun _ _ => .bl b
theorem ev_non : EvP W H0 (tC .non) ρ (· = .none) := ev_const fun _ _ => .non
theorem ev_op {r : R2} (ha : EvP W H0 ta ρ P1) (hb : EvP W H0 tb ρ P2) (hr : ∀ e1 e2, P1 e1 → P2 e2 → OpD r e1 e2 P) : EvP W H0 (tOp r ta tb) ρ P := fun τ l σ H S Q k =>
  ha τ l σ H S _ fun v1 e1 H1 S1 p1 => hb _ l σ H1 S1 _ fun v2 e2 H2 S2 p2 => by
    obtain ⟨N, n3, n5, n4, q⟩ := S2.ext
    refine hr e1 e2 p1 p2 N H2 v1 v2 n3 (n5 _ (List.mem_cons_of_mem _ List.mem_cons_self)) (n5 _ List.mem_cons_self) Q fun v e H' x rg p => k v e H' (q H' _ x fun p hp => ?_) p
    rcases List.mem_cons.mp hp with rfl | hp
    · exact rg
    · exact (n5 p (List.mem_cons_of_mem _ (List.mem_cons_of_mem _ hp))).ex x
theorem eva_nil : EvA W H0 tNil ρ (· = []) := fun τ l σ H S Q k => k [] [] H S rfl rfl
theorem eva_cons {PA PB : List PyData → Prop} (ha : EvP W H0 ta ρ P1) (hb : EvA W H0 tas ρ PA) (h : ∀ e es, P1 e → PA es → PB (e :: es)) : EvA W H0 (tCons ta tas) ρ PB := fun τ l σ H S Q k =>
  ha τ l σ H S _ fun v e H1 S1 p1 => hb _ l σ H1 S1 _ fun vs es H2 S2 le p2 => k (v :: vs) (e :: es) H2 (S2.mono fun p hp => by
    simp only [List.zip_cons_cons, List.cons_append, List.mem_cons, List.mem_append] at hp ⊢
    rcases hp with hp | hp | hp
    · exact .inr (.inl hp)
    · exact .inl hp
    · exact .inr (.inr hp)) (congrArg (· + 1) le) (h e es p1 p2)
theorem zip_all {N : Addr → Prop} {H : Hp} : ∀ {vs : List V} {es : List PyData}, vs.length = es.length → (∀ p ∈ vs.zip es, Rg N H p.1 p.2) → RgAll N H vs es
  | [], [], _, _ => .nil
  | v :: vs, e :: es, l, h => .cons (h (v, e) (by simp)) (zip_all (by simpa using l) fun p hp => h p (by simp [hp]))
/-- a call of a built-in on data -/
theorem ev_cb {r : List V → Hp → VK → Prop} {PA : List PyData → Prop} (ha : EvA W H0 tas ρ PA) (hr : ∀ es, PA es → CaD r es P) : EvP W H0 (tCB r tas) ρ P := fun τ l σ H S Q k =>
  ha τ l σ H S _ fun vs es H1 S1 le pa => by
    obtain ⟨N, n3, n5, n4, q⟩ := S1.ext
    refine hr es pa N H1 vs n3 (zip_all le fun p hp => n5 p (List.mem_append_left _ hp)) Q fun v e H' x rg p => k v e H' (q H' _ x fun p hp => ?_) p
    rcases List.mem_cons.mp hp with rfl | hp
    · exact rg
    · exact (n5 p (List.mem_append_right _ hp)).ex x
theorem ev_tup {PA : List PyData → Prop} (ha : EvA W H0 tas ρ PA) (hs : ∀ es, PA es → es.length ≤ 100000) : EvP W H0 (tTup tas) ρ (fun e => ∃ es, e = .tuple es ∧ PA es) := fun τ l σ H S Q k =>
  ha τ l σ H S _ fun vs es H1 S1 le pa => ⟨size_small (by rw [le]; exact hs es pa), fun p hp => by
    obtain ⟨N, n3, n5, n4, q⟩ := S1.ext
    refine k _ (.tuple es) _ (q _ _ (Ex.new hp) fun p' hp' => ?_) ⟨es, rfl, pa⟩
    rcases List.mem_cons.mp hp' with rfl | hp'
    · exact .tup upd_same (n3.new hp) ((zip_all le fun p hp => n5 p (List.mem_append_left _ hp)).ex (Ex.new hp))
    · exact (n5 _ (List.mem_append_right _ hp')).ex (Ex.new hp)⟩
theorem ev_lst {PA : List PyData → Prop} (ha : EvA W H0 tas ρ PA) (hs : ∀ es, PA es → es.length ≤ 100000) : EvP W H0 (tLst tas) ρ (fun e => ∃ es, e = .list es ∧ PA es) := fun τ l σ H S Q k =>
  ha τ l σ H S _ fun vs es H1 S1 le pa => ⟨size_small (by rw [le]; exact hs es pa), fun p hp => by
    obtain ⟨N, n3, n5, n4, q⟩ := S1.ext
    refine k _ (.list es) _ (q _ _ (Ex.new hp) fun p' hp' => ?_) ⟨es, rfl, pa⟩
    rcases List.mem_cons.mp hp' with rfl | hp'
    · exact .lst upd_same (n3.new hp) ((zip_all le fun p hp => n5 p (List.mem_append_left _ hp)).ex (Ex.new hp))
    · exact (n5 _ (List.mem_append_right _ hp')).ex (Ex.new hp)⟩
end
end DL
set_option Elab.async false
set_option linter.all false
set_option maxRecDepth 100000
/-! t[::-1] of a tuple. -/
namespace DL
open PySem PySem.Spec PyProof.Rows L2 HT
section
variable {prog : Program} {w : World} {A : Around} {E : Value → Shared → Prop} {s : Shared}
theorem rev_places (n : Nat) : Builtin.Slice.slicePlaces ((n : Int) - 1) (-1) (-1) = n := by
  unfold Builtin.Slice.slicePlaces
  rw [if_neg (by decide), show -(-1 : Int) = 1 from rfl, Int.ediv_one]
  split <;> omega
theorem filterMap_all {α β : Type} {f : α → Option β} {g : α → β} : ∀ l : List α, (∀ x ∈ l, f x = some (g x)) → l.filterMap f = l.map g
  | [], _ => rfl
  | x :: l, h => by
    rw [List.filterMap_cons, h x List.mem_cons_self, List.map_cons, filterMap_all l fun y hy => h y (List.mem_cons_of_mem _ hy)]
theorem rev_adjust (n : Nat) : Builtin.Slice.sliceAdjust none none (-1) (n : Int) = ((n : Int) - 1, -1) := by
  unfold Builtin.Slice.sliceAdjust
  simp
theorem rev_pick (xs : Array Value) : ((List.range xs.size).filterMap fun (k : Nat) => xs[(((xs.size : Int) - 1) + (k : Int) * (-1)).toNat]?).toArray = xs.toList.reverse.toArray := by
  congr 1
  apply List.ext_getElem?
  intro i
  have e : (List.range xs.size).filterMap (fun (k : Nat) => xs[(((xs.size : Int) - 1) + (k : Int) * (-1)).toNat]?) = (List.range xs.size).map fun k => xs.toList.reverse[k]! := by
    refine filterMap_all _ fun k hk => ?_
    have hk' : k < xs.size := List.mem_range.mp hk
    have h1 : (((xs.size : Int) - 1) + (k : Int) * (-1)).toNat = xs.size - 1 - k := by omega
    rw [h1]
    have h2 : k < xs.toList.reverse.length := by rw [List.length_reverse, Array.length_toList]; exact hk'
    show xs[xs.size - 1 - k]? = some xs.toList.reverse[k]!
    rw [getElem!_pos xs.toList.reverse k h2, List.getElem_reverse, Array.getElem?_eq_getElem (by omega)]
    simp
  rw [e, List.getElem?_map]
  by_cases hi : i < xs.size
  · rw [List.getElem?_range hi]
    have h2 : i < xs.toList.reverse.length := by rw [List.length_reverse, Array.length_toList]; exact hi
    show some xs.toList.reverse[i]! = xs.toList.reverse[i]?
    rw [getElem!_pos xs.toList.reverse i h2, List.getElem?_eq_getElem h2]
  · have h2 : ¬ i < xs.toList.reverse.length := by rw [List.length_reverse, Array.length_toList]; exact hi
    rw [List.getElem?_eq_none (by rw [List.length_range]; omega), List.getElem?_eq_none (by omega)]
    rfl
theorem rev_applied {c : Addr} {t : Tok} {n : Nat} {Q : Int × Int × Nat → Shared → Prop} (hc : s.heap.IsSliceOf c .none .none (.int (-1) t)) (h : Q ((n : Int) - 1, -1, n) s) :
    wpAny (model prog w) A (Builtin.Slice.sliceApplied (.ref c) (pure (n : Int))) Q E s := by
  obtain ⟨ob, hob, _, hdd⟩ := id hc
  unfold Builtin.Slice.sliceApplied Builtin.Slice.sliceFields
  refine wpAny_bind (wpAny_bind (wpAny_field hob hdd (x := .none) rfl (wpAny_bind (wpAny_field hob hdd (x := .none) rfl (wpAny_bind (wpAny_field hob hdd (x := .int (-1) t) rfl (wpAny_pure ?_)))))))
  refine wpAny_bind (slicePart_int ?_)
  show wpAny _ _ (if ((-1 : Int) == 0) = true then _ else _) _ _ s
  rw [if_neg (by decide)]
  refine wpAny_bind (slicePart_none (wpAny_bind (slicePart_none (wpAny_bind (wpAny_pure ?_)))))
  show wpAny _ _ (match Builtin.Slice.sliceAdjust none none (-1) (n : Int) with | (lo, hi) => pure (lo, (-1 : Int), Builtin.Slice.slicePlaces lo hi (-1))) _ _ s
  rw [rev_adjust n]
  show wpAny _ _ (pure ((n : Int) - 1, (-1 : Int), Builtin.Slice.slicePlaces ((n : Int) - 1) (-1) (-1))) _ _ s
  rw [rev_places]
  exact wpAny_pure h
theorem tuple_rev {b c : Addr} {xs : Array Value} {t : Tok} {Q : Value → Shared → Prop} (hb : IsTup s.heap b xs) (hc : s.heap.IsSliceOf c .none .none (.int (-1) t)) (hz : xs.size ≤ sizeLine)
    (h : Q (.ref s.heap.objs.size) { s with heap := s.heap.push { cls := .type "tuple", data := .seq xs.toList.reverse.toArray } }) : wpAny (model prog w) A (getItem (.ref b) (.ref c)) Q E s := by
  have hsz : sizeOk (.seq xs.toList.reverse.toArray) := by
    show xs.toList.reverse.toArray.size ≤ sizeLine
    rw [List.size_toArray, List.length_reverse, Array.length_toList]
    exact hz
  obtain ⟨ob, hob, hcs, hdd⟩ := id hc
  have hty : s.TypeIs (.ref c) "slice" := ⟨ob, hob, hcs⟩
  unfold getItem
  try with_reducible refine wpAny_holding ?_
  first | refine wpAny_bind (wpAny_pure ?_) | skip
  refine wpAny_bind (wpAny_sequenceKey hb.typeIs (by decide) (wpAny_bind (wpAny_callSpecial?_slot (name := Str.ofString "__getitem__") hb.typeIs PyProof.Rows.slot_tuple_getitem
    (wpAny_call_entry PyProof.Rows.slot_tuple_getitem hb.typeIs entry_tuple_getitem ?_ (args_tuple_getitem _ _)))))
  show wpAny _ _ (Builtin.Tuple.tupleItemsOf (.ref b) >>= _) _ _ s
  refine wpAny_bind (tupleItemsOf_ hb (wpAny_bind (wpAny_typeOf hty ?_)))
  rw [if_pos (by decide)]
  refine wpAny_bind (rev_applied hc ?_)
  have no : ¬ ((((xs.size : Int) - 1) == 0 && (-1 : Int) == 1 && xs.size == xs.size) = true) := by simp
  show wpAny _ _ (if (((xs.size : Int) - 1) == 0 && (-1 : Int) == 1 && xs.size == xs.size) = true then _ else _) _ _ s
  rw [if_neg no, rev_pick]
  first
    | exact wpAny_bind (m := Builtin.Tuple.tupleExact _) (wpAny_newObj_type (wpAny_pure ⟨_, rfl, wpAny_pure h⟩) hsz)
    | exact wpAny_bind (m := Builtin.Tuple.tupleExact _) (wpAny_newObj_type (wpAny_bind (wpAny_pure (wpAny_pure ⟨_, rfl, wpAny_pure h⟩))) hsz)
    | exact wpAny_bind (wpAny_bind (m := Builtin.Tuple.tupleExact _) (wpAny_newObj_type (wpAny_pure (wpAny_pure ⟨_, rfl, wpAny_pure h⟩)) hsz))
    | exact wpAny_bind (wpAny_bind (m := Builtin.Tuple.tupleExact _) (wpAny_newObj_type (wpAny_pure ⟨_, rfl, wpAny_pure h⟩) hsz))
end
def tRevT (K : PySem.W.Frag) (te : TE) : TE := fun σ H Q => te σ H fun x H1 => ∃ a xs, x = .ref a ∧ SqT K H1 a xs ∧ ∀ p, H1 p = none → Q (.ref p) (upd H1 p (.tup xs.reverse))
theorem pe_revT {X : Cx} {e : Expr} {te : TE} {k : Nat} {p1 p2 p3 pos : Pos} (he : PE X e te) : PE X (.Subscript e (.Slice none none (some (.UnaryOp .USub (.Constant (.int 1) k p1) p2)) p3) pos) (tRevT X.K te) := by
  refine ⟨fun pins s σ H Q J h => ?_⟩
  refine Subscript_ (thn (he.run pins s σ H _ J h) fun v s1 ⟨x, H1, J1, r1, q1⟩ => ?_)
  obtain ⟨a, xs, rfl, hx, q⟩ := q1
  cases r1
  have hm : PO X (some (.UnaryOp .USub (.Constant (.int 1) k p1) p2)) (tPart (tUn (rU fun i => .int (-i)) (tC (.int 1)))) := po_some (pe_un un_neg pe_int)
  refine wpAny_Slice (thn (po_none.run pins s1 σ H1 (fun o G => o = none ∧ G = H1) J1 ⟨rfl, rfl⟩) fun vl s2 ⟨l, H2, J2, pl, el, e2⟩ => ?_)
  subst el e2
  refine thn (po_none.run pins s2 σ H2 (fun o G => o = none ∧ G = H2) J2 ⟨rfl, rfl⟩) fun vu s3 ⟨u, H3, J3, pu, eu, e3⟩ => ?_
  subst eu e3
  refine thn (hm.run pins s3 σ H3 (fun o G => o = some (-1) ∧ G = H3) J3 ⟨1, rfl, -1, rfl, rfl, rfl⟩) fun vs s4 ⟨o, H4, J4, ps, eo, e4⟩ => ?_
  subst eo e4
  have J5 : Inv X pins σ H4 { s4 with heap := s4.heap.push { cls := .type "slice", data := .fields #[vl, vu, vs] } } := J4.kept (t' := s4.toks) fun b ob z => Heap.get?_push_of_some _ z
  obtain ⟨its, r, ht, hz⟩ := J5.tuple hx
  have hlen := r.length
  cases pl
  cases pu
  cases ps
  refine tail_any (ops := [.ref a, .ref s4.heap.objs.size]) ht.typeIs (PyProof.Rows.slot_tuple_getitem.lookup) ?_ (by with_unfolding_all rfl)
  refine tuple_rev ht (Heap.IsSliceOf.new _ _ _ _) (by rw [List.size_toArray, ← hlen]; exact hz) ?_
  refine ⟨.ref _, _, J5.laid (t' := s4.toks) (o := .tup xs.reverse) (fun b ob z => Heap.get?_push_of_some _ z) (Nat.le_refl _) ?_, rfl, q _ (J5.hok.fresh (Nat.le_refl _))⟩
  exact ⟨by rw [List.length_reverse]; exact hz, _, r.reverse, IsTup.new _ _⟩
end DL
set_option Elab.async false
set_option linter.all false
set_option maxRecDepth 100000
/-! The layer over data: operations, tests, calls. -/
namespace DL
open PySem PySem.Spec PyProof.Rows L2 Evl TB
section
variable {N : Addr → Prop} {H : Hp} {K : PySem.W.Frag}
/-! ### operations -/
theorem atI_all {zs : List V} {es : List PyData} {i : Int} {e : PyData} (r : RgAll N H zs es) (h : atI es i = some e) : ∃ z, atI zs i = some z ∧ Rg N H z e := by
  unfold atI at h ⊢
  rw [r.len]
  cases hj : ixN es.length i with
  | none => rw [hj] at h; cases h
  | some j =>
    rw [hj] at h
    exact r.get' h
theorem res_rfl {v : V} {e : PyData} {k : VK → Prop} (h : Rg N H v e) (hk : ∀ Q : VK, Q v H → k Q) : Res N H (· = e) k := fun Q q => hk Q (q v e H ex_refl h rfl)
theorem opd_I0 {g : Int → Int → V} {i j : Int} {e : PyData} (h : ∀ N H, Rg N H (g i j) e) : OpD (rI0 g) (.int i) (.int j) (· = e) := fun N H v1 v2 _ r1 r2 => by
  cases r1; cases r2
  exact res_rfl (h N H) fun Q q => ⟨i, j, rfl, rfl, q⟩
theorem opd_I {C : Int → Int → Prop} {g : Int → Int → V} {i j : Int} {e : PyData} (c : C i j) (h : ∀ N H, Rg N H (g i j) e) : OpD (rI C g) (.int i) (.int j) (· = e) := fun N H v1 v2 _ r1 r2 => by
  cases r1; cases r2
  exact res_rfl (h N H) fun Q q => ⟨i, j, rfl, rfl, c, q⟩
theorem opd_eqI {i j : Int} : OpD rEq (.int i) (.int j) (· = .bool (decide (i = j))) := fun N H v1 v2 _ r1 r2 => by
  cases r1; cases r2
  refine res_rfl (.bl _) fun Q q => ⟨rfl, ?_⟩
  have : decide (V.int i = V.int j) = decide (i = j) := by simp
  rw [this]; exact q
theorem opd_neI {i j : Int} : OpD rNe (.int i) (.int j) (· = .bool (!decide (i = j))) := fun N H v1 v2 _ r1 r2 => by
  cases r1; cases r2
  refine res_rfl (.bl _) fun Q q => ⟨rfl, ?_⟩
  have : decide (V.int i = V.int j) = decide (i = j) := by simp
  rw [this]; exact q
theorem opd_neS {x y : Str} : OpD rNe (.str x) (.str y) (· = .bool (!decide (x = y))) := fun N H v1 v2 _ r1 r2 => by
  cases r1; cases r2
  refine res_rfl (.bl _) fun Q q => ⟨rfl, ?_⟩
  have : decide (V.str x = V.str y) = decide (x = y) := by simp
  rw [this]; exact q
theorem opd_ixT {ds : List PyData} {i : Int} {e : PyData} (h : atI ds i = some e) : OpD (rIxT K) (.tuple ds) (.int i) (· = e) := fun N H v1 v2 _ r1 r2 => by
  cases r1 with
  | tup ha _ hr =>
    cases r2
    obtain ⟨z, h1, h2⟩ := atI_all hr h
    exact res_rfl h2 fun Q q => ⟨_, _, i, z, rfl, rfl, .inl (.inl ha), h1, q⟩
theorem opd_ixL {ds : List PyData} {i : Int} {e : PyData} (h : atI ds i = some e) : OpD (rIxL K) (.list ds) (.int i) (· = e) := fun N H v1 v2 _ r1 r2 => by
  cases r1 with
  | lst ha _ hr =>
    cases r2
    obtain ⟨z, h1, h2⟩ := atI_all hr h
    exact res_rfl h2 fun Q q => ⟨_, _, i, z, rfl, rfl, .inl (.inl ha), h1, q⟩
theorem opd_catT {ds es : List PyData} (hl : ds.length + es.length ≤ 100000) : OpD (rCatA K) (.tuple ds) (.tuple es) (· = .tuple (ds ++ es)) := fun N H v1 v2 ok r1 r2 Q q => by
  cases r1 with
  | tup ha na hr =>
    cases r2 with
    | tup hb nb hs =>
      rename_i a xs b ys
      refine ⟨a, b, xs, ys, rfl, rfl, .inl (.inl ha), .inl (.inl hb), size_small (by rw [hr.len, hs.len]; exact hl), fun h => ?_, fun _ h => ?_, fun _ _ p hp => ?_⟩
      · subst h
        cases hr
        exact q _ _ _ ex_refl (.tup hb nb hs) rfl
      · subst h
        cases hs
        exact q _ _ _ ex_refl (.tup ha na hr) (by rw [List.append_nil])
      · exact q _ _ _ (Ex.new hp) (.tup upd_same (ok.new hp) ((hr.app hs).ex (Ex.new hp))) rfl
theorem opd_catL {ds es : List PyData} (hl : ds.length + es.length ≤ 100000) : OpD rCat (.list ds) (.list es) (· = .list (ds ++ es)) := fun N H v1 v2 ok r1 r2 Q q => by
  cases r1 with
  | lst ha na hr =>
    cases r2 with
    | lst hb nb hs =>
      exact ⟨_, _, _, _, rfl, rfl, ha, hb, size_small (by rw [hr.len, hs.len]; exact hl), fun p hp => q _ _ _ (Ex.new hp) (.lst upd_same (ok.new hp) ((hr.app hs).ex (Ex.new hp))) rfl⟩
/-! data without dicts, for == and != -/
mutual
theorem Rg.dp : ∀ (e : PyData) (v : V), Rg N H v e → e.hasDict = false → Dp K H v e
  | .none, _, q, _ => by cases q; exact .non
  | .bool c, _, q, _ => by cases q; exact .bl c
  | .int j, _, q, _ => by cases q; exact .int j
  | .str y, _, q, _ => by cases q; exact .str y
  | .list es, _, q, h => by
    rw [PyData.hasDict] at h
    cases q with
    | lst ha _ r => exact .lst (.inl (.inl ha)) (RgAll.dp es _ r h)
  | .tuple es, _, q, h => by
    rw [PyData.hasDict] at h
    cases q with
    | tup ha _ r => exact .tup (.inl (.inl ha)) (RgAll.dp es _ r h)
  | .dict es, _, q, h => by rw [PyData.hasDict] at h; cases h
theorem RgAll.dp : ∀ (es : List PyData) (vs : List V), RgAll N H vs es → PyData.hasDictAll es = false → DpAll K H vs es
  | [], _, q, _ => by cases q; exact .nil
  | e :: es, _, q, h => by
    rw [PyData.hasDictAll, Bool.or_eq_false_iff] at h
    cases q with
    | cons q1 q2 => exact .cons (Rg.dp e _ q1 h.1) (RgAll.dp es _ q2 h.2)
end
theorem noDict_of {d : PyData} (h : SeqAt.shaped d = true) : d.hasDict = false := PyData.hasDict_of_canLay d (Bool.and_eq_true_iff.mp h).1
theorem opd_neD {d e : PyData} (h1 : SeqAt.shaped d = true) (h2 : SeqAt.shaped e = true) : OpD (rNeD K) d e (· = .bool (!PyData.eqv d e)) := fun N H v1 v2 _ r1 r2 =>
  res_rfl (.bl _) fun Q q => ⟨d, e, r1.dp _ _ (noDict_of h1), r2.dp _ _ (noDict_of h2), h1, h2, q⟩
theorem opd_eqD {d e : PyData} (h1 : SeqAt.shaped d = true) (h2 : SeqAt.shaped e = true) : OpD (rEqD K) d e (· = .bool (PyData.eqv d e)) := fun N H v1 v2 _ r1 r2 =>
  res_rfl (.bl _) fun Q q => ⟨d, e, r1.dp _ _ (noDict_of h1), r2.dp _ _ (noDict_of h2), h1, h2, q⟩
theorem opd_notB {a b : Bool} : OpD rNotB (.bool a) (.bool b) (· = .bool (!decide (a = b))) := fun N H v1 v2 _ r1 r2 => by
  cases r1; cases r2
  exact res_rfl (.bl _) fun Q q => ⟨a, b, rfl, rfl, q⟩
/-! ### built-in calls -/
theorem cad_len {ds : List PyData} : CaD (fun xs H Q => ∃ p ys, xs = [.ref p] ∧ (SqL K H p ys ∨ SqT K H p ys) ∧ Q (.int ys.length) H) [.tuple ds] (· = .int ds.length) := fun N H vs _ r => by
  cases r with
  | cons r1 r2 =>
    cases r2
    cases r1 with
    | tup ha _ hr =>
      refine res_rfl (.int _) fun Q q => ⟨_, _, rfl, .inr (.inl (.inl ha)), ?_⟩
      rw [hr.len]; exact q
theorem cad_lenL {ds : List PyData} : CaD (fun xs H Q => ∃ p ys, xs = [.ref p] ∧ (SqL K H p ys ∨ SqT K H p ys) ∧ Q (.int ys.length) H) [.list ds] (· = .int ds.length) := fun N H vs _ r => by
  cases r with
  | cons r1 r2 =>
    cases r2
    cases r1 with
    | lst ha _ hr =>
      refine res_rfl (.int _) fun Q q => ⟨_, _, rfl, .inl (.inl (.inl ha)), ?_⟩
      rw [hr.len]; exact q
theorem cad_list {ds : List PyData} : CaD (fun xs H Q => ∃ p ys, xs = [.ref p] ∧ (SqL K H p ys ∨ SqT K H p ys) ∧ ∀ l, H l = none → Q (.ref l) (upd H l (.lst ys))) [.tuple ds] (· = .list ds) := fun N H vs ok r Q q => by
  cases r with
  | cons r1 r2 =>
    cases r2
    cases r1 with
    | tup ha _ hr => exact ⟨_, _, rfl, .inr (.inl (.inl ha)), fun p hp => q _ _ _ (Ex.new hp) (.lst upd_same (ok.new hp) (hr.ex (Ex.new hp))) rfl⟩
theorem cad_listL {ds : List PyData} : CaD (fun xs H Q => ∃ p ys, xs = [.ref p] ∧ (SqL K H p ys ∨ SqT K H p ys) ∧ ∀ l, H l = none → Q (.ref l) (upd H l (.lst ys))) [.list ds] (· = .list ds) := fun N H vs ok r Q q => by
  cases r with
  | cons r1 r2 =>
    cases r2
    cases r1 with
    | lst ha _ hr => exact ⟨_, _, rfl, .inl (.inl (.inl ha)), fun p hp => q _ _ _ (Ex.new hp) (.lst upd_same (ok.new hp) (hr.ex (Ex.new hp))) rfl⟩
theorem cad_tuple {ds : List PyData} : CaD (fun xs H Q => ∃ p ys, xs = [.ref p] ∧ ((SqL K H p ys ∧ ∀ l, H l = none → Q (.ref l) (upd H l (.tup ys))) ∨ (SqT K H p ys ∧ Q (.ref p) H))) [.list ds] (· = .tuple ds) := fun N H vs ok r Q q => by
  cases r with
  | cons r1 r2 =>
    cases r2
    cases r1 with
    | lst ha _ hr => exact ⟨_, _, rfl, .inl ⟨.inl (.inl ha), fun p hp => q _ _ _ (Ex.new hp) (.tup upd_same (ok.new hp) (hr.ex (Ex.new hp))) rfl⟩⟩
theorem cad_strI {i : Int} (h : i.natAbs.log2 < 1920) : CaD (fun xs H Q => ∃ i, xs = [.int i] ∧ i.natAbs.log2 < 1920 ∧ Q (.str (toString i)) H) [.int i] (· = .str (numS i)) := fun N H vs _ r => by
  cases r with
  | cons r1 r2 =>
    cases r2; cases r1
    exact res_rfl (.str _) fun Q q => ⟨i, rfl, h, q⟩
theorem cad_boolI {i : Int} : CaD (fun xs H Q => (∃ i, xs = [.int i] ∧ Q (.bl (i != 0)) H) ∨ ∃ k, xs = [.bl k] ∧ Q (.bl k) H) [.int i] (· = .bool (i != 0)) := fun N H vs _ r => by
  cases r with
  | cons r1 r2 =>
    cases r2; cases r1
    exact res_rfl (.bl _) fun Q q => .inl ⟨i, rfl, q⟩
theorem cad_repr {d : PyData} (h1 : okD d = true) (h2 : d.showable = true) (h3 : d.depth < 60) (h4 : d.shown.length ≤ sizeLine) : CaD rReprD [d] (· = .str d.shown) := fun N H vs _ r => by
  cases r with
  | cons r1 r2 =>
    cases r2
    exact res_rfl (.str _) fun Q q => ⟨N, _, d, rfl, r1, h1, h2, h3, h4, q⟩
/-- the name of a value's class -/
def tyN : PyData → String
  | .none => "NoneType" | .bool _ => "bool" | .int _ => "int" | .str _ => "str" | .list _ => "list" | .tuple _ => "tuple" | .dict _ => "dict"
theorem tyX_of {v : V} {e : PyData} (r : Rg N H v e) : TyX K H v (.type (tyN e)) := by
  cases r with
  | non => exact .base .non
  | bl b => exact .base (.bl b)
  | int i => exact .base (.int i)
  | str x => exact .base (.str x)
  | lst h _ _ => exact .base (.lst h)
  | tup h _ _ => exact .base (.tup h)
  | dic h _ => exact .base (.dK h)
def isB (T n : String) : Bool := n == T || (T == "int" && n == "bool")
def isA (T : String) (e : PyData) : Bool := isB T (tyN e)
def tyNames : List String := ["NoneType", "bool", "int", "str", "list", "tuple", "dict"]
theorem tyN_mem (e : PyData) : tyN e ∈ tyNames := by cases e <;> simp [tyN, tyNames]
theorem kit_of {T : String} (h : ∀ n ∈ tyNames, kitB n T = some (isB T n)) (e : PyData) : PySem.W.kitOne K (.type (tyN e)) (.type T) = some (isA T e) := kit_ty (h _ (tyN_mem e))
theorem kit_tuple (e : PyData) : PySem.W.kitOne K (.type (tyN e)) (.type "tuple") = some (isA "tuple" e) := kit_of (by decide +kernel) e
theorem kit_int (e : PyData) : PySem.W.kitOne K (.type (tyN e)) (.type "int") = some (isA "int" e) := kit_of (by decide +kernel) e
theorem kit_bool (e : PyData) : PySem.W.kitOne K (.type (tyN e)) (.type "bool") = some (isA "bool" e) := kit_of (by decide +kernel) e
theorem kit_str (e : PyData) : PySem.W.kitOne K (.type (tyN e)) (.type "str") = some (isA "str" e) := kit_of (by decide +kernel) e
end
section
variable {W : Wd} {H0 : Hp} {ρ : List (Option Sl)} {te ta tb tc : TE} {tas : TA} {P P1 P2 : PyData → Prop} {K : PySem.W.Frag} {tt tu : TT}
theorem ev_isi {T : String} (ha : EvP W H0 te ρ P) (hk : ∀ e, PySem.W.kitOne K (.type (tyN e)) (.type T) = some (isA T e)) : EvP W H0 (tCB (rIsi K) (tCons te (tCons (tC (.ty T)) tNil))) ρ (fun e => ∃ d, P d ∧ e = .bool (isA T d)) := fun τ l σ H S Q k =>
  ha τ l σ H S _ fun v d H1 S1 p => by
    obtain ⟨N, n3, n5, n4, q⟩ := S1.ext
    refine ⟨v, .ty T, .type (tyN d), .type T, isA T d, rfl, .ty T, tyX_of (n5 _ List.mem_cons_self), hk d, k _ (.bool (isA T d)) H1 (q _ _ ex_refl fun p hp => ?_) ⟨d, p, rfl⟩⟩
    rcases List.mem_cons.mp hp with rfl | hp
    · exact .bl _
    · exact n5 _ (List.mem_cons_of_mem _ hp)
/-! ### one operand known -/
theorem ev_op' {r : R2} {d1 d2 e : PyData} (ha : EvP W H0 ta ρ (· = d1)) (hb : EvP W H0 tb ρ (· = d2)) (hr : OpD r d1 d2 (· = e)) : EvP W H0 (tOp r ta tb) ρ (· = e) :=
  ev_op ha hb fun e1 e2 h1 h2 => by rw [h1, h2]; exact hr
theorem eva_one {d : PyData} (ha : EvP W H0 te ρ (· = d)) : EvA W H0 (tCons te tNil) ρ (· = [d]) := eva_cons ha eva_nil fun e es h1 h2 => by rw [h1, h2]
theorem eva_more {d : PyData} {ds : List PyData} (ha : EvP W H0 te ρ (· = d)) (hb : EvA W H0 tas ρ (· = ds)) : EvA W H0 (tCons te tas) ρ (· = d :: ds) := eva_cons ha hb fun e es h1 h2 => by rw [h1, h2]
theorem ev_cb' {r : List V → Hp → VK → Prop} {ds : List PyData} {e : PyData} (ha : EvA W H0 tas ρ (· = ds)) (hr : CaD r ds (· = e)) : EvP W H0 (tCB r tas) ρ (· = e) := ev_cb ha fun es h => by rw [h]; exact hr
theorem ev_tup' {ds : List PyData} (ha : EvA W H0 tas ρ (· = ds)) (hs : ds.length ≤ 100000) : EvP W H0 (tTup tas) ρ (· = .tuple ds) := (ev_tup ha fun es h => by rw [h]; exact hs).imp fun e ⟨es, h1, h2⟩ => by rw [h1, h2]
theorem ev_lst' {ds : List PyData} (ha : EvA W H0 tas ρ (· = ds)) (hs : ds.length ≤ 100000) : EvP W H0 (tLst tas) ρ (· = .list ds) := (ev_lst ha fun es h => by rw [h]; exact hs).imp fun e ⟨es, h1, h2⟩ => by rw [h1, h2]
theorem ev_isi' {T : String} {d : PyData} (ha : EvP W H0 te ρ (· = d)) (hk : ∀ e, PySem.W.kitOne K (.type (tyN e)) (.type T) = some (isA T e)) : EvP W H0 (tCB (rIsi K) (tCons te (tCons (tC (.ty T)) tNil))) ρ (· = .bool (isA T d)) :=
  (ev_isi ha hk).imp fun e ⟨x, h1, h2⟩ => by rw [h2, h1]
theorem ev_and {a : Bool} (ha : EvP W H0 ta ρ (· = .bool a)) (hb : a = true → EvP W H0 tb ρ P) (h0 : a = false → P (.bool false)) : EvP W H0 (tAndV ta tb) ρ P := fun τ l σ H S Q k =>
  ha τ l σ H S _ fun v e H1 S1 p => by
    subst p
    obtain ⟨N, n3, n5, n4, q⟩ := S1.ext
    have hv : v = .bl a := by
      have := n5 _ List.mem_cons_self
      cases this; rfl
    subst hv
    refine ⟨a, rfl, ?_⟩
    cases a with
    | true => exact (if_pos rfl).mpr (hb rfl τ l σ H1 S1.pop Q k)
    | false => exact (if_neg Bool.false_ne_true).mpr (k _ (.bool false) H1 S1 (h0 rfl))
theorem ev_not {a : Bool} (ha : EvP W H0 ta ρ (· = .bool a)) : EvP W H0 (tNotV ta) ρ (· = .bool (!a)) := fun τ l σ H S Q k =>
  ha τ l σ H S _ fun v e H1 S1 p => by
    subst p
    obtain ⟨N, n3, n5, n4, q⟩ := S1.ext
    have hv : v = .bl a := by
      have := n5 _ List.mem_cons_self
      cases this; rfl
    subst hv
    refine ⟨a, rfl, k _ (.bool !a) H1 (q _ _ ex_refl fun p hp => ?_) rfl⟩
    rcases List.mem_cons.mp hp with rfl | hp
    · exact .bl _
    · exact n5 _ (List.mem_cons_of_mem _ hp)
theorem et_of {a : Bool} (ha : EvP W H0 te ρ (· = .bool a)) : EvT W H0 (tTest te) ρ (· = a) := fun τ l σ H S Q k =>
  ha τ l σ H S _ fun v e H1 S1 p => by
    subst p
    obtain ⟨N, n3, n5, n4, q⟩ := S1.ext
    have hv : v = .bl a := by
      have := n5 _ List.mem_cons_self
      cases this; rfl
    exact ⟨a, hv, k a H1 S1.pop rfl⟩
theorem et_b {a : Bool} (ha : EvP W H0 te ρ (· = .bool a)) : EvT W H0 (tB te) ρ (· = a) := et_of ha
theorem et_not {a : Bool} (h : EvT W H0 tt ρ (· = a)) : EvT W H0 (tNot tt) ρ (· = !a) := fun τ l σ H S Q k => h τ l σ H S _ fun b H1 S1 p => k _ H1 S1 (by rw [p])
theorem et_or {a b : Bool} (h1 : EvT W H0 tt ρ (· = a)) (h2 : a = false → EvT W H0 tu ρ (· = b)) : EvT W H0 (tOr tt tu) ρ (· = (a || b)) := fun τ l σ H S Q k => h1 τ l σ H S _ fun c H1 S1 p => by
  subst p
  cases c with
  | true => exact (if_pos rfl).mpr (k true H1 S1 rfl)
  | false => exact (if_neg Bool.false_ne_true).mpr (h2 rfl τ l σ H1 S1 Q fun c' H2 S2 p => k c' H2 S2 (by rw [p]; rfl))
theorem et_and {a b : Bool} (h1 : EvT W H0 tt ρ (· = a)) (h2 : a = true → EvT W H0 tu ρ (· = b)) : EvT W H0 (tAnd tt tu) ρ (· = (a && b)) := fun τ l σ H S Q k => h1 τ l σ H S _ fun c H1 S1 p => by
  subst p
  cases c with
  | true => exact (if_pos rfl).mpr (h2 rfl τ l σ H1 S1 Q fun c' H2 S2 p => k c' H2 S2 (by rw [p]; rfl))
  | false => exact (if_neg Bool.false_ne_true).mpr (k false H1 S1 rfl)
/-- a < b < c of ints -/
theorem ev_chain {g g' : Int → Int → Bool} {i j m : Int} (ha : EvP W H0 ta ρ (· = .int i)) (hb : EvP W H0 tb ρ (· = .int j)) (hc : EvP W H0 tc ρ (· = .int m)) :
    EvP W H0 (tChain (rI0 fun x y => .bl (g x y)) (rI0 fun x y => .bl (g' x y)) ta tb tc) ρ (· = .bool (g i j && g' j m)) := fun τ l σ H S Q k =>
  ha τ l σ H S _ fun v1 e1 H1 S1 p1 => hb _ l σ H1 S1 _ fun v2 e2 H2 S2 p2 => by
    subst p1 p2
    obtain ⟨N, n3, n5, n4, q⟩ := S2.ext
    have h2 := n5 _ List.mem_cons_self
    have h1 := n5 (v1, .int i) (List.mem_cons_of_mem _ List.mem_cons_self)
    cases h1; cases h2
    refine ⟨i, j, rfl, rfl, g i j, rfl, ?_⟩
    cases hg : g i j with
    | true =>
      refine (if_pos rfl).mpr (hc _ l σ H2 S2 _ fun v3 e3 H3 S3 p3 => ?_)
      subst p3
      obtain ⟨N3, m3, m5, m4, q3⟩ := S3.ext
      have h3 := m5 _ List.mem_cons_self
      cases h3
      refine ⟨j, m, rfl, rfl, k _ (.bool (g' j m)) H3 (q3 _ _ ex_refl fun p hp => ?_) (by simp [hg])⟩
      rcases List.mem_cons.mp hp with rfl | hp
      · exact .bl _
      · exact m5 p (List.mem_cons_of_mem _ (List.mem_cons_of_mem _ (List.mem_cons_of_mem _ hp)))
    | false =>
      refine (if_neg Bool.false_ne_true).mpr (k _ (.bool false) H2 (q _ _ ex_refl fun p hp => ?_) (by simp [hg]))
      rcases List.mem_cons.mp hp with rfl | hp
      · exact .bl _
      · exact n5 p (List.mem_cons_of_mem _ (List.mem_cons_of_mem _ hp))
theorem ev_if {a : Bool} (h : EvT W H0 tt ρ (· = a)) (h1 : a = true → EvP W H0 ta ρ P) (h2 : a = false → EvP W H0 tb ρ P) : EvP W H0 (tIf tt ta tb) ρ P := fun τ l σ H S Q k => h τ l σ H S _ fun c H1 S1 p => by
  subst p
  cases c with
  | true => exact (if_pos rfl).mpr (h1 rfl τ l σ H1 S1 Q k)
  | false => exact (if_neg Bool.false_ne_true).mpr (h2 rfl τ l σ H1 S1 Q k)
/-! ### slices -/
def EvO (W : Wd) (H0 : Hp) (to : TO) (ρ : List (Option Sl)) (o : Option Int) : Prop := ∀ τ l σ H, St W H0 ρ τ l σ H → ∀ Q : Option Int → Hp → Prop, (∀ H', St W H0 ρ τ l σ H' → Q o H') → to σ H Q
theorem eo_none : EvO W H0 tNoPart ρ none := fun τ l σ H S Q k => k H S
theorem eo_some {i : Int} (h : EvP W H0 te ρ (· = .int i)) : EvO W H0 (tPart te) ρ (some i) := fun τ l σ H S Q k => h τ l σ H S _ fun v e H1 S1 p => by
  subst p
  obtain ⟨N, n3, n5, n4, q⟩ := S1.ext
  have := n5 _ List.mem_cons_self
  cases this
  exact ⟨i, rfl, k H1 S1.pop⟩
def cutD {α : Type} (ds : List α) (lo hi : Option Int) : List α := (ds.drop (HT.sIx ds.length 0 lo)).take (HT.sIx ds.length ds.length hi - HT.sIx ds.length 0 lo)
theorem ev_slT {tl th : TO} {lo hi : Option Int} {ds : List PyData} (ha : EvP W H0 te ρ (· = .tuple ds)) (hl : EvO W H0 tl ρ lo) (hh : EvO W H0 th ρ hi) : EvP W H0 (tSl (rSlA K) te tl th) ρ (· = .tuple (cutD ds lo hi)) := fun τ l σ H S Q k =>
  ha τ l σ H S _ fun v e H1 S1 p => hl _ l σ H1 S1 _ fun H2 S2 => hh _ l σ H2 S2 _ fun H3 S3 => by
    subst p
    obtain ⟨N, n3, n5, n4, q⟩ := S3.ext
    have hv := n5 _ List.mem_cons_self
    have rest : ∀ p ∈ τ, Rg N H3 p.1 p.2 := fun p hp => n5 p (List.mem_cons_of_mem _ hp)
    cases hv with
    | tup hA hn hr =>
      rename_i a xs
      have ec : RgAll N H3 (cutV xs lo hi) (cutD ds lo hi) := by
        unfold cutV cutD
        rw [hr.len]
        exact (hr.drop _).take _
      refine ⟨a, xs, rfl, .inl (.inl hA), fun hw => ?_, fun _ p hp => ?_⟩
      · have e : cutD ds lo hi = ds := by
          unfold cutD
          rw [hr.len] at hw
          rw [hw.1, hw.2, List.drop_zero, Nat.sub_zero, List.take_length]
        refine k _ (.tuple ds) H3 (q _ _ ex_refl fun p hp => ?_) (by rw [e])
        rcases List.mem_cons.mp hp with rfl | hp
        · exact .tup hA hn hr
        · exact rest p hp
      · refine k _ (.tuple (cutD ds lo hi)) _ (q _ _ (Ex.new hp) fun p' hp' => ?_) rfl
        rcases List.mem_cons.mp hp' with rfl | hp'
        · exact .tup upd_same (n3.new hp) (ec.ex (Ex.new hp))
        · exact (rest p' hp').ex (Ex.new hp)
theorem ev_revT {ds : List PyData} (ha : EvP W H0 te ρ (· = .tuple ds)) : EvP W H0 (tRevT K te) ρ (· = .tuple ds.reverse) := fun τ l σ H S Q k =>
  ha τ l σ H S _ fun v e H3 S3 p => by
    subst p
    obtain ⟨N, n3, n5, n4, q⟩ := S3.ext
    have hv := n5 _ List.mem_cons_self
    cases hv with
    | tup hA hn hr =>
      refine ⟨_, _, rfl, .inl (.inl hA), fun p hp => k _ (.tuple ds.reverse) _ (q _ _ (Ex.new hp) fun p' hp' => ?_) rfl⟩
      rcases List.mem_cons.mp hp' with rfl | hp'
      · exact .tup upd_same (n3.new hp) (hr.rev.ex (Ex.new hp))
      · exact (n5 p' (List.mem_cons_of_mem _ hp')).ex (Ex.new hp)
/-! ### calls of defs -/
/-- a def upon data that changes nothing: where A holds of its arguments, its value is one of F -/
def SpF (A : List PyData → Prop) (F : List PyData → PyData → Prop) : Sp := fun vs H Q _ => ∃ N es, NOk N H ∧ RgAll N H vs es ∧ A es ∧ ∀ v e H', Ex H H' → Rg N H' v e → F es e → Q v H'
theorem ev_callF {A : List PyData → Prop} {F : List PyData → PyData → Prop} {PA : List PyData → Prop} (ha : EvA W H0 tas ρ PA) (hA : ∀ es, PA es → A es) : EvP W H0 (tCall (SpF A F) [] E0 tas) ρ (fun e => ∃ es, PA es ∧ F es e) := fun τ l σ H S Q k =>
  ha τ l σ H S _ fun vs es H1 S1 le pa => by
    obtain ⟨N, n3, n5, n4, q⟩ := S1.ext
    refine ⟨N, es, n3, ?_, hA es pa, fun v e H' x r f => k v e H' (q H' _ x fun p hp => ?_) ⟨es, pa, f⟩⟩
    · rw [List.append_nil]
      exact zip_all le fun p hp => n5 p (List.mem_append_left _ hp)
    · rcases List.mem_cons.mp hp with rfl | hp
      · exact r
      · exact (n5 p (List.mem_append_right _ hp)).ex x
/-- what stands while such a def runs -/
def WF (N : Addr → Prop) (H0 : Hp) : Wd where
  N := N
  I := fun H => NOk N H0 ∧ ∀ a, N a → H a = H0 a
  ok := fun H h a n => by rw [h.2 a n]; exact h.1 a n
  stab := fun H H' h x => ⟨h.1, fun a n => by rw [x a n]; exact h.2 a n⟩
def slotsOf (es : List PyData) (k : Nat) : List (Option Sl) := es.map (fun e => some (.dat e)) ++ List.replicate k none
theorem slots_start {N M : Addr → Prop} {H : Hp} {k : Nat} : ∀ {vs : List V} {es : List PyData}, RgAll N H vs es → Slots N M H (slotsOf es k) (vs.map some ++ List.replicate k none)
  | _, _, .nil => ⟨by simp [slotsOf], fun i s h => by
      have h' : (List.replicate k (none : Option Sl))[i]? = some (some s) := h
      rw [List.getElem?_replicate] at h'
      split at h' <;> cases h'⟩
  | v :: vs, e :: es, .cons r t => by
    obtain ⟨h1, h2⟩ := slots_start (M := M) (k := k) t
    refine ⟨by simpa [slotsOf] using h1, fun i s h => ?_⟩
    cases i with
    | zero =>
      have h' : some (some (Sl.dat e)) = some (some s) := h
      cases h'
      exact ⟨some v, rfl, v, rfl, r⟩
    | succ i => exact h2 i s h
theorem St.startF {N : Addr → Prop} {H : Hp} {vs : List V} {es : List PyData} {k : Nat} (ok : NOk N H) (r : RgAll N H vs es) : St (WF N H) H (slotsOf es k) [] [] (vs.map some ++ List.replicate k none) H :=
  ⟨⟨ok, fun _ _ => rfl⟩, fun _ _ e _ => e, N, fun _ h => h, fun _ h n => absurd h n, ok, slots_start r, (fun _ h => nomatch h), List.nodup_nil, fun _ h => nomatch h⟩
theorem St.endF {N : Addr → Prop} {H H' : Hp} {σ : L2.St} {τ : List (V × PyData)} {v : V} {e : PyData} {l : List (Addr × List PyData)} (S : St (WF N H) H ρ ((v, e) :: τ) l σ H') : Ex H H' ∧ Rg N H' v e := by
  obtain ⟨M, n1, n2, n3, n4, n5, n6⟩ := S.ex
  refine ⟨fun a o h => ?_, (n5 _ List.mem_cons_self).sub n1⟩
  by_cases hn : N a
  · rw [S.inv.2 a hn]; exact h
  · exact S.off a o h hn
end
end DL
set_option Elab.async false
set_option linter.all false
set_option maxRecDepth 100000
/-! The layer over data: local lists, comprehensions, loops, defs that draw. -/
namespace DL
open PySem PySem.Spec PyProof.Rows L2 Evl TB
section
variable {W : Wd} {H0 H H' : Hp} {ρ : List (Option Sl)} {τ τ' : List (V × PyData)} {l : List (Addr × List PyData)} {σ : L2.St}
theorem Rg.fresh {N : Addr → Prop} {H : Hp} {p : Addr} {v : V} {e : PyData} (hp : H p = none) (r : Rg N H v e) : Rg (fun a => N a ∨ a = p) H v e :=
  Rg.to (fun a o h n => ⟨h, fun q => q.elim n fun z => by rw [z, hp] at h; cases h⟩) e v r
theorem RgAll.fresh {N : Addr → Prop} {H : Hp} {p : Addr} {vs : List V} {es : List PyData} (hp : H p = none) (r : RgAll N H vs es) : RgAll (fun a => N a ∨ a = p) H vs es :=
  RgAll.to (fun a o h n => ⟨h, fun q => q.elim n fun z => by rw [z, hp] at h; cases h⟩) es vs r
/-- a new list of one's own -/
theorem St.newL {p : Addr} (S : St W H0 ρ τ l σ H) (hp : H p = none) : St W H0 ρ τ ((p, []) :: l) σ (upd H p (.lst [])) := by
  obtain ⟨N, n1, n2, n3, n4, n5, n6⟩ := S.ex
  have x : Ex H (upd H p (.lst [])) := Ex.new hp
  have hNp : ¬ N p := n3.new hp
  refine ⟨W.stab H _ S.inv fun a na => ?_, fun a o e n => x _ _ (S.off a o e n), fun a => N a ∨ a = p, fun a h => .inl (n1 a h), fun a h n => ?_, fun a h => ?_, ⟨n4.1, fun i s h => ?_⟩, fun q hq => ((n5 q hq).fresh hp).ex x, ?_, fun q hq => ?_⟩
  · rw [upd_ne (fun z => by rw [z] at na; exact hNp (n1 p na))]
  · rcases h with h | h
    · exact n2 a h n
    · subst h
      cases e : H0 a with
      | none => rfl
      | some o => rw [S.off a o e n] at hp; cases hp
  · rcases h with h | h
    · exact n3.ex x a h
    · rw [h, upd_same]; simp
  · obtain ⟨o, h1, h2⟩ := n4.2 i s h
    refine ⟨o, h1, ?_⟩
    cases s with
    | dat e => obtain ⟨v, q1, q2⟩ := h2; exact ⟨v, q1, (q2.fresh hp).ex x⟩
    | raw v => exact h2
  · rw [List.map_cons, List.nodup_cons]
    refine ⟨fun hm => ?_, n6.1⟩
    obtain ⟨q, hq, e⟩ := List.mem_map.mp hm
    have := (n6.2 q hq).1
    rw [e] at this
    exact hNp this
  · rcases List.mem_cons.mp hq with rfl | hq
    · exact ⟨.inr rfl, fun q => hNp (n1 p q), [], upd_same, .nil⟩
    · obtain ⟨a1, a2, xs, a3, a4⟩ := n6.2 q hq
      exact ⟨.inl a1, a2, xs, x _ _ a3, (a4.fresh hp).ex x⟩
theorem Rg.upd {N : Addr → Prop} {H : Hp} {p : Addr} {o : HO} (hp : N p) {v : V} {e : PyData} (r : Rg N H v e) : Rg N (upd H p o) v e :=
  Rg.to (fun a o' h n => ⟨by rw [upd_ne (fun z => by rw [z] at n; exact n hp)]; exact h, n⟩) e v r
theorem RgAll.upd {N : Addr → Prop} {H : Hp} {p : Addr} {o : HO} (hp : N p) {vs : List V} {es : List PyData} (r : RgAll N H vs es) : RgAll N (L2.upd H p o) vs es :=
  RgAll.to (fun a o' h n => ⟨by rw [upd_ne (fun z => by rw [z] at n; exact n hp)]; exact h, n⟩) es vs r
/-- the last value is put behind a list of one's own -/
theorem St.app {p : Addr} {ds : List PyData} {v : V} {e : PyData} (S : St W H0 ρ ((v, e) :: τ) ((p, ds) :: l) σ H) : ∃ xs, H p = some (.lst xs) ∧ xs.length = ds.length ∧ St W H0 ρ τ ((p, ds ++ [e]) :: l) σ (L2.upd H p (.lst (xs ++ [v]))) := by
  obtain ⟨N, n1, n2, n3, n4, n5, n6⟩ := S.ex
  obtain ⟨b1, b2, xs, b3, b4⟩ := n6.2 _ List.mem_cons_self
  refine ⟨xs, b3, b4.len, W.stab H _ S.inv fun a na => ?_, fun a o e n => ?_, N, n1, n2, fun a h => ?_, ⟨n4.1, fun i s h => ?_⟩, fun q hq => (n5 q (List.mem_cons_of_mem _ hq)).upd b1, n6.1, fun q hq => ?_⟩
  · rw [upd_ne (fun z => by rw [z] at na; exact b2 na)]
  · rw [upd_ne (fun z => ?_)]
    · exact S.off a o e n
    · have := n2 p b1 b2
      rw [z, this] at e; cases e
  · by_cases z : a = p
    · rw [z, upd_same]; simp
    · rw [upd_ne z]; exact n3 a h
  · obtain ⟨o, h1, h2⟩ := n4.2 i s h
    refine ⟨o, h1, ?_⟩
    cases s with
    | dat e => obtain ⟨v, q1, q2⟩ := h2; exact ⟨v, q1, q2.upd b1⟩
    | raw v => exact h2
  · rcases List.mem_cons.mp hq with rfl | hq
    · exact ⟨b1, b2, _, upd_same, (b4.app (.cons (n5 _ List.mem_cons_self) .nil)).upd b1⟩
    · obtain ⟨a1, a2, ys, a3, a4⟩ := n6.2 q (List.mem_cons_of_mem _ hq)
      have nd := n6.1
      rw [List.map_cons, List.nodup_cons] at nd
      have hne : q.1 ≠ p := fun z => nd.1 (List.mem_map.mpr ⟨q, hq, z⟩)
      exact ⟨a1, a2, ys, by rw [upd_ne hne]; exact a3, a4.upd b1⟩
/-- a list of one's own is data from now on -/
theorem St.frz {p : Addr} {ds : List PyData} (S : St W H0 ρ τ ((p, ds) :: l) σ H) : St W H0 ρ ((.ref p, .list ds) :: τ) l σ H := by
  obtain ⟨N, n1, n2, n3, n4, n5, n6⟩ := S.ex
  obtain ⟨b1, b2, xs, b3, b4⟩ := n6.2 _ List.mem_cons_self
  have sub : ∀ a, (N a ∧ a ≠ p) → N a := fun a h => h.1
  have nd := n6.1
  rw [List.map_cons, List.nodup_cons] at nd
  refine ⟨S.inv, S.off, fun a => N a ∧ a ≠ p, fun a h => ⟨n1 a h, fun z => b2 (z ▸ h)⟩, fun a h n => n2 a h.1 n, fun a h => n3 a h.1, ⟨n4.1, fun i s h => ?_⟩, fun q hq => ?_, nd.2, fun q hq => ?_⟩
  · obtain ⟨o, h1, h2⟩ := n4.2 i s h
    refine ⟨o, h1, ?_⟩
    cases s with
    | dat e => obtain ⟨v, q1, q2⟩ := h2; exact ⟨v, q1, q2.sub sub⟩
    | raw v => exact h2
  · rcases List.mem_cons.mp hq with rfl | hq
    · exact .lst b3 (fun z => z.2 rfl) (RgAll.to (fun a o h n => ⟨h, fun z => n z.1⟩) _ _ b4)
    · exact (n5 q hq).sub sub
  · obtain ⟨a1, a2, ys, a3, a4⟩ := n6.2 q (List.mem_cons_of_mem _ hq)
    exact ⟨⟨a1, fun z => nd.1 (List.mem_map.mpr ⟨q, hq, z⟩)⟩, a2, ys, a3, RgAll.to (fun a o h n => ⟨h, fun z => n z.1⟩) _ _ a4⟩
theorem St.raws {i : Nat} {v : V} (S : St W H0 ρ τ l σ H) (hσ : σ[i]? = some (some v)) (hi : i < ρ.length) : St W H0 (ρ.set i (some (.raw v))) τ l σ H := by
  obtain ⟨N, n1, n2, n3, n4, n5, n6⟩ := S.ex
  refine ⟨S.inv, S.off, N, n1, n2, n3, ⟨by rw [List.length_set]; exact n4.1, fun j s h => ?_⟩, n5, n6⟩
  by_cases hj : i = j
  · subst hj
    rw [List.getElem?_set_self hi] at h
    cases h
    exact ⟨_, hσ, rfl⟩
  · rw [List.getElem?_set_ne hj] at h
    exact n4.2 j s h
/-- fewer slots known -/
theorem St.less {ρ' : List (Option Sl)} (S : St W H0 ρ τ l σ H) (hl : ρ'.length = ρ.length) (h : ∀ (i : Nat) (s : Sl), ρ'[i]? = some (some s) → ρ[i]? = some (some s)) : St W H0 ρ' τ l σ H := by
  obtain ⟨N, n1, n2, n3, n4, n5, n6⟩ := S.ex
  exact ⟨S.inv, S.off, N, n1, n2, n3, ⟨by rw [hl]; exact n4.1, fun i s e => n4.2 i s (h i s e)⟩, n5, n6⟩
def wipeR (ρ : List (Option Sl)) : List Nat → List (Option Sl)
  | [] => ρ
  | v :: vs => (wipeR ρ vs).set v none
theorem St.wipe (S : St W H0 ρ τ l σ H) : ∀ vs, St W H0 (wipeR ρ vs) τ l (L2.wipe σ vs) H
  | [] => S
  | v :: vs => (S.wipe vs).clr
theorem wipe_id {i : Nat} {o : Option V} : (L2.wipe ((L2.wipe σ [i]).set i o) [i]) = L2.wipe σ [i] := by
  show ((σ.set i none).set i o).set i none = σ.set i none
  rw [List.set_set, List.set_set]
end
section
variable {W : Wd} {H0 : Hp} {ρ : List (Option Sl)} {te ta tb tn : TE} {tas : TA} {P P1 P2 : PyData → Prop} {K : PySem.W.Frag} {tt : TT}
/-- behind a block: the outer slots again -/
theorem St.re {τ : List (V × PyData)} {l : List (Addr × List PyData)} {σ σ' : L2.St} {H : Hp} {i : Nat} {x : Option Sl} (S : St W H0 (ρ.set i x) τ l σ' H) (hi : ρ[i]? = some none) (hσ : ∀ j, j ≠ i → σ'[j]? = σ[j]?) (hl : ρ.length = σ.length) : St W H0 ρ τ l σ H := by
  obtain ⟨N, n1, n2, n3, n4, n5, n6⟩ := S.ex
  refine ⟨S.inv, S.off, N, n1, n2, n3, ⟨hl, fun j s h => ?_⟩, n5, n6⟩
  have hj : j ≠ i := fun z => by rw [z, hi] at h; cases h
  obtain ⟨o, h1, h2⟩ := n4.2 j s (by rw [List.getElem?_set_ne hj.symm]; exact h)
  exact ⟨o, by rw [← hσ j hj]; exact h1, h2⟩
theorem wipe_set_ne {σ : L2.St} {i j : Nat} {o : Option V} (h : j ≠ i) : ((L2.wipe σ [i]).set i o)[j]? = σ[j]? := by
  show ((σ.set i none).set i o)[j]? = σ[j]?
  rw [List.set_set, List.getElem?_set_ne h.symm]
/-- [e for x in range(n)] -/
theorem ev_lcR {n : Int} {i : Nat} (hn0 : 0 ≤ n) (hn : n ≤ 1000) (hi : ρ[i]? = some none) (ha : EvP W H0 tn ρ (· = .int n))
    (he : ∀ j : Nat, (j : Int) < n → EvP W H0 te (ρ.set i (some (.dat (.int j)))) P) :
    EvP W H0 (tLc (iRng1 (tCons tn tNil)) (gName i) tYes te [i]) ρ (fun e => ∃ ds : List PyData, e = .list ds ∧ (ds.length : Int) = n ∧ ∀ d ∈ ds, P d) := fun τ l σ H S Q k =>
  ha τ l σ H S _ fun v e H1 S1 p => by
    subst p
    obtain ⟨N, n3, n5, n4, q⟩ := S1.ext
    have hv := n5 _ List.mem_cons_self
    cases hv
    refine ⟨n, rfl, by omega, by omega, fun D hD => ?_⟩
    -- the outer slots stand beside the block's
    refine lc_range (lo := 0) (n := n.toNat) (fun j H' => ∃ ds : List PyData, ds.length = j ∧ (∀ d ∈ ds, P d) ∧ St W H0 ρ τ ((D, ds) :: l) σ H') ?_ (fun j H' hj h => ?_) (fun H' h => ?_)
    · exact ⟨[], rfl, (fun d h => nomatch h), (S1.pop).newL hD⟩
    · obtain ⟨ds, hl, hd, S2⟩ := h
      have S3 : St W H0 (ρ.set i (some (.dat (.int j)))) τ ((D, ds) :: l) ((L2.wipe σ [i]).set i (some (.int (0 + (j : Int))))) H' := by
        have a := (S2.wipe [i])
        obtain ⟨N', m3, m5, m4, q'⟩ := a.ext
        have b := q' H' (((.int (0 + (j : Int)), .int (0 + (j : Int))) : V × PyData) :: τ) ex_refl fun p hp => by
          rcases List.mem_cons.mp hp with rfl | hp
          · exact .int _
          · exact m5 p hp
        have c := b.set (i := i)
        have e1 : (wipeR ρ [i]).set i (some (Sl.dat (.int (0 + (j : Int))))) = ρ.set i (some (.dat (.int j))) := by
          show (ρ.set i none).set i _ = _
          rw [List.set_set, Int.zero_add]
        rw [e1] at c
        exact c
      refine ⟨wipe_id, he j (by omega) τ _ _ H' S3 _ fun y e H4 S4 pe => ?_⟩
      have S5 := S4.re hi (fun j hj => wipe_set_ne hj) S.len
      obtain ⟨xs, x1, x2, S6⟩ := S5.app
      exact ⟨xs, x1, size_small' (by rw [x2]; omega), ds ++ [e], by rw [List.length_append, hl]; rfl, fun d h => by
        rcases List.mem_append.mp h with h | h
        · exact hd d h
        · rw [List.mem_singleton.mp h]; exact pe, S6⟩
    · obtain ⟨ds, hl, hd, S2⟩ := h
      exact k _ _ H' S2.frz ⟨ds, rfl, by omega, hd⟩
/-- a value's list, held fast: it is the same in every state over the new base -/
theorem St.baseL {τ : List (V × PyData)} {l : List (Addr × List PyData)} {σ : L2.St} {H : Hp} {v : V} {ds : List PyData} (S : St W H0 ρ ((v, .list ds) :: τ) l σ H) :
    ∃ a xs, v = .ref a ∧ H a = some (.lst xs) ∧ xs.length = ds.length ∧ ¬ W.N a ∧ (∀ b o, H0 b = some o → ¬ W.N b → upd H0 a (.lst xs) b = some o) ∧ (∀ b, upd H0 a (.lst xs) b = none → H0 b = none) ∧ St W (upd H0 a (.lst xs)) ρ ((v, .list ds) :: τ) l σ H := by
  obtain ⟨N, n1, n2, n3, n4, n5, n6⟩ := S.ex
  have hv := n5 _ List.mem_cons_self
  cases hv with
  | lst hA hn hr =>
    rename_i a xs
    refine ⟨a, xs, rfl, hA, hr.len, fun h => hn (n1 a h), fun b o e nb => ?_, fun b e => ?_, S.inv, fun b o e nb => ?_, N, n1, fun b h nb => ?_, n3, n4, n5, n6⟩
    · by_cases z : b = a
      · subst z
        have := S.off b o e nb
        rw [this] at hA
        cases hA
        exact upd_same
      · rw [upd_ne z]; exact e
    · by_cases z : b = a
      · rw [z, upd_same] at e; cases e
      · rw [upd_ne z] at e; exact e
    · by_cases z : b = a
      · rw [z, upd_same] at e; cases e; rw [z]; exact hA
      · rw [upd_ne z] at e; exact S.off b o e nb
    · rw [upd_ne (fun z => by rw [z] at h; exact hn h)]
      exact n2 b h nb
theorem St.baseT {τ : List (V × PyData)} {l : List (Addr × List PyData)} {σ : L2.St} {H : Hp} {v : V} {ds : List PyData} (S : St W H0 ρ ((v, .tuple ds) :: τ) l σ H) :
    ∃ a xs, v = .ref a ∧ H a = some (.tup xs) ∧ xs.length = ds.length ∧ ¬ W.N a ∧ (∀ b o, H0 b = some o → ¬ W.N b → upd H0 a (.tup xs) b = some o) ∧ (∀ b, upd H0 a (.tup xs) b = none → H0 b = none) ∧ St W (upd H0 a (.tup xs)) ρ ((v, .tuple ds) :: τ) l σ H := by
  obtain ⟨N, n1, n2, n3, n4, n5, n6⟩ := S.ex
  have hv := n5 _ List.mem_cons_self
  cases hv with
  | tup hA hn hr =>
    rename_i a xs
    refine ⟨a, xs, rfl, hA, hr.len, fun h => hn (n1 a h), fun b o e nb => ?_, fun b e => ?_, S.inv, fun b o e nb => ?_, N, n1, fun b h nb => ?_, n3, n4, n5, n6⟩
    · by_cases z : b = a
      · subst z
        have := S.off b o e nb
        rw [this] at hA
        cases hA
        exact upd_same
      · rw [upd_ne z]; exact e
    · by_cases z : b = a
      · rw [z, upd_same] at e; cases e
      · rw [upd_ne z] at e; exact e
    · by_cases z : b = a
      · rw [z, upd_same] at e; cases e; rw [z]; exact hA
      · rw [upd_ne z] at e; exact S.off b o e nb
    · rw [upd_ne (fun z => by rw [z] at h; exact hn h)]
      exact n2 b h nb
/-- back to the base ahead -/
theorem St.unbase {G : Hp} {τ : List (V × PyData)} {l : List (Addr × List PyData)} {σ : L2.St} {H : Hp} (h1 : ∀ b o, H0 b = some o → ¬ W.N b → G b = some o) (h2 : ∀ b, G b = none → H0 b = none) (S : St W G ρ τ l σ H) : St W H0 ρ τ l σ H := by
  obtain ⟨N, n1, n2, n3, n4, n5, n6⟩ := S.ex
  exact ⟨S.inv, fun b o e n => S.off b o (h1 b o e n) n, N, n1, fun b h n => h2 b (n2 b h n), n3, n4, n5, n6⟩
/-- an item of a list held fast, as the block's own name -/
theorem St.item {τ : List (V × PyData)} {l : List (Addr × List PyData)} {σ : L2.St} {H : Hp} {a : Addr} {xs : List V} {ds : List PyData} {c : PyData} {j : Nat} {x : V} (S : St W H0 ρ ((.ref a, c) :: τ) l σ H)
    (hc : ∀ N, Rg N H (.ref a) c → RgAll N H xs ds) (hx : xs[j]? = some x) : ∃ d, ds[j]? = some d ∧ St W H0 ρ ((x, d) :: (.ref a, c) :: τ) l σ H := by
  obtain ⟨N, n1, n2, n3, n4, n5, n6⟩ := S.ex
  obtain ⟨d, h1, h2⟩ := (hc N (n5 _ List.mem_cons_self)).get hx
  exact ⟨d, h1, S.inv, S.off, N, n1, n2, n3, n4, fun p hp => by
    rcases List.mem_cons.mp hp with rfl | hp
    · exact h2
    · exact n5 p hp, n6⟩
def Rel2 (R : PyData → PyData → Prop) (ds es : List PyData) : Prop := es.length = ds.length ∧ ∀ (i : Nat) (d e : PyData), ds[i]? = some d → es[i]? = some e → R d e
theorem Rel2.snoc {R : PyData → PyData → Prop} {ds es : List PyData} {j : Nat} {d e : PyData} (h : Rel2 R (ds.take j) es) (hd : ds[j]? = some d) (r : R d e) : Rel2 R (ds.take (j + 1)) (es ++ [e]) := by
  have jl : j < ds.length := (List.getElem?_eq_some_iff.mp hd).1
  have tl : (ds.take j).length = j := by rw [List.length_take]; omega
  have el : es.length = j := by rw [h.1, tl]
  refine ⟨by rw [List.length_append, List.length_take, el]; simp; omega, fun i x y hx hy => ?_⟩
  have il : i < j + 1 := by
    have := (List.getElem?_eq_some_iff.mp hy).1
    rw [List.length_append, el] at this
    exact this
  by_cases z : i < j
  · rw [List.getElem?_append_left (by omega)] at hy
    refine h.2 i x y ?_ hy
    rw [List.getElem?_take_of_lt z]
    rw [List.getElem?_take_of_lt il] at hx
    exact hx
  · have : i = j := by omega
    subst this
    rw [List.getElem?_append_right (by omega), el, Nat.sub_self] at hy
    rw [List.getElem?_take_of_lt il, hd] at hx
    cases hx
    have hy' : some e = some y := hy
    cases hy'
    exact r
/-- [e for x in t], t a tuple -/
theorem ev_lcT {i : Nat} {ds : List PyData} {R : PyData → PyData → Prop} (hl : ds.length ≤ 1000) (hi : ρ[i]? = some none) (ha : EvP W H0 ta ρ (· = .tuple ds))
    (he : ∀ G d, d ∈ ds → EvP W G te (ρ.set i (some (.dat d))) (R d)) :
    EvP W H0 (tLc (iTup K ta) (gName i) tYes te [i]) ρ (fun e => ∃ es : List PyData, e = .list es ∧ Rel2 R ds es) := fun τ l σ H S Q k =>
  ha τ l σ H S _ fun v e H1 S1 p => by
    subst p
    obtain ⟨a, xs, rfl, hA, hlen, hna, u1, u2, B⟩ := S1.baseT
    refine ⟨a, rfl, ⟨xs, .inl (.inl hA)⟩, fun D hD => ?_⟩
    have keep : ∀ {τ' l' σ' H'}, St W (upd H0 a (.tup xs)) ρ τ' l' σ' H' → H' a = some (.tup xs) := fun S => S.off a _ upd_same hna
    refine lc_tup (K := K) (a := a) (xs := xs) (fun j H' => ∃ es : List PyData, Rel2 R (ds.take j) es ∧ St W (upd H0 a (.tup xs)) ρ ((.ref a, .tuple ds) :: τ) ((D, es) :: l) σ H') ?_ (fun j H' _ h => ?_) (fun j x H' hx h => ?_) (fun H' h => ?_)
    · exact ⟨[], ⟨by simp, fun _ _ _ _ h => by simp at h⟩, B.newL hD⟩
    · obtain ⟨es, _, S2⟩ := h
      exact .inl (.inl (keep S2))
    · obtain ⟨es, hr, S2⟩ := h
      have hAk := keep S2
      obtain ⟨d, hd, S3⟩ := S2.item (xs := xs) (ds := ds) (fun N r => by
        cases r with
        | tup q1 q2 q3 => rw [hAk] at q1; cases q1; exact q3) hx
      have S4 := (S3.wipe [i]).set (i := i)
      have e1 : (wipeR ρ [i]).set i (some (Sl.dat d)) = ρ.set i (some (.dat d)) := by
        show (ρ.set i none).set i _ = _
        rw [List.set_set]
      rw [e1] at S4
      refine ⟨wipe_id, he _ d (List.mem_of_getElem? hd) _ _ _ H' S4 _ fun y e H4 S5 pe => ?_⟩
      have S6 := S5.re hi (fun j hj => wipe_set_ne hj) S.len
      obtain ⟨ys, x1, x2, S7⟩ := S6.app
      have el : es.length ≤ 1000 := by rw [hr.1, List.length_take]; omega
      exact ⟨ys, x1, size_small' (by rw [x2]; omega), es ++ [e], hr.snoc hd pe, S7⟩
    · obtain ⟨es, hr, S2⟩ := h
      rw [hlen, List.take_length] at hr
      exact k _ _ H' (((S2.unbase u1 u2).frz).mono fun p hp => by
        rcases List.mem_cons.mp hp with rfl | hp
        · exact List.mem_cons_self
        · exact List.mem_cons_of_mem _ (List.mem_cons_of_mem _ hp)) ⟨es, rfl, hr⟩
/-- [e for x in range(n) if t], known -/
theorem ev_lcRf {n : Int} {i : Nat} {b : Nat → Bool} {f : Nat → PyData} (hn0 : 0 ≤ n) (hn : n ≤ 1000) (hi : ρ[i]? = some none) (ha : EvP W H0 tn ρ (· = .int n))
    (ht : ∀ j : Nat, (j : Int) < n → EvT W H0 tt (ρ.set i (some (.dat (.int j)))) (· = b j)) (he : ∀ j : Nat, (j : Int) < n → b j = true → EvP W H0 te (ρ.set i (some (.dat (.int j)))) (· = f j)) :
    EvP W H0 (tLc (iRng1 (tCons tn tNil)) (gName i) tt te [i]) ρ (· = .list (((List.range n.toNat).filter b).map f)) := fun τ l σ H S Q k =>
  ha τ l σ H S _ fun v e H1 S1 p => by
    subst p
    obtain ⟨N, n3, n5, n4, q⟩ := S1.ext
    have hv := n5 _ List.mem_cons_self
    cases hv
    refine ⟨n, rfl, by omega, by omega, fun D hD => ?_⟩
    refine lc_range (lo := 0) (n := n.toNat) (fun j H' => St W H0 ρ τ ((D, ((List.range j).filter b).map f) :: l) σ H') ((S1.pop).newL hD) (fun j H' hj S2 => ?_) (fun H' S2 => k _ _ H' S2.frz rfl)
    have S3 : St W H0 (ρ.set i (some (.dat (.int j)))) τ ((D, ((List.range j).filter b).map f) :: l) ((L2.wipe σ [i]).set i (some (.int (0 + (j : Int))))) H' := by
      have a := (S2.wipe [i])
      obtain ⟨N', m3, m5, m4, q'⟩ := a.ext
      have c := (q' H' (((.int (0 + (j : Int)), .int (0 + (j : Int))) : V × PyData) :: τ) ex_refl fun p hp => by
        rcases List.mem_cons.mp hp with rfl | hp
        · exact .int _
        · exact m5 p hp).set (i := i)
      have e1 : (wipeR ρ [i]).set i (some (Sl.dat (.int (0 + (j : Int))))) = ρ.set i (some (.dat (.int j))) := by
        show (ρ.set i none).set i _ = _
        rw [List.set_set, Int.zero_add]
      rw [e1] at c
      exact c
    refine ⟨wipe_id, ht j (by omega) τ _ _ H' S3 _ fun c H3 S4 pc => ?_⟩
    subst pc
    have el : (((List.range j).filter b).map f).length ≤ 1000 := by
      rw [List.length_map]
      have := List.length_filter_le b (List.range j)
      rw [List.length_range] at this
      omega
    have er : (((List.range (j + 1)).filter b).map f) = (((List.range j).filter b).map f) ++ (if b j = true then [f j] else []) := by
      rw [List.range_succ, List.filter_append, List.map_append]
      cases hb : b j <;> simp [hb]
    cases hb : b j with
    | true =>
      refine (if_pos rfl).mpr (he j (by omega) hb τ _ _ H3 S4 _ fun y e H4 S5 pe => ?_)
      subst pe
      have S6 := S5.re hi (fun j hj => wipe_set_ne hj) S.len
      obtain ⟨ys, x1, x2, S7⟩ := S6.app
      rw [er, hb, if_pos rfl]
      exact ⟨ys, x1, size_small' (by rw [x2]; omega), S7⟩
    | false =>
      refine (if_neg Bool.false_ne_true).mpr ?_
      rw [er, hb, if_neg Bool.false_ne_true, List.append_nil]
      exact S4.re hi (fun j hj => wipe_set_ne hj) S.len
end
end DL
set_option Elab.async false
set_option linter.all false
set_option maxRecDepth 100000
/-! The layer over data: defs that draw numbers from the deck. -/
namespace DL
open PySem PySem.Spec PyProof.Rows L2 Evl TB
/-- what stands while a def that draws runs -/
def WD (d g l : Addr) (N : Addr → Prop) (B : Hp) : Wd where
  N := N
  I := fun H => NOk N H ∧ N d ∧ N g ∧ N l ∧ Deck H d g l ∧ ∀ a, N a → a ≠ d → a ≠ g → a ≠ l → H a = B a
  ok := fun H h => h.1
  stab := fun H H' h x => by
    obtain ⟨h1, h2, h3, h4, ⟨gs, ls, c, q1, q2, q3, q4⟩, h6⟩ := h
    exact ⟨fun a n => by rw [x a n]; exact h1 a n, h2, h3, h4, ⟨gs, ls, c, by rw [x d h2]; exact q1, by rw [x g h3]; exact q2, by rw [x l h4]; exact q3, q4⟩, fun a n n1 n2 n3 => by rw [x a n]; exact h6 a n n1 n2 n3⟩
def Oth (d g l : Addr) (H H' : Hp) : Prop := ∀ a o, H a = some o → a ≠ d → a ≠ g → a ≠ l → H' a = some o
def SpW (A : List PyData → Prop) (F : List PyData → PyData → Prop) : Sp := fun vs H Q _ => ∃ (d g l : Addr) (N : Addr → Prop) (es : List PyData) (vs' : List V), vs = .ref d :: vs' ∧ NOk N H ∧ N d ∧ N g ∧ N l ∧ Deck H d g l ∧ RgAll N H vs' es ∧ A es ∧
  ∀ v e H', Deck H' d g l → Oth d g l H H' → Rg N H' v e → F es e → Q v H'
section
variable {d g l : Addr} {N : Addr → Prop} {B H0 H H' : Hp} {ρ : List (Option Sl)} {te : TE} {tas : TA} {τ : List (V × PyData)} {loc : List (Addr × List PyData)} {σ : L2.St}
theorem Deck.tr {H : Hp} (D : Deck H d g l) : ∀ a, a = d ∨ a = g ∨ a = l → H a ≠ none := by
  obtain ⟨gs, ls, c, q1, q2, q3, _⟩ := D
  rintro a (rfl | rfl | rfl)
  · rw [q1]; simp
  · rw [q2]; simp
  · rw [q3]; simp
theorem nok_oth {M : Addr → Prop} (h : NOk M H) (D : Deck H' d g l) (x : Oth d g l H H') : NOk M H' := fun a n => by
  by_cases z : a = d ∨ a = g ∨ a = l
  · exact Deck.tr D a z
  · cases e : H a with
    | none => exact absurd e (h a n)
    | some o => rw [x a o e (fun q => z (.inl q)) (fun q => z (.inr (.inl q))) fun q => z (.inr (.inr q))]; simp
/-- the state behind a draw -/
theorem St.oth (S : St (WD d g l N B) H0 ρ τ loc σ H) :
    ∃ M : Addr → Prop, NOk M H ∧ M d ∧ M g ∧ M l ∧ Deck H d g l ∧ (∀ p ∈ τ, Rg M H p.1 p.2) ∧ ∀ (H' : Hp) (τ' : List (V × PyData)), Deck H' d g l → Oth d g l H H' → (∀ p ∈ τ', Rg M H' p.1 p.2) → St (WD d g l N B) H0 ρ τ' loc σ H' := by
  obtain ⟨M, n1, n2, n3, n4, n5, n6⟩ := S.ex
  obtain ⟨i1, i2, i3, i4, i5, i6⟩ := S.inv
  refine ⟨M, n3, n1 d i2, n1 g i3, n1 l i4, i5, n5, fun H' τ' D x h => ?_⟩
  have keep : ∀ {P : Addr → Prop}, P d → P g → P l → ∀ a o, H a = some o → ¬ P a → H' a = some o := fun {P} pd pg pl a o e n => x a o e (fun z => n (z ▸ pd)) (fun z => n (z ▸ pg)) fun z => n (z ▸ pl)
  have kM := keep (P := M) (n1 d i2) (n1 g i3) (n1 l i4)
  refine ⟨⟨nok_oth i1 D x, i2, i3, i4, D, fun a n q1 q2 q3 => ?_⟩, fun a o e n => keep (P := N) i2 i3 i4 a o (S.off a o e n) n, M, n1, n2, nok_oth n3 D x, ⟨n4.1, fun i s e => ?_⟩, h, n6.1, fun p hp => ?_⟩
  · rw [← i6 a n q1 q2 q3]
    cases e : H a with
    | none => exact absurd e (i1 a n)
    | some o => exact x a o e q1 q2 q3
  · obtain ⟨o, a1, a2⟩ := n4.2 i s e
    refine ⟨o, a1, ?_⟩
    cases s with
    | dat e => obtain ⟨v, b1, b2⟩ := a2; exact ⟨v, b1, Rg.to (fun a o h n => ⟨kM a o h n, n⟩) _ _ b2⟩
    | raw v => exact a2
  · obtain ⟨a1, a2, xs, a3, a4⟩ := n6.2 p hp
    have a2' : ¬ N p.1 := a2
    exact ⟨a1, a2, xs, keep (P := N) i2 i3 i4 _ _ a3 a2', RgAll.to (fun a o h n => ⟨kM a o h n, n⟩) _ _ a4⟩
theorem ev_callW {A : List PyData → Prop} {F : List PyData → PyData → Prop} {PA : List PyData → Prop} {i : Nat} (hr : ρ[i]? = some (some (.raw (.ref d)))) (ha : EvA (WD d g l N B) H0 tas ρ PA) (hA : ∀ es, PA es → A es) :
    EvP (WD d g l N B) H0 (tCall (SpW A F) [] E0 (tCons (tVar i) tas)) ρ (fun e => ∃ es, PA es ∧ F es e) := fun τ loc σ H S Q k =>
  ⟨.ref d, S.raw hr, ha τ loc σ H S _ fun vs es H1 S1 le pa => by
    obtain ⟨M, m1, m2, m3, m4, m5, m6, q⟩ := S1.oth
    refine ⟨d, g, l, M, es, vs, by rw [List.append_nil], m1, m2, m3, m4, m5, zip_all le fun p hp => m6 p (List.mem_append_left _ hp), hA es pa, fun v e H' D x r f => k v e H' (q H' _ D x fun p hp => ?_) ⟨es, pa, f⟩⟩
    rcases List.mem_cons.mp hp with rfl | hp
    · exact r
    · exact Rg.to (fun a o h n => ⟨x a o h (fun z => n (z ▸ m2)) (fun z => n (z ▸ m3)) fun z => n (z ▸ m4), n⟩) _ _ (m6 p (List.mem_append_right _ hp))⟩
theorem St.startW {vs : List V} {es : List PyData} {k : Nat} (ok : NOk N H) (h1 : N d) (h2 : N g) (h3 : N l) (D : Deck H d g l) (r : RgAll N H vs es) :
    St (WD d g l N H) H (some (.raw (.ref d)) :: slotsOf es k) [] [] (some (.ref d) :: (vs.map some ++ List.replicate k none)) H := by
  refine ⟨⟨ok, h1, h2, h3, D, fun _ _ _ _ _ => rfl⟩, fun _ _ e _ => e, N, fun _ h => h, fun _ h n => absurd h n, ok, ⟨?_, fun i s h => ?_⟩, (fun _ h => nomatch h), List.nodup_nil, fun _ h => nomatch h⟩
  · have := (slots_start (M := N) (k := k) r).1
    simpa using this
  · cases i with
    | zero =>
      have h' : some (some (Sl.raw (.ref d))) = some (some s) := h
      cases h'
      exact ⟨_, rfl, rfl⟩
    | succ i => exact (slots_start (M := N) (k := k) r).2 i s h
theorem St.endW {v : V} {e : PyData} (S : St (WD d g l N H) H ρ ((v, e) :: τ) loc σ H') : Deck H' d g l ∧ Oth d g l H H' ∧ Rg N H' v e := by
  obtain ⟨M, n1, n2, n3, n4, n5, n6⟩ := S.ex
  obtain ⟨i1, i2, i3, i4, i5, i6⟩ := S.inv
  refine ⟨i5, fun a o h q1 q2 q3 => ?_, (n5 _ List.mem_cons_self).sub n1⟩
  by_cases hn : N a
  · rw [i6 a hn q1 q2 q3]; exact h
  · exact S.off a o h hn
end
/-! ### the draws -/
def drawA (es : List PyData) : Prop := ∃ m : Int, es = [.int m] ∧ 0 < m ∧ m ≤ 1000000000000
def drawF (es : List PyData) (e : PyData) : Prop := ∃ m r : Int, es = [.int m] ∧ e = .int r ∧ 0 ≤ r ∧ r < m
theorem draw_imp {vs : List V} {H : Hp} {Q : VK} {E : XK} (h : SpW drawA drawF vs H Q E) : spDraw vs H Q E := by
  obtain ⟨d, g, l, N, es, vs', rfl, ok, nd, ng, nl, D, r, ⟨m, rfl, m0, m1⟩, q⟩ := h
  cases r with
  | cons r1 r2 =>
    cases r2; cases r1
    exact ⟨d, g, l, m, rfl, m0, m1, D, fun r H' r0 r1 D' o => q _ (.int r) H' D' (fun a o' e n1 n2 _ => o a o' e n1 n2) (.int r) ⟨m, r, rfl, rfl, r0, r1⟩⟩
def oneA (es : List PyData) : Prop := ∃ ds, es = [.list ds] ∧ 0 < ds.length ∧ ds.length ≤ 1000
def oneF (es : List PyData) (e : PyData) : Prop := ∃ ds, es = [.list ds] ∧ e ∈ ds
theorem one_imp {vs : List V} {H : Hp} {Q : VK} {E : XK} (h : SpW oneA oneF vs H Q E) : spOne vs H Q E := by
  obtain ⟨d, g, l, N, es, vs', rfl, ok, nd, ng, nl, D, r, ⟨ds, rfl, m0, m1⟩, q⟩ := h
  cases r with
  | cons r1 r2 =>
    cases r2
    cases r1 with
    | lst hA hn hr =>
      refine ⟨d, g, l, _, _, rfl, D, hA, fun z => hn (z ▸ nd), fun z => hn (z ▸ ng), by rw [hr.len]; exact m0, by rw [hr.len]; exact m1, fun i v H' hv D' o => ?_⟩
      obtain ⟨e, he, hre⟩ := hr.get hv
      exact q v e H' D' (fun a o' h n1 n2 _ => o a o' h n1 n2) (Rg.to (fun a o' h n => ⟨o a o' h (fun z => n (z ▸ nd)) (fun z => n (z ▸ ng)), n⟩) _ _ hre) ⟨ds, rfl, List.mem_of_getElem? he⟩
section
variable {P : Program} {w : World} {K : PySem.W.Frag} {mg : Str → Option Value} {base : Heap} {k : Nat} {x : Str} {ps : List Str}
theorem Keeps.imp {sp sp' : Sp} (h : Keeps P w K mg base k x ps sp) (i : ∀ vs H Q E, sp' vs H Q E → sp vs H Q E) : Keeps P w K mg base k x ps sp' := by
  obtain ⟨f, fd, a, b, c, G⟩ := h
  exact ⟨f, fd, a, b, c, G.imp i⟩
theorem Keeps.up {sp : Sp} {j : Nat} (h : Keeps P w K mg base k x ps sp) (i : k ≤ j) : Keeps P w K mg base j x ps sp := by
  obtain ⟨f, fd, a, b, c, G⟩ := h
  exact ⟨f, fd, a, b, c, G.mono i⟩
end
end DL
set_option Elab.async false
set_option linter.all false
set_option maxRecDepth 100000
/-! What is drawn. -/
namespace DL
open PySem PySem.Spec PyProof.Rows L2 Evl TB
section
variable {W : Wd} {H0 : Hp} {ρ : List (Option Sl)} {te ta tb tn : TE} {tas : TA} {P P1 P2 : PyData → Prop} {tt tu : TT} {R : Bool → Prop}
theorem ev_neg {i : Int} (h : EvP W H0 te ρ (· = .int i)) : EvP W H0 (tUn (rU fun i => .int (-i)) te) ρ (· = .int (-i)) := fun τ l σ H S Q k => h τ l σ H S _ fun v e H1 S1 p => by
  subst p
  obtain ⟨N, n3, n5, n4, q⟩ := S1.ext
  have := n5 _ List.mem_cons_self
  cases this
  refine ⟨i, rfl, k _ (.int (-i)) H1 (q _ _ ex_refl fun p hp => ?_) rfl⟩
  rcases List.mem_cons.mp hp with rfl | hp
  · exact .int _
  · exact n5 p (List.mem_cons_of_mem _ hp)
theorem ev_pow {i j : Int} (h : CPow i j) : EvP W H0 (tOp (rI CPow fun i j => .int (i ^ j.toNat)) (tC (.int i)) (tC (.int j))) ρ (· = .int (i ^ j.toNat)) := ev_op' ev_int ev_int (opd_I h fun _ _ => .int _)
theorem ev_catL {ds es : List PyData} (ha : EvP W H0 ta ρ (· = .list ds)) (hb : EvP W H0 tb ρ (· = .list es)) (h : ds.length + es.length ≤ 100000) : EvP W H0 (tOp rCat ta tb) ρ (· = .list (ds ++ es)) := ev_op' ha hb (opd_catL h)
theorem ev_dict0 : EvP W H0 tDNewK ρ (· = .dict []) := fun τ l σ H S Q k => fun p hp => by
  obtain ⟨N, n3, n5, n4, q⟩ := S.ext
  refine k _ (.dict []) _ (q _ _ (Ex.new hp) fun p' hp' => ?_) rfl
  rcases List.mem_cons.mp hp' with rfl | hp'
  · exact .dic upd_same (n3.new hp)
  · exact (n5 p' hp').ex (Ex.new hp)
theorem et_of' (ha : EvP W H0 te ρ P) (h : ∀ e, P e → ∃ b, e = .bool b ∧ R b) : EvT W H0 (tTest te) ρ R := fun τ l σ H S Q k => ha τ l σ H S _ fun v e H1 S1 p => by
  obtain ⟨b, rfl, rb⟩ := h e p
  obtain ⟨N, n3, n5, n4, q⟩ := S1.ext
  have := n5 _ List.mem_cons_self
  cases this
  exact ⟨b, rfl, k b H1 S1.pop rb⟩
theorem et_and1 (h1 : EvT W H0 tt ρ (· = true)) (h2 : EvT W H0 tu ρ R) : EvT W H0 (tAnd tt tu) ρ R := fun τ l σ H S Q k => h1 τ l σ H S _ fun b H1 S1 p => by
  subst p
  exact (if_pos rfl).mpr (h2 τ l σ H1 S1 Q k)
theorem et_and0 (h1 : EvT W H0 tt ρ (· = false)) (h : R false) : EvT W H0 (tAnd tt tu) ρ R := fun τ l σ H S Q k => h1 τ l σ H S _ fun b H1 S1 p => by
  subst p
  exact (if_neg Bool.false_ne_true).mpr (k false H1 S1 h)
theorem EvT.imp {R' : Bool → Prop} (h : EvT W H0 tt ρ R) (i : ∀ b, R b → R' b) : EvT W H0 tt ρ R' := fun τ l σ H S Q k => h τ l σ H S Q fun b H' S' p => k b H' S' (i b p)
end
theorem flds {xs ys : List PyData} : PyData.hasDictAll (xs ++ ys) = (PyData.hasDictAll xs || PyData.hasDictAll ys) := by
  induction xs with
  | nil => rw [List.nil_append, PyData.hasDictAll, Bool.false_or]
  | cons x xs ih => rw [List.cons_append, PyData.hasDictAll, PyData.hasDictAll, ih, Bool.or_assoc]
theorem flls {xs ys : List PyData} : hasLs (xs ++ ys) = (hasLs xs || hasLs ys) := by
  induction xs with
  | nil => rw [List.nil_append, hasLs, Bool.false_or]
  | cons x xs ih => rw [List.cons_append, hasLs, hasLs, ih, Bool.or_assoc]
/-- no list, no dict in it -/
def plain (e : PyData) : Prop := e.hasDict = false ∧ hasL e = false
theorem plains {xs : List PyData} (h : ∀ x ∈ xs, plain x) : PyData.hasDictAll xs = false ∧ hasLs xs = false := by
  induction xs with
  | nil => exact ⟨rfl, rfl⟩
  | cons x xs ih =>
    have := ih fun y hy => h y (List.mem_cons_of_mem _ hy)
    have hx := h x List.mem_cons_self
    exact ⟨by rw [PyData.hasDictAll, hx.1, this.1]; rfl, by rw [hasLs, hx.2, this.2]; rfl⟩
theorem okD_plain {e : PyData} (h : plain e) : okD e = true := by unfold okD; rw [h.1]; rfl
theorem okD_list {xs : List PyData} (h : ∀ x ∈ xs, plain x) : okD (.list xs) = true := by
  unfold okD
  rw [PyData.hasDict, (plains h).1]; rfl
theorem plain_tuple {xs : List PyData} (h : ∀ x ∈ xs, plain x) : plain (.tuple xs) := ⟨by rw [PyData.hasDict]; exact (plains h).1, by rw [hasL]; exact (plains h).2⟩
theorem okD_mid {xs ys : List PyData} {e : PyData} (hx : ∀ x ∈ xs, plain x) (hy : ∀ x ∈ ys, plain x) (he : okD e = true) : okD (.tuple (xs ++ [e] ++ ys)) = true := by
  unfold okD at he ⊢
  rw [PyData.hasDict, hasL, flds, flds, flls, flls, (plains hx).1, (plains hx).2, (plains hy).1, (plains hy).2]
  rw [PyData.hasDictAll, PyData.hasDictAll, hasLs, hasLs]
  simp only [Bool.or_false, Bool.false_or]
  exact he
theorem fit_nat {i : Int} (h : 0 ≤ i) (h2 : i < 10 ^ 40) : Fit 40 0 (.int i) := by
  refine ⟨?_, ?_, Nat.le_refl _⟩
  · rw [PyData.showable]
    refine decide_eq_true ?_
    by_cases h0 : i.natAbs = 0
    · rw [h0]; decide
    · exact Nat.lt_of_lt_of_le ((Nat.log2_lt h0).mpr (show i.natAbs < 2 ^ 133 by
        have : (10 : Int) ^ 40 < 2 ^ 133 := by decide
        omega)) (by decide)
  · show (numS i).length ≤ 40
    rw [← cs_len, cs_num h]
    unfold digs
    rw [List.length_map]
    exact digits10_le (by decide) (by
      have : ((i.toNat : Nat) : Int) = i := Int.toNat_of_nonneg h
      omega)
/-- what is good to be shown -/
def Gd (n k : Nat) (e : PyData) : Prop := okD e = true ∧ Fit n k e
theorem Gd.mono {n m k j : Nat} {e : PyData} (h : Gd n k e) (h1 : n ≤ m) (h2 : k ≤ j) : Gd m j e := ⟨h.1, h.2.mono h1 h2⟩
def Lv : Nat → PyData → Prop
  | 0, d => ∃ i : Int, d = .int i ∧ 0 ≤ i ∧ i ≤ MS
  | n + 1, d => ∃ ds : List PyData, d = .tuple ds ∧ ds.length ≤ 8 ∧ ∀ x ∈ ds, Lv n x
def Bo : Nat → Nat
  | 0 => 1000
  | n + 1 => 9 * Bo n + 100
theorem Bo_ge (n : Nat) : 1000 ≤ Bo n := by
  induction n with
  | zero => exact Nat.le_refl _
  | succ n ih => show 1000 ≤ 9 * Bo n + 100; omega
theorem Lv.plain : ∀ {n : Nat} {d : PyData}, Lv n d → plain d
  | 0, _, ⟨i, h, _⟩ => by rw [h]; exact ⟨rfl, rfl⟩
  | n + 1, _, ⟨ds, h, _, hx⟩ => by rw [h]; exact plain_tuple fun x hm => Lv.plain (hx x hm)
theorem fit_tup {n k m : Nat} {ds : List PyData} (h : ∀ d ∈ ds, Fit n k d) (hl : ds.length ≤ 9) (hm : 9 * n + 100 ≤ m) : Fit m (k + 1) (.tuple ds) :=
  (Fit.tuple h).mono (by have := Nat.mul_le_mul_right n hl; omega) (Nat.le_refl _)
theorem fit_lst {n k m : Nat} {ds : List PyData} (h : ∀ d ∈ ds, Fit n k d) (hl : ds.length ≤ 9) (hm : 9 * n + 100 ≤ m) : Fit m (k + 1) (.list ds) :=
  (Fit.list h).mono (by have := Nat.mul_le_mul_right n hl; omega) (Nat.le_refl _)
theorem Lv.fit : ∀ {n : Nat} {d : PyData}, Lv n d → Fit (Bo n) n d
  | 0, _, ⟨i, h, h0, h1⟩ => by rw [h]; exact (fit_int h0 h1).mono (by decide) (Nat.le_refl _)
  | n + 1, _, ⟨ds, h, hl, hx⟩ => by rw [h]; exact fit_tup (fun x hm => Lv.fit (hx x hm)) (by omega) (Nat.le_refl _)
/-! ### draws in expressions -/
section
variable {d g l : Addr} {N : Addr → Prop} {B H0 : Hp} {ρ : List (Option Sl)} {te : TE} {tas : TA} {P : PyData → Prop} {j : Nat}
theorem ev_draw {m : Int} (hr : ρ[j]? = some (some (.raw (.ref d)))) (hm : EvP (WD d g l N B) H0 te ρ (· = .int m)) (m0 : 0 < m) (m1 : m ≤ 1000000000000) :
    EvP (WD d g l N B) H0 (tCall (SpW drawA drawF) [] E0 (tCons (tVar j) (tCons te tNil))) ρ (fun e => ∃ r : Int, e = .int r ∧ 0 ≤ r ∧ r < m) :=
  (ev_callW hr (eva_one hm) fun es h => by rw [h]; exact ⟨m, rfl, m0, m1⟩).imp fun e ⟨es, h1, m', r, h2, h3, h4, h5⟩ => by
    rw [h1] at h2
    cases h2
    exact ⟨r, h3, h4, h5⟩
theorem ev_one (hr : ρ[j]? = some (some (.raw (.ref d)))) (hm : EvP (WD d g l N B) H0 te ρ P) (h : ∀ e, P e → ∃ ds, e = .list ds ∧ 0 < ds.length ∧ ds.length ≤ 1000) :
    EvP (WD d g l N B) H0 (tCall (SpW oneA oneF) [] E0 (tCons (tVar j) (tCons te tNil))) ρ (fun e => ∃ ds, P (.list ds) ∧ e ∈ ds) :=
  (ev_callW hr (PA := fun es => ∃ e, es = [e] ∧ P e) (eva_cons hm eva_nil fun e es h1 h2 => by rw [h2]; exact ⟨e, rfl, h1⟩) fun es ⟨e, h1, h2⟩ => by
    obtain ⟨ds, rfl, a, b⟩ := h e h2
    exact ⟨ds, h1, a, b⟩).imp fun x ⟨es, ⟨e, h1, h2⟩, ds, h3, h4⟩ => by
    rw [h1] at h3
    cases h3
    exact ⟨ds, h2, h4⟩
end
def nonA (es : List PyData) : Prop := es = []
def oddF (_ : List PyData) (e : PyData) : Prop := Gd 100 3 e
def farF (_ : List PyData) (e : PyData) : Prop := ∃ r : Int, e = .int r ∧ 1 ≤ r ∧ r ≤ MS
def wideA (es : List PyData) : Prop := ∃ n : Nat, es = [.int n] ∧ n ≤ 100
def wideF (es : List PyData) (e : PyData) : Prop := ∃ (n : Nat) (ns : List Int), es = [.int n] ∧ e = tupI ns ∧ ns.length = n ∧ ∀ x ∈ ns, 1 ≤ x ∧ x ≤ MS
theorem ints_of {R : Int → Prop} : ∀ {ds : List PyData}, (∀ d ∈ ds, ∃ n : Int, d = .int n ∧ R n) → ∃ ns : List Int, ds = ns.map PyData.int ∧ ∀ n ∈ ns, R n
  | [], _ => ⟨[], rfl, fun _ h => nomatch h⟩
  | d :: ds, h => by
    obtain ⟨n, rfl, hn⟩ := h d List.mem_cons_self
    obtain ⟨ns, rfl, hs⟩ := ints_of fun x hx => h x (List.mem_cons_of_mem _ hx)
    exact ⟨n :: ns, rfl, fun m hm => by
      rcases List.mem_cons.mp hm with rfl | hm
      · exact hn
      · exact hs m hm⟩
/-! ### statements in their readings -/
theorem d_asg {te : TE} {i : Nat} {ts : TS} {D : Ends} {σ : L2.St} {H : Hp} (h : te σ H fun x H1 => ts D (σ.set i (some x)) H1) : tSeq (tAsg te (gName i)) ts D σ H := h
theorem d_ret {te : TE} {D : Ends} {σ : L2.St} {H : Hp} (h : te σ H D.rt) : tRet te D σ H := h
theorem d_if {tt : TT} {t u ts : TS} {D : Ends} {σ : L2.St} {H : Hp} (h : tt σ H fun b H1 => if b = true then t { D with nx := fun σ H => ts D σ H } σ H1 else u { D with nx := fun σ H => ts D σ H } σ H1) : tSeq (tIfS tt t u) ts D σ H := h
theorem d_seq {t ts : TS} {D : Ends} {σ : L2.St} {H : Hp} (h : t { D with nx := fun σ H => ts D σ H } σ H) : tSeq t ts D σ H := h
abbrev St.rho {W : Wd} {H0 H : Hp} {ρ : List (Option Sl)} {τ : List (V × PyData)} {l : List (Addr × List PyData)} {σ : L2.St} (_ : St W H0 ρ τ l σ H) : List (Option Sl) := ρ
def goodB (n k : Nat) (e : PyData) : Bool := okD e && (e.showable && (decide (e.shown.length ≤ n) && decide (e.depth ≤ k)))
theorem gd_of {n k : Nat} {ds : List PyData} (h : ds.all (goodB n k) = true) {e : PyData} (he : e ∈ ds) : Gd n k e := by
  have := List.all_eq_true.mp h e he
  unfold goodB at this
  simp only [Bool.and_eq_true, decide_eq_true_eq] at this
  exact ⟨this.1, this.2.1, this.2.2.1, this.2.2.2⟩
theorem plain_of {e : PyData} {is : List Int} (h : e = tupI is) : plain e := by
  rw [h]
  exact plain_tuple fun x hx => by
    obtain ⟨n, _, rfl⟩ := List.mem_map.mp hx
    exact ⟨rfl, rfl⟩
theorem opd_add {i j : Int} : OpD (rI0 fun i j => .int (i + j)) (.int i) (.int j) (· = .int (i + j)) := opd_I0 fun _ _ => .int _
theorem opd_sub {i j : Int} : OpD (rI0 fun i j => .int (i - j)) (.int i) (.int j) (· = .int (i - j)) := opd_I0 fun _ _ => .int _
theorem opd_gt {i j : Int} : OpD (rI0 fun i j => .bl (decide (j < i))) (.int i) (.int j) (· = .bool (decide (j < i))) := opd_I0 fun _ _ => .bl _
theorem opd_lt {i j : Int} : OpD (rI0 fun i j => .bl (decide (i < j))) (.int i) (.int j) (· = .bool (decide (i < j))) := opd_I0 fun _ _ => .bl _
theorem OpD.imp {r : R2} {e1 e2 : PyData} {P P' : PyData → Prop} (h : OpD r e1 e2 P) (i : ∀ e, P e → P' e) : OpD r e1 e2 P' := fun N H v1 v2 ok q1 q2 Q k => h N H v1 v2 ok q1 q2 Q fun v e H' x y z => k v e H' x y (i e z)
theorem CaD.imp {r : List V → Hp → VK → Prop} {es : List PyData} {P P' : PyData → Prop} (h : CaD r es P) (i : ∀ e, P e → P' e) : CaD r es P' := fun N H vs ok q Q k => h N H vs ok q Q fun v e H' x y z => k v e H' x y (i e z)
theorem d_next {f : L2.St → Hp → Prop} {a : VK} {b c : L2.St → Hp → Prop} {σ : L2.St} {H : Hp} (h : f σ H) : tNext { nx := f, rt := a, bk := b, ct := c } σ H := h
theorem d_nx {f : L2.St → Hp → Prop} {a : VK} {b c : L2.St → Hp → Prop} {σ : L2.St} {H : Hp} (h : f σ H) : Ends.nx { nx := f, rt := a, bk := b, ct := c } σ H := h
end DL
set_option Elab.async false
set_option linter.all false
set_option maxRecDepth 100000
/-! The layer over data: loops over lists of data, a list of one's own made longer, a pair taken apart. -/
namespace DL
open PySem PySem.Spec PyProof.Rows L2 Evl TB
section
variable {W : Wd} {H0 H : Hp} {ρ : List (Option Sl)} {τ : List (V × PyData)} {l : List (Addr × List PyData)} {σ : L2.St} {K : PySem.W.Frag}
theorem St.un2 {v : V} {e1 e2 : PyData} (S : St W H0 ρ ((v, .tuple [e1, e2]) :: τ) l σ H) : ∃ a v1 v2, v = .ref a ∧ SqT K H a [v1, v2] ∧ St W H0 ρ ((v1, e1) :: (v2, e2) :: τ) l σ H := by
  obtain ⟨N, n1, n2, n3, n4, n5, n6⟩ := S.ex
  have hv := n5 _ List.mem_cons_self
  cases hv with
  | @tup a xs _ hA hn hr =>
    cases hr with
    | cons r1 r =>
      cases r with
      | cons r2 r =>
        cases r
        refine ⟨a, _, _, rfl, .inl (.inl hA), S.inv, S.off, N, n1, n2, n3, n4, fun p hp => ?_, n6⟩
        rcases List.mem_cons.mp hp with rfl | hp
        · exact r1
        · rcases List.mem_cons.mp hp with rfl | hp
          · exact r2
          · exact n5 p (List.mem_cons_of_mem _ hp)
/-- a list of one's own is made longer by another list -/
theorem St.more {p b : Addr} {ds es : List PyData} (S : St W H0 ρ ((.ref b, .list es) :: τ) ((p, ds) :: l) σ H) : ∃ xs zs, H p = some (.lst xs) ∧ H b = some (.lst zs) ∧ xs.length = ds.length ∧ zs.length = es.length ∧ St W H0 ρ τ ((p, ds ++ es) :: l) σ (upd H p (.lst (xs ++ zs))) := by
  obtain ⟨N, n1, n2, n3, n4, n5, n6⟩ := S.ex
  obtain ⟨b1, b2, xs, b3, b4⟩ := n6.2 _ List.mem_cons_self
  have hv := n5 _ List.mem_cons_self
  cases hv with
  | @lst _ zs _ hA hn hr =>
  refine ⟨xs, zs, b3, hA, b4.len, hr.len, W.stab H _ S.inv fun a na => ?_, fun a o e n => ?_, N, n1, n2, fun a h => ?_, ⟨n4.1, fun i s h => ?_⟩, fun q hq => (n5 q (List.mem_cons_of_mem _ hq)).upd b1, n6.1, fun q hq => ?_⟩
  · rw [upd_ne (fun z => by rw [z] at na; exact b2 na)]
  · rw [upd_ne (fun z => ?_)]
    · exact S.off a o e n
    · have := n2 p b1 b2
      rw [z, this] at e; cases e
  · by_cases z : a = p
    · rw [z, upd_same]; simp
    · rw [upd_ne z]; exact n3 a h
  · obtain ⟨o, h1, h2⟩ := n4.2 i s h
    refine ⟨o, h1, ?_⟩
    cases s with
    | dat e => obtain ⟨v, q1, q2⟩ := h2; exact ⟨v, q1, q2.upd b1⟩
    | raw v => exact h2
  · rcases List.mem_cons.mp hq with rfl | hq
    · exact ⟨b1, b2, _, upd_same, (b4.app hr).upd b1⟩
    · obtain ⟨a1, a2, ys, a3, a4⟩ := n6.2 q (List.mem_cons_of_mem _ hq)
      have nd := n6.1
      rw [List.map_cons, List.nodup_cons] at nd
      have hne : q.1 ≠ p := fun z => nd.1 (List.mem_map.mpr ⟨q, hq, z⟩)
      exact ⟨a1, a2, ys, by rw [upd_ne hne]; exact a3, a4.upd b1⟩
theorem St.loc {p : Addr} {ds : List PyData} (S : St W H0 ρ τ ((p, ds) :: l) σ H) : ∃ xs, H p = some (.lst xs) ∧ xs.length = ds.length := by
  obtain ⟨N, n1, n2, n3, n4, n5, n6⟩ := S.ex
  obtain ⟨b1, b2, xs, b3, b4⟩ := n6.2 _ List.mem_cons_self
  exact ⟨xs, b3, b4.len⟩
/-- for x in a list of data -/
theorem for_dataL {v : V} {ds : List PyData} {i : Nat} {tb : TS} {D : Ends} (S : St W H0 ρ ((v, .list ds) :: τ) l σ H) (J : Nat → List (Option Sl) → List (Addr × List PyData) → Prop) (hJ : J 0 ρ l)
    (hs : ∀ (G : Hp) (j : Nat) (d : PyData) (ρ' : List (Option Sl)) (l' : List (Addr × List PyData)) (σ' : L2.St) (H' : Hp), (∀ b o, H0 b = some o → ¬ W.N b → G b = some o) → (∀ b, G b = none → H0 b = none) → ds[j]? = some d → J j ρ' l' → St W G (ρ'.set i (some (.dat d))) ((v, .list ds) :: τ) l' σ' H' →
      ∀ Nx : L2.St → Hp → Prop, (∀ ρ2 l2 σ2 H2, J (j + 1) ρ2 l2 → St W G ρ2 ((v, .list ds) :: τ) l2 σ2 H2 → Nx σ2 H2) → tb { D with nx := Nx, ct := Nx, bk := D.nx } σ' H')
    (hd : ∀ ρ' l' σ' H', J ds.length ρ' l' → St W H0 ρ' ((v, .list ds) :: τ) l' σ' H' → D.nx σ' H') :
    ∃ a, v = .ref a ∧ (∃ xs, SqL K H a xs) ∧ ∃ Wx : Nat → Nat → L2.St → Hp → Prop, (∃ m, Wx 0 m σ H) ∧ ∀ i' m σ H, Wx i' m σ H → ((Itl K a).stop i' H ∧ D.nx σ H) ∨
      ((Itl K a).go i' H ∧ ∃ N : L2.St → Hp → Prop, (∀ σ' H', N σ' H' → ∃ m', m' < m ∧ Wx (i' + 1) m' σ' H') ∧ ∀ x H', (Itl K a).yld i' H x H' → gName i x σ H' fun σ2 H2 => tb { D with nx := N, ct := N, bk := D.nx } σ2 H2) := by
  obtain ⟨a, xs, rfl, hA, hlen, hna, u1, u2, B⟩ := S.baseL
  have keep : ∀ {τ' l' σ' H' ρ'}, St W (upd H0 a (.lst xs)) ρ' τ' l' σ' H' → H' a = some (.lst xs) := fun S => S.off a _ upd_same hna
  refine ⟨a, rfl, ⟨xs, .inl (.inl hA)⟩, for_list (K := K) (a := a) (xs := xs) (fun j σ' H' => ∃ ρ' l', J j ρ' l' ∧ St W (upd H0 a (.lst xs)) ρ' ((.ref a, .list ds) :: τ) l' σ' H') ⟨ρ, l, hJ, B⟩ (fun j σ' H' _ h => ?_) (fun j x σ' H' hx h => ?_) (fun σ' H' h => ?_)⟩
  · obtain ⟨ρ', l', _, S2⟩ := h
    exact .inl (.inl (keep S2))
  · obtain ⟨ρ', l', hj, S2⟩ := h
    have hAk := keep S2
    obtain ⟨d, hd', S3⟩ := S2.item (xs := xs) (ds := ds) (fun N r => by
      cases r with
      | lst q1 q2 q3 => rw [hAk] at q1; cases q1; exact q3) hx
    exact hs _ j d ρ' l' _ H' u1 u2 hd' hj S3.set _ fun ρ2 l2 σ2 H2 h1 h2 => ⟨ρ2, l2, h1, h2⟩
  · obtain ⟨ρ', l', hj, S2⟩ := h
    rw [hlen] at hj
    exact hd ρ' l' σ' H' hj (S2.unbase u1 u2)
end
/-- the law's own state, once its deck is made -/
theorem St.deck0 {d g l : Addr} {H : Hp} {ρ : List (Option Sl)} {σ : L2.St} (D : Deck H d g l) (hl : ρ.length = σ.length) (h : ∀ (i : Nat) (s : Sl), ρ[i]? = some (some s) → ∃ v, s = .raw v ∧ σ[i]? = some (some v)) :
    St (WD d g l (fun a => a = d ∨ a = g ∨ a = l) H) H ρ [] [] σ H := by
  have ok : NOk (fun a => a = d ∨ a = g ∨ a = l) H := fun a n => Deck.tr D a n
  refine ⟨⟨ok, .inl rfl, .inr (.inl rfl), .inr (.inr rfl), D, fun _ _ _ _ _ => rfl⟩, fun _ _ e _ => e, _, fun _ h => h, fun _ h n => absurd h n, ok, ⟨hl, fun i s e => ?_⟩, (fun _ h => nomatch h), List.nodup_nil, fun _ h => nomatch h⟩
  obtain ⟨v, rfl, hv⟩ := h i s e
  exact ⟨_, hv, rfl⟩
theorem fit_nat2 {i : Int} (h : 0 ≤ i) (h2 : i < 10 ^ 60) : Fit 60 0 (.int i) := by
  refine ⟨?_, ?_, Nat.le_refl _⟩
  · rw [PyData.showable]
    refine decide_eq_true ?_
    by_cases h0 : i.natAbs = 0
    · rw [h0]; decide
    · exact Nat.lt_of_lt_of_le ((Nat.log2_lt h0).mpr (show i.natAbs < 2 ^ 200 by
        have : (10 : Int) ^ 60 < 2 ^ 200 := by decide
        omega)) (by decide)
  · show (numS i).length ≤ 60
    rw [← cs_len, cs_num h]
    unfold digs
    rw [List.length_map]
    exact digits10_le (by decide) (by
      have : ((i.toNat : Nat) : Int) = i := Int.toNat_of_nonneg h
      omega)
section
variable {W : Wd} {H0 : Hp} {ρ : List (Option Sl)} {te ta tb : TE} {P : PyData → Prop}
/-- repr of what is good to be shown -/
theorem ev_repr {n k : Nat} {e : PyData} (h : EvP W H0 te ρ (· = e)) (g : Gd n k e) (hn : n ≤ 1000000) (hk : k < 60) : EvP W H0 (tCB rReprD (tCons te tNil)) ρ (· = .str e.shown) :=
  ev_cb' (eva_one h) (cad_repr g.1 g.2.sh (Nat.lt_of_le_of_lt g.2.dp hk) (Nat.le_trans g.2.len (Nat.le_trans hn (by decide))))
end
theorem d_forL {K : PySem.W.Frag} {te : TE} {i : Nat} {tb : TS} {D : Ends} {σ : L2.St} {H : Hp} (h : te σ H fun v H => ∃ a, v = .ref a ∧ (∃ xs, SqL K H a xs) ∧ ∃ Wx : Nat → Nat → L2.St → Hp → Prop, (∃ m, Wx 0 m σ H) ∧ ∀ i' m σ H, Wx i' m σ H → ((Itl K a).stop i' H ∧ D.nx σ H) ∨
      ((Itl K a).go i' H ∧ ∃ N : L2.St → Hp → Prop, (∀ σ' H', N σ' H' → ∃ m', m' < m ∧ Wx (i' + 1) m' σ' H') ∧ ∀ x H', (Itl K a).yld i' H x H' → gName i x σ H' fun σ2 H2 => tb { D with nx := N, ct := N, bk := D.nx } σ2 H2)) :
    tFor (iList K te) (gName i) tb D σ H := h
theorem g_name {i : Nat} {v : V} {σ : L2.St} {H : Hp} {Q : L2.St → Hp → Prop} (h : Q (σ.set i (some v)) H) : gName i v σ H Q := h
abbrev WL (d g l : Addr) (H : Hp) : Wd := WD d g l (fun a => a = d ∨ a = g ∨ a = l) H
theorem St.nil {W : Wd} {H0 H : Hp} {ρ : List (Option Sl)} {τ : List (V × PyData)} {l : List (Addr × List PyData)} {σ : L2.St} (S : St W H0 ρ τ l σ H) : St W H0 ρ [] l σ H := S.mono fun _ h => nomatch h
section
variable {W : Wd} {H0 : Hp} {ρ : List (Option Sl)} {te ta tb : TE} {P : PyData → Prop} {K : PySem.W.Frag} {tt : TT}
/-- [e for x in xs if t], where no item passes the test -/
theorem ev_lc0 {i : Nat} {Qd : List PyData → Prop} (hi : ρ[i]? = some none) (ha : EvP W H0 ta ρ (fun e => ∃ ds, e = .list ds ∧ Qd ds)) (ht : ∀ G ds dd, Qd ds → dd ∈ ds → EvT W G tt (ρ.set i (some (.dat dd))) (· = false)) :
    EvP W H0 (tLc (iList K ta) (gName i) tt te [i]) ρ (· = .list []) := fun τ l σ H S Q k =>
  ha τ l σ H S _ fun v e H1 S1 p => by
    obtain ⟨ds, rfl, hq⟩ := p
    obtain ⟨a, xs, rfl, hA, hlen, hna, u1, u2, B⟩ := S1.baseL
    refine ⟨a, rfl, ⟨xs, .inl (.inl hA)⟩, fun D hD => ?_⟩
    have keep : ∀ {τ' l' σ' H'}, St W (upd H0 a (.lst xs)) ρ τ' l' σ' H' → H' a = some (.lst xs) := fun S => S.off a _ upd_same hna
    refine lc_list (K := K) (a := a) (xs := xs) (fun j H' => St W (upd H0 a (.lst xs)) ρ ((.ref a, .list ds) :: τ) ((D, []) :: l) σ H') (B.newL hD) (fun j H' _ S2 => .inl (.inl (keep S2))) (fun j x H' hx S2 => ?_) (fun H' S2 => ?_)
    · have hAk := keep S2
      obtain ⟨d, hd, S3⟩ := S2.item (xs := xs) (ds := ds) (fun N r => by
        cases r with
        | lst q1 q2 q3 => rw [hAk] at q1; cases q1; exact q3) hx
      have S4 := (S3.wipe [i]).set (i := i)
      have e1 : (wipeR ρ [i]).set i (some (Sl.dat d)) = ρ.set i (some (.dat d)) := by
        show (ρ.set i none).set i _ = _
        rw [List.set_set]
      rw [e1] at S4
      refine ⟨wipe_id, ht _ ds d hq (List.mem_of_getElem? hd) _ _ _ H' S4 _ fun b H4 S5 pb => ?_⟩
      subst pb
      refine (if_neg Bool.false_ne_true).mpr ?_
      exact S5.re hi (fun j hj => wipe_set_ne hj) S.len
    · exact k _ _ H' (((S2.unbase u1 u2).frz).mono fun p hp => by
        rcases List.mem_cons.mp hp with rfl | hp
        · exact List.mem_cons_self
        · exact List.mem_cons_of_mem _ (List.mem_cons_of_mem _ hp)) rfl
end
theorem d_asgG {te : TE} {g : TG} {ts : TS} {D : Ends} {σ : L2.St} {H : Hp} (h : te σ H fun x H1 => g x σ H1 (ts D)) : tSeq (tAsg te g) ts D σ H := h
theorem d_ifl {tt : TT} {t u : TS} {D : Ends} {σ : L2.St} {H : Hp} (h : tt σ H fun b H1 => if b = true then t D σ H1 else u D σ H1) : tIfS tt t u D σ H := h
end DL
set_option Elab.async false
set_option linter.all false
set_option maxRecDepth 100000
/-! enumerate over a tuple: the call, the walk, the loop. -/
namespace EN
open PySem PySem.Spec PyProof.Rows L2 Evl
open Sem (wp)
set_option maxHeartbeats 1000000 in
theorem meets_enumT {v : Value} {o : Obj} {HB : Heap → Prop} (B : Begins v o HB) :
    Meets (Builtin.«enumerate.__new__» ⟨[.type "enumerate", v], []⟩) (fun _ R s => HB s.heap ∧
      R (.ok (.ret (.ref (s.heap.push o).objs.size)))
        { s with heap := (s.heap.push o).push { cls := .type "enumerate", data := .fields #[.none, .bool false, .ref s.heap.objs.size, rawInt 0, .none, .none] } }) :=
  .of_wp fun prog w A R s st => by
    obtain ⟨hp, gl, dd, tk, os⟩ := s; obtain ⟨st1, st⟩ := st
    have hsub2 := sub_enumerate
    have qi : ∀ {A' : Around} {E Q : Value → Shared → Prop}, Q (.ref hp.objs.size) ⟨hp.push o, gl, dd, tk, os⟩ → wpAny (model prog w) A' (pyIter v) Q E ⟨hp, gl, dd, tk, os⟩ :=
      fun q => B.iter prog w _ _ ⟨hp, gl, dd, tk, os⟩ _ st1 q
    wp_walk using qi
    refine wpAny_stack_any fun sk => wpAny_pure ?_
    split
    · rename_i c _ _ _ _ _
      cases (c == Value.type "enumerate")
      · wp_walk using qi
        exact ⟨_, rfl, st⟩
      · wp_walk using qi
        exact ⟨_, rfl, st⟩
    · wp_walk using qi
      exact ⟨_, rfl, st⟩
theorem call_enumT {prog : Program} {w : World} {A : Around} {E : Value → Shared → Prop} {s : Shared} {t : Addr} {items : Array Value} {Q : Value → Shared → Prop} (hT : s.heap.IsTuple t items)
    (k : ∀ g, IsEnum g (s.heap.objs.size + 1) s.heap.objs.size 0 .none → g.IsTupleIter s.heap.objs.size t 0 → g.objs.size = s.heap.objs.size + 2 →
      (∀ b o, s.heap.get? b = some o → g.get? b = some o) → Q (.ref (s.heap.objs.size + 1)) { s with heap := g }) :
    wpAny (model prog w) A (call (.type "enumerate") [.ref t]) Q E s := by
  refine callType_new F.called_enumerate (by decide) (F.typeCall_enumerate_1 _) (F.newCall_enumerate_1 _) (fun ob => F.args_object_init_2 ob _) F.entry_enumerate_new
    (meets_enumT (begins_tuple t items)) ⟨hT, ?_⟩
  have z1 : (s.heap.push { cls := .type "tuple_iterator", data := .fields #[.ref t, .int 0 0] }).objs.size = s.heap.objs.size + 1 := Heap.size_push ..
  show _ ∧ _
  rw [z1]
  have he1 : IsEnum ((s.heap.push { cls := .type "tuple_iterator", data := .fields #[.ref t, .int 0 0] }).push
      { cls := .type "enumerate", data := .fields #[.none, .bool false, .ref s.heap.objs.size, rawInt 0, .none, .none] }) (s.heap.objs.size + 1) s.heap.objs.size 0 .none := by
    have q := Heap.get?_push_size (s.heap.push { cls := .type "tuple_iterator", data := .fields #[.ref t, .int 0 0] })
      (o := { cls := .type "enumerate", data := .fields #[.none, .bool false, .ref s.heap.objs.size, rawInt 0, .none, .none] }) rfl
    rw [z1] at q; exact q
  refine ⟨⟨_, he1, rfl⟩, k _ he1 ⟨_, Heap.get?_push_of_some _ (Heap.get?_push_size _ rfl), rfl, rfl⟩ (by rw [Heap.size_push, z1]) fun b o x => Heap.get?_push_of_some _ (Heap.get?_push_of_some _ x)⟩
/-- the tuple at a, each item in a new pair -/
def IteT (K : PySem.W.Frag) (a : Addr) : It :=
  ⟨fun i H => ∃ (xs : List V) (x : V), SqT K H a xs ∧ xs[i]? = some x, fun i H v H' => ∃ T x, v = .ref T ∧ H T = none ∧ H' = upd H T (.tup [.int (i : Nat), x]) ∧ ∀ xs, SqT K H a xs → xs[i]? = some x, fun i H => ∃ xs : List V, SqT K H a xs ∧ xs.length ≤ i⟩
theorem turn_enumT {P : Program} {w : World} {K : PySem.W.Frag} {elts : List Expr} {kk : Nat} {tpos : Pos} (a e it : Addr) :
    Turn P w K (.Tuple elts kk tpos) (IteT K a) [e, it] e (fun i h => (∃ old, IsEnum h e it ((i : Nat) : Int) old) ∧ h.IsTupleIter it a i ∧ e ≠ it ∧ a ≠ e ∧ a ≠ it) where
  mem := by simp
  obj := fun i h st b hb => by
    obtain ⟨⟨old, he⟩, ⟨o, ho, hc, hd⟩, _⟩ := st
    rcases (by simpa using hb : b = e ∨ b = it) with z | z
    · rw [z]; exact ⟨_, he, fun v q => nomatch q⟩
    · rw [z]; exact ⟨o, ho, fun v q => by rw [hd] at q; cases q⟩
  keep := fun i h h' st k => let ⟨⟨old, he⟩, hi, hne⟩ := st; ⟨⟨old, k e (by simp) _ he⟩, hi.at fun o q => k it (by simp) o q, hne⟩
  item := by
    intro X hP hw hK hc i pins s σ H E I hf st hg
    subst hP hw hK
    obtain ⟨⟨old, he⟩, hit, hne, n1, n2⟩ := st
    obtain ⟨xs, x, hq, hx⟩ := hg
    obtain ⟨its, rv, p, hz⟩ := I.tuple hq
    obtain ⟨u, hu, ru⟩ := rv.get hx
    have p' : s.heap.IsTuple a its.toArray := p
    have hel : e < s.heap.objs.size := Heap.lt_size he
    have hil : it < s.heap.objs.size := by obtain ⟨_, q, _⟩ := hit; exact Heap.lt_size q
    have hlt : i < its.toArray.size := by
      have := (List.getElem?_eq_some_iff.mp hu).1
      simpa using this
    refine wpAny_pyNext_enum_itemD (Draws.tuple (prog := X.prog) (w := X.w) (A := X.A.in1) (show X.A.in1.handled = none from I.ok.hd hc) it a n2 its.toArray) he ⟨hit, p'⟩ hlt hne (fp := [it, a]) (fun q => by
      rcases (by simpa using q : e = it ∨ e = a) with z | z
      · exact hne z
      · exact n1 z.symm) fun y g tk hy ho hst hT hsz hk => ?_
    have ey : y = u := by
      have h1 : its.toArray[i]? = some u := by simpa using hu
      rw [h1] at hy
      exact (Option.some.inj hy).symm
    subst ey
    refine ⟨_, rfl, wpAny_letOwnedTupleGo_enum (s := { s with heap := g, toks := tk + 1 }) ho fun g2 he2 sb => ?_⟩
    have hT2 : g2.get? s.heap.objs.size = some { cls := .type "tuple", data := .seq #[.int i tk, y] } := (sb.2 _ (Nat.ne_of_gt hel)).trans hT
    have new : ObjOk X.prog X.w (upd H s.heap.objs.size (.tup [.int (i : Nat), x])) g2 s.heap.objs.size (.tup [.int (i : Nat), x]) :=
      ⟨by show 2 ≤ sizeLine; decide, [.int i tk, y], .cons ⟨_, rfl⟩ (.cons ru .nil), ⟨_, hT2, rfl, _, rfl⟩⟩
    have J1 : Inv X pins σ (upd H s.heap.objs.size (.tup [.int (i : Nat), x])) { s with heap := g2, toks := tk + 1 } :=
      I.turnedNew (ch := [e, it]) (fun b ob hb q => (sb.2 b (fun z => hb (by simp [z]))).trans (hk b ob (fun z => hb (by simp [z])) (fun z => hb (by simp [z])) q)) hf (Nat.le_refl _) new
    refine ⟨.ref s.heap.objs.size, _, J1, rfl, ⟨_, x, rfl, I.hok.fresh (Nat.le_refl _), rfl, fun ys hy => by rw [I.tuple_inj hy hq]; exact hx⟩, ⟨⟨y, ?_⟩, hst.1.at fun o q => (sb.2 it (Ne.symm hne)).trans q, hne, n1, n2⟩, fun b hb => ?_⟩
    · have e1 : ((i + 1 : Nat) : Int) = (i : Int) + 1 := by omega
      rw [e1]; exact he2
    · have hb' : b < s.heap.objs.size := by
        rcases (by simpa using hb : b = e ∨ b = it) with z | z
        · rw [z]; exact hel
        · rw [z]; exact hil
      rw [upd_ne (Nat.ne_of_lt hb')]
      exact (hf b hb).1
  done := by
    intro X hP hw hK hc i pins s σ H E I hf st hg
    subst hP hw hK
    obtain ⟨⟨old, he⟩, hit, hne, n1, n2⟩ := st
    obtain ⟨xs, hq, hx⟩ := hg
    obtain ⟨its, rv, p, hz⟩ := I.tuple hq
    obtain ⟨f0, f1, f2, f3, f4, f5⟩ := hf it (by simp)
    have hl := rv.length
    have p' : s.heap.IsTuple a its.toArray := p
    have D : Draws X.prog X.w X.A.in1 it [it, a] i (fun _ _ => True) (fun j h => j = i ∧ h.IsTupleIter it a j ∧ h.IsTuple a its.toArray) :=
      { live := fun _ _ st => let ⟨o, ho, _⟩ := st.2.1; ⟨o, ho⟩
        frame := fun _ _ _ st hk => ⟨st.1, st.2.1.at fun o e => hk it (by simp) o e, st.2.2.at fun o e => hk a (by simp) o e⟩
        item := fun j s Q E hi st hQ => absurd st.1 (Nat.ne_of_lt hi)
        done := fun s Q E st hE => wpAny_nextOf_tuple_end (show X.A.in1.handled = none from I.ok.hd hc) st.2.1 st.2.2 (by simp; omega) hE }
    exact wpAny_pyNext_enum_endD D he ⟨rfl, hit, p'⟩ fun g eb => ⟨rfl, I.turned (t' := s.toks) (fun b o hb q => eb b o hb q) f0 f1 f3 f4 f5⟩
  self := fun A i s Q E st h => let ⟨⟨_, he⟩, _⟩ := st; wpAny_pyIter_enum he h
def iEnumT (K : PySem.W.Frag) (ta : TA) : TI := fun σ H R => ta σ H fun vs H1 => ∃ a xs, vs = [.ref a] ∧ SqT K H1 a xs ∧ R (IteT K a) H1
theorem pi_enumT {X : Cx} {e : Expr} {ta : TA} {p pos tpos : Pos} {elts : List Expr} {kk : Nat} (hg : Gl X "enumerate") (hm : X.mg "enumerate" = none) (ha : PA X [e] ta) (hs : starEach [e] X.env = [(false, eval e X.env)] := by rfl) :
    PI X (.Tuple elts kk tpos) (.Call (.Name "enumerate" p) [e] [] pos) (iEnumT X.K ta) := by
  refine ⟨fun pins s σ H R I h => ?_⟩
  refine Call_ (ld_blt I hg hm boot_enumerate (PyProof.Rows.callWith_type1 (thn (ha.run pos pins s σ H _ I h) fun us t1 ⟨vs, H1, I1, r1, q1⟩ => ?_) hs rfl))
  obtain ⟨a, xs, ex, hq, q⟩ := q1
  subst ex
  cases r1 with
  | cons r rr =>
    cases rr
    cases r
    obtain ⟨its, rv, p1, hz⟩ := I1.tuple hq
    have p' : t1.heap.IsTuple a its.toArray := p1
    have ha : a < t1.heap.objs.size := by obtain ⟨o, ho, _⟩ := id p'; exact Heap.lt_size ho
    refine call_enumT p' fun g he hit hsz hk => wpAny_pyIter_enum he ?_
    have J : Inv X pins σ H1 { t1 with heap := g } := I1.kept (t' := t1.toks) hk
    refine ⟨t1.heap.objs.size + 1, [t1.heap.objs.size + 1, t1.heap.objs.size], _, _, H1, rfl, J, turn_enumT a (t1.heap.objs.size + 1) t1.heap.objs.size, ⟨⟨.none, he⟩, hit, Nat.succ_ne_self _, Nat.ne_of_lt (Nat.lt_succ_of_lt ha), Nat.ne_of_lt ha⟩, fun b hb => ?_, q⟩
    have hle : t1.heap.objs.size ≤ b := by
      rcases (by simpa using hb : b = t1.heap.objs.size + 1 ∨ b = t1.heap.objs.size) with z | z
      · rw [z]; exact Nat.le_succ _
      · rw [z]; exact Nat.le_refl _
    exact I1.fpOk hle (I1.hok.fresh hle)
theorem for_enumT {K : PySem.W.Frag} {a : Addr} {xs : List V} {g : TG} {tb : TS} {D : Ends} {σ : L2.St} {H : Hp} (Pv : Nat → L2.St → Hp → Prop) (h0 : Pv 0 σ H) (hq : ∀ i σ H, Pv i σ H → SqT K H a xs)
    (hs : ∀ (i : Nat) (x : V) (T : Addr) (σ : L2.St) (H : Hp), xs[i]? = some x → Pv i σ H → H T = none → g (.ref T) σ (upd H T (.tup [.int (i : Nat), x])) fun σ2 H2 => tb { D with nx := Pv (i + 1), ct := Pv (i + 1), bk := D.nx } σ2 H2) (hd : ∀ σ H, Pv xs.length σ H → D.nx σ H) :
    ∃ W : Nat → Nat → L2.St → Hp → Prop, (∃ m, W 0 m σ H) ∧ ∀ i m σ H, W i m σ H →
      ((IteT K a).stop i H ∧ D.nx σ H) ∨ ((IteT K a).go i H ∧ ∃ N : L2.St → Hp → Prop, (∀ σ' H', N σ' H' → ∃ m', m' < m ∧ W (i + 1) m' σ' H') ∧ ∀ v H', (IteT K a).yld i H v H' → g v σ H' fun σ2 H2 => tb { D with nx := N, ct := N, bk := D.nx } σ2 H2) := by
  refine ⟨fun i m σ H => m = xs.length - i ∧ i ≤ xs.length ∧ Pv i σ H, ⟨xs.length, rfl, Nat.zero_le _, h0⟩, ?_⟩
  rintro i m σ H ⟨rfl, hi, p⟩
  have qx := hq i σ H p
  by_cases hlt : i < xs.length
  · have hx : xs[i]? = some xs[i] := List.getElem?_eq_getElem hlt
    refine .inr ⟨⟨xs, _, qx, hx⟩, Pv (i + 1), fun σ' H' p' => ⟨xs.length - (i + 1), by omega, rfl, hlt, p'⟩, fun v H' y => ?_⟩
    obtain ⟨T, x', rfl, hT, rfl, f1⟩ := y
    exact hs i x' T σ H (f1 xs qx) p hT
  · have e : i = xs.length := by omega
    subst e
    exact .inl ⟨⟨xs, qx, Nat.le_refl _⟩, hd σ H p⟩
end EN
set_option Elab.async false
set_option linter.all false
set_option maxRecDepth 100000
/-! A loop with enumerate over a tuple of data. -/
namespace DL
open PySem PySem.Spec PyProof.Rows L2 Evl TB EN
section
variable {W : Wd} {H0 : Hp} {ρ : List (Option Sl)} {te : TE} {K : PySem.W.Frag}
theorem d_forE {te : TE} {g : TG} {tb : TS} {D : Ends} {σ : L2.St} {H : Hp} (h : te σ H fun v H => ∃ a xs, [v] = [V.ref a] ∧ SqT K H a xs ∧ ∃ Wx : Nat → Nat → L2.St → Hp → Prop, (∃ m, Wx 0 m σ H) ∧ ∀ i' m σ H, Wx i' m σ H → ((IteT K a).stop i' H ∧ D.nx σ H) ∨
      ((IteT K a).go i' H ∧ ∃ N : L2.St → Hp → Prop, (∀ σ' H', N σ' H' → ∃ m', m' < m ∧ Wx (i' + 1) m' σ' H') ∧ ∀ x H', (IteT K a).yld i' H x H' → g x σ H' fun σ2 H2 => tb { D with nx := N, ct := N, bk := D.nx } σ2 H2)) :
    tFor (iEnumT K (tCons te tNil)) g tb D σ H := h
theorem for_enumD {ds : List PyData} {i j : Nat} {tb : TS} {D : Ends} {τ : List (V × PyData)} {l : List (Addr × List PyData)} {σ : L2.St} {H : Hp} (he : EvP W H0 te ρ (· = .tuple ds)) (S : St W H0 ρ τ l σ H) (J : Nat → Prop) (Qr : List (Option Sl) → Prop) (hJ : J 0) (hQ : Qr ρ)
    (hs : ∀ (G : Hp) (k : Nat) (v : V) (d : PyData) (ρ' : List (Option Sl)) (σ' : L2.St) (H' : Hp), (∀ b o, H0 b = some o → ¬ W.N b → G b = some o) → (∀ b, G b = none → H0 b = none) → ds[k]? = some d → J k → Qr ρ' →
      St W G ((ρ'.set i (some (.dat (.int (k : Nat))))).set j (some (.dat d))) ((v, .tuple ds) :: τ) l σ' H' → ∀ Nx : L2.St → Hp → Prop, (∀ ρ2 σ2 H2, J (k + 1) → Qr ρ2 → St W G ρ2 ((v, .tuple ds) :: τ) l σ2 H2 → Nx σ2 H2) → tb { D with nx := Nx, ct := Nx, bk := D.nx } σ' H')
    (hd : ∀ v ρ' σ' H', J ds.length → Qr ρ' → St W H0 ρ' ((v, .tuple ds) :: τ) l σ' H' → D.nx σ' H') :
    tFor (iEnumT K (tCons te tNil)) (gTup K 2 (gCons (gName i) (gCons (gName j) gNil))) tb D σ H := by
  refine d_forE ?_
  refine he τ l σ H S _ fun v e H1 S1 p => ?_
  subst p
  obtain ⟨a, xs, rfl, hA, hlen, hna, u1, u2, B⟩ := S1.baseT
  have keep : ∀ {τ' l' σ' H' ρ'}, St W (upd H0 a (.tup xs)) ρ' τ' l' σ' H' → H' a = some (.tup xs) := fun S => S.off a _ upd_same hna
  refine ⟨a, xs, rfl, .inl (.inl hA), for_enumT (K := K) (a := a) (xs := xs) (fun k σ' H' => ∃ ρ', J k ∧ Qr ρ' ∧ St W (upd H0 a (.tup xs)) ρ' ((.ref a, .tuple ds) :: τ) l σ' H') ⟨ρ, hJ, hQ, B⟩ (fun k σ' H' h => ?_) (fun k x T σ' H' hx h hT => ?_) (fun σ' H' h => ?_)⟩
  · obtain ⟨ρ', _, _, S2⟩ := h
    exact .inl (.inl (keep S2))
  · obtain ⟨ρ', hj, hq, S2⟩ := h
    have hAk := keep S2
    obtain ⟨d, hd', S3⟩ := S2.item (xs := xs) (ds := ds) (fun N r => by
      cases r with
      | tup q1 q2 q3 => rw [hAk] at q1; cases q1; exact q3) hx
    have ex := Ex.new (o := .tup [.int (k : Nat), x]) hT
    obtain ⟨N', m3, m5, m4, q'⟩ := S3.ext
    have S4 := q' (upd H' T (.tup [.int (k : Nat), x])) ((.int (k : Nat), .int (k : Nat)) :: (x, d) :: (.ref a, .tuple ds) :: τ) ex fun p hp => by
      rcases List.mem_cons.mp hp with rfl | hp
      · exact .int _
      · exact (m5 p hp).ex ex
    refine ⟨T, _, rfl, .inl (.inl upd_same), rfl, _, _, rfl, _, _, rfl, rfl, ?_⟩
    exact hs _ k (.ref a) d ρ' _ _ u1 u2 hd' hj hq ((S4.set (i := i)).set (i := j)) _ fun ρ2 σ2 H2 h1 h2 h3 => ⟨ρ2, h1, h2, h3⟩
  · obtain ⟨ρ', hj, hq, S2⟩ := h
    rw [hlen] at hj
    exact hd _ ρ' σ' H' hj hq (S2.unbase u1 u2)
theorem d_forR {te : TE} {g : TG} {tb : TS} {D : Ends} {σ : L2.St} {H : Hp} (h : te σ H fun v H => ∃ n : Int, [v] = [V.int n] ∧ -(2 ^ 62) ≤ n ∧ n < 2 ^ 62 ∧ ∃ Wx : Nat → Nat → L2.St → Hp → Prop, (∃ m, Wx 0 m σ H) ∧ ∀ i' m σ H, Wx i' m σ H → ((Itr 0 n.toNat).stop i' H ∧ D.nx σ H) ∨
      ((Itr 0 n.toNat).go i' H ∧ ∃ N : L2.St → Hp → Prop, (∀ σ' H', N σ' H' → ∃ m', m' < m ∧ Wx (i' + 1) m' σ' H') ∧ ∀ x H', (Itr 0 n.toNat).yld i' H x H' → g x σ H' fun σ2 H2 => tb { D with nx := N, ct := N, bk := D.nx } σ2 H2)) :
    tFor (iRng1 (tCons te tNil)) g tb D σ H := h
/-- for i in range(n) -/
theorem for_rangeD {n : Nat} {i : Nat} {tb : TS} {D : Ends} {τ : List (V × PyData)} {l : List (Addr × List PyData)} {σ : L2.St} {H : Hp} (he : EvP W H0 te ρ (· = .int n)) (hn : n ≤ 1000) (S : St W H0 ρ τ l σ H) (J : Nat → Prop) (Qr : List (Option Sl) → Prop) (hJ : J 0) (hQ : Qr ρ)
    (hs : ∀ (k : Nat) (ρ' : List (Option Sl)) (σ' : L2.St) (H' : Hp), k < n → J k → Qr ρ' →
      St W H0 (ρ'.set i (some (.dat (.int (k : Nat))))) τ l σ' H' → ∀ Nx : L2.St → Hp → Prop, (∀ ρ2 σ2 H2, J (k + 1) → Qr ρ2 → St W H0 ρ2 τ l σ2 H2 → Nx σ2 H2) → tb { D with nx := Nx, ct := Nx, bk := D.nx } σ' H')
    (hd : ∀ ρ' σ' H', J n → Qr ρ' → St W H0 ρ' τ l σ' H' → D.nx σ' H') :
    tFor (iRng1 (tCons te tNil)) (gName i) tb D σ H := by
  refine d_forR ?_
  refine he τ l σ H S _ fun v e H1 S1 p => ?_
  subst p
  obtain ⟨N, n3, n5, n4, q⟩ := S1.ext
  have hv := n5 _ List.mem_cons_self
  cases hv
  refine ⟨n, rfl, by omega, by omega, ?_⟩
  refine for_range (lo := 0) (n := (n : Int).toNat) (fun k σ' H' => ∃ ρ', J k ∧ Qr ρ' ∧ St W H0 ρ' τ l σ' H') ⟨ρ, hJ, hQ, S1.pop⟩ (fun k σ' H' hk h => ?_) (fun σ' H' h => ?_)
  · obtain ⟨ρ', hj, hq, S2⟩ := h
    obtain ⟨N', m3, m5, m4, q'⟩ := S2.ext
    have S3 := q' H' ((.int (0 + (k : Int)), .int (k : Nat)) :: τ) ex_refl fun p hp => by
      rcases List.mem_cons.mp hp with rfl | hp
      · rw [Int.zero_add]; exact .int _
      · exact m5 p hp
    exact hs k ρ' _ _ (by omega) hj hq (S3.set (i := i)) _ fun ρ2 σ2 H2 h1 h2 h3 => ⟨ρ2, h1, h2, h3⟩
  · obtain ⟨ρ', hj, hq, S2⟩ := h
    exact hd ρ' σ' H' (by simpa using hj) hq S2
end
/-! ### the first that is told -/
def firstE (n : Nat) (f : Nat → Option PyData) : PyData := ((List.range n).findSome? f).getD .none
theorem first_none {n : Nat} {f : Nat → Option PyData} (h : ∀ k, k < n → f k = none) : firstE n f = .none := by
  unfold firstE
  have : (List.range n).findSome? f = none := by
    rw [List.findSome?_eq_none_iff]
    exact fun x hx => h x (List.mem_range.mp hx)
  rw [this]; rfl
theorem first_at {f : Nat → Option PyData} {i : Nat} {r : PyData} (h : ∀ k, k < i → f k = none) (hi : f i = some r) : ∀ n, i < n → (List.range n).findSome? f = some r
  | 0, h0 => absurd h0 (Nat.not_lt_zero _)
  | n + 1, h0 => by
    rw [List.range_succ, List.findSome?_append]
    by_cases z : i < n
    · rw [first_at h hi n z]; rfl
    · have : i = n := by omega
      subst this
      have e : (List.range i).findSome? f = none := by
        rw [List.findSome?_eq_none_iff]
        exact fun x hx => h x (List.mem_range.mp hx)
      rw [e, List.findSome?_cons, hi]; rfl
theorem first_eq {n i : Nat} {f : Nat → Option PyData} {r : PyData} (h : ∀ k, k < i → f k = none) (hi : f i = some r) (hn : i < n) : firstE n f = r := by
  unfold firstE
  rw [first_at h hi n hn]; rfl
theorem opd_isN {e : PyData} : OpD rIsN e .none (· = .bool (match e with | .none => true | _ => false)) := fun N H v1 v2 _ r1 r2 => by
  cases r2
  cases r1 <;> exact res_rfl (.bl _) fun Q q => ⟨rfl, q⟩
theorem opd_notN {e : PyData} : OpD rNotN e .none (· = .bool (!(match e with | .none => true | _ => false))) := fun N H v1 v2 _ r1 r2 => by
  cases r2
  cases r1 <;> exact res_rfl (.bl _) fun Q q => ⟨rfl, q⟩
end DL
set_option Elab.async false
set_option linter.all false
set_option maxRecDepth 100000
/-! Own errors with one field: made, raised, caught; defs that may raise, over data. -/
namespace TB
open PySem PySem.Spec PyProof.Rows L2
/-- __init__(self, f): self.f = f -/
def spIni (C : Addr) (f : Str) : Sp := fun vs H Q _ => ∃ (a : Addr) (v : V), vs = [.ref a, v] ∧ H a = some (exo a C none) ∧ ∀ dx, H dx = none → dx ≠ a → Q .non (upd (upd H dx (exd dx [(f, v)])) a (exo a C (some dx)))
/-- what the text tells of an own error class at C, the field f -/
structure ErrC (P : Program) (w : World) (K : PySem.W.Frag) (mg : Str → Option Value) (base : Heap) (x f : Str) (C : Addr) : Prop where
  g : mg x = some (.ref C)
  T : OexC K C
  xf : XfC K C
  no : PySem.W.findIn K (.ref C) f = some none
  te : PySem.W.exmOne K (.ref C) (.ref C) = some true
  init : ∃ (fI : Addr) (fd : FuncData) (ps : List Str), PySem.W.findIn K (.ref C) "__init__" = some (some (.ref fI)) ∧ PySem.W.typeIn K (.ref fI) = some (.type "function") ∧ Binds K fd ps [] ∧ FnOk P w K mg base CX0 1 fI fd ps (spIni C f)
theorem raise_at {C : Addr} {f : Str} {v : V} {H1 : Hp} {Q : XK} (h : ∀ d, H1 d = none → Q (.ref C) (some d) (upd H1 d (.xd [(f, v)]))) :
    [v].length ≤ 1000 ∧ ∀ a, H1 a = none → spIni C f (.ref a :: ([v] ++ [])) (upd H1 a (exo a C none))
      (fun u H2 => u = .non ∧ ∃ (d : Addr) (fs : List (Str × V)), H2 a = some (exo a C (some d)) ∧ H2 d = some (exd d fs) ∧ H1 d = none ∧ Q (.ref C) (some d) (upd (del H2 a) d (.xd fs))) (fun _ _ _ => False) := by
  refine ⟨(show 1 ≤ 1000 by decide), fun a ha => ⟨a, v, rfl, upd_same, fun dx hd hne => ⟨rfl, dx, _, upd_same, by rw [upd_ne hne, upd_same], ?_, ?_⟩⟩⟩
  · rwa [upd_ne hne] at hd
  · have hd' : H1 dx = none := by rwa [upd_ne hne] at hd
    have e : upd (del (upd (upd (upd H1 a (exo a C none)) dx (exd dx [(f, v)])) a (exo a C (some dx))) a) dx (.xd [(f, v)]) = upd H1 dx (.xd [(f, v)]) := by
      funext b
      by_cases z : b = dx
      · rw [z, upd_same, upd_same]
      · rw [upd_ne z, upd_ne z]
        by_cases y : b = a
        · rw [y, del_same, ha]
        · rw [del_ne y, upd_ne y, upd_ne z, upd_ne y]
    rw [e]
    exact h dx hd'
/-- raise x(e) -/
def tRaiseF (C : Addr) (f : Str) (W : WX) (ta : TA) : TS := fun _ σ H => tMkO C (spIni C f) [] ta σ H fun cls d H' => W cls d σ H'
theorem ps_raiseF {X : Cx} {W : WX} {x f : Str} {C : Addr} {e : Expr} {ta : TA} {p pos pos2 : Pos} (hc : X.calm = true) (G : ErrC X.prog X.w X.K X.mg X.base x f C) (hr : Room 2 X.A) (tk : Takes X W) (hg : Gl X x) (ha : PA X [e] ta)
    (hdb : (x == ("__debug__" : Str)) = false := by decide) (he : starEach (e :: []) X.env = (false, eval e X.env) :: starEach [] X.env := by rfl) (hpl : (backTo pos (starEach [] X.env)).any (·.1) = false := by rfl) :
    PS X (.Raise (some (.Call (.Name x p) [e] [] pos)) none pos2) (tRaiseF C f W ta) := by
  obtain ⟨fI, fd, ps, iC, tI, b, F1⟩ := G.init
  exact ps_raise hc tk (pmk_oex G.T iC tI F1 hr b .nil pass0 hg G.g ha hdb he hpl)
/-- a def that may raise -/
def KeepsX (P : Program) (w : World) (K : PySem.W.Frag) (mg : Str → Option Value) (base : Heap) (k : Nat) (x : Str) (ps : List Str) (sp : Sp) : Prop :=
  ∃ (f : Addr) (fd : FuncData), mg x = some (.ref f) ∧ PySem.W.keepIn K (.ref f) = true ∧ Binds K fd ps [] ∧ FnOk P w K mg base (L2.CX P w) k f fd ps sp
theorem keepsX_of {P : Program} {w : World} {K : PySem.W.Frag} {mg : Str → Option Value} {base : Heap} {k : Nat} {x q : Str} {st : Stmt} {f : Addr} {fd : FuncData} {ps : List Str} {sp : Sp}
    (F : Fun K x q st f fd) {y : Str} (g : mg y = some (.ref f)) (b : Binds K fd ps []) (G : FnOk P w K mg base (L2.CX P w) k f fd ps sp) : KeepsX P w K mg base k y ps sp := ⟨f, fd, g, F.kp, b, G⟩
theorem pe_ownX {X : Cx} {W : WX} {k : Nat} {x : Str} {ps : List Str} {sp : Sp} {e : Expr} {es : List Expr} {t : TA} {p pos : Pos}
    (h : KeepsX X.prog X.w X.K X.mg X.base k x ps sp) (hr : Room k X.A) (tk : Takes X W) (hg : Gl X x) (ha : PA X (e :: es) t) (hdb : (x == ("__debug__" : Str)) = false := by decide)
    (he : starEach (e :: es) X.env = (false, eval e X.env) :: starEach es X.env := by rfl) (hpl : (backTo pos (starEach es X.env)).any (·.1) = false := by rfl) :
    PE X (.Call (.Name x p) (e :: es) [] pos) (tCallS sp (WE W) t) := by
  obtain ⟨f, fd, g, kp, b, G⟩ := h
  exact pe_callS G hr hg g kp b (fun σ => passAt tk σ) ha hdb he hpl
/-- an error of the class at S is what «except S» names -/
theorem exm_own {K : PySem.W.Frag} {S : Addr} (h1 : PySem.W.subIn K (.ref S) (.type "BaseException") = some true) (h2 : PySem.W.isClsIn K S = true) (h3 : PySem.W.typeIn K (.ref S) = some (.type "type")) (h4 : PySem.W.subIn K (.ref S) (.ref S) = some true) :
    PySem.W.exmOne K (.ref S) (.ref S) = some true := by
  have a : (PySem.W.subIn K (.ref S) (.type "BaseException") == some true) = true := by rw [h1]; rfl
  have b : ((PySem.W.clsIn K S).isSome && PySem.W.typeIn K (.ref S) == some (.type "type")) = true := by
    have z : (PySem.W.clsIn K S).isSome = true := h2
    rw [z, h3]; rfl
  unfold PySem.W.exmOne
  rw [if_pos a]
  show (if _ then _ else _) = _
  rw [if_pos b]
  exact h4
end TB
namespace DL
open PySem PySem.Spec PyProof.Rows L2 Evl TB
/-- a def upon data that changes nothing and may raise the error at C: with A its value is one of F, or the error's field is one of G -/
def SpX (C : Addr) (f : Str) (A : List PyData → Prop) (F G : List PyData → PyData → Prop) : Sp := fun vs H Q E => ∃ N es, NOk N H ∧ RgAll N H vs es ∧ A es ∧ (∀ v e H', Ex H H' → Rg N H' v e → F es e → Q v H') ∧
  ∀ d v e H', H' d = some (.xd [(f, v)]) → Ex H H' → Rg N H' v e → G es e → E (.ref C) (some d) H'
section
variable {W : Wd} {H0 : Hp} {ρ : List (Option Sl)} {te : TE} {tas : TA} {P : PyData → Prop} {PA : List PyData → Prop} {C : Addr} {f : Str} {A : List PyData → Prop} {F G : List PyData → PyData → Prop}
theorem call_X {E : L2.St → XK} {τ : List (V × PyData)} {l : List (Addr × List PyData)} {σ : L2.St} {H : Hp} {Q : VK} (ha : EvA W H0 tas ρ PA) (hA : ∀ es, PA es → A es) (S : St W H0 ρ τ l σ H)
    (kq : ∀ v e es H', St W H0 ρ ((v, e) :: τ) l σ H' → PA es → F es e → Q v H') (ke : ∀ d v e es H', St W H0 ρ ((v, e) :: τ) l σ H' → H' d = some (.xd [(f, v)]) → PA es → G es e → E σ (.ref C) (some d) H') :
    tCallS (SpX C f A F G) E tas σ H Q :=
  ha τ l σ H S _ fun vs es H1 S1 le pa => by
    obtain ⟨N, n3, n5, n4, q⟩ := S1.ext
    have more : ∀ {v e H'}, Ex H1 H' → Rg N H' v e → St W H0 ρ ((v, e) :: τ) l σ H' := fun {v e H'} x r => q H' _ x fun p hp => by
      rcases List.mem_cons.mp hp with rfl | hp
      · exact r
      · exact (n5 p (List.mem_append_right _ hp)).ex x
    exact ⟨N, es, n3, zip_all le fun p hp => n5 p (List.mem_append_left _ hp), hA es pa, fun v e H' x r h => kq v e es H' (more x r) pa h, fun d v e H' hd x r h => ke d v e es H' (more x r) hd pa h⟩
theorem raise_X {Wx : WX} {τ : List (V × PyData)} {l : List (Addr × List PyData)} {σ : L2.St} {H : Hp} {D : Ends} (ha : EvP W H0 te ρ P) (S : St W H0 ρ τ l σ H)
    (k : ∀ d v e H', St W H0 ρ ((v, e) :: τ) l σ H' → H' d = some (.xd [(f, v)]) → P e → Wx (.ref C) (some d) σ H') : tRaiseF C f Wx (tCons te tNil) D σ H :=
  ha τ l σ H S _ fun v e H1 S1 p => raise_at (C := C) (f := f) (v := v) (H1 := H1) (Q := fun cls d H' => Wx cls d σ H') fun d hd => by
    obtain ⟨N, n3, n5, n4, q⟩ := S1.ext
    exact k d v e _ (q _ ((v, e) :: τ) (Ex.new hd) fun p hp => (n5 p hp).ex (Ex.new hd)) upd_same p
end
end DL
set_option Elab.async false
set_option linter.all false
set_option maxRecDepth 100000
/-! Texts of sides told otherwise: by words between the signs x. Plain mathematics. -/
namespace TB
open PySem PySem.Spec PyProof.Rows L2
/-! ### sign by sign -/
def run : List Nat → Int → Nat → List Int → Nat → Except Nat (List Int)
  | [], a, _, acc, p => if a = 0 then .error p else .ok (acc ++ [a])
  | c :: r, a, k, acc, p =>
    if 48 ≤ c ∧ c ≤ 57 ∧ 1 ≤ a * 10 + ((c : Int) - 48) ∧ a * 10 + ((c : Int) - 48) ≤ MS then run r (a * 10 + ((c : Int) - 48)) k acc (p + 1)
    else if c = 120 ∧ a ≠ 0 ∧ 0 < k then run r 0 (k - 1) (acc ++ [a]) (p + 1) else .error p
theorem run_scan : ∀ (l : List Nat) (a : Int) (k : Nat) (acc : List Int) (p : Nat),
    run l a k acc p = match l.drop ((scan l a p).2 - p) with
      | [] => if (scan l a p).1 = 0 then .error (scan l a p).2 else .ok (acc ++ [(scan l a p).1])
      | c :: r => if c = 120 ∧ (scan l a p).1 ≠ 0 ∧ 0 < k then run r 0 (k - 1) (acc ++ [(scan l a p).1]) ((scan l a p).2 + 1) else .error (scan l a p).2
  | [], a, k, acc, p => by
    rw [run, scan]
    simp
  | c :: l, a, k, acc, p => by
    rw [run, scan]
    by_cases h : 48 ≤ c ∧ c ≤ 57 ∧ 1 ≤ a * 10 + ((c : Int) - 48) ∧ a * 10 + ((c : Int) - 48) ≤ MS
    · rw [if_pos h, if_pos h, run_scan l _ k acc (p + 1)]
      have := (scan_rng l (a * 10 + ((c : Int) - 48)) (p + 1) (by omega) h.2.2.2).2.2.1
      have e : (scan l (a * 10 + ((c : Int) - 48)) (p + 1)).2 - p = ((scan l (a * 10 + ((c : Int) - 48)) (p + 1)).2 - (p + 1)) + 1 := by omega
      rw [e, List.drop_succ_cons]
    · rw [if_neg h, if_neg h]
      simp
def fin1 (c : List Nat) : Except Nat (List Int × Nat) → Except Nat (List Int)
  | .ok (ns, q) => if q < c.length then .error q else .ok ns
  | .error q => .error q
theorem sidesL_run (c : List Nat) : ∀ (k : Nat) (acc : List Int) (p : Nat), p ≤ c.length → fin1 c (sidesL c (k + 1) acc p) = run (c.drop p) 0 k acc p := by
  intro k
  induction k with
  | zero =>
    intro acc p hp
    rw [run_scan, sidesL]
    have rng := scan_rng (c.drop p) 0 p (by omega) (by decide)
    rw [List.length_drop] at rng
    generalize scan (c.drop p) 0 p = r at rng
    obtain ⟨a, q⟩ := r
    dsimp only at rng ⊢
    rw [List.drop_drop, show p + (q - p) = q by omega]
    by_cases ha : a = 0
    · rw [if_pos ha]
      cases hd : c.drop q with
      | nil => simp only [if_pos ha]; rfl
      | cons x y => simp only [fin1]; rw [if_neg (fun z => z.2.1 ha)]
    · rw [if_neg ha, if_pos (.inl rfl)]
      cases hd : c.drop q with
      | nil =>
        have := List.drop_eq_nil_iff.mp hd
        simp only [fin1]
        rw [if_neg (by omega), if_neg ha]
      | cons x y =>
        have : q < c.length := by
          refine Classical.byContradiction fun z => ?_
          rw [List.drop_eq_nil_of_le (by omega)] at hd
          cases hd
        simp only [fin1]
        rw [if_pos this, if_neg (fun z => absurd z.2.2 (Nat.lt_irrefl 0))]
  | succ k ih =>
    intro acc p hp
    rw [run_scan, sidesL]
    have rng := scan_rng (c.drop p) 0 p (by omega) (by decide)
    rw [List.length_drop] at rng
    generalize scan (c.drop p) 0 p = r at rng
    obtain ⟨a, q⟩ := r
    dsimp only at rng ⊢
    rw [List.drop_drop, show p + (q - p) = q by omega]
    by_cases ha : a = 0
    · rw [if_pos ha]
      cases hd : c.drop q with
      | nil => simp only [if_pos ha]; rfl
      | cons x y => simp only [fin1]; rw [if_neg (fun z => z.2.1 ha)]
    · rw [if_neg ha]
      cases hd : c.drop q with
      | nil =>
        have := List.drop_eq_nil_iff.mp hd
        rw [if_pos (.inr (.inl (by omega)))]
        simp only [fin1]
        rw [if_neg (by omega), if_neg ha]
      | cons x y =>
        have hq : q < c.length := by
          refine Classical.byContradiction fun z => ?_
          rw [List.drop_eq_nil_of_le (by omega)] at hd
          cases hd
        have hx : c[q]? = some x := by
          have : (c.drop q)[0]? = some x := by rw [hd]; rfl
          rw [List.getElem?_drop] at this
          simpa using this
        have hy : c.drop (q + 1) = y := by
          have : (c.drop q).drop 1 = y := by rw [hd]; rfl
          rw [List.drop_drop] at this
          exact this
        by_cases h120 : x = 120
        · rw [if_neg (by
            intro z
            rcases z with z | z | z
            · omega
            · omega
            · exact z (by rw [hx, h120])), ih (acc ++ [a]) (q + 1) (by omega), hy]
          show _ = if x = 120 ∧ a ≠ 0 ∧ 0 < k + 1 then _ else _
          rw [if_pos ⟨h120, ha, Nat.succ_pos k⟩]
          rfl
        · rw [if_pos (.inr (.inr (by rw [hx]; simpa using h120)))]
          simp only [fin1]
          rw [if_pos hq, if_neg (fun z => h120 z.1)]
theorem sidesL_pos {c : List Nat} : ∀ (m : Nat) (acc : List Int) (p : Nat) (ns : List Int) (q : Nat), sidesL c m acc p = .ok (ns, q) → acc.length + 1 ≤ ns.length
  | 0, _, _, _, _, h => by cases h
  | m + 1, acc, p, ns, q, h => by
    rw [sidesL] at h
    split at h
    · cases h
    · split at h
      · cases h
        rw [List.length_append]; simp
      · have := sidesL_pos m _ _ _ _ h
        rw [List.length_append] at this
        simp at this
        omega
theorem parseS_run (c : List Nat) : parseS c = run c 0 3 [] 0 := by
  have h := sidesL_run c 3 [] 0 (Nat.zero_le _)
  rw [List.drop_zero] at h
  rw [← h]
  unfold parseS sidesAt
  cases e : sidesL c 4 [] 0 with
  | error q => rfl
  | ok r =>
    obtain ⟨ns, q⟩ := r
    have := sidesL_pos _ _ _ _ _ e
    dsimp only
    rw [if_neg (by simp at this; omega)]
    rfl
/-! ### by words -/
/-- the words between the signs b -/
def sp (b : Nat) : List Nat → List (List Nat)
  | [] => [[]]
  | c :: r => if c = b then [] :: sp b r else match sp b r with
    | [] => [[c]]
    | x :: xs => (c :: x) :: xs
theorem sp_ne (b : Nat) : ∀ c : List Nat, sp b c ≠ []
  | [] => by simp [sp]
  | c :: r => by
    rw [sp]
    split
    · simp
    · split <;> simp
theorem sp_gl (b : Nat) : ∀ c : List Nat, gl [b] (sp b c) = c
  | [] => rfl
  | c :: r => by
    have ih := sp_gl b r
    rw [sp]
    split
    · rename_i h
      subst h
      cases e : sp c r with
      | nil => exact absurd e (sp_ne _ _)
      | cons x xs => rw [e] at ih; show [] ++ [c] ++ gl [c] (x :: xs) = _; rw [ih]; rfl
    · split
      · rename_i e; exact absurd e (sp_ne _ _)
      · rename_i x xs e
        rw [e] at ih
        cases xs with
        | nil =>
          have : x = r := ih
          rw [this]; rfl
        | cons y ys =>
          show (c :: x) ++ [b] ++ gl [b] (y :: ys) = c :: r
          rw [← ih]; rfl
theorem sp_free (b : Nat) : ∀ (c : List Nat), ∀ w ∈ sp b c, b ∉ w
  | [], w, h => by
    have : w = [] := by simpa [sp] using h
    rw [this]; simp
  | c :: r, w, h => by
    have ih := sp_free b r
    rw [sp] at h
    split at h
    · rcases List.mem_cons.mp h with rfl | h
      · simp
      · exact ih w h
    · rename_i hc
      split at h
      · rename_i e; exact absurd e (sp_ne _ _)
      · rename_i x xs e
        rw [e] at ih
        rcases List.mem_cons.mp h with rfl | h
        · intro z
          rcases List.mem_cons.mp z with z | z
          · exact hc z.symm
          · exact ih x List.mem_cons_self z
        · exact ih w (List.mem_cons_of_mem _ h)
theorem sp_len (b : Nat) : ∀ (c : List Nat), (∀ w ∈ sp b c, w.length ≤ c.length) ∧ (sp b c).length ≤ c.length + 1
  | [] => ⟨fun w h => by have : w = [] := by simpa [sp] using h
                         rw [this]; exact Nat.zero_le _, Nat.le_refl _⟩
  | c :: r => by
    obtain ⟨i1, i2⟩ := sp_len b r
    rw [sp]
    split
    · refine ⟨fun w h => ?_, by rw [List.length_cons, List.length_cons]; omega⟩
      rcases List.mem_cons.mp h with rfl | h
      · exact Nat.zero_le _
      · exact Nat.le_succ_of_le (i1 w h)
    · split
      · exact ⟨fun w h => by rw [List.mem_singleton.mp h]; simp, by simp⟩
      · rename_i x xs e
        rw [e] at i1 i2
        refine ⟨fun w h => ?_, by rw [List.length_cons] at i2 ⊢; rw [List.length_cons]; omega⟩
        rcases List.mem_cons.mp h with rfl | h
        · have := i1 x List.mem_cons_self
          rw [List.length_cons, List.length_cons]; omega
        · have := i1 w (List.mem_cons_of_mem _ h)
          rw [List.length_cons]; omega
theorem sp_snoc (b : Nat) : ∀ (u : List Nat) (c : Nat) (ws : List (List Nat)) (cur : List Nat), sp b u = ws ++ [cur] → sp b (u ++ [c]) = if c = b then ws ++ [cur] ++ [[]] else ws ++ [cur ++ [c]]
  | [], c, ws, cur, h => by
    have e : ws = [] ∧ cur = [] := by
      cases ws with
      | nil => exact ⟨rfl, by simpa [sp] using h.symm⟩
      | cons x xs => simp [sp] at h
    rw [e.1, e.2]
    show sp b [c] = _
    rw [sp]
    split <;> simp [sp]
  | d :: u, c, ws, cur, h => by
    show sp b (d :: (u ++ [c])) = _
    rw [sp] at h ⊢
    by_cases hd : d = b
    · rw [if_pos hd] at h ⊢
      cases ws with
      | nil =>
        have := (List.cons.inj h).2
        exact absurd this (sp_ne _ _)
      | cons x xs =>
        obtain ⟨h1, h2⟩ := List.cons.inj h
        rw [sp_snoc b u c xs cur h2, ← h1]
        split <;> rfl
    · rw [if_neg hd] at h ⊢
      cases e : sp b u with
      | nil => exact absurd e (sp_ne _ _)
      | cons x xs =>
        rw [e] at h
        dsimp only at h
        cases ws with
        | nil =>
          obtain ⟨h1, h2⟩ := List.cons.inj h
          rw [sp_snoc b u c [] x (by rw [e, h2]; rfl), ← h1]
          by_cases hcb : c = b <;> simp [hcb]
        | cons y ys =>
          obtain ⟨h1, h2⟩ := List.cons.inj h
          rw [sp_snoc b u c (x :: ys) cur (by rw [e, h2]; rfl), ← h1]
          by_cases hcb : c = b <;> simp [hcb]
theorem sp_last (b : Nat) (u : List Nat) : ∃ ws cur, sp b u = ws ++ [cur] := by
  have := sp_ne b u
  exact ⟨(sp b u).dropLast, (sp b u).getLast this, (List.dropLast_concat_getLast this).symm⟩
/-! ### numbers -/
def valN (w : List Nat) : Nat := NumText.digitsVal w
theorem valN_snoc (w : List Nat) (c : Nat) : valN (w ++ [c]) = valN w * 10 + (c - 48) := by
  unfold valN NumText.digitsVal
  rw [List.foldl_append]; rfl
def digB (c : Nat) : Bool := decide (48 ≤ c) && decide (c ≤ 57)
def isNumB (w : List Nat) (whole : Bool) : Bool := if w = [] then !whole else (w.all digB && (!decide (w.head? = some 48))) && (decide (w.length ≤ 13) && decide (valN w ≤ 1000000000000))
structure Gw (w : List Nat) : Prop where
  dig : ∀ c ∈ w, 48 ≤ c ∧ c ≤ 57
  head : w.head? ≠ some 48
  len : w.length ≤ 13
  val : valN w ≤ 1000000000000
theorem gw_nil : Gw [] := ⟨fun _ h => (nomatch h), by simp, by simp, by decide⟩
theorem isNum_gw {w : List Nat} (hw : w ≠ []) (b : Bool) : isNumB w b = true ↔ Gw w := by
  unfold isNumB
  rw [if_neg hw, Bool.and_eq_true, Bool.and_eq_true, Bool.and_eq_true, List.all_eq_true, decide_eq_true_eq, decide_eq_true_eq, Bool.not_eq_true', decide_eq_false_iff_not]
  constructor
  · rintro ⟨⟨h1, h2⟩, h3, h4⟩
    exact ⟨fun c hc => by simpa [digB] using h1 c hc, h2, h3, h4⟩
  · rintro ⟨h1, h2, h3, h4⟩
    exact ⟨⟨fun c hc => by simpa [digB] using h1 c hc, h2⟩, h3, h4⟩
theorem isNum_false {w : List Nat} : isNumB w false = true ↔ Gw w := by
  by_cases h : w = []
  · subst h
    exact ⟨fun _ => gw_nil, fun _ => rfl⟩
  · exact isNum_gw h false
theorem isNum_true {w : List Nat} : isNumB w true = true ↔ w ≠ [] ∧ Gw w := by
  by_cases h : w = []
  · subst h
    exact ⟨fun z => absurd z (by decide), fun z => absurd rfl z.1⟩
  · rw [isNum_gw h true]
    exact ⟨fun z => ⟨h, z⟩, fun z => z.2⟩
theorem val_low : ∀ (n : Nat) (w : List Nat), w.length = n + 1 → (∀ c ∈ w, 48 ≤ c ∧ c ≤ 57) → w.head? ≠ some 48 → 10 ^ n ≤ valN w
  | 0, w, hl, hd, hh => by
    match w, hl with
    | [c], _ =>
      have := hd c List.mem_cons_self
      have h2 : c ≠ 48 := fun z => hh (by rw [z]; rfl)
      show 1 ≤ NumText.digitsVal [c]
      show 1 ≤ 0 * 10 + (c - 48)
      omega
  | n + 1, w, hl, hd, hh => by
    have hne : w ≠ [] := by intro z; rw [z] at hl; cases hl
    have e := List.dropLast_concat_getLast hne
    rw [← e] at hd hh ⊢
    have l1 : w.dropLast.length = n + 1 := by rw [List.length_dropLast, hl]; rfl
    have h1 : w.dropLast.head? ≠ some 48 := by
      cases e2 : w.dropLast with
      | nil => rw [e2] at l1; cases l1
      | cons x xs => rw [e2] at hh; exact hh
    have ih := val_low n w.dropLast l1 (fun c hc => hd c (List.mem_append_left _ hc)) h1
    rw [valN_snoc, Nat.pow_succ]
    omega
theorem gw_pos {w : List Nat} (h : Gw w) (hw : w ≠ []) : 1 ≤ valN w := by
  cases hl : w.length with
  | zero => exact absurd (List.length_eq_zero_iff.mp hl) hw
  | succ n => exact Nat.le_trans (Nat.pow_pos (n := n) (by decide : 0 < 10)) (val_low n w hl h.dig h.head)
theorem gw_snoc {w : List Nat} (h : Gw w) {c : Nat} (h1 : 48 ≤ c) (h2 : c ≤ 57) (h3 : 1 ≤ valN w * 10 + (c - 48)) (h4 : valN w * 10 + (c - 48) ≤ 1000000000000) : Gw (w ++ [c]) := by
  have dig : ∀ x ∈ w ++ [c], 48 ≤ x ∧ x ≤ 57 := fun x hx => by
    rcases List.mem_append.mp hx with hx | hx
    · exact h.dig x hx
    · rw [List.mem_singleton.mp hx]; exact ⟨h1, h2⟩
  have hd : (w ++ [c]).head? ≠ some 48 := by
    cases e : w with
    | nil =>
      rw [e] at h3
      intro z
      have : c = 48 := by simpa using z
      rw [this] at h3
      exact absurd h3 (by decide)
    | cons x xs =>
      have := h.head
      rw [e] at this
      exact this
  have v := valN_snoc w c
  refine ⟨dig, hd, Classical.byContradiction fun z => ?_, by rw [v]; exact h4⟩
  have hl : (w ++ [c]).length = w.length + 1 := by rw [List.length_append]; rfl
  have := val_low w.length (w ++ [c]) hl dig hd
  have b : 10 ^ 13 ≤ 10 ^ w.length := Nat.pow_le_pow_right (by decide) (by omega)
  have b2 : (10 : Nat) ^ 13 > 1000000000000 := by decide
  omega
theorem gw_init {w : List Nat} {c : Nat} (h : Gw (w ++ [c])) : Gw w := by
  refine ⟨fun x hx => h.dig x (List.mem_append_left _ hx), fun z => ?_, ?_, ?_⟩
  · cases e : w with
    | nil => rw [e] at z; cases z
    | cons x xs =>
      rw [e] at z
      exact h.head (by rw [e]; exact z)
  · have := h.len
    rw [List.length_append] at this
    omega
  · have := h.val
    rw [valN_snoc] at this
    omega
/-! ### texts by words -/
def isTextB (c : List Nat) (whole : Bool) : Bool := !(decide (4 < (sp 120 c).length) || ((sp 120 c).dropLast.any fun w => !isNumB w true)) && isNumB ((sp 120 c).getLastD []) whole
theorem isText_iff {c : List Nat} {b : Bool} {ws : List (List Nat)} {cur : List Nat} (h : sp 120 c = ws ++ [cur]) : isTextB c b = true ↔ ws.length + 1 ≤ 4 ∧ (∀ w ∈ ws, isNumB w true = true) ∧ isNumB cur b = true := by
  unfold isTextB
  rw [h, List.dropLast_concat, List.length_append]
  have e : (ws ++ [cur]).getLastD [] = cur := by simp [List.getLastD_eq_getLast?]
  rw [e, Bool.and_eq_true, Bool.not_eq_true', Bool.or_eq_false_iff, decide_eq_false_iff_not, List.any_eq_false]
  constructor
  · rintro ⟨⟨h1, h2⟩, h3⟩
    exact ⟨by simp at h1; omega, fun w hw => by simpa using h2 w hw, h3⟩
  · rintro ⟨h1, h2, h3⟩
    exact ⟨⟨by simp; omega, fun w hw => by simpa using h2 w hw⟩, h3⟩
theorem isText_init {u : List Nat} {c : Nat} {b : Bool} (h : isTextB (u ++ [c]) b = true) : isTextB u false = true := by
  obtain ⟨ws, cur, e⟩ := sp_last 120 u
  have s := sp_snoc 120 u c ws cur e
  rw [isText_iff e]
  by_cases hc : c = 120
  · rw [if_pos hc] at s
    obtain ⟨h1, h2, h3⟩ := (isText_iff s).mp h
    rw [List.length_append] at h1
    refine ⟨by simp at h1; omega, fun w hw => h2 w (List.mem_append_left _ hw), ?_⟩
    have := h2 cur (List.mem_append_right _ List.mem_cons_self)
    exact isNum_false.mpr (isNum_true.mp this).2
  · rw [if_neg hc] at s
    obtain ⟨h1, h2, h3⟩ := (isText_iff s).mp h
    refine ⟨h1, h2, isNum_false.mpr (gw_init (c := c) ((isNum_gw (by simp) b).mp h3))⟩
theorem isText_pre : ∀ (n : Nat) {u r : List Nat} {b : Bool}, r.length = n → isTextB (u ++ r) b = true → r ≠ [] → isTextB u false = true := by
  intro n
  induction n with
  | zero => exact fun h _ hr => absurd (List.length_eq_zero_iff.mp h) hr
  | succ n ih =>
    intro u r b hl h hr
    have e := List.dropLast_concat_getLast hr
    rw [← e, ← List.append_assoc] at h
    have h1 := isText_init h
    cases hd : r.dropLast with
    | nil => rw [hd, List.append_nil] at h1; exact h1
    | cons x xs => exact ih (r := r.dropLast) (by rw [List.length_dropLast, hl]; rfl) h1 (by rw [hd]; simp)
def dueL (c : List Nat) : Except Nat (List Int) :=
  if isTextB c true = true then .ok ((sp 120 c).map fun w => (valN w : Int)) else .error (((List.range c.length).filter fun k => !isTextB (c.take (k + 1)) false).head?.getD c.length)
theorem head_filter {p : Nat → Bool} {i : Nat} (h : ∀ k, k < i → p k = false) (hi : p i = true) : ∀ n, i < n → ((List.range n).filter p).head? = some i
  | 0, h0 => absurd h0 (Nat.not_lt_zero _)
  | n + 1, h0 => by
    rw [List.range_succ, List.filter_append]
    by_cases z : i < n
    · have ih := head_filter h hi n z
      cases e : (List.range n).filter p with
      | nil => rw [e] at ih; cases ih
      | cons x xs => rw [e] at ih; exact ih
    · have : i = n := by omega
      subst this
      have e : (List.range i).filter p = [] := by
        rw [List.filter_eq_nil_iff]
        exact fun x hx => by simp [h x (List.mem_range.mp hx)]
      rw [e, List.nil_append, List.filter_cons, hi]; rfl
structure Stt (u : List Nat) (acc : List Int) (a : Int) (k : Nat) (ws : List (List Nat)) (cur : List Nat) : Prop where
  eq : sp 120 u = ws ++ [cur]
  k : ws.length + k = 3
  ok : ∀ w ∈ ws, isNumB w true = true
  acc : acc = ws.map fun w => (valN w : Int)
  a : a = (valN cur : Int)
  cur : Gw cur
theorem Stt.text {u : List Nat} {acc : List Int} {a : Int} {k : Nat} {ws : List (List Nat)} {cur : List Nat} (S : Stt u acc a k ws cur) : isTextB u false = true := (isText_iff S.eq).mpr ⟨by have := S.k; omega, S.ok, isNum_false.mpr S.cur⟩
theorem Stt.zero {u : List Nat} {acc : List Int} {a : Int} {k : Nat} {ws : List (List Nat)} {cur : List Nat} (S : Stt u acc a k ws cur) : a = 0 ↔ cur = [] := by
  rw [S.a]
  constructor
  · intro h
    refine Classical.byContradiction fun z => ?_
    have := gw_pos S.cur z
    omega
  · intro h
    rw [h]; rfl
theorem run_due (c : List Nat) : ∀ (r u : List Nat) (acc : List Int) (a : Int) (k : Nat) (ws : List (List Nat)) (cur : List Nat), c = u ++ r → Stt u acc a k ws cur → (∀ j, j < u.length → isTextB (c.take (j + 1)) false = true) → run r a k acc u.length = dueL c
  | [], u, acc, a, k, ws, cur, hc, S, hp => by
    rw [List.append_nil] at hc
    subst hc
    have it := isText_iff (b := true) S.eq
    rw [run]
    unfold dueL
    by_cases ha : a = 0
    · have hcur := S.zero.mp ha
      rw [if_pos ha, if_neg (fun z => by
        have := (it.mp z).2.2
        rw [hcur] at this
        cases this)]
      have e : (List.range c.length).filter (fun k => !isTextB (c.take (k + 1)) false) = [] := by
        rw [List.filter_eq_nil_iff]
        exact fun x hx => by simp [hp x (List.mem_range.mp hx)]
      rw [e]; rfl
    · have hcur : cur ≠ [] := fun z => ha (S.zero.mpr z)
      rw [if_neg ha, if_pos (it.mpr ⟨by have := S.k; omega, S.ok, isNum_true.mpr ⟨hcur, S.cur⟩⟩), S.eq, S.acc, S.a, List.map_append]
      rfl
  | ch :: r, u, acc, a, k, ws, cur, hc, S, hp => by
    have hms : MS = 1000000000000 := rfl
    have hc' : c = (u ++ [ch]) ++ r := by rw [hc, List.append_assoc]; rfl
    have ht : c.take (u.length + 1) = u ++ [ch] := by
      rw [hc', List.take_append_of_le_length (by rw [List.length_append]; exact Nat.le_refl _), List.take_of_length_le (by rw [List.length_append]; exact Nat.le_refl _)]
    have hl : (u ++ [ch]).length = u.length + 1 := by rw [List.length_append]; rfl
    have sn := sp_snoc 120 u ch ws cur S.eq
    have more : ∀ {acc a k ws cur}, Stt (u ++ [ch]) acc a k ws cur → ∀ j, j < (u ++ [ch]).length → isTextB (c.take (j + 1)) false = true := fun {acc a k ws cur} S2 j hj => by
      rw [hl] at hj
      by_cases z : j < u.length
      · exact hp j z
      · have : j = u.length := by omega
        rw [this, ht]
        exact S2.text
    rw [run]
    by_cases h1 : 48 ≤ ch ∧ ch ≤ 57 ∧ 1 ≤ a * 10 + ((ch : Int) - 48) ∧ a * 10 + ((ch : Int) - 48) ≤ MS
    · rw [if_pos h1]
      have ha := S.a
      have S2 : Stt (u ++ [ch]) acc (a * 10 + ((ch : Int) - 48)) k ws (cur ++ [ch]) :=
        ⟨by rw [sn, if_neg (by omega)], S.k, S.ok, S.acc, by rw [valN_snoc]; omega, gw_snoc S.cur h1.1 h1.2.1 (by omega) (by omega)⟩
      have ih := run_due c r (u ++ [ch]) _ _ _ _ _ hc' S2 (more S2)
      rw [hl] at ih
      exact ih
    · rw [if_neg h1]
      by_cases h2 : ch = 120 ∧ a ≠ 0 ∧ 0 < k
      · rw [if_pos h2]
        have hcur : cur ≠ [] := fun z => h2.2.1 (S.zero.mpr z)
        have S2 : Stt (u ++ [ch]) (acc ++ [a]) 0 (k - 1) (ws ++ [cur]) [] :=
          ⟨by rw [sn, if_pos h2.1], by have := S.k; rw [List.length_append]; simp; omega, fun w hw => by
            rcases List.mem_append.mp hw with hw | hw
            · exact S.ok w hw
            · rw [List.mem_singleton.mp hw]; exact isNum_true.mpr ⟨hcur, S.cur⟩, by rw [List.map_append, S.acc, S.a]; rfl, rfl, gw_nil⟩
        have ih := run_due c r (u ++ [ch]) _ _ _ _ _ hc' S2 (more S2)
        rw [hl] at ih
        exact ih
      · rw [if_neg h2]
        have bad : isTextB (u ++ [ch]) false = false := by
          refine Bool.eq_false_iff.mpr fun z => ?_
          by_cases h120 : ch = 120
          · rw [if_pos h120] at sn
            obtain ⟨q1, q2, q3⟩ := (isText_iff sn).mp z
            rw [List.length_append] at q1
            have hk : 0 < k := by have := S.k; simp at q1; omega
            have := isNum_true.mp (q2 cur (List.mem_append_right _ List.mem_cons_self))
            exact h2 ⟨h120, fun w => this.1 (S.zero.mp w), hk⟩
          · rw [if_neg h120] at sn
            obtain ⟨q1, q2, q3⟩ := (isText_iff sn).mp z
            have g := isNum_false.mp q3
            have dg := g.dig ch (List.mem_append_right _ List.mem_cons_self)
            have gv := g.val
            rw [valN_snoc] at gv
            have gp := gw_pos g (by simp)
            rw [valN_snoc] at gp
            have ha := S.a
            exact h1 ⟨dg.1, dg.2, by omega, by omega⟩
        have bc : ¬ isTextB c true = true := fun z => by
          cases r with
          | nil =>
            rw [hc', List.append_nil] at z
            have e := sp_last 120 (u ++ [ch])
            obtain ⟨ws', cur', e⟩ := e
            obtain ⟨q1, q2, q3⟩ := (isText_iff e).mp z
            have := (isText_iff (b := false) e).mpr ⟨q1, q2, isNum_false.mpr (isNum_true.mp q3).2⟩
            rw [this] at bad; cases bad
          | cons x xs =>
            rw [hc'] at z
            have := isText_pre (x :: xs).length rfl z (by simp)
            rw [this] at bad; cases bad
        unfold dueL
        rw [if_neg bc, head_filter (i := u.length) (fun j hj => by rw [hp j hj]; rfl) (by rw [ht, bad]; rfl) c.length (by rw [hc', List.length_append, hl]; omega)]
        rfl
theorem parseS_due (c : List Nat) : parseS c = dueL c := by
  rw [parseS_run]
  exact run_due c c [] [] 0 3 [] [] rfl ⟨rfl, rfl, (fun _ h => nomatch h), rfl, rfl, gw_nil⟩ fun j hj => absurd hj (Nat.not_lt_zero j)
end TB
set_option Elab.async false
set_option linter.all false
set_option maxRecDepth 100000
/-! The layer over data: texts. -/
namespace DL
open PySem PySem.Spec PyProof.Rows L2 Evl TB
/-- a text times a number -/
def rMulS : R2 := fun x y H Q => ∃ a n, x = .str a ∧ y = .int n ∧ MulOk a n ∧ Q (.str (Txt.mul a n)) H
theorem op_mulS {X : Cx} : OpR X (binaryOp .Mult) rMulS := by
  intro pins s σ H x y v u Q I rx ry h
  obtain ⟨a, n, rfl, rfl, hk, q⟩ := h
  obtain ⟨t, rfl⟩ := rx
  obtain ⟨t', rfl⟩ := ry
  exact SB.mul hk fun t' k => ⟨.str (Txt.mul a n), H, I.tok _, ⟨_, rfl⟩, q⟩
abbrev rAddS : R2 := fun x y H Q => ∃ i j, x = .str i ∧ y = .str j ∧ i.length + j.length ≤ sizeLine ∧ Q (.str (i ++ j)) H
abbrev rNotInS' : R2 := fun x y H Q => ∃ (c : Nat) (z : Str), x = .str ⟨#[c]⟩ ∧ y = .str z ∧ Q (.bl (!decide (c ∈ z.cps.toList))) H
abbrev rSplitQ : V → List V → Hp → VK → Prop := fun x xs H Q => ∃ a b, x = .str a ∧ xs = [.str b] ∧ (b.length == 0) = false ∧ a.length + 2 ≤ sizeLine ∧ rNewStrs (Txt.split a b) H Q
abbrev rIntS : List V → Hp → VK → Prop := fun xs H Q => ∃ a n, xs = [.str a] ∧ PySem.intText? a = some n ∧ a.length ≤ 640 ∧ Q (.int n) H
section
variable {N : Addr → Prop} {H : Hp} {K : PySem.W.Frag}
theorem opd_mulS {a : Str} {n : Int} (h : MulOk a n) : OpD rMulS (.str a) (.int n) (· = .str (Txt.mul a n)) := fun N H v1 v2 _ r1 r2 => by
  cases r1; cases r2
  exact res_rfl (.str _) fun Q q => ⟨a, n, rfl, rfl, h, q⟩
theorem opd_addS {a b : Str} (h : a.length + b.length ≤ 100000) : OpD rAddS (.str a) (.str b) (· = .str (a ++ b)) := fun N H v1 v2 _ r1 r2 => by
  cases r1; cases r2
  exact res_rfl (.str _) fun Q q => ⟨a, b, rfl, rfl, size_small h, q⟩
theorem opd_eqS {x y : Str} : OpD rEq (.str x) (.str y) (· = .bool (decide (x = y))) := fun N H v1 v2 _ r1 r2 => by
  cases r1; cases r2
  refine res_rfl (.bl _) fun Q q => ⟨rfl, ?_⟩
  have : decide (V.str x = V.str y) = decide (x = y) := by simp
  rw [this]; exact q
theorem opd_ixS {z : Str} {i : Int} {c : Nat} (hz : z.length ≤ 100000) (h : atI (cs z) i = some c) : OpD rIxS (.str z) (.int i) (· = .str ⟨#[c]⟩) := fun N H v1 v2 _ r1 r2 => by
  cases r1; cases r2
  exact res_rfl (.str _) fun Q q => ⟨z, i, c, rfl, rfl, size_small hz, h, q⟩
theorem opd_notInS {z : Str} {c : Nat} : OpD rNotInS' (.str ⟨#[c]⟩) (.str z) (· = .bool (!decide (c ∈ cs z))) := fun N H v1 v2 _ r1 r2 => by
  cases r1; cases r2
  exact res_rfl (.bl _) fun Q q => ⟨c, z, rfl, rfl, q⟩
theorem opd_le {i j : Int} : OpD (rI0 fun i j => .bl (decide (i ≤ j))) (.int i) (.int j) (· = .bool (decide (i ≤ j))) := opd_I0 fun _ _ => .bl _
theorem cad_intS {a : Str} {n : Int} (h : PySem.intText? a = some n) (hl : a.length ≤ 640) : CaD rIntS [.str a] (· = .int n) := fun N H vs _ r => by
  cases r with
  | cons r1 r2 =>
    cases r2; cases r1
    exact res_rfl (.int _) fun Q q => ⟨a, n, rfl, h, hl, q⟩
theorem cad_lenS {z : Str} (hz : z.length ≤ 100000) : CaD (fun xs H Q => ∃ z : Str, xs = [.str z] ∧ z.length ≤ sizeLine ∧ Q (.int z.length) H) [.str z] (· = .int z.length) := fun N H vs _ r => by
  cases r with
  | cons r1 r2 =>
    cases r2; cases r1
    exact res_rfl (.int _) fun Q q => ⟨z, rfl, size_small hz, q⟩
end
section
variable {W : Wd} {H0 : Hp} {ρ : List (Option Sl)} {te ta tb tn : TE} {tas : TA} {P P1 P2 : PyData → Prop} {K : PySem.W.Frag} {tt : TT}
theorem ev_slS {tl th : TO} {lo hi : Option Int} {z : Str} (hz : z.length ≤ 100000) (ha : EvP W H0 te ρ (· = .str z)) (hl : EvO W H0 tl ρ lo) (hh : EvO W H0 th ρ hi) : EvP W H0 (tSl rSlS te tl th) ρ (· = .str (cutS z lo hi)) := fun τ l σ H S Q k =>
  ha τ l σ H S _ fun v e H1 S1 p => hl _ l σ H1 S1 _ fun H2 S2 => hh _ l σ H2 S2 _ fun H3 S3 => by
    subst p
    obtain ⟨N, n3, n5, n4, q⟩ := S3.ext
    have hv := n5 _ List.mem_cons_self
    cases hv
    refine ⟨z, rfl, size_small hz, k _ (.str (cutS z lo hi)) H3 (q _ _ ex_refl fun p hp => ?_) rfl⟩
    rcases List.mem_cons.mp hp with rfl | hp
    · exact .str _
    · exact n5 p (List.mem_cons_of_mem _ hp)
theorem ev_slL {tl th : TO} {lo hi : Option Int} {ds : List PyData} (ha : EvP W H0 te ρ (· = .list ds)) (hl : EvO W H0 tl ρ lo) (hh : EvO W H0 th ρ hi) : EvP W H0 (tSl (rSlL K) te tl th) ρ (· = .list (cutD ds lo hi)) := fun τ l σ H S Q k =>
  ha τ l σ H S _ fun v e H1 S1 p => hl _ l σ H1 S1 _ fun H2 S2 => hh _ l σ H2 S2 _ fun H3 S3 => by
    subst p
    obtain ⟨N, n3, n5, n4, q⟩ := S3.ext
    have hv := n5 _ List.mem_cons_self
    have rest : ∀ p ∈ τ, Rg N H3 p.1 p.2 := fun p hp => n5 p (List.mem_cons_of_mem _ hp)
    cases hv with
    | lst hA hn hr =>
      rename_i a xs
      have ec : RgAll N H3 (cutV xs lo hi) (cutD ds lo hi) := by
        unfold cutV cutD
        rw [hr.len]
        exact (hr.drop _).take _
      refine ⟨a, xs, rfl, .inl (.inl hA), fun p hp => ?_⟩
      refine k _ (.list (cutD ds lo hi)) _ (q _ _ (Ex.new hp) fun p' hp' => ?_) rfl
      rcases List.mem_cons.mp hp' with rfl | hp'
      · exact .lst upd_same (n3.new hp) (ec.ex (Ex.new hp))
      · exact (rest p' hp').ex (Ex.new hp)
theorem ev_split {a b : Str} (ha : EvP W H0 ta ρ (· = .str a)) (hb : EvP W H0 tb ρ (· = .str b)) (h0 : (b.length == 0) = false) (hl : a.length ≤ 90000) : EvP W H0 (tBM K "str" rSplitQ ta (tCons tb tNil)) ρ (· = .list ((Txt.split a b).map PyData.str)) := fun τ l σ H S Q k =>
  ha τ l σ H S _ fun v e H1 S1 p => by
    subst p
    have hv : v = .str a := by
      obtain ⟨N, n3, n5, n4, q⟩ := S1.ext
      have := n5 _ List.mem_cons_self
      cases this; rfl
    subst hv
    refine ⟨rfl, ?_⟩
    refine hb _ l σ H1 S1 _ fun w e H2 S2 p => ?_
    subst p
    obtain ⟨N, n3, n5, n4, q⟩ := S2.ext
    have hw : w = .str b := by
      have := n5 _ List.mem_cons_self
      cases this; rfl
    subst hw
    refine ⟨a, b, rfl, rfl, h0, size_small (by omega), fun p hp => k _ (.list ((Txt.split a b).map PyData.str)) _ (q _ _ (Ex.new hp) fun p' hp' => ?_) rfl⟩
    rcases List.mem_cons.mp hp' with rfl | hp'
    · exact .lst upd_same (n3.new hp) (rgStrs _)
    · exact (n5 p' (List.mem_cons_of_mem _ (List.mem_cons_of_mem _ hp'))).ex (Ex.new hp)
/-- [e for x in text if t] -/
theorem ev_lcS {z : Str} {i : Nat} {b : Nat → Bool} {f : Nat → PyData} (hl : z.length ≤ 50000) (hi : ρ[i]? = some none) (ha : EvP W H0 ta ρ (· = .str z))
    (ht : ∀ c ∈ cs z, EvT W H0 tt (ρ.set i (some (.dat (.str ⟨#[c]⟩)))) (· = b c)) (he : ∀ c ∈ cs z, b c = true → EvP W H0 te (ρ.set i (some (.dat (.str ⟨#[c]⟩)))) (· = f c)) :
    EvP W H0 (tLc (iStr ta) (gName i) tt te [i]) ρ (· = .list (((cs z).filter b).map f)) := fun τ l σ H S Q k =>
  ha τ l σ H S _ fun v e H1 S1 p => by
    subst p
    have hv : v = .str z := by
      obtain ⟨N, n3, n5, n4, q⟩ := S1.ext
      have := n5 _ List.mem_cons_self
      cases this; rfl
    subst hv
    refine ⟨z, rfl, fun D hD => ?_⟩
    refine lc_it walk_str (fun j H' => St W H0 ρ τ ((D, (((cs z).take j).filter b).map f) :: l) σ H') ((S1.pop).newL hD) (fun _ _ _ _ => trivial) (fun j x H'' H' hj S2 hy => ?_) (fun H' S2 => k _ _ H' ?_ rfl)
    · obtain ⟨rfl, c, hc, rfl⟩ := hy
      have hc' : (cs z)[j]? = some c := by rw [show cs z = z.cps.toList from rfl, Array.getElem?_toList]; exact hc
      have hm : c ∈ cs z := List.mem_of_getElem? hc'
      have S3 : St W H0 (ρ.set i (some (.dat (.str ⟨#[c]⟩)))) τ ((D, (((cs z).take j).filter b).map f) :: l) ((L2.wipe σ [i]).set i (some (.str ⟨#[c]⟩))) H' := by
        have a := (S2.wipe [i])
        obtain ⟨N', m3, m5, m4, q'⟩ := a.ext
        have c' := (q' H' (((.str ⟨#[c]⟩, .str ⟨#[c]⟩) : V × PyData) :: τ) ex_refl fun p hp => by
          rcases List.mem_cons.mp hp with rfl | hp
          · exact .str _
          · exact m5 p hp).set (i := i)
        have e1 : (wipeR ρ [i]).set i (some (Sl.dat (.str ⟨#[c]⟩))) = ρ.set i (some (.dat (.str ⟨#[c]⟩))) := by
          show (ρ.set i none).set i _ = _
          rw [List.set_set]
        rw [e1] at c'
        exact c'
      refine ⟨wipe_id, ht c hm τ _ _ H' S3 _ fun c' H3 S4 pc => ?_⟩
      subst pc
      have el : (((cs z).take j).filter b |>.map f).length ≤ 50000 := by
        rw [List.length_map]
        have := List.length_filter_le b ((cs z).take j)
        rw [List.length_take, cs_len] at this
        omega
      have er : (((cs z).take (j + 1)).filter b).map f = (((cs z).take j).filter b).map f ++ (if b c = true then [f c] else []) := by
        have jl := (List.getElem?_eq_some_iff.mp hc').1
        have : (cs z).take (j + 1) = (cs z).take j ++ [c] := by
          rw [List.take_add_one, hc']; rfl
        rw [this, List.filter_append, List.map_append]
        cases hb : b c <;> simp [hb]
      cases hb : b c with
      | true =>
        refine (if_pos rfl).mpr (he c hm hb τ _ _ H3 S4 _ fun y e H4 S5 pe => ?_)
        subst pe
        have S6 := S5.re hi (fun j hj => wipe_set_ne hj) S.len
        obtain ⟨ys, x1, x2, S7⟩ := S6.app
        rw [er, hb, if_pos rfl]
        exact ⟨ys, x1, size_small' (by rw [x2]; omega), S7⟩
      | false =>
        refine (if_neg Bool.false_ne_true).mpr ?_
        rw [er, hb, if_neg Bool.false_ne_true, List.append_nil]
        exact S4.re hi (fun j hj => wipe_set_ne hj) S.len
    · have S3 := S2.frz
      have e : (cs z).take z.cps.size = cs z := List.take_of_length_le (by rw [cs_len]; exact Nat.le_refl _)
      rw [e] at S3
      exact S3
/-- [e for x in xs if t], known -/
theorem ev_lcLf {i : Nat} {ds : List PyData} {b : PyData → Bool} {f : PyData → PyData} (hl : ds.length ≤ 50000) (hi : ρ[i]? = some none) (ha : EvP W H0 ta ρ (· = .list ds))
    (ht : ∀ G d, d ∈ ds → EvT W G tt (ρ.set i (some (.dat d))) (· = b d)) (he : ∀ G d, d ∈ ds → b d = true → EvP W G te (ρ.set i (some (.dat d))) (· = f d)) :
    EvP W H0 (tLc (iList K ta) (gName i) tt te [i]) ρ (· = .list ((ds.filter b).map f)) := fun τ l σ H S Q k =>
  ha τ l σ H S _ fun v e H1 S1 p => by
    subst p
    obtain ⟨a, xs, rfl, hA, hlen, hna, u1, u2, B⟩ := S1.baseL
    refine ⟨a, rfl, ⟨xs, .inl (.inl hA)⟩, fun D hD => ?_⟩
    have keep : ∀ {τ' l' σ' H'}, St W (upd H0 a (.lst xs)) ρ τ' l' σ' H' → H' a = some (.lst xs) := fun S => S.off a _ upd_same hna
    refine lc_list (K := K) (a := a) (xs := xs) (fun j H' => St W (upd H0 a (.lst xs)) ρ ((.ref a, .list ds) :: τ) ((D, ((ds.take j).filter b).map f) :: l) σ H') (B.newL hD) (fun j H' _ S2 => .inl (.inl (keep S2))) (fun j x H' hx S2 => ?_) (fun H' S2 => ?_)
    · have hAk := keep S2
      obtain ⟨d, hd, S3⟩ := S2.item (xs := xs) (ds := ds) (fun N r => by
        cases r with
        | lst q1 q2 q3 => rw [hAk] at q1; cases q1; exact q3) hx
      have S4 := (S3.wipe [i]).set (i := i)
      have e1 : (wipeR ρ [i]).set i (some (Sl.dat d)) = ρ.set i (some (.dat d)) := by
        show (ρ.set i none).set i _ = _
        rw [List.set_set]
      rw [e1] at S4
      have hm := List.mem_of_getElem? hd
      refine ⟨wipe_id, ht _ d hm _ _ _ H' S4 _ fun c H4 S5 pb => ?_⟩
      subst pb
      have el : (((ds.take j).filter b).map f).length ≤ 50000 := by
        rw [List.length_map]
        have := List.length_filter_le b (ds.take j)
        rw [List.length_take] at this
        omega
      have er : ((ds.take (j + 1)).filter b).map f = ((ds.take j).filter b).map f ++ (if b d = true then [f d] else []) := by
        have : ds.take (j + 1) = ds.take j ++ [d] := by rw [List.take_add_one, hd]; rfl
        rw [this, List.filter_append, List.map_append]
        cases hb : b d <;> simp [hb]
      cases hb : b d with
      | true =>
        refine (if_pos rfl).mpr (he _ d hm hb _ _ _ H4 S5 _ fun y e H5 S6 pe => ?_)
        subst pe
        have S7 := S6.re hi (fun j hj => wipe_set_ne hj) S.len
        obtain ⟨ys, x1, x2, S8⟩ := S7.app
        rw [er, hb, if_pos rfl]
        exact ⟨ys, x1, size_small' (by rw [x2]; omega), S8⟩
      | false =>
        refine (if_neg Bool.false_ne_true).mpr ?_
        rw [er, hb, if_neg Bool.false_ne_true, List.append_nil]
        exact S5.re hi (fun j hj => wipe_set_ne hj) S.len
    · have S3 := (S2.unbase u1 u2).frz
      rw [hlen, List.take_length] at S3
      exact k _ _ H' (S3.mono fun p hp => by
        rcases List.mem_cons.mp hp with rfl | hp
        · exact List.mem_cons_self
        · exact List.mem_cons_of_mem _ (List.mem_cons_of_mem _ hp)) rfl
end
/-! ### texts that are good -/
structure TxOk (n : Nat) (z : Str) : Prop where
  len : z.length ≤ n
  code : ∀ c ∈ cs z, c < 1000000
theorem TxOk.mono {n m : Nat} {z : Str} (h : TxOk n z) (i : n ≤ m) : TxOk m z := ⟨Nat.le_trans h.len i, h.code⟩
theorem TxOk.app {n m : Nat} {a b : Str} (h : TxOk n a) (i : TxOk m b) : TxOk (n + m) (a ++ b) := ⟨by
  have := h.len; have := i.len
  rw [← cs_len, cs_app, List.length_append, cs_len, cs_len]; omega, fun c hc => by
  rw [cs_app] at hc
  rcases List.mem_append.mp hc with hc | hc
  · exact h.code c hc
  · exact i.code c hc⟩
theorem cs_cut (z : Str) (lo hi : Option Int) : cs (cutS z lo hi) = cutD (cs z) lo hi := by
  unfold cutS cutD
  rw [cs_len]
theorem TxOk.cut {n : Nat} {z : Str} (h : TxOk n z) (lo hi : Option Int) : TxOk n (cutS z lo hi) := ⟨Nat.le_trans (cutS_length _ _ _) h.len, fun c hc => by
  rw [cs_cut] at hc
  exact h.code c (List.mem_of_mem_drop (List.mem_of_mem_take hc))⟩
theorem TxOk.ok {n : Nat} {z : Str} (h : TxOk n z) : PyData.strOk z = true := by
  unfold PyData.strOk
  rw [← Array.all_toList, List.all_eq_true]
  exact fun c hc => decide_eq_true (Nat.lt_trans (h.code c hc) (by decide))
theorem TxOk.gd {n : Nat} {z : Str} (h : TxOk n z) : Gd (10 * n + 2) 0 (.str z) := ⟨rfl, fit_str h.len fun c hc => Nat.lt_trans (h.code c hc) (by decide)⟩
theorem shaped_strs {l : List Str} (h : ∀ z ∈ l, PyData.strOk z = true) : SeqAt.shaped (.list (l.map PyData.str)) = true := by
  have h1 : PyData.canLayAll0 (l.map PyData.str) = true := by
    induction l with
    | nil => rfl
    | cons n ns ih => rw [List.map_cons, PyData.canLayAll0, PyData.canLay0, h n List.mem_cons_self, ih fun z hz => h z (List.mem_cons_of_mem _ hz)]; rfl
  have h2 : PyData.depthAll (l.map PyData.str) = 0 := by
    clear h h1
    induction l with
    | nil => rfl
    | cons n ns ih => rw [List.map_cons, PyData.depthAll, ih]; rfl
  unfold SeqAt.shaped
  rw [PyData.canLay0, h1, PyData.depth, h2]; rfl
theorem eqv_nil' (ds : List PyData) : PyData.eqv (.list ds) (.list []) = ds.isEmpty := by
  cases ds <;> rfl
/-! ### split, by words -/
theorem splSp (b : Nat) : ∀ (l acc : List Nat), TL.spl [b] 0 acc l = match sp b l with
    | [] => [acc]
    | x :: xs => (acc ++ x) :: xs
  | [], acc => by rw [TL.spl_nil]; simp [sp]
  | c :: r, acc => by
    rw [sp]
    by_cases h : c = b
    · rw [if_pos h, TL.spl_hit (by subst h; simp [TL.pre])]
      show acc :: TL.spl [b] 0 [] r = _
      rw [splSp b r []]
      cases e : sp b r with
      | nil => exact absurd e (sp_ne _ _)
      | cons x xs => simp
    · rw [if_neg h, TL.spl_miss (TL.pre_of_head [] r h), splSp b r (acc ++ [c])]
      cases e : sp b r with
      | nil => exact absurd e (sp_ne _ _)
      | cons x xs => simp
theorem split_sp {z y : Str} {b : Nat} (hy : cs y = [b]) (hb : b < 256) : (Txt.split z y).map cs = sp b (cs z) := by
  have := TL.split_spl z y (by rw [show TL.tl y = cs y from rfl, hy]; simp) (TL.kind_ok (by
    rw [← Array.all_toList]
    show (cs y).all _ = true
    rw [hy]
    simp [hb]))
  show (Txt.split z y).map TL.tl = _
  rw [this, show TL.tl y = [b] from hy, splSp]
  cases e : sp b (cs z) with
  | nil => exact absurd e (sp_ne _ _)
  | cons x xs => simp
end DL
set_option Elab.async false
set_option linter.all false
set_option maxRecDepth 100000
/-! The layer over data: more of texts; lists of what is good; what is told of errors. -/
namespace DL
open PySem PySem.Spec PyProof.Rows L2 Evl TB
theorem tupI_inj {a b : List Int} (h : tupI a = tupI b) : a = b := by
  have h' := PyData.tuple.inj h
  have : ∀ {a b : List Int}, a.map PyData.int = b.map PyData.int → a = b := by
    intro a
    induction a with
    | nil => intro b h; cases b <;> simp at h; rfl
    | cons x a ih =>
      intro b h
      cases b with
      | nil => simp at h
      | cons y b =>
        simp only [List.map_cons, List.cons.injEq, PyData.int.injEq] at h
        rw [h.1, ih h.2]
  exact this h'
theorem cutD_to {α : Type} {ds : List α} {k : Nat} : DL.cutD ds none (some (k : Int)) = ds.take k := by
  unfold DL.cutD
  rw [HT.sIx_none, HT.sIx_nat, List.drop_zero, Nat.sub_zero]
  by_cases h : k ≤ ds.length
  · rw [Nat.min_eq_left h]
  · rw [Nat.min_eq_right (by omega), List.take_of_length_le (Nat.le_refl _), List.take_of_length_le (by omega)]
theorem cutD_from {α : Type} {ds : List α} {k : Nat} : DL.cutD ds (some (k : Int)) none = ds.drop k := by
  unfold DL.cutD
  rw [HT.sIx_none, HT.sIx_nat]
  by_cases h : k ≤ ds.length
  · rw [Nat.min_eq_left h, List.take_of_length_le (by rw [List.length_drop]; exact Nat.le_refl _)]
  · rw [Nat.min_eq_right (by omega), List.drop_eq_nil_of_le (Nat.le_refl _), List.drop_eq_nil_of_le (by omega)]; simp
theorem cutD_init {α : Type} {ds : List α} : DL.cutD ds none (some (-1)) = ds.dropLast := by
  unfold DL.cutD
  have : HT.sIx ds.length ds.length (some (-1)) = ds.length - 1 := by
    show (if (-1 : Int) < 0 then ((-1 : Int) + (ds.length : Int)).toNat else min (-1 : Int).toNat ds.length) = _
    rw [if_pos (by decide)]
    omega
  rw [HT.sIx_none, this, List.drop_zero, Nat.sub_zero, List.dropLast_eq_take]
theorem cutD_map {α β : Type} (f : α → β) (ds : List α) (lo hi : Option Int) : DL.cutD (ds.map f) lo hi = (DL.cutD ds lo hi).map f := by
  unfold DL.cutD
  rw [List.length_map, List.map_take, List.map_drop]
theorem sp_mem (b : Nat) : ∀ (c : List Nat), ∀ w ∈ sp b c, ∀ x ∈ w, x ∈ c
  | [], w, h, x, hx => by
    have : w = [] := by simpa [sp] using h
    rw [this] at hx; cases hx
  | c :: r, w, h, x, hx => by
    have ih := sp_mem b r
    rw [sp] at h
    split at h
    · rcases List.mem_cons.mp h with rfl | h
      · cases hx
      · exact List.mem_cons_of_mem _ (ih w h x hx)
    · split at h
      · rename_i e; exact absurd e (sp_ne _ _)
      · rename_i x' xs e
        rw [e] at ih
        rcases List.mem_cons.mp h with rfl | h
        · rcases List.mem_cons.mp hx with rfl | hx
          · exact List.mem_cons_self
          · exact List.mem_cons_of_mem _ (ih x' List.mem_cons_self x hx)
        · exact List.mem_cons_of_mem _ (ih w (List.mem_cons_of_mem _ h) x hx)
theorem TxOk.word {n : Nat} {z y w : Str} {b : Nat} (h : TxOk n z) (e : (Txt.split z y).map cs = sp b (cs z)) (hw : w ∈ Txt.split z y) : TxOk n w := by
  have hm : cs w ∈ sp b (cs z) := by rw [← e]; exact List.mem_map_of_mem hw
  refine ⟨?_, fun c hc => h.code c (sp_mem b _ _ hm c hc)⟩
  have := (sp_len b (cs z)).1 _ hm
  rw [cs_len, cs_len] at this
  exact Nat.le_trans this h.len
theorem cs_sign (c : Nat) : cs ⟨#[c]⟩ = [c] := rfl
theorem sign_eq {c k : Nat} {y : Str} (hy : cs y = [k]) : decide ((⟨#[c]⟩ : Str) = y) = decide (c = k) := by
  by_cases h : c = k
  · rw [decide_eq_true h, decide_eq_true]
    exact cs_ext (by rw [hy, h])
  · rw [decide_eq_false h, decide_eq_false]
    intro e
    rw [← e] at hy
    exact h (List.cons.inj hy).1
theorem digit_mem (c : Nat) : decide (c ∈ cs "0123456789") = digB c := by
  have e : cs "0123456789" = [48, 49, 50, 51, 52, 53, 54, 55, 56, 57] := by decide +kernel
  rw [e]
  unfold digB
  rw [Bool.eq_iff_iff, Bool.and_eq_true, decide_eq_true_eq, decide_eq_true_eq, decide_eq_true_eq]
  simp only [List.mem_cons, List.not_mem_nil, or_false]
  omega
theorem et_yes {W : Wd} {H0 : Hp} {ρ : List (Option Sl)} : EvT W H0 tYes ρ (· = true) := fun τ l σ H S Q k => k true H S rfl
theorem filter_yes {α : Type} (l : List α) : l.filter (fun _ => true) = l := List.filter_eq_self.mpr fun _ _ => rfl
theorem filter_empty {α : Type} (p : α → Bool) (l : List α) : (l.filter p).isEmpty = !l.any p := by
  induction l with
  | nil => rfl
  | cons x xs ih =>
    rw [List.filter_cons, List.any_cons]
    cases h : p x
    · rw [if_neg (by simp), ih]; rfl
    · rw [if_pos rfl]; rfl
section
variable {W : Wd} {H0 : Hp} {ρ : List (Option Sl)} {te ta tb tn : TE} {tas : TA} {P P1 P2 : PyData → Prop} {K : PySem.W.Frag} {tt : TT}
/-- [e for x in t], t a tuple, known -/
theorem ev_lcTf {i : Nat} {ds : List PyData} {f : PyData → PyData} (hl : ds.length ≤ 1000) (hi : ρ[i]? = some none) (ha : EvP W H0 ta ρ (· = .tuple ds))
    (he : ∀ G d, d ∈ ds → EvP W G te (ρ.set i (some (.dat d))) (· = f d)) : EvP W H0 (tLc (iTup K ta) (gName i) tYes te [i]) ρ (· = .list (ds.map f)) :=
  (ev_lcT (R := fun d e => e = f d) hl hi ha he).imp fun e h => by
    obtain ⟨es, rfl, h1, h2⟩ := h
    congr 1
    refine List.ext_getElem? fun i => ?_
    rw [List.getElem?_map]
    cases hd : ds[i]? with
    | none =>
      have := List.getElem?_eq_none_iff.mp hd
      rw [List.getElem?_eq_none_iff.mpr (by omega)]; rfl
    | some d =>
      have := (List.getElem?_eq_some_iff.mp hd).1
      have he : es[i]? = some es[i] := List.getElem?_eq_getElem (by omega)
      rw [he, h2 i d _ hd he]; rfl
abbrev rJoinQ' (K : PySem.W.Frag) : V → List V → Hp → VK → Prop := fun x xs H Q => ∃ a p, ∃ ys : List Str, x = .str a ∧ xs = [.ref p] ∧ (SqL K H p (ys.map V.str) ∨ SqT K H p (ys.map V.str)) ∧ (ys.map (·.length)).sum + ys.length * a.length ≤ 16777216 ∧ Q (.str (Txt.join a ys)) H
theorem rgStrs_inv {N : Addr → Prop} {H : Hp} : ∀ {ns : List Str} {zs : List V}, RgAll N H zs (ns.map PyData.str) → zs = ns.map V.str
  | [], _, h => by cases h; rfl
  | n :: ns, _, h => by
    cases h with
    | cons q t => cases q; rw [rgStrs_inv t]; rfl
theorem ev_join {x : Str} {ys : List Str} (hl : (ys.map (·.length)).sum + ys.length * x.length ≤ 16777216) (ha : EvP W H0 te ρ (· = .list (ys.map PyData.str))) : EvP W H0 (tBM K "str" (rJoinQ' K) (tC (.str x)) (tCons te tNil)) ρ (· = .str (Txt.join x ys)) := fun τ l σ H S Q k => by
  refine ⟨rfl, ?_⟩
  refine ha τ l σ H S _ fun v e H1 S1 p => ?_
  subst p
  obtain ⟨N, n3, n5, n4, q⟩ := S1.ext
  have hv := n5 _ List.mem_cons_self
  cases hv with
  | lst hA hn hr =>
    have := rgStrs_inv hr
    subst this
    refine ⟨x, _, ys, rfl, rfl, .inl (.inl (.inl hA)), hl, k _ (.str (Txt.join x ys)) H1 (q _ _ ex_refl fun p hp => ?_) rfl⟩
    rcases List.mem_cons.mp hp with rfl | hp
    · exact .str _
    · exact n5 p (List.mem_cons_of_mem _ hp)
/-! lists of what is good -/
def AllG (n : Nat) (P : PyData → Prop) (es : List PyData) : Prop := es.length = n ∧ ∀ x ∈ es, P x
theorem eva_g0 : EvA W H0 tNil ρ (AllG 0 P) := fun τ l σ H S Q k => eva_nil τ l σ H S Q fun vs es H1 S1 le p => k vs es H1 S1 le (by rw [p]; exact ⟨rfl, fun _ h => nomatch h⟩)
theorem eva_g {n : Nat} (h : EvP W H0 te ρ P) (hs : EvA W H0 tas ρ (AllG n P)) : EvA W H0 (tCons te tas) ρ (AllG (n + 1) P) := eva_cons h hs fun e es h1 h2 => ⟨by rw [List.length_cons, h2.1], fun x hx => by
  rcases List.mem_cons.mp hx with rfl | hx
  · exact h1
  · exact h2.2 x hx⟩
def LstG (n : Nat) (P : PyData → Prop) (e : PyData) : Prop := ∃ es, e = .list es ∧ AllG n P es
theorem ev_lstG {n : Nat} (h : EvA W H0 tas ρ (AllG n P)) (hn : n ≤ 100000) : EvP W H0 (tLst tas) ρ (LstG n P) := (ev_lst h fun es h => by rw [h.1]; exact hn).imp fun e h => by
  obtain ⟨es, h1, h2⟩ := h
  exact ⟨es, h1, h2⟩
theorem ev_catG {n m : Nat} (ha : EvP W H0 ta ρ (LstG n P)) (hb : EvP W H0 tb ρ (LstG m P)) (h : n + m ≤ 100000) : EvP W H0 (tOp rCat ta tb) ρ (LstG (n + m) P) := ev_op ha hb fun e1 e2 h1 h2 => by
  obtain ⟨d1, rfl, l1, p1⟩ := h1
  obtain ⟨d2, rfl, l2, p2⟩ := h2
  refine OpD.imp (opd_catL (by omega)) fun e h => ⟨_, h, by rw [List.length_append, l1, l2], fun x hx => ?_⟩
  rcases List.mem_append.mp hx with hx | hx
  · exact p1 x hx
  · exact p2 x hx
theorem ev_ixG {n : Nat} {i : Nat} (ha : EvP W H0 ta ρ (LstG n P)) (hb : EvP W H0 tb ρ (· = .int (i : Nat))) (h : i < n) : EvP W H0 (tOp (rIxL K) ta tb) ρ P := ev_op ha hb fun e1 e2 h1 h2 => by
  obtain ⟨d1, rfl, l1, p1⟩ := h1
  subst h2
  have hi : d1[i]? = some d1[i] := List.getElem?_eq_getElem (by omega)
  exact OpD.imp (opd_ixL (K := K) (atI_nat hi)) fun e h => by rw [h]; exact p1 _ (List.mem_of_getElem? hi)
theorem ev_oneG {d g l : Addr} {N : Addr → Prop} {B : Hp} {n j : Nat} (hr : ρ[j]? = some (some (.raw (.ref d)))) (hm : EvP (WD d g l N B) H0 te ρ (LstG n P)) (h0 : 0 < n) (h1 : n ≤ 1000) :
    EvP (WD d g l N B) H0 (tCall (SpW oneA oneF) [] E0 (tCons (tVar j) (tCons te tNil))) ρ P := (ev_one hr hm fun e h => by
  obtain ⟨es, rfl, hl, _⟩ := h
  exact ⟨es, rfl, by omega, by omega⟩).imp fun e h => by
  obtain ⟨ds, ⟨es, h1, _, h2⟩, h3⟩ := h
  cases h1
  exact h2 e h3
end
/-- a text of the kind asked -/
def Tx (n : Nat) (e : PyData) : Prop := ∃ z, e = .str z ∧ TxOk n z
theorem Tx.mono {n m : Nat} {e : PyData} (h : Tx n e) (i : n ≤ m) : Tx m e := let ⟨z, a, b⟩ := h; ⟨z, a, b.mono i⟩
theorem tx_of {n : Nat} {z : Str} (h : (decide (z.length ≤ n) && (cs z).all (· < 1000000)) = true) : TxOk n z := by
  rw [Bool.and_eq_true, decide_eq_true_eq, List.all_eq_true] at h
  exact ⟨h.1, fun c hc => of_decide_eq_true (h.2 c hc)⟩
section
variable {W : Wd} {H0 : Hp} {ρ : List (Option Sl)} {te ta tb tn : TE} {tas : TA}
theorem ev_tx {n : Nat} {z : Str} (h : (decide (z.length ≤ n) && (cs z).all (· < 1000000)) = true) : EvP W H0 (tC (.str z)) ρ (Tx n) := (ev_str (x := z)).imp fun e h' => ⟨z, h', tx_of h⟩
theorem ev_addT {n m : Nat} (ha : EvP W H0 ta ρ (Tx n)) (hb : EvP W H0 tb ρ (Tx m)) (h : n + m ≤ 100000) : EvP W H0 (tOp rAddS ta tb) ρ (Tx (n + m)) := ev_op ha hb fun e1 e2 h1 h2 => by
  obtain ⟨a, rfl, ha⟩ := h1
  obtain ⟨b, rfl, hb⟩ := h2
  refine OpD.imp (opd_addS (by have := ha.len; have := hb.len; omega)) fun e h => ⟨_, h, ha.app hb⟩
theorem ev_slT' {n : Nat} {tl th : TO} {lo hi : Option Int} {z : Str} (hz : TxOk n z) (hn : n ≤ 100000) (ha : EvP W H0 te ρ (· = .str z)) (hl : EvO W H0 tl ρ lo) (hh : EvO W H0 th ρ hi) : EvP W H0 (tSl rSlS te tl th) ρ (Tx n) :=
  (ev_slS (Nat.le_trans hz.len hn) ha hl hh).imp fun e h => ⟨_, h, hz.cut lo hi⟩
end
theorem d_asg1 {te : TE} {i : Nat} {D : Ends} {σ : L2.St} {H : Hp} (h : te σ H fun x H1 => D.nx (σ.set i (some x)) H1) : tAsg te (gName i) D σ H := h
theorem d_par {i j : Nat} {ta : TA} {ts : TS} {D : Ends} {σ : L2.St} {H : Hp} (h : ta σ H fun vs H1 => ∃ v w, vs = [v, w] ∧ ts D ((σ.set i (some v)).set j (some w)) H1) : tSeq (tPar i j ta) ts D σ H := h
end DL
set_option Elab.async false
set_option linter.all false
set_option maxRecDepth 100000
/-! Texts of kinds told otherwise: by groups between blanks. Plain mathematics. -/
namespace TB
open PySem PySem.Spec PyProof.Rows L2
def runK : List Nat → Int → Nat → Option Nat → List Int → List (List Int) → Nat → Nat → Except Nat (List (List Int))
  | [], a, _, ax, acc, dn, _, p => if a = 0 ∨ acc.length + 1 < ax.getD 1 then .error p else .ok (dn ++ [acc ++ [a]])
  | c :: r, a, k, ax, acc, dn, m, p =>
    if 48 ≤ c ∧ c ≤ 57 ∧ 1 ≤ a * 10 + ((c : Int) - 48) ∧ a * 10 + ((c : Int) - 48) ≤ MS then runK r (a * 10 + ((c : Int) - 48)) k ax acc dn m (p + 1)
    else if c = 120 ∧ a ≠ 0 ∧ 0 < k then runK r 0 (k - 1) ax (acc ++ [a]) dn m (p + 1)
    else if c = 32 ∧ a ≠ 0 ∧ ax.getD 1 ≤ acc.length + 1 ∧ 0 < m then runK r 0 (ax.getD (acc.length + 1) - 1) (some (ax.getD (acc.length + 1))) [] (dn ++ [acc ++ [a]]) (m - 1) (p + 1)
    else .error p
theorem runK_scan : ∀ (l : List Nat) (a : Int) (k : Nat) (ax : Option Nat) (acc : List Int) (dn : List (List Int)) (m p : Nat),
    runK l a k ax acc dn m p = match l.drop ((scan l a p).2 - p) with
      | [] => if (scan l a p).1 = 0 ∨ acc.length + 1 < ax.getD 1 then .error (scan l a p).2 else .ok (dn ++ [acc ++ [(scan l a p).1]])
      | c :: r => if c = 120 ∧ (scan l a p).1 ≠ 0 ∧ 0 < k then runK r 0 (k - 1) ax (acc ++ [(scan l a p).1]) dn m ((scan l a p).2 + 1)
        else if c = 32 ∧ (scan l a p).1 ≠ 0 ∧ ax.getD 1 ≤ acc.length + 1 ∧ 0 < m then runK r 0 (ax.getD (acc.length + 1) - 1) (some (ax.getD (acc.length + 1))) [] (dn ++ [acc ++ [(scan l a p).1]]) (m - 1) ((scan l a p).2 + 1)
        else .error (scan l a p).2
  | [], a, k, ax, acc, dn, m, p => by
    rw [runK, scan]
    simp
  | c :: l, a, k, ax, acc, dn, m, p => by
    rw [runK, scan]
    by_cases h : 48 ≤ c ∧ c ≤ 57 ∧ 1 ≤ a * 10 + ((c : Int) - 48) ∧ a * 10 + ((c : Int) - 48) ≤ MS
    · rw [if_pos h, if_pos h, runK_scan l _ k ax acc dn m (p + 1)]
      have := (scan_rng l (a * 10 + ((c : Int) - 48)) (p + 1) (by omega) h.2.2.2).2.2.1
      have e : (scan l (a * 10 + ((c : Int) - 48)) (p + 1)).2 - p = ((scan l (a * 10 + ((c : Int) - 48)) (p + 1)).2 - (p + 1)) + 1 := by omega
      rw [e, List.drop_succ_cons]
    · rw [if_neg h, if_neg h]
      simp
def finK (c : List Nat) (ax : Option Nat) (dn : List (List Int)) (m : Nat) : Except Nat (List Int × Nat) → Except Nat (List (List Int))
  | .ok (ns, q) => if ns.length < ax.getD 1 then .error q else kindsL c (ax.getD ns.length) m (dn ++ [ns]) q
  | .error q => .error q
theorem kindsL_end' (c : List Nat) (n m : Nat) (acc : List (List Int)) {p : Nat} (h : ¬ p < c.length) : kindsL c n m acc p = .ok acc := by
  rw [kindsL.eq_def]
  simp only
  rw [if_neg h]
theorem kindsL_bad (c : List Nat) (n m : Nat) (acc : List (List Int)) {p : Nat} (h : p < c.length) (h2 : c[p]? ≠ some 32 ∨ m = 0) : kindsL c n m acc p = .error p := by
  rw [kindsL.eq_def]
  simp only
  rw [if_pos h]
  by_cases h3 : c[p]? ≠ some 32
  · rw [if_pos h3]
  · rw [if_neg h3]
    rcases h2 with h2 | h2
    · exact absurd h2 h3
    · subst h2; rfl
theorem kindsL_go (c : List Nat) (n m : Nat) (acc : List (List Int)) {p : Nat} (h : p < c.length) (h2 : c[p]? = some 32) (hn : 1 ≤ n) : kindsL c n (m + 1) acc p = finK c (some n) acc m (sidesL c n [] (p + 1)) := by
  rw [kindsL.eq_def]
  simp only
  rw [if_pos h, if_neg (fun z => z h2)]
  unfold sidesAt finK
  cases e : sidesL c n [] (p + 1) with
  | error q => rfl
  | ok r =>
    obtain ⟨ns, q⟩ := r
    dsimp only
    by_cases hl : ns.length < n
    · rw [if_pos hl, if_pos (show ns.length < (some n).getD 1 from hl)]
    · rw [if_neg hl, if_neg (show ¬ ns.length < (some n).getD 1 from hl)]; rfl
theorem kinds_runK (c : List Nat) : ∀ (m k : Nat) (ax : Option Nat) (acc : List Int) (dn : List (List Int)) (p : Nat), p ≤ c.length → (∀ n, ax = some n → 1 ≤ n) → finK c ax dn m (sidesL c (k + 1) acc p) = runK (c.drop p) 0 k ax acc dn m p := by
  intro m
  induction m with
  | zero =>
    intro k
    induction k with
    | zero =>
      intro ax acc dn p hp hx
      rw [runK_scan, sidesL]
      have rng := scan_rng (c.drop p) 0 p (by omega) (by decide)
      rw [List.length_drop] at rng
      generalize scan (c.drop p) 0 p = r at rng
      obtain ⟨a, q⟩ := r
      dsimp only at rng ⊢
      rw [List.drop_drop, show p + (q - p) = q by omega]
      by_cases ha : a = 0
      · rw [if_pos ha]
        cases hd : c.drop q with
        | nil => simp only [if_pos (Or.inl ha : a = 0 ∨ _)]; rfl
        | cons x y => simp only [finK]; rw [if_neg (fun z => z.2.1 ha), if_neg (fun z => z.2.1 ha)]
      · rw [if_neg ha, if_pos (.inl rfl)]
        simp only [finK, List.length_append, List.length_singleton]
        cases hd : c.drop q with
        | nil =>
          have := List.drop_eq_nil_iff.mp hd
          by_cases hl : acc.length + 1 < ax.getD 1
          · rw [if_pos hl]; simp only [if_pos (Or.inr hl : a = 0 ∨ _)]
          · rw [if_neg hl, kindsL_end' _ _ _ _ (by omega)]; simp only [if_neg (show ¬ (a = 0 ∨ acc.length + 1 < ax.getD 1) from fun z => z.elim ha hl)]
        | cons x y =>
          have hq : q < c.length := by
            refine Classical.byContradiction fun z => ?_
            rw [List.drop_eq_nil_of_le (by omega)] at hd
            cases hd
          simp only
          rw [if_neg (show ¬ (x = 120 ∧ a ≠ 0 ∧ 0 < 0) from fun z => absurd z.2.2 (Nat.lt_irrefl 0)), if_neg (show ¬ (x = 32 ∧ a ≠ 0 ∧ ax.getD 1 ≤ acc.length + 1 ∧ 0 < 0) from fun z => absurd z.2.2.2 (Nat.lt_irrefl 0))]
          by_cases hl : acc.length + 1 < ax.getD 1
          · rw [if_pos hl]
          · rw [if_neg hl, kindsL_bad _ _ _ _ hq (.inr rfl)]
    | succ k ih =>
      intro ax acc dn p hp hx
      rw [runK_scan, sidesL]
      have rng := scan_rng (c.drop p) 0 p (by omega) (by decide)
      rw [List.length_drop] at rng
      generalize scan (c.drop p) 0 p = r at rng
      obtain ⟨a, q⟩ := r
      dsimp only at rng ⊢
      rw [List.drop_drop, show p + (q - p) = q by omega]
      by_cases ha : a = 0
      · rw [if_pos ha]
        cases hd : c.drop q with
        | nil => simp only [if_pos (Or.inl ha : a = 0 ∨ _)]; rfl
        | cons x y => simp only [finK]; rw [if_neg (fun z => z.2.1 ha), if_neg (fun z => z.2.1 ha)]
      · rw [if_neg ha]
        cases hd : c.drop q with
        | nil =>
          have := List.drop_eq_nil_iff.mp hd
          rw [if_pos (.inr (.inl (by omega)))]
          simp only [finK, List.length_append, List.length_singleton]
          by_cases hl : acc.length + 1 < ax.getD 1
          · rw [if_pos hl, if_pos (Or.inr hl : a = 0 ∨ _)]
          · rw [if_neg hl, kindsL_end' _ _ _ _ (by omega), if_neg (show ¬ (a = 0 ∨ acc.length + 1 < ax.getD 1) from fun z => z.elim ha hl)]
        | cons x y =>
          have hq : q < c.length := by
            refine Classical.byContradiction fun z => ?_
            rw [List.drop_eq_nil_of_le (by omega)] at hd
            cases hd
          have hxq : c[q]? = some x := by
            have : (c.drop q)[0]? = some x := by rw [hd]; rfl
            rw [List.getElem?_drop] at this
            simpa using this
          have hy : c.drop (q + 1) = y := by
            have : (c.drop q).drop 1 = y := by rw [hd]; rfl
            rw [List.drop_drop] at this
            exact this
          by_cases h120 : x = 120
          · rw [if_neg (by
              intro z
              rcases z with z | z | z
              · omega
              · omega
              · exact z (by rw [hxq, h120])), ih ax (acc ++ [a]) dn (q + 1) (by omega) hx, hy]
            simp only
            rw [if_pos ⟨h120, ha, Nat.succ_pos k⟩]
            rfl
          · rw [if_pos (.inr (.inr (by rw [hxq]; simpa using h120)))]
            simp only [finK, List.length_append, List.length_singleton]
            rw [if_neg (show ¬ (x = 120 ∧ a ≠ 0 ∧ 0 < k + 1) from fun z => h120 z.1), if_neg (show ¬ (x = 32 ∧ a ≠ 0 ∧ ax.getD 1 ≤ acc.length + 1 ∧ 0 < 0) from fun z => absurd z.2.2.2 (Nat.lt_irrefl 0))]
            by_cases hl : acc.length + 1 < ax.getD 1
            · rw [if_pos hl]
            · rw [if_neg hl, kindsL_bad _ _ _ _ hq (.inr rfl)]
  | succ m ihm =>
    intro k
    induction k with
    | zero =>
      intro ax acc dn p hp hx
      rw [runK_scan, sidesL]
      have rng := scan_rng (c.drop p) 0 p (by omega) (by decide)
      rw [List.length_drop] at rng
      generalize scan (c.drop p) 0 p = r at rng
      obtain ⟨a, q⟩ := r
      dsimp only at rng ⊢
      rw [List.drop_drop, show p + (q - p) = q by omega]
      by_cases ha : a = 0
      · rw [if_pos ha]
        cases hd : c.drop q with
        | nil => simp only [if_pos (Or.inl ha : a = 0 ∨ _)]; rfl
        | cons x y => simp only [finK]; rw [if_neg (fun z => z.2.1 ha), if_neg (fun z => z.2.1 ha)]
      · rw [if_neg ha, if_pos (.inl rfl)]
        simp only [finK, List.length_append, List.length_singleton]
        cases hd : c.drop q with
        | nil =>
          have := List.drop_eq_nil_iff.mp hd
          by_cases hl : acc.length + 1 < ax.getD 1
          · rw [if_pos hl]; simp only [if_pos (Or.inr hl : a = 0 ∨ _)]
          · rw [if_neg hl, kindsL_end' _ _ _ _ (by omega)]; simp only [if_neg (show ¬ (a = 0 ∨ acc.length + 1 < ax.getD 1) from fun z => z.elim ha hl)]
        | cons x y =>
          have hq : q < c.length := by
            refine Classical.byContradiction fun z => ?_
            rw [List.drop_eq_nil_of_le (by omega)] at hd
            cases hd
          have hxq : c[q]? = some x := by
            have : (c.drop q)[0]? = some x := by rw [hd]; rfl
            rw [List.getElem?_drop] at this
            simpa using this
          have hy : c.drop (q + 1) = y := by
            have : (c.drop q).drop 1 = y := by rw [hd]; rfl
            rw [List.drop_drop] at this
            exact this
          simp only
          rw [if_neg (show ¬ (x = 120 ∧ a ≠ 0 ∧ 0 < 0) from fun z => absurd z.2.2 (Nat.lt_irrefl 0))]
          exact tailK c m ihm ax acc dn a q x y hq hxq hy ha hx
    | succ k ih =>
      intro ax acc dn p hp hx
      rw [runK_scan, sidesL]
      have rng := scan_rng (c.drop p) 0 p (by omega) (by decide)
      rw [List.length_drop] at rng
      generalize scan (c.drop p) 0 p = r at rng
      obtain ⟨a, q⟩ := r
      dsimp only at rng ⊢
      rw [List.drop_drop, show p + (q - p) = q by omega]
      by_cases ha : a = 0
      · rw [if_pos ha]
        cases hd : c.drop q with
        | nil => simp only [if_pos (Or.inl ha : a = 0 ∨ _)]; rfl
        | cons x y => simp only [finK]; rw [if_neg (fun z => z.2.1 ha), if_neg (fun z => z.2.1 ha)]
      · rw [if_neg ha]
        cases hd : c.drop q with
        | nil =>
          have := List.drop_eq_nil_iff.mp hd
          rw [if_pos (.inr (.inl (by omega)))]
          simp only [finK, List.length_append, List.length_singleton]
          by_cases hl : acc.length + 1 < ax.getD 1
          · rw [if_pos hl, if_pos (Or.inr hl : a = 0 ∨ _)]
          · rw [if_neg hl, kindsL_end' _ _ _ _ (by omega), if_neg (show ¬ (a = 0 ∨ acc.length + 1 < ax.getD 1) from fun z => z.elim ha hl)]
        | cons x y =>
          have hq : q < c.length := by
            refine Classical.byContradiction fun z => ?_
            rw [List.drop_eq_nil_of_le (by omega)] at hd
            cases hd
          have hxq : c[q]? = some x := by
            have : (c.drop q)[0]? = some x := by rw [hd]; rfl
            rw [List.getElem?_drop] at this
            simpa using this
          have hy : c.drop (q + 1) = y := by
            have : (c.drop q).drop 1 = y := by rw [hd]; rfl
            rw [List.drop_drop] at this
            exact this
          by_cases h120 : x = 120
          · rw [if_neg (by
              intro z
              rcases z with z | z | z
              · omega
              · omega
              · exact z (by rw [hxq, h120])), ih ax (acc ++ [a]) dn (q + 1) (by omega) hx, hy]
            simp only
            rw [if_pos ⟨h120, ha, Nat.succ_pos k⟩]
            rfl
          · rw [if_pos (.inr (.inr (by rw [hxq]; simpa using h120)))]
            simp only [finK, List.length_append, List.length_singleton]
            rw [if_neg (show ¬ (x = 120 ∧ a ≠ 0 ∧ 0 < k + 1) from fun z => h120 z.1)]
            exact tailK c m ihm ax acc dn a q x y hq hxq hy ha hx
where
  tailK (c : List Nat) (m : Nat) (ihm : ∀ (k : Nat) (ax : Option Nat) (acc : List Int) (dn : List (List Int)) (p : Nat), p ≤ c.length → (∀ n, ax = some n → 1 ≤ n) → finK c ax dn m (sidesL c (k + 1) acc p) = runK (c.drop p) 0 k ax acc dn m p)
      (ax : Option Nat) (acc : List Int) (dn : List (List Int)) (a : Int) (q x : Nat) (y : List Nat) (hq : q < c.length) (hxq : c[q]? = some x) (hy : c.drop (q + 1) = y) (ha : a ≠ 0) (hx : ∀ n, ax = some n → 1 ≤ n) :
      (if acc.length + 1 < ax.getD 1 then Except.error q else kindsL c (ax.getD (acc.length + 1)) (m + 1) (dn ++ [acc ++ [a]]) q) =
      if x = 32 ∧ a ≠ 0 ∧ ax.getD 1 ≤ acc.length + 1 ∧ 0 < m + 1 then runK y 0 (ax.getD (acc.length + 1) - 1) (some (ax.getD (acc.length + 1))) [] (dn ++ [acc ++ [a]]) (m + 1 - 1) (q + 1) else .error q := by
    by_cases hl : acc.length + 1 < ax.getD 1
    · rw [if_pos hl, if_neg (fun z => by have := z.2.2.1; omega)]
    · rw [if_neg hl]
      by_cases h32 : x = 32
      · rw [if_pos ⟨h32, ha, by omega, Nat.succ_pos m⟩]
        have hn : 1 ≤ ax.getD (acc.length + 1) := by
          cases ax with
          | none => exact Nat.succ_pos _
          | some n => exact hx n rfl
        generalize ax.getD (acc.length + 1) = n at hn
        obtain ⟨n', rfl⟩ : ∃ n', n = n' + 1 := ⟨n - 1, by omega⟩
        rw [kindsL_go c (n' + 1) m _ hq (by rw [hxq, h32]) hn, ihm n' (some (n' + 1)) [] _ (q + 1) (by omega) (fun n h => by cases h; exact hn), hy]
        rfl
      · rw [if_neg (fun z => h32 z.1), kindsL_bad _ _ _ _ hq (.inl (by rw [hxq]; simpa using h32))]
theorem parseK_runK (c : List Nat) : parseK c = runK c 0 3 none [] [] 3 0 := by
  have h := kinds_runK c 3 3 none [] [] 0 (Nat.zero_le _) (fun n h => nomatch h)
  rw [List.drop_zero] at h
  rw [← h]
  unfold parseK sidesAt finK
  cases e : sidesL c 4 [] 0 with
  | error q => rfl
  | ok r =>
    obtain ⟨ns, q⟩ := r
    have h1 : 1 ≤ ns.length := sidesL_pos _ _ _ _ _ e
    dsimp only
    rw [if_neg (by omega), if_neg (show ¬ ns.length < (none : Option Nat).getD 1 from by show ¬ ns.length < 1; omega)]
    rfl
end TB
set_option Elab.async false
set_option linter.all false
set_option maxRecDepth 100000
/-! Texts of kinds by groups and words. Plain mathematics. -/
namespace TB
open PySem PySem.Spec PyProof.Rows L2
def limOf : Option Nat → Nat
  | none => 4
  | some n => min 4 n
def isGroupB (g : List Nat) (ax : Option Nat) (whole : Bool) : Bool :=
  !(decide (limOf ax < (sp 120 g).length) || ((sp 120 g).dropLast.any fun w => !isNumB w true)) && (!(whole && (ax.isSome && !decide (ax = some (sp 120 g).length))) && isNumB ((sp 120 g).getLastD []) whole)
theorem isGroup_iff {g : List Nat} {ax : Option Nat} {b : Bool} {ws : List (List Nat)} {cur : List Nat} (h : sp 120 g = ws ++ [cur]) :
    isGroupB g ax b = true ↔ ws.length + 1 ≤ limOf ax ∧ (∀ w ∈ ws, isNumB w true = true) ∧ (b = true → ∀ n, ax = some n → ws.length + 1 = n) ∧ isNumB cur b = true := by
  unfold isGroupB
  have e : (ws ++ [cur]).getLastD [] = cur := by simp [List.getLastD_eq_getLast?]
  rw [h, List.dropLast_concat, List.length_append, List.length_singleton, e, Bool.and_eq_true, Bool.and_eq_true, Bool.not_eq_true', Bool.or_eq_false_iff, decide_eq_false_iff_not, List.any_eq_false, Bool.not_eq_true']
  constructor
  · rintro ⟨⟨h1, h2⟩, h3, h4⟩
    refine ⟨by omega, fun w hw => by simpa using h2 w hw, fun hb n hn => ?_, h4⟩
    subst hb hn
    simp only [Option.isSome_some, Bool.true_and, Bool.not_eq_false', decide_eq_true_eq, Option.some.injEq] at h3
    exact h3.symm
  · rintro ⟨h1, h2, h3, h4⟩
    refine ⟨⟨by omega, fun w hw => by simpa using h2 w hw⟩, ?_, h4⟩
    cases b with
    | false => rfl
    | true =>
      cases ax with
      | none => rfl
      | some n => simp [h3 rfl n rfl]
def axH (gs : List (List Nat)) : Option Nat := gs.head?.map fun g => (sp 120 g).length
def axesOf (gs : List (List Nat)) : Option Nat := if 1 < gs.length then axH gs else none
theorem axes_snoc (gs : List (List Nat)) (cg : List Nat) : axesOf (gs ++ [cg]) = axH gs := by
  unfold axesOf axH
  cases gs with
  | nil => rfl
  | cons g t => rw [if_pos (by simp)]; rfl
theorem axH_snoc (gs : List (List Nat)) (cg : List Nat) : axH (gs ++ [cg]) = some ((axH gs).getD (sp 120 cg).length) := by
  unfold axH
  cases gs with
  | nil => rfl
  | cons g t => rfl
def isTextKB (c : List Nat) (whole : Bool) : Bool :=
  !(decide (4 < (sp 32 c).length) || ((sp 32 c).dropLast.any fun g => !isGroupB g (axesOf (sp 32 c)) true)) && isGroupB ((sp 32 c).getLastD []) (axesOf (sp 32 c)) whole
theorem isTextK_iff {c : List Nat} {b : Bool} {gs : List (List Nat)} {cg : List Nat} (h : sp 32 c = gs ++ [cg]) : isTextKB c b = true ↔ gs.length + 1 ≤ 4 ∧ (∀ g ∈ gs, isGroupB g (axH gs) true = true) ∧ isGroupB cg (axH gs) b = true := by
  unfold isTextKB
  have e : (gs ++ [cg]).getLastD [] = cg := by simp [List.getLastD_eq_getLast?]
  rw [h, List.dropLast_concat, List.length_append, List.length_singleton, e, axes_snoc, Bool.and_eq_true, Bool.not_eq_true', Bool.or_eq_false_iff, decide_eq_false_iff_not, List.any_eq_false]
  constructor
  · rintro ⟨⟨h1, h2⟩, h3⟩
    exact ⟨by omega, fun w hw => by simpa using h2 w hw, h3⟩
  · rintro ⟨h1, h2, h3⟩
    exact ⟨⟨by omega, fun w hw => by simpa using h2 w hw⟩, h3⟩
theorem isGroup_init {g : List Nat} {c : Nat} {ax : Option Nat} {b : Bool} (h : isGroupB (g ++ [c]) ax b = true) : isGroupB g ax false = true := by
  obtain ⟨ws, cur, e⟩ := sp_last 120 g
  have s := sp_snoc 120 g c ws cur e
  rw [isGroup_iff e]
  by_cases hc : c = 120
  · rw [if_pos hc] at s
    obtain ⟨h1, h2, _, h3⟩ := (isGroup_iff s).mp h
    rw [List.length_append] at h1
    refine ⟨by simp at h1; omega, fun w hw => h2 w (List.mem_append_left _ hw), (fun z => nomatch z), ?_⟩
    have := h2 cur (List.mem_append_right _ List.mem_cons_self)
    exact isNum_false.mpr (isNum_true.mp this).2
  · rw [if_neg hc] at s
    obtain ⟨h1, h2, _, h3⟩ := (isGroup_iff s).mp h
    exact ⟨h1, h2, (fun z => nomatch z), isNum_false.mpr (gw_init (c := c) ((isNum_gw (by simp) b).mp h3))⟩
theorem isGroup_less {g : List Nat} {ax ax' : Option Nat} (h : isGroupB g ax' true = true) (hx : ax = ax' ∨ ax = none) : isGroupB g ax false = true := by
  obtain ⟨ws, cur, e⟩ := sp_last 120 g
  obtain ⟨h1, h2, _, h3⟩ := (isGroup_iff e).mp h
  rw [isGroup_iff e]
  refine ⟨?_, h2, (fun z => nomatch z), isNum_false.mpr (isNum_true.mp h3).2⟩
  rcases hx with rfl | rfl
  · exact h1
  · refine Nat.le_trans h1 ?_
    cases ax' with
    | none => exact Nat.le_refl _
    | some n => exact Nat.min_le_left _ _
theorem isTextK_init {u : List Nat} {c : Nat} {b : Bool} (h : isTextKB (u ++ [c]) b = true) : isTextKB u false = true := by
  obtain ⟨gs, cg, e⟩ := sp_last 32 u
  have s := sp_snoc 32 u c gs cg e
  rw [isTextK_iff e]
  by_cases hc : c = 32
  · rw [if_pos hc] at s
    obtain ⟨h1, h2, h3⟩ := (isTextK_iff s).mp h
    rw [List.length_append] at h1
    have hcg := h2 cg (List.mem_append_right _ List.mem_cons_self)
    rw [axH_snoc] at h2 hcg
    cases gs with
    | nil => exact ⟨by decide, (fun _ z => nomatch z), isGroup_less hcg (.inr rfl)⟩
    | cons g t => exact ⟨by simp at h1 ⊢; omega, fun x hx => h2 x (List.mem_append_left _ hx), isGroup_less hcg (.inl rfl)⟩
  · rw [if_neg hc] at s
    obtain ⟨h1, h2, h3⟩ := (isTextK_iff s).mp h
    exact ⟨h1, h2, isGroup_init h3⟩
theorem isTextK_pre : ∀ (n : Nat) {u r : List Nat} {b : Bool}, r.length = n → isTextKB (u ++ r) b = true → r ≠ [] → isTextKB u false = true := by
  intro n
  induction n with
  | zero => exact fun h _ hr => absurd (List.length_eq_zero_iff.mp h) hr
  | succ n ih =>
    intro u r b hl h hr
    have e := List.dropLast_concat_getLast hr
    rw [← e, ← List.append_assoc] at h
    have h1 := isTextK_init h
    cases hd : r.dropLast with
    | nil => rw [hd, List.append_nil] at h1; exact h1
    | cons x xs => exact ih (r := r.dropLast) (by rw [List.length_dropLast, hl]; rfl) h1 (by rw [hd]; simp)
theorem isGroup_whole {g : List Nat} {ax : Option Nat} (h : isGroupB g ax true = true) : isGroupB g ax false = true := isGroup_less h (.inl rfl)
theorem isTextK_whole {u : List Nat} (h : isTextKB u true = true) : isTextKB u false = true := by
  obtain ⟨gs, cg, e⟩ := sp_last 32 u
  obtain ⟨h1, h2, h3⟩ := (isTextK_iff e).mp h
  exact (isTextK_iff e).mpr ⟨h1, h2, isGroup_whole h3⟩
def valG (g : List Nat) : List Int := (sp 120 g).map fun w => (valN w : Int)
def dueK (c : List Nat) : Except Nat (List (List Int)) :=
  if isTextKB c true = true then .ok ((sp 32 c).map valG) else .error (((List.range c.length).filter fun k => !isTextKB (c.take (k + 1)) false).head?.getD c.length)
structure StK (u : List Nat) (a : Int) (k : Nat) (ax : Option Nat) (acc : List Int) (dn : List (List Int)) (m : Nat) (gs : List (List Nat)) (cg : List Nat) (ws : List (List Nat)) (cur : List Nat) : Prop where
  eq : sp 32 u = gs ++ [cg]
  m : gs.length + m = 3
  gok : ∀ g ∈ gs, isGroupB g ax true = true
  dn : dn = gs.map valG
  eax : ax = axH gs
  lim : limOf ax = ax.getD 4
  eqw : sp 120 cg = ws ++ [cur]
  k : ws.length + k + 1 = ax.getD 4
  ok : ∀ w ∈ ws, isNumB w true = true
  eacc : acc = ws.map fun w => (valN w : Int)
  ea : a = (valN cur : Int)
  cur : Gw cur
section
variable {u : List Nat} {a : Int} {k : Nat} {ax : Option Nat} {acc : List Int} {dn : List (List Int)} {m : Nat} {gs : List (List Nat)} {cg : List Nat} {ws : List (List Nat)} {cur : List Nat}
theorem StK.text (S : StK u a k ax acc dn m gs cg ws cur) : isTextKB u false = true := by
  refine (isTextK_iff S.eq).mpr ⟨by have := S.m; omega, ?_, ?_⟩
  · rw [← S.eax]; exact S.gok
  · rw [← S.eax, isGroup_iff S.eqw]
    exact ⟨by rw [S.lim]; have := S.k; omega, S.ok, (fun z => nomatch z), isNum_false.mpr S.cur⟩
theorem StK.zero (S : StK u a k ax acc dn m gs cg ws cur) : a = 0 ↔ cur = [] := by
  rw [S.ea]
  constructor
  · intro h
    refine Classical.byContradiction fun z => ?_
    have := gw_pos S.cur z
    omega
  · intro h
    rw [h]; rfl
theorem StK.accl (S : StK u a k ax acc dn m gs cg ws cur) : acc.length = ws.length := by rw [S.eacc, List.length_map]
theorem StK.full (S : StK u a k ax acc dn m gs cg ws cur) (ha : a ≠ 0) (hl : ax.getD 1 ≤ acc.length + 1) : isGroupB cg (some (ax.getD (acc.length + 1))) true = true ∧ isGroupB cg ax true = true := by
  have hcur : cur ≠ [] := fun z => ha (S.zero.mpr z)
  have hk := S.k
  have hal := S.accl
  have hlim := S.lim
  cases hx : ax with
  | none =>
    rw [hx] at hk hl
    constructor
    · rw [isGroup_iff S.eqw]
      refine ⟨?_, S.ok, fun _ n hn => ?_, isNum_true.mpr ⟨hcur, S.cur⟩⟩
      · show ws.length + 1 ≤ min 4 (acc.length + 1)
        have : ws.length + k + 1 = 4 := hk
        omega
      · have : acc.length + 1 = n := Option.some.inj hn
        omega
    · rw [isGroup_iff S.eqw]
      refine ⟨?_, S.ok, (fun _ n hn => nomatch hn), isNum_true.mpr ⟨hcur, S.cur⟩⟩
      show ws.length + 1 ≤ 4
      have : ws.length + k + 1 = 4 := hk
      omega
  | some n =>
    rw [hx] at hk hl hlim
    have hk : ws.length + k + 1 = n := hk
    have hl : n ≤ acc.length + 1 := hl
    have hlim : min 4 n = n := hlim
    have h : isGroupB cg (some n) true = true := by
      rw [isGroup_iff S.eqw]
      refine ⟨?_, S.ok, fun _ n' hn => ?_, isNum_true.mpr ⟨hcur, S.cur⟩⟩
      · show ws.length + 1 ≤ min 4 n
        omega
      · cases hn; omega
    exact ⟨h, h⟩
end
theorem runK_due (c : List Nat) : ∀ (r u : List Nat) (a : Int) (k : Nat) (ax : Option Nat) (acc : List Int) (dn : List (List Int)) (m : Nat) (gs : List (List Nat)) (cg : List Nat) (ws : List (List Nat)) (cur : List Nat),
    c = u ++ r → StK u a k ax acc dn m gs cg ws cur → (∀ j, j < u.length → isTextKB (c.take (j + 1)) false = true) → runK r a k ax acc dn m u.length = dueK c
  | [], u, a, k, ax, acc, dn, m, gs, cg, ws, cur, hc, S, hp => by
    rw [List.append_nil] at hc
    subst hc
    have it := isTextK_iff (b := true) S.eq
    have hal := S.accl
    rw [runK]
    unfold dueK
    by_cases hb : a = 0 ∨ acc.length + 1 < ax.getD 1
    · rw [if_pos hb, if_neg (fun z => by
        have g := (it.mp z).2.2
        rw [← S.eax] at g
        obtain ⟨q1, q2, q3, q4⟩ := (isGroup_iff S.eqw).mp g
        rcases hb with hb | hb
        · rw [S.zero.mp hb] at q4
          cases q4
        · cases hx : ax with
          | none => rw [hx] at hb; have : acc.length + 1 < 1 := hb; omega
          | some n =>
            have := q3 rfl n hx
            rw [hx] at hb
            have : acc.length + 1 < n := hb
            omega)]
      have e : (List.range c.length).filter (fun k => !isTextKB (c.take (k + 1)) false) = [] := by
        rw [List.filter_eq_nil_iff]
        exact fun x hx => by simp [hp x (List.mem_range.mp hx)]
      rw [e]; rfl
    · rw [if_neg hb]
      have ha : a ≠ 0 := fun z => hb (.inl z)
      have hl : ax.getD 1 ≤ acc.length + 1 := Nat.le_of_not_lt fun z => hb (.inr z)
      have gok := S.gok
      rw [if_pos (it.mpr ⟨by have := S.m; omega, by rw [← S.eax]; exact gok, by rw [← S.eax]; exact (S.full ha hl).2⟩), S.eq, S.dn, List.map_append]
      show Except.ok (_ ++ [acc ++ [a]]) = Except.ok (_ ++ [valG cg])
      unfold valG
      rw [S.eqw, List.map_append, S.eacc, S.ea]
      rfl
  | ch :: r, u, a, k, ax, acc, dn, m, gs, cg, ws, cur, hc, S, hp => by
    have hms : MS = 1000000000000 := rfl
    have hc' : c = (u ++ [ch]) ++ r := by rw [hc, List.append_assoc]; rfl
    have ht : c.take (u.length + 1) = u ++ [ch] := by
      rw [hc', List.take_append_of_le_length (by rw [List.length_append]; exact Nat.le_refl _), List.take_of_length_le (by rw [List.length_append]; exact Nat.le_refl _)]
    have hl : (u ++ [ch]).length = u.length + 1 := by rw [List.length_append]; rfl
    have sn := sp_snoc 32 u ch gs cg S.eq
    have sw := sp_snoc 120 cg ch ws cur S.eqw
    have hal := S.accl
    have more : ∀ {a k ax acc dn m gs cg ws cur}, StK (u ++ [ch]) a k ax acc dn m gs cg ws cur → ∀ j, j < (u ++ [ch]).length → isTextKB (c.take (j + 1)) false = true := fun S2 j hj => by
      rw [hl] at hj
      by_cases z : j < u.length
      · exact hp j z
      · have : j = u.length := by omega
        rw [this, ht]
        exact S2.text
    rw [runK]
    by_cases h1 : 48 ≤ ch ∧ ch ≤ 57 ∧ 1 ≤ a * 10 + ((ch : Int) - 48) ∧ a * 10 + ((ch : Int) - 48) ≤ MS
    · rw [if_pos h1]
      have ha := S.ea
      have S2 : StK (u ++ [ch]) (a * 10 + ((ch : Int) - 48)) k ax acc dn m gs (cg ++ [ch]) ws (cur ++ [ch]) :=
        ⟨by rw [sn, if_neg (by omega)], S.m, S.gok, S.dn, S.eax, S.lim, by rw [sw, if_neg (by omega)], S.k, S.ok, S.eacc, by rw [valN_snoc]; omega, gw_snoc S.cur h1.1 h1.2.1 (by omega) (by omega)⟩
      have ih := runK_due c r (u ++ [ch]) _ _ _ _ _ _ _ _ _ _ hc' S2 (more S2)
      rw [hl] at ih
      exact ih
    · rw [if_neg h1]
      by_cases h2 : ch = 120 ∧ a ≠ 0 ∧ 0 < k
      · rw [if_pos h2]
        have hcur : cur ≠ [] := fun z => h2.2.1 (S.zero.mpr z)
        have S2 : StK (u ++ [ch]) 0 (k - 1) ax (acc ++ [a]) dn m gs (cg ++ [ch]) (ws ++ [cur]) [] :=
          ⟨by rw [sn, if_neg (by omega)], S.m, S.gok, S.dn, S.eax, S.lim, by rw [sw, if_pos h2.1], by have := S.k; rw [List.length_append, List.length_singleton]; omega, fun w hw => by
            rcases List.mem_append.mp hw with hw | hw
            · exact S.ok w hw
            · rw [List.mem_singleton.mp hw]; exact isNum_true.mpr ⟨hcur, S.cur⟩, by rw [List.map_append, S.eacc, S.ea]; rfl, rfl, gw_nil⟩
        have ih := runK_due c r (u ++ [ch]) _ _ _ _ _ _ _ _ _ _ hc' S2 (more S2)
        rw [hl] at ih
        exact ih
      · rw [if_neg h2]
        by_cases h3 : ch = 32 ∧ a ≠ 0 ∧ ax.getD 1 ≤ acc.length + 1 ∧ 0 < m
        · rw [if_pos h3]
          obtain ⟨f1, f2⟩ := S.full h3.2.1 h3.2.2.1
          have hcl : (sp 120 cg).length = acc.length + 1 := by rw [S.eqw, List.length_append, hal]; rfl
          have S2 : StK (u ++ [ch]) 0 (ax.getD (acc.length + 1) - 1) (some (ax.getD (acc.length + 1))) [] (dn ++ [acc ++ [a]]) (m - 1) (gs ++ [cg]) [] [] [] := by
            refine ⟨by rw [sn, if_pos h3.1], by have := S.m; rw [List.length_append, List.length_singleton]; omega, fun g hg => ?_, ?_, ?_, ?_, rfl, ?_, (fun _ z => nomatch z), rfl, rfl, gw_nil⟩
            · rcases List.mem_append.mp hg with hg | hg
              · have := S.gok g hg
                cases gs with
                | nil => cases hg
                | cons g0 t =>
                  have e := S.eax
                  rw [show axH (g0 :: t) = some (sp 120 g0).length from rfl] at e
                  rw [e] at this ⊢
                  exact this
              · rw [List.mem_singleton.mp hg]; exact f1
            · rw [List.map_append, S.dn]
              show _ ++ [acc ++ [a]] = _ ++ [valG cg]
              unfold valG
              rw [S.eqw, List.map_append, S.eacc, S.ea]
              rfl
            · rw [axH_snoc, hcl, ← S.eax]
            · have hk := S.k
              have hlim := S.lim
              cases hx : ax with
              | none =>
                rw [hx] at hk
                have : ws.length + k + 1 = 4 := hk
                show min 4 (acc.length + 1) = acc.length + 1
                omega
              | some n => rw [hx] at hlim; exact hlim
            · have hk := S.k
              cases hx : ax with
              | none => show 0 + (acc.length + 1 - 1) + 1 = acc.length + 1; omega
              | some n =>
                rw [hx] at hk
                have : ws.length + k + 1 = n := hk
                show 0 + (n - 1) + 1 = n
                omega
          have ih := runK_due c r (u ++ [ch]) _ _ _ _ _ _ _ _ _ _ hc' S2 (more S2)
          rw [hl] at ih
          exact ih
        · rw [if_neg h3]
          have bad : isTextKB (u ++ [ch]) false = false := by
            refine Bool.eq_false_iff.mpr fun z => ?_
            have hk := S.k
            by_cases h32 : ch = 32
            · rw [if_pos h32] at sn
              obtain ⟨q1, q2, q3⟩ := (isTextK_iff sn).mp z
              rw [List.length_append] at q1
              have hm : 0 < m := by have := S.m; simp at q1; omega
              have g := q2 cg (List.mem_append_right _ List.mem_cons_self)
              rw [axH_snoc, ← S.eax, S.eqw] at g
              obtain ⟨p1, p2, p3, p4⟩ := (isGroup_iff S.eqw).mp g
              have ha : a ≠ 0 := fun w => (isNum_true.mp p4).1 (S.zero.mp w)
              refine h3 ⟨h32, ha, ?_, hm⟩
              cases hx : ax with
              | none => exact Nat.succ_le_succ (Nat.zero_le _)
              | some n =>
                have := p3 rfl n (by rw [hx]; rfl)
                show n ≤ _
                omega
            · rw [if_neg h32] at sn
              obtain ⟨q1, q2, q3⟩ := (isTextK_iff sn).mp z
              rw [← S.eax] at q3
              by_cases h120 : ch = 120
              · rw [if_pos h120] at sw
                obtain ⟨p1, p2, p3, p4⟩ := (isGroup_iff sw).mp q3
                rw [S.lim, List.length_append, List.length_singleton] at p1
                have hk0 : 0 < k := by omega
                have := isNum_true.mp (p2 cur (List.mem_append_right _ List.mem_cons_self))
                exact h2 ⟨h120, fun w => this.1 (S.zero.mp w), hk0⟩
              · rw [if_neg h120] at sw
                obtain ⟨p1, p2, p3, p4⟩ := (isGroup_iff sw).mp q3
                have g := isNum_false.mp p4
                have dg := g.dig ch (List.mem_append_right _ List.mem_cons_self)
                have gv := g.val
                rw [valN_snoc] at gv
                have gp := gw_pos g (by simp)
                rw [valN_snoc] at gp
                have ha := S.ea
                exact h1 ⟨dg.1, dg.2, by omega, by omega⟩
          have bc : ¬ isTextKB c true = true := fun z => by
            cases r with
            | nil =>
              rw [hc', List.append_nil] at z
              rw [isTextK_whole z] at bad; cases bad
            | cons x xs =>
              rw [hc'] at z
              have := isTextK_pre (x :: xs).length rfl z (by simp)
              rw [this] at bad; cases bad
          unfold dueK
          rw [if_neg bc, head_filter (i := u.length) (fun j hj => by rw [hp j hj]; rfl) (by rw [ht, bad]; rfl) c.length (by rw [hc', List.length_append, hl]; omega)]
          rfl
theorem parseK_due (c : List Nat) : parseK c = dueK c := by
  rw [parseK_runK]
  exact runK_due c c [] 0 3 none [] [] 3 [] [] [] [] rfl ⟨rfl, rfl, (fun _ h => nomatch h), rfl, rfl, rfl, rfl, rfl, (fun _ h => nomatch h), rfl, rfl, gw_nil⟩ fun j hj => absurd hj (Nat.not_lt_zero j)
end TB
set_option Elab.async false
set_option linter.all false
set_option maxRecDepth 100000
namespace K06
open PySem PySem.Spec PyProof.Rows L2 Evl TB
def topS (i : Nat) : Stmt := PySem.Challenge.pw_twobricks_k06_texts_of_no_kinds.main.body.getD i (.Pass ⟨0, 0, 0, 0⟩)
abbrev s_number_at : Stmt := topS 7
abbrev n_number_at : List Str := ["text", "start", "number", "place", "digit", "longer"]
abbrev p_number_at : List Str := ["text", "start"]
theorem sc_number_at : FnScope n_number_at p_number_at (defScope s_number_at) := ⟨rfl, rfl, rfl, by decide +kernel, rfl, by decide +kernel, by decide +kernel⟩

abbrev s_sides_at : Stmt := topS 8
abbrev n_sides_at : List Str := ["text", "start", "least", "most", "sides", "place", "number"]
abbrev p_sides_at : List Str := ["text", "start", "least", "most"]
theorem sc_sides_at : FnScope n_sides_at p_sides_at (defScope s_sides_at) := ⟨rfl, rfl, rfl, by decide +kernel, rfl, by decide +kernel, by decide +kernel⟩

abbrev s_parse_kinds : Stmt := topS 9
abbrev n_parse_kinds : List Str := ["value", "first", "place", "kinds", "sides"]
abbrev p_parse_kinds : List Str := ["value"]
theorem sc_parse_kinds : FnScope n_parse_kinds p_parse_kinds (defScope s_parse_kinds) := ⟨rfl, rfl, rfl, by decide +kernel, rfl, by decide +kernel, by decide +kernel⟩

abbrev s__law_deck : Stmt := topS 11
abbrev n__law_deck : List Str := ["_law_script", "_law_cells", "_law_cell"]
abbrev p__law_deck : List Str := ["_law_script"]
theorem sc__law_deck : FnScope n__law_deck p__law_deck (defScope s__law_deck) := ⟨rfl, rfl, rfl, by decide +kernel, rfl, by decide +kernel, by decide +kernel⟩

abbrev s__law_draw : Stmt := topS 12
abbrev n__law_draw : List Str := ["_law_deck_here", "_law_many", "_law_rest", "_law_cell", "_law_mixed"]
abbrev p__law_draw : List Str := ["_law_deck_here", "_law_many"]
theorem sc__law_draw : FnScope n__law_draw p__law_draw (defScope s__law_draw) := ⟨rfl, rfl, rfl, by decide +kernel, rfl, by decide +kernel, by decide +kernel⟩

abbrev s__law_one : Stmt := topS 13
abbrev n__law_one : List Str := ["_law_deck_here", "_law_items"]
abbrev p__law_one : List Str := ["_law_deck_here", "_law_items"]
theorem sc__law_one : FnScope n__law_one p__law_one (defScope s__law_one) := ⟨rfl, rfl, rfl, by decide +kernel, rfl, by decide +kernel, by decide +kernel⟩

abbrev s__law_odd : Stmt := topS 14
abbrev n__law_odd : List Str := ["_law_deck_here", "_law_some"]
abbrev p__law_odd : List Str := ["_law_deck_here"]
theorem sc__law_odd : FnScope n__law_odd p__law_odd (defScope s__law_odd) := ⟨rfl, rfl, rfl, by decide +kernel, rfl, by decide +kernel, by decide +kernel⟩

abbrev s__law_far : Stmt := topS 15
abbrev n__law_far : List Str := ["_law_deck_here"]
abbrev p__law_far : List Str := ["_law_deck_here"]
theorem sc__law_far : FnScope n__law_far p__law_far (defScope s__law_far) := ⟨rfl, rfl, rfl, by decide +kernel, rfl, by decide +kernel, by decide +kernel⟩

abbrev s__law_wide : Stmt := topS 16
abbrev n__law_wide : List Str := ["_law_deck_here", "_law_axes", "_law_axis"]
abbrev p__law_wide : List Str := ["_law_deck_here", "_law_axes"]
theorem sc__law_wide : FnScope n__law_wide p__law_wide (defScope s__law_wide) := ⟨rfl, rfl, rfl, by decide +kernel, rfl, by decide +kernel, by decide +kernel⟩

abbrev s__law_sides_text : Stmt := topS 17
abbrev n__law_sides_text : List Str := ["_law_sides", "_law_side"]
abbrev p__law_sides_text : List Str := ["_law_sides"]
theorem sc__law_sides_text : FnScope n__law_sides_text p__law_sides_text (defScope s__law_sides_text) := ⟨rfl, rfl, rfl, by decide +kernel, rfl, by decide +kernel, by decide +kernel⟩

abbrev s__law_kinds_text : Stmt := topS 18
abbrev n__law_kinds_text : List Str := ["_law_kinds", "_law_sides"]
abbrev p__law_kinds_text : List Str := ["_law_kinds"]
theorem sc__law_kinds_text : FnScope n__law_kinds_text p__law_kinds_text (defScope s__law_kinds_text) := ⟨rfl, rfl, rfl, by decide +kernel, rfl, by decide +kernel, by decide +kernel⟩

abbrev s__law_is_number : Stmt := topS 19
abbrev n__law_is_number : List Str := ["_law_word", "_law_is_whole", "_law_sign"]
abbrev p__law_is_number : List Str := ["_law_word", "_law_is_whole"]
theorem sc__law_is_number : FnScope n__law_is_number p__law_is_number (defScope s__law_is_number) := ⟨rfl, rfl, rfl, by decide +kernel, rfl, by decide +kernel, by decide +kernel⟩

abbrev s__law_is_group : Stmt := topS 20
abbrev n__law_is_group : List Str := ["_law_group", "_law_axes", "_law_is_whole", "_law_words", "_law_word"]
abbrev p__law_is_group : List Str := ["_law_group", "_law_axes", "_law_is_whole"]
theorem sc__law_is_group : FnScope n__law_is_group p__law_is_group (defScope s__law_is_group) := ⟨rfl, rfl, rfl, by decide +kernel, rfl, by decide +kernel, by decide +kernel⟩

abbrev s__law_is_text : Stmt := topS 21
abbrev n__law_is_text : List Str := ["_law_value", "_law_is_whole", "_law_groups", "_law_axes", "_law_group"]
abbrev p__law_is_text : List Str := ["_law_value", "_law_is_whole"]
theorem sc__law_is_text : FnScope n__law_is_text p__law_is_text (defScope s__law_is_text) := ⟨rfl, rfl, rfl, by decide +kernel, rfl, by decide +kernel, by decide +kernel⟩

abbrev s__law_due : Stmt := topS 22
abbrev n__law_due : List Str := ["_law_value", "_law_wrong", "_law_group", "_law_word", "_law_k"]
abbrev p__law_due : List Str := ["_law_value"]
theorem sc__law_due : FnScope n__law_due p__law_due (defScope s__law_due) := ⟨rfl, rfl, rfl, by decide +kernel, rfl, by decide +kernel, by decide +kernel⟩

abbrev s__law_told : Stmt := topS 23
abbrev n__law_told : List Str := ["_law_value", "_law_found", "error"]
abbrev p__law_told : List Str := ["_law_value"]
theorem sc__law_told : FnScope n__law_told p__law_told (defScope s__law_told) := ⟨rfl, rfl, rfl, by decide +kernel, rfl, by decide +kernel, by decide +kernel⟩

abbrev s__law_spoilt : Stmt := topS 24
abbrev n__law_spoilt : List Str := ["_law_deck_here", "_law_text", "_law_at", "_law_way", "_law_sign"]
abbrev p__law_spoilt : List Str := ["_law_deck_here", "_law_text"]
theorem sc__law_spoilt : FnScope n__law_spoilt p__law_spoilt (defScope s__law_spoilt) := ⟨rfl, rfl, rfl, by decide +kernel, rfl, by decide +kernel, by decide +kernel⟩

abbrev s_law : Stmt := topS 25
abbrev n_law : List Str := ["_law_script", "_law_deck_here", "_law_turn", "_law_axes", "_law_text", "_law_one_here", "_law_some", "_law_value", "_law_k"]
abbrev p_law : List Str := ["_law_script"]
theorem sc_law : FnScope n_law p_law (defScope s_law) := ⟨rfl, rfl, rfl, by decide +kernel, rfl, by decide +kernel, by decide +kernel⟩

abbrev s_ini_BadText : Stmt := inClass (topS 5) 0
theorem sc_ini_BadText : FnScope ["self", "place"] ["self", "place"] (defScope s_ini_BadText) := ⟨rfl, rfl, rfl, by decide +kernel, rfl, by decide +kernel, by decide +kernel⟩
theorem ok_ini_BadText {P : Program} {w : World} {K : PySem.W.Frag} {mg : Str → Option Value} {base : Heap} {C fI : Addr} {fd : FuncData} (F : Fun K "__init__" "BadText.__init__" s_ini_BadText fI fd) (T : OexC K C) (no : PySem.W.findIn K (.ref C) "place" = some none) :
    FnOk P w K mg base CX0 1 fI fd ["self", "place"] (TB.spIni C "place") := by
  refine F.ok sc_ini_BadText (fun vs H Q E h => ?_) (fun cdv A outer s H vs Q E hr h => ?_)
  · obtain ⟨a, v, rfl, _⟩ := h
    rfl
  obtain ⟨a, v, rfl, ha, k⟩ := h
  exact ⟨_, pss_one (ps_ost (pv 0) (pv 1)), ⟨_, rfl, _, rfl, a, C, rfl, T, no, .inl ⟨ha, fun dx h1 h2 => k dx h1 h2⟩⟩⟩

structure Txt (mg : Str → Option Value) : Prop where
  n_abs : mg "abs" = none
  n_int : mg "int" = none
  n_isinstance : mg "isinstance" = none
  n_len : mg "len" = none
  n_min : mg "min" = none
  n_range : mg "range" = none
  n_repr : mg "repr" = none
  n_str : mg "str" = none
  n_tuple : mg "tuple" = none
  c_MAX_DIMS : ∃ t, mg "MAX_DIMS" = some (.int 4 t)
  c_MAX_KINDS : ∃ t, mg "MAX_KINDS" = some (.int 4 t)
  c_MAX_SIDE : ∃ t, mg "MAX_SIDE" = some (.int 1000000000000 t)
section
variable {P : Program} {w : World} {K : PySem.W.Frag} {mg : Str → Option Value} {base : Heap}
/-! ### the deck -/
theorem shaped_ints (ns : List Int) : SeqAt.shaped (.list (ns.map PyData.int)) = true := by
  have h1 : PyData.canLayAll0 (ns.map PyData.int) = true := by
    induction ns with
    | nil => rfl
    | cons n ns ih => rw [List.map_cons, PyData.canLayAll0, ih]; rfl
  have h2 : PyData.depthAll (ns.map PyData.int) = 0 := by
    induction ns with
    | nil => rfl
    | cons n ns ih => rw [List.map_cons, PyData.depthAll, ih (by rw [List.map_cons, PyData.canLayAll0] at h1; exact (Bool.and_eq_true_iff.mp h1).2)]; rfl
  unfold SeqAt.shaped
  rw [PyData.canLay0, h1, PyData.depth, h2]; rfl
theorem dpAll_ints {K : PySem.W.Frag} {H : Hp} (ns : List Int) : DpAll K H (ns.map V.int) (ns.map PyData.int) := by
  induction ns with
  | nil => exact .nil
  | cons n ns ih => exact .cons (.int n) ih
theorem eqv_nil (ns : List Int) : PyData.eqv (.list (ns.map PyData.int)) (.list []) = ns.isEmpty := by
  cases ns <;> rfl
theorem ok__law_draw (T : Txt mg) {f : Addr} {fd : FuncData} (F : Fun K "_law_draw" "_law_draw" s__law_draw f fd) : FnOk P w K mg base CX0 1 f fd p__law_draw spDraw := by
  refine F.ok sc__law_draw (fun vs H Q E h => ?_) (fun cdv A outer s H vs Q E hr h => ?_)
  · obtain ⟨d, g, l, m, rfl, _⟩ := h
    rfl
  obtain ⟨d, g, l, m, rfl, m0, m1, ⟨gs, ls, c, hd, hg, hl, dg, dl, gl, lpos⟩, k⟩ := h
  refine ⟨_, (pss_cons (ps_if (pt_cmpR (op_neD hr.units) (pe_ix ix_list (pv 0) pe_int (fun _ _ => rfl)) (pe_lst pa_nil) (nomark _))
 (pss_cons (ps_set (i := 2) sc__law_draw.nd rfl (.inl rfl) (pe_ix ix_list (pe_ix ix_list (pv 0) pe_int (fun _ _ => rfl)) pe_int (fun _ _ => rfl)))
 (pss_cons (ps_asg (pe_op op_fdivW (pv 2) (pv 1)) (pg_sub (pe_ix ix_list (pv 0) pe_int (fun _ _ => rfl)) pe_int set_list))
 (pss_cons (ps_if (pt_cmpR op_eq (pe_ix ix_list (pe_ix ix_list (pv 0) pe_int (fun _ _ => rfl)) pe_int (fun _ _ => rfl)) pe_int (nomark _))
 (pss_one (ps_expr (pe_bm PySem.F.plainAttrs_list PySem.F.slot_list_pop PySem.F.type_list_pop mt_popAt (pe_ix ix_list (pv 0) pe_int (fun _ _ => rfl)) (pa_cons pe_int pa_nil)))) pss_nil)
 (pss_one (ps_ret (pe_op op_modN (pe_callTy call_int1 (by rfl) T.n_int (by decide +kernel) (pa_cons (pv 2) pa_nil)) (pv 1))))))) pss_nil)
 (pss_cons (ps_asg (pe_op op_add (pe_ix ix_list (pv 0) pe_int (fun _ _ => rfl)) pe_int) (pg_sub (pv 0) pe_int set_list))
 (pss_cons (ps_set (i := 3) sc__law_draw.nd rfl (.inl rfl) (pe_ix ix_list (pe_ix ix_list (pv 0) pe_int (fun _ _ => rfl)) (pe_op op_modN (pe_callTy call_int1 (by rfl) T.n_int (by decide +kernel) (pa_cons (pe_ix ix_list (pv 0) pe_int (fun _ _ => rfl)) pa_nil)) (pe_callB call_len_seq (by rfl) T.n_len (by decide +kernel) (pa_cons (pe_ix ix_list (pv 0) pe_int (fun _ _ => rfl)) pa_nil))) (fun _ _ => rfl)))
 (pss_cons (ps_set (i := 4) sc__law_draw.nd rfl (.inl rfl) (pe_op op_modN (pe_callTy call_int1 (by rfl) T.n_int (by decide +kernel) (pa_cons (pe_op op_add (pe_op op_modN (pe_callTy call_int1 (by rfl) T.n_int (by decide +kernel) (pa_cons (pv 3) pa_nil)) pe_int) (pe_op op_mul pe_int (pe_ix ix_list (pv 0) pe_int (fun _ _ => rfl)))) pa_nil)) pe_int))
 (pss_cons (ps_set (i := 4) sc__law_draw.nd rfl (.inl rfl) (pe_op op_modN (pe_callTy call_int1 (by rfl) T.n_int (by decide +kernel) (pa_cons (pe_op op_add (pe_op op_mul (pv 4) (pv 4)) (pe_op op_mul pe_int (pe_ix ix_list (pv 0) pe_int (fun _ _ => rfl)))) pa_nil)) pe_int))
 (pss_one (ps_ret (pe_op op_modN (pe_op op_fdivW (pe_op op_modN (pe_callTy call_int1 (by rfl) T.n_int (by decide +kernel) (pa_cons (pe_op op_mul (pv 4) (pv 4)) pa_nil)) pe_int) pe_int) (pv 1))))))))), ?_⟩
  refine ⟨_, rfl, d, _, _, _, rfl, rfl, .inl (.inl hd), rfl, Nat.zero_le _, fun p hp => ?_⟩
  have e0 : Ex H (upd H p (.lst [])) := Ex.new hp
  refine ⟨.list (gs.map PyData.int), .list [], .lst (.inl (.inl (e0 _ _ hg))) (dpAll_ints gs), .lst (.inl (.inl upd_same)) .nil, shaped_ints gs, shaped_ints [], _, rfl, ?_⟩
  rw [eqv_nil]
  generalize hH : upd H p (.lst []) = H1 at e0 ⊢
  have hd1 := e0 _ _ hd
  have hg1 := e0 _ _ hg
  have hl1 := e0 _ _ hl
  have off1 : Off d g H H1 := Off.of e0
  have big : (m.natAbs.log2 < 9000) := by
    have : m.natAbs ≤ 1000000000000 := by omega
    exact Nat.lt_of_le_of_lt (Nat.log2_le_self m.natAbs |> fun _ => (Nat.log2_lt (by omega)).mpr (show m.natAbs < 2 ^ 41 by omega) |> Nat.le_of_lt) (by decide)
  cases gs with
  | cons a gr =>
    refine (if_pos rfl).mpr ?_
    -- rest = deck[0][0]; deck[0][0] = rest // many
    refine ⟨_, rfl, d, _, _, _, rfl, rfl, .inl (.inl hd1), rfl, g, _, _, _, rfl, rfl, .inl (.inl hg1), atI_nat (j := 0) rfl, ?_⟩
    refine ⟨_, rfl, _, rfl, _, _, rfl, rfl, ⟨m0, big⟩, _, rfl, d, _, _, _, rfl, rfl, .inl (.inl hd1), rfl, g, _, _, 0, rfl, rfl, hg1, ixN_zero (by simp), ?_⟩
    generalize hH2 : upd H1 g _ = H2
    have hg2 : H2 g = some (.lst ((a / m :: gr).map V.int)) := by rw [← hH2, upd_same]; rfl
    have hd2 : H2 d = some (.lst [.ref g, .ref l, .int c]) := by rw [← hH2, upd_ne dg]; exact hd1
    have hl2 : H2 l = some (.lst (ls.map V.int)) := by rw [← hH2, upd_ne gl.symm]; exact hl1
    have off2 : Off d g H H2 := off1.trans fun b o e _ n => by rw [← hH2, upd_ne n]; exact e
    -- if deck[0][0] == 0: deck[0].pop(0)
    refine ⟨_, rfl, d, _, _, _, rfl, rfl, .inl (.inl hd2), rfl, g, _, _, _, rfl, rfl, .inl (.inl hg2), atI_nat (j := 0) rfl, rfl, _, rfl, ite2 (fun _ => ?_) (fun _ => ?_)⟩
    · refine ⟨_, rfl, d, _, _, _, rfl, rfl, .inl (.inl hd2), rfl, .inl ⟨rfl, _, .inl (.inl hg2)⟩, g, _, 0, 0, _, rfl, rfl, hg2, by decide, by decide, ?_, rfl, ?_⟩
      · exact (ixN_seq (ixN_zero (by simp))).1
      · generalize hH3 : upd H2 g _ = H3
        have hg3 : H3 g = some (.lst (gr.map V.int)) := by rw [← hH3, upd_same]; rfl
        have hd3 : H3 d = some (.lst [.ref g, .ref l, .int c]) := by rw [← hH3, upd_ne dg]; exact hd2
        have hl3 : H3 l = some (.lst (ls.map V.int)) := by rw [← hH3, upd_ne gl.symm]; exact hl2
        refine ⟨_, rfl, .inl ⟨_, rfl, _, rfl, _, _, rfl, rfl, by omega, ?_⟩⟩
        exact k _ _ (fmod_rng m0).1 (fmod_rng m0).2 ⟨gr, ls, c, hd3, hg3, hl3, dg, dl, gl, lpos⟩ (off2.trans fun b o e _ n => by rw [← hH3, upd_ne n]; exact e)
    · refine ⟨_, rfl, .inl ⟨_, rfl, _, rfl, _, _, rfl, rfl, by omega, ?_⟩⟩
      exact k _ _ (fmod_rng m0).1 (fmod_rng m0).2 ⟨_, ls, c, hd2, hg2, hl2, dg, dl, gl, lpos⟩ off2
  | nil =>
    refine (if_neg (by decide)).mpr ?_
    -- deck[2] = deck[2] + 1
    refine ⟨_, rfl, d, _, _, _, rfl, rfl, .inl (.inl hd1), rfl, _, _, rfl, rfl, _, rfl, d, _, _, 2, rfl, rfl, hd1, rfl, ?_⟩
    generalize hH2 : upd H1 d _ = H2
    have hd2 : H2 d = some (.lst [.ref g, .ref l, .int (c + 1)]) := by rw [← hH2, upd_same]; rfl
    have hg2 : H2 g = some (.lst (([] : List Int).map V.int)) := by rw [← hH2, upd_ne dg.symm]; exact hg1
    have hl2 : H2 l = some (.lst (ls.map V.int)) := by rw [← hH2, upd_ne dl.symm]; exact hl1
    have off2 : Off d g H H2 := off1.trans fun b o e n _ => by rw [← hH2, upd_ne n]; exact e
    have hD : Deck H2 d g l := ⟨[], ls, c + 1, hd2, hg2, hl2, dg, dl, gl, lpos⟩
    have lp : (0 : Int) < ((ls.map V.int).length : Int) := by rw [List.length_map]; omega
    obtain ⟨i0, i1⟩ := fmod_rng (a := c + 1) lp
    obtain ⟨j, hj⟩ : ∃ j : Nat, (c + 1).fmod ((ls.map V.int).length : Int) = (j : Int) := ⟨_, (Int.toNat_of_nonneg i0).symm⟩
    have jl : j < ls.length := by rw [hj, List.length_map] at i1; omega
    have at_ : atI (ls.map V.int) ((c + 1).fmod ((ls.map V.int).length : Int)) = some (.int ls[j]) := by
      rw [hj]
      refine atI_nat ?_
      rw [List.getElem?_map, List.getElem?_eq_getElem jl]
      rfl
    -- cell = deck[1][int(deck[2]) % len(deck[1])]
    refine ⟨_, rfl, d, _, _, _, rfl, rfl, .inl (.inl hd2), rfl, _, rfl, d, _, _, _, rfl, rfl, .inl (.inl hd2), rfl, .inl ⟨_, rfl, ?_⟩⟩
    refine ⟨_, rfl, d, _, _, _, rfl, rfl, .inl (.inl hd2), rfl, l, _, rfl, .inl (.inl (.inl hl2)), _, _, rfl, rfl, by omega, l, _, _, _, rfl, rfl, .inl (.inl hl2), at_, ?_⟩
    generalize ls[j] = cell
    -- the first mix
    refine ⟨_, rfl, .inl ⟨_, rfl, _, _, rfl, rfl, (show (4294966477 : Int) ≠ 0 by decide), _, rfl, d, _, _, _, rfl, rfl, .inl (.inl hd2), rfl, _, _, rfl, rfl, .inl ⟨by decide, by decide⟩, _, _, rfl, rfl, .inl ⟨_, rfl, _, _, rfl, rfl, (show (4294966477 : Int) ≠ 0 by decide), ?_⟩⟩⟩
    refine ⟨_, rfl, _, rfl, _, _, rfl, rfl, .inl (fmod_small (by decide) (by decide)), _, rfl, d, _, _, _, rfl, rfl, .inl (.inl hd2), rfl, _, _, rfl, rfl, .inl ⟨by decide, by decide⟩, _, _, rfl, rfl, .inl ⟨_, rfl, _, _, rfl, rfl, (show (4294966427 : Int) ≠ 0 by decide), ?_⟩⟩
    refine ⟨_, rfl, _, rfl, _, _, rfl, rfl, .inl (fmod_small (by decide) (by decide)), .inl ⟨_, rfl, _, _, rfl, rfl, (show (4294966373 : Int) ≠ 0 by decide), _, _, rfl, rfl, ⟨by decide, by decide⟩, _, rfl, _, _, rfl, rfl, by omega, ?_⟩⟩
    exact k _ _ (fmod_rng m0).1 (fmod_rng m0).2 hD off2
theorem ok__law_one (T : Txt mg) {f : Addr} {fd : FuncData} (F : Fun K "_law_one" "_law_one" s__law_one f fd) (h__law_draw : Keeps P w K mg base 1 "_law_draw" p__law_draw spDraw) : FnOk P w K mg base CX0 2 f fd p__law_one spOne := by
  refine F.ok sc__law_one (fun vs H Q E h => ?_) (fun cdv A outer s H vs Q E hr h => ?_)
  · obtain ⟨d, g, l, p, xs, rfl, _⟩ := h
    rfl
  obtain ⟨d, g, l, p, xs, rfl, D, hp, pd, pg, x0, x1, k⟩ := h
  refine ⟨_, (pss_one (ps_ret (pe_ix ix_list (pv 1) (TB.pe_own h__law_draw (hr.mono (by decide)) (by rfl) (pa_cons (pv 0) (pa_cons (pe_callB call_len_seq (by rfl) T.n_len (by decide +kernel) (pa_cons (pv 1) pa_nil)) pa_nil))) (fun _ _ => rfl)))), ?_⟩
  refine ⟨_, rfl, _, rfl, _, rfl, p, xs, rfl, .inl (.inl (.inl hp)), d, g, l, _, rfl, by omega, by omega, D, fun r H1 r0 r1 D1 o1 => ?_⟩
  obtain ⟨j, rfl⟩ : ∃ j : Nat, r = (j : Int) := ⟨_, (Int.toNat_of_nonneg r0).symm⟩
  have jl : j < xs.length := by omega
  exact ⟨p, xs, _, xs[j], rfl, rfl, .inl (.inl (o1 _ _ hp pd pg)), atI_nat (List.getElem?_eq_getElem jl), k j _ _ (List.getElem?_eq_getElem jl) D1 o1⟩
theorem cut63 {ns : List V} (h : ns.length ≤ 63) : cutV ns none (some 63) = ns := by
  unfold cutV
  rw [HT.sIx_none, show HT.sIx ns.length ns.length (some 63) = min 63 ns.length from HT.sIx_nat _ _ 63]
  rw [Nat.min_eq_right h, List.drop_zero, Nat.sub_zero, List.take_length]
def absI (n : Int) : Int := if n < 0 then -n else n
theorem ok__law_deck (T : Txt mg) {f : Addr} {fd : FuncData} (F : Fun K "_law_deck" "_law_deck" s__law_deck f fd) : FnOk P w K mg base CX0 1 f fd p__law_deck (spDeck K) := by
  refine F.ok sc__law_deck (fun vs H Q E h => ?_) (fun cdv A outer s H vs Q E hr h => ?_)
  · obtain ⟨a, ns, rfl, _⟩ := h
    rfl
  obtain ⟨a, ns, rfl, hS, hn, k⟩ := h
  refine ⟨_, (pss_cons (ps_setLc (i := 1) (own := [("_law_cell", 2)]) (g := gName 2) rfl sc__law_deck.nd rfl rfl (sw_true rfl rfl rfl (by decide +kernel)) (pi_list (pe_slice sl_list (pv 0) po_none (po_some pe_int))) (blkOk_by (N := n__law_deck) (sc := defScope s__law_deck) (by decide +kernel)) (fun _ _ _ _ _ => pg_name (i := 2) sc__law_deck.nd rfl (.inl rfl)) (fun _ _ _ _ _ => pts_nil) (fun _ _ _ _ _ => (pe_callB call_abs (by rfl) T.n_abs (by decide +kernel) (pa_cons (pv 2) pa_nil))))
 (pss_one (ps_ret (pe_lst (pa_cons (pe_lc (own := [("_law_cell", 2)]) (g := gName 2) rfl sc__law_deck.nd (pi_list (pv 1)) (blkOk_by (N := n__law_deck) (sc := defScope s__law_deck) (by decide +kernel)) (fun _ _ _ _ _ => pg_name (i := 2) sc__law_deck.nd rfl (.inl rfl)) (fun _ _ _ _ _ => (pts_one (pt_cmpR op_ge (pv 2) (pe_op op_pow pe_int pe_int) (nomark _)))) (fun _ _ _ _ _ => (pv 2))) (pa_cons (pe_op op_cat (pv 1) (pe_lst (pa_cons (pe_op op_add pe_int (pe_callB call_len_seq (by rfl) T.n_len (by decide +kernel) (pa_cons (pv 1) pa_nil))) pa_nil))) (pa_cons pe_int pa_nil))))))), ?_⟩
  refine ⟨.ref a, rfl, 63, rfl, a, _, rfl, hS, fun p hp => ⟨p, rfl, ⟨_, .inl (.inl upd_same)⟩, fun D hD => ?_⟩⟩
  rw [cut63 (by rw [List.length_map]; exact hn)] at hD ⊢
  have e1 : Ex H (upd H p (.lst (ns.map V.int))) := Ex.new hp
  have pD : p ≠ D := ne_of_none upd_same hD
  refine lc_list (K := K) (a := p) (xs := ns.map V.int) (fun i H' => Ex H H' ∧ H' p = some (.lst (ns.map V.int)) ∧ H' D = some (.lst (((ns.map absI).take i).map V.int)))
    ⟨e1.trans (Ex.new hD), by rw [upd_ne pD]; exact upd_same, upd_same⟩ (fun i H' _ h => .inl (.inl h.2.1)) (fun i x H' hx h => ?_) (fun H' h => ?_)
  · obtain ⟨e, h1, h2⟩ := h
    rw [List.getElem?_map] at hx
    obtain ⟨n, hn1, rfl⟩ := Option.map_eq_some_iff.mp hx
    have il : i < ns.length := (List.getElem?_eq_some_iff.mp hn1).1
    refine ⟨rfl, _, rfl, n, rfl, _, h2, size_small' (by rw [List.length_map, List.length_take]; omega), e.mut (fresh_back e1 hD), by rw [upd_ne pD]; exact h1, ?_⟩
    rw [upd_same, List.take_add_one, List.getElem?_map, hn1, List.map_append]
    rfl
  obtain ⟨e, h1, h2⟩ := h
  rw [List.length_map, List.take_of_length_le (by rw [List.length_map]; omega)] at h2
  generalize hms : ns.map absI = ms at h2
  have ml : ms.length ≤ 63 := by rw [← hms, List.length_map]; exact hn
  -- the list of the great ones
  refine ⟨.ref D, rfl, D, rfl, ⟨_, .inl (.inl h2)⟩, fun B hB => ?_⟩
  have DB : D ≠ B := ne_of_none h2 hB
  refine lc_list (K := K) (a := D) (xs := ms.map V.int) (fun i H2 => Ex H' H2 ∧ H2 D = some (.lst (ms.map V.int)) ∧ ∃ gs : List Int, gs.length ≤ i ∧ H2 B = some (.lst (gs.map V.int)))
    ⟨Ex.new hB, by rw [upd_ne DB]; exact h2, [], Nat.le_refl _, upd_same⟩ (fun i H2 _ h => .inl (.inl h.2.1)) (fun i x H2 hx h => ?_) (fun H2 h => ?_)
  · obtain ⟨e2, g1, gs, gl, g2⟩ := h
    rw [List.getElem?_map] at hx
    obtain ⟨n, hn1, rfl⟩ := Option.map_eq_some_iff.mp hx
    have il : i < ms.length := (List.getElem?_eq_some_iff.mp hn1).1
    refine ⟨rfl, _, rfl, _, _, rfl, rfl, ⟨by decide, by decide, by decide⟩, _, _, rfl, rfl, _, rfl, ?_⟩
    refine ite2 (fun _ => ?_) (fun _ => ?_)
    · refine ⟨_, rfl, _, g2, size_small' (by rw [List.length_map]; omega), e2.mut hB, by rw [upd_ne DB]; exact g1, gs ++ [n], by rw [List.length_append]; exact Nat.succ_le_succ gl, ?_⟩
      rw [upd_same, List.map_append]
      rfl
    · exact ⟨e2, g1, gs, by omega, g2⟩
  obtain ⟨e2, g1, gs, gl, g2⟩ := h
  rw [List.length_map] at gl
  -- cells + [11228 + len(cells)]
  refine ⟨_, rfl, _, rfl, D, _, rfl, .inl (.inl (.inl g1)), _, _, rfl, rfl, (show 1 ≤ sizeLine by decide), fun c hc => ?_⟩
  have Dc : D ≠ c := ne_of_none g1 hc
  refine ⟨D, c, _, _, rfl, rfl, by rw [upd_ne Dc]; exact g1, upd_same, size_small (by simp; omega), fun L hL => ?_⟩
  have cL : c ≠ L := ne_of_none upd_same hL
  have BD : B ≠ D := DB.symm
  have hBc : B ≠ c := ne_of_none g2 hc
  have hBL : B ≠ L := ne_of_none (by rw [upd_ne hBc]; exact g2) hL
  refine ⟨(show 3 ≤ sizeLine by decide), fun d hd => ?_⟩
  have dL : d ≠ L := fun q => by rw [q, upd_same] at hd; cases hd
  have dB : d ≠ B := fun q => by rw [q, upd_ne hBL, upd_ne hBc, g2] at hd; cases hd
  have ec := Ex.new (o := .lst [.int (11228 + ((ms.map V.int).length : Int))]) hc
  have eL := ec.trans (Ex.new (o := .lst (ms.map V.int ++ [.int (11228 + ((ms.map V.int).length : Int))])) hL)
  refine k d B L _ ((e.trans e2).trans (eL.trans (Ex.new hd))) ?_ (fresh_back e hB) ?_
  · exact fresh_back ((e.trans e2).trans eL) hd
  · refine ⟨gs, ms ++ [11228 + ((ms.map V.int).length : Int)], 0, upd_same, ?_, ?_, dB, dL, hBL, by simp⟩
    · rw [upd_ne dB.symm, upd_ne hBL, upd_ne hBc]; exact g2
    · rw [upd_ne dL.symm, upd_same, List.map_append]
      rfl
def spFar : Sp := fun vs H Q _ => ∃ (d g l : Addr), vs = [.ref d] ∧ Deck H d g l ∧ ∀ r H', 1 ≤ r → r ≤ 1000000000000 → Deck H' d g l → Off d g H H' → Q (.int r) H'
theorem ok__law_far (T : Txt mg) {f : Addr} {fd : FuncData} (F : Fun K "_law_far" "_law_far" s__law_far f fd) (h__law_draw : Keeps P w K mg base 1 "_law_draw" p__law_draw spDraw) (h__law_one : Keeps P w K mg base 2 "_law_one" p__law_one spOne) : FnOk P w K mg base CX0 3 f fd p__law_far spFar := by
  refine F.ok sc__law_far (fun vs H Q E h => ?_) (fun cdv A outer s H vs Q E hr h => ?_)
  · obtain ⟨d, g, l, rfl, _⟩ := h
    rfl
  obtain ⟨d, g, l, rfl, D, k⟩ := h
  refine ⟨_, (pss_one (ps_ret (TB.pe_own h__law_one (hr.mono (by decide)) (by rfl) (pa_cons (pv 0) (pa_cons (pe_lst (pa_cons (pe_op op_add pe_int (TB.pe_own h__law_draw (hr.mono (by decide)) (by rfl) (pa_cons (pv 0) (pa_cons pe_int pa_nil)))) (pa_cons (pe_op op_add pe_int (TB.pe_own h__law_draw (hr.mono (by decide)) (by rfl) (pa_cons (pv 0) (pa_cons (pe_op op_pow pe_int pe_int) pa_nil)))) (pa_cons (pe_op op_add pe_int (TB.pe_own h__law_draw (hr.mono (by decide)) (by rfl) (pa_cons (pv 0) (pa_cons (pe_op op_pow pe_int pe_int) pa_nil)))) (pa_cons (pe_op op_pow pe_int pe_int) pa_nil))))) pa_nil))))), ?_⟩
  refine ⟨_, rfl, _, rfl, d, g, l, _, rfl, by decide, by decide, D, fun r1 H1 a1 b1 D1 o1 => ⟨_, _, rfl, rfl, ?_⟩⟩
  refine ⟨_, rfl, _, _, rfl, rfl, ⟨by decide, by decide, by decide⟩, d, g, l, _, rfl, by decide, by decide, D1, fun r2 H2 a2 b2 D2 o2 => ⟨_, _, rfl, rfl, ?_⟩⟩
  refine ⟨_, rfl, _, _, rfl, rfl, ⟨by decide, by decide, by decide⟩, d, g, l, _, rfl, by decide, by decide, D2, fun r3 H3 a3 b3 D3 o3 => ⟨_, _, rfl, rfl, ?_⟩⟩
  refine ⟨_, _, rfl, rfl, ⟨by decide, by decide, by decide⟩, (show 4 ≤ sizeLine by decide), fun p hp => ?_⟩
  obtain ⟨pd, pg⟩ := D3.ne hp
  refine ⟨d, g, l, p, _, rfl, D3.ex (Ex.new hp), upd_same, pd, pg, (show 0 < 4 by decide), (show 4 ≤ 1000 by decide), fun i v H4 hv D4 o4 => ?_⟩
  have b2' : r2 < 1000000 := b2
  have b3' : r3 < 1000000000000 := b3
  have off : Off d g H H4 := ((o1.trans o2).trans o3).trans ((Off.of (Ex.new hp)).trans o4)
  match i, hv with
  | 0, hv => cases hv; exact k _ _ (by omega) (by omega) D4 off
  | 1, hv => cases hv; exact k _ _ (by omega) (by omega) D4 off
  | 2, hv => cases hv; exact k _ _ (by omega) (by omega) D4 off
  | 3, hv => cases hv; exact k _ _ (by decide) (by decide) D4 off
def spWide : Sp := fun vs H Q _ => ∃ (d g l : Addr) (n : Nat), vs = [.ref d, .int n] ∧ n ≤ 100 ∧ Deck H d g l ∧
  ∀ p (ns : List Int) H', ns.length = n → (∀ x ∈ ns, 1 ≤ x ∧ x ≤ 1000000000000) → H p = none → H' p = some (.tup (ns.map V.int)) → Deck H' d g l → Off d g H H' → Q (.ref p) H'
theorem ok__law_wide (T : Txt mg) {f : Addr} {fd : FuncData} (F : Fun K "_law_wide" "_law_wide" s__law_wide f fd) (h__law_far : Keeps P w K mg base 3 "_law_far" p__law_far spFar) : FnOk P w K mg base CX0 4 f fd p__law_wide spWide := by
  refine F.ok sc__law_wide (fun vs H Q E h => ?_) (fun cdv A outer s H vs Q E hr h => ?_)
  · obtain ⟨d, g, l, n, rfl, _⟩ := h
    rfl
  obtain ⟨d, g, l, n, rfl, hn, D, k⟩ := h
  refine ⟨_, (pss_one (ps_ret (pe_callTy call_tuple_of (by rfl) T.n_tuple (by decide +kernel) (pa_cons (pe_lc (own := [("_law_axis", 2)]) (g := gName 2) rfl sc__law_wide.nd (pi_range1 (by rfl) T.n_range (pa_cons (pv 1) pa_nil)) (blkOk_by (N := n__law_wide) (sc := defScope s__law_wide) (by decide +kernel)) (fun _ _ _ _ _ => pg_name (i := 2) sc__law_wide.nd rfl (.inl rfl)) (fun _ _ _ _ _ => pts_nil) (fun _ _ _ _ _ => (TB.pe_own h__law_far (hr.mono (by decide)) (by rfl) (pa_cons (pv 0) pa_nil)))) pa_nil)))), ?_⟩
  refine ⟨_, rfl, n, rfl, by omega, by omega, fun B hB => ?_⟩
  obtain ⟨Bd, Bg⟩ := D.ne hB
  have lB : l ≠ B := by
    obtain ⟨gs, ls, c, q1, q2, q3, q4⟩ := D
    exact ne_of_none q3 hB
  refine lc_range (lo := 0) (n := (n : Int).toNat) (fun i H' => Deck H' d g l ∧ Off d g H H' ∧ ∃ ns : List Int, ns.length = i ∧ (∀ x ∈ ns, 1 ≤ x ∧ x ≤ 1000000000000) ∧ H' B = some (.lst (ns.map V.int)))
    ⟨D.ex (Ex.new hB), Off.of (Ex.new hB), [], rfl, (fun x h => nomatch h), upd_same⟩ (fun i H' hi h => ?_) (fun H' h => ?_)
  · obtain ⟨D1, o1, ns, hl, hx, h1⟩ := h
    refine ⟨rfl, _, rfl, d, g, l, rfl, D1, fun r H2 r1 r2 D2 o2 => ?_⟩
    have h2 := o2 _ _ h1 Bd Bg
    refine ⟨_, h2, size_small' (by rw [List.length_map]; omega), ?_, ?_, ns ++ [r], by rw [List.length_append]; simp [hl], ?_, ?_⟩
    · obtain ⟨gs, ls, c, q1, q2, q3, q4⟩ := D2
      exact ⟨gs, ls, c, by rw [upd_ne Bd.symm]; exact q1, by rw [upd_ne Bg.symm]; exact q2, by rw [upd_ne lB]; exact q3, q4⟩
    · intro b o e n1 n2
      rw [upd_ne (fun q => by rw [q, hB] at e; cases e)]
      exact o2 _ _ (o1 _ _ e n1 n2) n1 n2
    · intro x hx'
      rcases List.mem_append.mp hx' with q | q
      · exact hx x q
      · rw [List.mem_singleton.mp q]; exact ⟨r1, r2⟩
    · rw [upd_same, List.map_append]
      rfl
  obtain ⟨D1, o1, ns, hl, hx, h1⟩ := h
  refine ⟨B, _, rfl, .inl ⟨.inl (.inl h1), fun p hp => ?_⟩⟩
  refine k p ns _ (by omega) hx ?_ upd_same (D1.ex (Ex.new hp)) (o1.trans (Off.of (Ex.new hp)))
  cases q : H p with
  | none => rfl
  | some o =>
    by_cases pd : p = d
    · obtain ⟨gs, ls, c, q1, _⟩ := D1
      rw [pd, q1] at hp; cases hp
    · by_cases pg : p = g
      · obtain ⟨gs, ls, c, q1, q2, _⟩ := D1
        rw [pg, q2] at hp; cases hp
      · rw [o1 _ _ q pd pg] at hp; cases hp
end
end K06
set_option Elab.async false
set_option linter.all false
set_option maxRecDepth 100000
namespace K06
open PySem PySem.Spec PyProof.Rows L2 Evl TB
section
variable {P : Program} {w : World} {K : PySem.W.Frag} {mg : Str → Option Value} {base : Heap}
/-! ### reading -/
def spNum : Sp := fun vs H Q _ => ∃ (z : Str) (s : Nat), vs = [.str z, .int s] ∧ s ≤ z.length ∧ z.length ≤ 10000 ∧
  ∀ t H', Ex H H' → H' t = some (.tup [.int (TB.scan ((cs z).drop s) 0 s).1, .int ((TB.scan ((cs z).drop s) 0 s).2 : Nat)]) → Q (.ref t) H'
theorem ok_number_at (T : Txt mg) {f : Addr} {fd : FuncData} (F : Fun K "number_at" "number_at" s_number_at f fd) : FnOk P w K mg base CX0 1 f fd p_number_at spNum := by
  refine F.ok sc_number_at (fun vs H Q E h => ?_) (fun cdv A outer s H vs Q E hr h => ?_)
  · obtain ⟨z, s, rfl, _⟩ := h
    rfl
  obtain ⟨z, s, rfl, hs, hz, k⟩ := h
  refine ⟨_, (pss_cons (ps_set (i := 2) sc_number_at.nd rfl (.inl rfl) pe_int)
 (pss_cons (ps_for PassesOwn.never rfl (pi_range2 (by rfl) T.n_range (pa_cons (pv 1) (pa_cons (pe_callB call_len_str (by rfl) T.n_len (by decide +kernel) (pa_cons (pv 0) pa_nil)) pa_nil))) (pg_name (i := 3) sc_number_at.nd rfl (.inl rfl))
 (pss_cons (ps_set (i := 4) sc_number_at.nd rfl (.inl rfl) (pe_bm PySem.F.plainAttrs_str PySem.F.slot_str_find PySem.F.type_str_find mt_find pe_str (pa_cons (pe_ix ix_str (pv 0) (pv 3) (fun _ _ => rfl)) pa_nil)))
 (pss_cons (ps_set (i := 5) sc_number_at.nd rfl (.inl rfl) (pe_op op_add (pe_op op_mul (pv 2) pe_int) (pv 4)))
 (pss_cons (ps_if (PW.pt (pw_or (pt_cmpR op_lt (pv 4) pe_int (nomark _)) (pw_or1 (pt_not (pt_chain op_le op_le pe_int (pv 5) (TB.pe_con (by rfl) T.c_MAX_SIDE))))))
 (pss_one (ps_ret (pe_tup (pa_cons (pv 2) (pa_cons (pv 3) pa_nil))))) pss_nil)
 (pss_one (ps_set (i := 2) sc_number_at.nd rfl (.inl rfl) (pv 5)))))))
 (pss_one (ps_ret (pe_tup (pa_cons (pv 2) (pa_cons (pe_callB call_len_str (by rfl) T.n_len (by decide +kernel) (pa_cons (pv 0) pa_nil)) pa_nil))))))), ?_⟩
  have zs := size_small (n := z.length) (by omega)
  refine ⟨_, rfl, _, rfl, z, rfl, zs, _, _, rfl, ⟨by omega, by omega, by omega, by omega⟩, ?_⟩
  have hms : MS = 1000000000000 := rfl
  refine for_range (lo := (s : Int)) (n := ((z.length : Int) - s).toNat)
    (fun i σ H' => H' = H ∧ ∃ (a : Int) (y3 y4 y5 : Option V), σ = [some (.str z), some (.int s), some (.int a), y3, y4, y5] ∧ 0 ≤ a ∧ a ≤ MS ∧ TB.scan ((cs z).drop s) 0 s = TB.scan ((cs z).drop (s + i)) a (s + i))
    ⟨rfl, 0, none, none, none, rfl, by omega, by omega, rfl⟩ (fun i σ H' hi h => ?_) (fun σ H' h => ?_)
  · obtain ⟨rfl, a, y3, y4, y5, rfl, a0, a1, hsc⟩ := h
    have il : s + i < (cs z).length := by rw [cs_len]; omega
    have hc : (cs z)[s + i]? = some (cs z)[s + i] := List.getElem?_eq_getElem il
    rw [List.drop_eq_getElem_cons il] at hsc
    generalize (cs z)[s + i] = c at hc hsc
    have si : (s : Int) + (i : Int) = ((s + i : Nat) : Int) := by omega
    -- digit, longer
    refine ⟨rfl, _, rfl, _, rfl, z, _, c, rfl, rfl, zs, by rw [si]; exact atI_nat hc, _, _, rfl, rfl, ?_⟩
    rw [find_digit]
    refine ⟨_, rfl, _, _, rfl, rfl, .inr ⟨by decide, by decide⟩, _, rfl, _, _, rfl, rfl, ?_⟩
    refine ⟨_, rfl, _, _, rfl, rfl, _, rfl, ite2 (fun hd => ?_) (fun hd => ?_)⟩
    · -- no digit
      refine ⟨_, rfl, _, rfl, (show 2 ≤ sizeLine by decide), fun t ht => k t _ (Ex.new ht) ?_⟩
      rw [upd_same, hsc, TB.scan, if_neg (fun q => by rw [if_pos ⟨q.1, q.2.1⟩] at hd; have := of_decide_eq_true hd; omega), si]
    · have dg : 48 ≤ c ∧ c ≤ 57 := by
        by_cases q : 48 ≤ c ∧ c ≤ 57
        · exact q
        · rw [if_neg q] at hd; exact absurd rfl hd
      rw [if_pos dg]
      refine ⟨_, rfl, _, _, rfl, rfl, _, rfl, ite2 (fun h1 => ?_) (fun h1 => ?_)⟩
      · have h1' := of_decide_eq_true h1
        refine ⟨_, _, rfl, rfl, _, rfl, ?_⟩
        refine ite2 (fun h2 => ?_) (fun h2 => ?_)
        · have h2' : ¬ (a * 10 + ((c : Int) - 48) ≤ 1000000000000) := by simpa using h2
          refine ⟨_, rfl, _, rfl, (show 2 ≤ sizeLine by decide), fun t ht => k t _ (Ex.new ht) ?_⟩
          rw [upd_same, hsc, TB.scan, if_neg (fun q => h2' (by omega)), si]
        · have h2' : a * 10 + ((c : Int) - 48) ≤ 1000000000000 := by simpa using h2
          refine ⟨_, rfl, ?_⟩
          refine ⟨rfl, _, _, _, _, rfl, by omega, by omega, ?_⟩
          rw [hsc, TB.scan, if_pos ⟨dg.1, dg.2, h1', by omega⟩]
          rfl
      · have h1' : ¬ (1 ≤ a * 10 + ((c : Int) - 48)) := fun q => h1 (decide_eq_true q)
        refine ⟨_, rfl, ?_⟩
        refine ⟨_, rfl, _, rfl, (show 2 ≤ sizeLine by decide), fun t ht => k t _ (Ex.new ht) ?_⟩
        rw [upd_same, hsc, TB.scan, if_neg (fun q => h1' q.2.2.1), si]
  · obtain ⟨rfl, a, y3, y4, y5, rfl, a0, a1, hsc⟩ := h
    refine ⟨_, rfl, _, rfl, z, rfl, zs, (show 2 ≤ sizeLine by decide), fun t ht => k t _ (Ex.new ht) ?_⟩
    have e : (cs z).drop (s + ((z.length : Int) - s).toNat) = [] := List.drop_eq_nil_of_le (by rw [cs_len]; omega)
    rw [e] at hsc
    rw [upd_same, hsc, TB.scan]
    have : s + ((z.length : Int) - s).toNat = z.length := by omega
    rw [this]

theorem none_of {H H' : Hp} {a : Addr} (x : Ex H H') (h : H' a = none) : H a = none := by
  cases e : H a with
  | none => rfl
  | some o => rw [x a o e] at h; cases h
def spSidesAt (C : Addr) : Sp := fun vs H Q E => ∃ (z : Str) (s least most : Nat), vs = [.str z, .int s, .int least, .int most] ∧ s ≤ z.length ∧ z.length ≤ 10000 ∧ 1 ≤ most ∧ most ≤ 4 ∧
  (∀ ns q t u H', TB.sidesAt (cs z) s least most = .ok (ns, q) → Ex H H' → H' t = some (.tup [.ref u, .int (q : Nat)]) → H' u = some (.tup (ns.map V.int)) → q ≤ z.length → H u = none → Q (.ref t) H') ∧
  (∀ q d H', TB.sidesAt (cs z) s least most = .error q → Ex H H' → H' d = some (.xd [("place", .int (q : Nat))]) → q ≤ z.length → E (.ref C) (some d) H')
theorem ok_sides_at (T : Txt mg) {f : Addr} {fd : FuncData} (F : Fun K "sides_at" "sides_at" s_sides_at f fd) {C : Addr} (E_BadText : ErrC P w K mg base "BadText" "place" C) (h_number_at : Keeps P w K mg base 1 "number_at" p_number_at spNum) : FnOk P w K mg base (L2.CX P w) 3 f fd p_sides_at (spSidesAt C) := by
  refine F.okX sc_sides_at (fun vs H Q E h => ?_) (fun cdv A outer s H vs Q E hr h => ?_)
  · obtain ⟨z, s, least, most, rfl, _⟩ := h
    rfl
  obtain ⟨z, s, least, most, rfl, hs, hz, hm1, hm, k, kE⟩ := h
  obtain ⟨R, hR⟩ : ∃ R, R = sidesL (cs z) most [] s := ⟨_, rfl⟩
  have k' : ∀ ns q t u H', R = .ok (ns, q) → ¬ ns.length < least → Ex H H' → H' t = some (.tup [.ref u, .int (q : Nat)]) → H' u = some (.tup (ns.map V.int)) → q ≤ z.length → H u = none → Q (.ref t) H' := fun ns q t u H' h1 h2 => k ns q t u H' (by
    unfold TB.sidesAt
    rw [← hR, h1]
    dsimp only
    rw [if_neg h2])
  have kE1 : ∀ q d H', R = .error q → Ex H H' → H' d = some (.xd [("place", .int (q : Nat))]) → q ≤ z.length → E (.ref C) (some d) H' := fun q d H' h1 => kE q d H' (by
    unfold TB.sidesAt
    rw [← hR, h1])
  have kE2 : ∀ ns q d H', R = .ok (ns, q) → ns.length < least → Ex H H' → H' d = some (.xd [("place", .int (q : Nat))]) → q ≤ z.length → E (.ref C) (some d) H' := fun ns q d H' h1 h2 => kE q d H' (by
    unfold TB.sidesAt
    rw [← hR, h1]
    dsimp only
    rw [if_pos h2])
  refine ⟨_, (pss_cons (ps_set (i := 4) sc_sides_at.nd rfl (.inl rfl) (pe_lst pa_nil))
 (pss_cons (ps_set (i := 5) sc_sides_at.nd rfl (.inl rfl) (pv 1))
 (pss_cons (ps_while (passes_of rfl) (pt_val pe_bl)
 (pss_cons (ps_asg (TB.pe_own h_number_at (hr.mono (by decide)) (by rfl) (pa_cons (pv 0) (pa_cons (pv 5) pa_nil))) (pg_tup rfl (pgs_cons (pg_name (i := 6) sc_sides_at.nd rfl (.inl rfl)) (pgs_cons (pg_name (i := 5) sc_sides_at.nd rfl (.inl rfl)) pgs_nil))))
 (pss_cons (ps_if (pt_cmpR op_eq (pv 6) pe_int (nomark _))
 (pss_one (TB.ps_raiseF rfl E_BadText (hr.mono (by decide)) (takes_of rfl rfl rfl rfl) (by rfl) (pa_cons (pv 5) pa_nil))) pss_nil)
 (pss_cons (ps_expr (pe_bm PySem.F.plainAttrs_list PySem.F.slot_list_append PySem.F.type_list_append mt_append (pv 4) (pa_cons (pv 6) pa_nil)))
 (pss_cons (ps_if (PW.pt (pw_or (pt_cmpR op_eq (pe_callB call_len_seq (by rfl) T.n_len (by decide +kernel) (pa_cons (pv 4) pa_nil)) (pv 3) (nomark _)) (pw_or (pt_cmpR op_eq (pv 5) (pe_callB call_len_str (by rfl) T.n_len (by decide +kernel) (pa_cons (pv 0) pa_nil)) (nomark _)) (pw_or1 (pt_cmpR op_ne (pe_ix ix_str (pv 0) (pv 5) (fun _ _ => rfl)) pe_str (nomark _))))))
 (pss_one ps_break) pss_nil)
 (pss_one (ps_set (i := 5) sc_sides_at.nd rfl (.inl rfl) (pe_op op_add (pv 5) pe_int))))))))
 (pss_cons (ps_if (pt_cmpR op_lt (pe_callB call_len_seq (by rfl) T.n_len (by decide +kernel) (pa_cons (pv 4) pa_nil)) (pv 2) (nomark _))
 (pss_one (TB.ps_raiseF rfl E_BadText (hr.mono (by decide)) (takes_of rfl rfl rfl rfl) (by rfl) (pa_cons (pv 5) pa_nil))) pss_nil)
 (pss_one (ps_ret (pe_tup (pa_cons (pe_callTy call_tuple_of (by rfl) T.n_tuple (by decide +kernel) (pa_cons (pv 4) pa_nil)) (pa_cons (pv 5) pa_nil))))))))), ?_⟩
  have zs := size_small (n := z.length) (by omega)
  have hms : MS = 1000000000000 := rfl
  refine ⟨Nat.zero_le _, fun L hLn => ⟨_, rfl, ?_⟩⟩
  refine ⟨fun m σ H' => ∃ (acc : List Int) (p : Nat) (y6 : Option V), σ = [some (.str z), some (.int s), some (.int least), some (.int most), some (.ref L), some (.int p), y6] ∧ Ex H H' ∧
      H' L = some (.lst (acc.map V.int)) ∧ acc.length + m = most ∧ 1 ≤ m ∧ p ≤ z.length ∧ sidesL (cs z) m acc p = R, ⟨most, [], s, none, rfl, Ex.new hLn, upd_same, by simp, hm1, hs, hR.symm⟩, fun m σ H1 hW => ?_⟩
  obtain ⟨acc, p, y6, rfl, e1, h1, hlen, hm0, hp, hsc⟩ := hW
  cases m with
  | zero => omega
  | succ m =>
    refine ⟨true, rfl, (if_pos rfl).mpr ?_⟩
    refine ⟨_, fun σ' H' hN => ⟨m, Nat.lt_succ_self m, hN⟩, ?_⟩
    rw [sidesL] at hsc
    try dsimp only at hsc
    have rng := scan_rng ((cs z).drop p) 0 p (by omega) (by omega)
    rw [List.length_drop, cs_len] at rng
    refine ⟨_, rfl, _, rfl, z, p, rfl, hp, hz, fun t H2 e2 ht => ?_⟩
    generalize hr' : TB.scan ((cs z).drop p) 0 p = r at hsc ht rng
    obtain ⟨n, q1⟩ := r
    dsimp only at hsc ht rng
    have q1z : q1 ≤ z.length := by omega
    refine ⟨t, _, rfl, .inl (.inl ht), rfl, _, _, rfl, _, _, rfl, rfl, ?_⟩
    -- if number == 0
    refine ⟨_, rfl, rfl, _, rfl, ite2 (fun h => ?_) (fun h => ?_)⟩
    · have hn : n = 0 := V.int.inj (of_decide_eq_true h)
      rw [if_pos hn] at hsc
      exact ⟨_, rfl, raise_at (C := C) (f := "place") (v := .int q1) (H1 := H2) (Q := fun cls d H' => E cls d H') fun d hd => kE1 q1 d _ hsc.symm ((e1.trans e2).trans (Ex.new hd)) upd_same q1z⟩
    have hn : ¬ n = 0 := fun z0 => h (by rw [z0]; exact decide_eq_true rfl)
    rw [if_neg hn] at hsc
    refine ⟨_, rfl, ?_⟩
    have h2 := e2 _ _ h1
    refine ⟨.inl ⟨rfl, _, .inl (.inl h2)⟩, _, rfl, L, _, _, rfl, rfl, h2, size_small' (by rw [List.length_map]; omega), ?_⟩
    have e3 : Ex H (upd H2 L (.lst (acc.map V.int ++ [.int n]))) := (e1.trans e2).mut hLn
    have h3 : (upd H2 L (.lst (acc.map V.int ++ [.int n]))) L = some (.lst ((acc ++ [n]).map V.int)) := by rw [upd_same, List.map_append]; rfl
    generalize upd H2 L (.lst (acc.map V.int ++ [.int n])) = H3 at e3 h3
    have l3 : (((acc ++ [n]).map V.int).length : Int) = (acc.length + 1 : Nat) := by simp
    -- what follows the loop
    have after : ∀ (ms : List Int) (x : Nat), R = .ok (ms, x) → x ≤ z.length → H3 L = some (.lst (ms.map V.int)) → ∀ (τ : L2.St) (y : Option V), τ = [some (.str z), some (.int s), some (.int least), some (.int most), some (.ref L), some (.int x), y] →
        tIfS (tTest (tOp (rI0 fun i j => .bl (decide (i < j))) (tCB (fun xs H Q => ∃ p ys, xs = [.ref p] ∧ (SqL K H p ys ∨ SqT K H p ys) ∧ Q (.int ys.length) H) (tCons (tVar 4) tNil)) (tVar 2))) (tRaiseF C "place" (fun cls d _ H => E cls d H) (tCons (tVar 5) tNil)) (tNext)
          { nx := fun σ H => tRet (tTup (tCons (tCB (fun xs H Q => ∃ p ys, xs = [.ref p] ∧ ((SqL K H p ys ∧ ∀ l, H l = none → Q (.ref l) (upd H l (.tup ys))) ∨ (SqT K H p ys ∧ Q (.ref p) H))) (tCons (tVar 4) tNil)) (tCons (tVar 5) tNil))) { nx := fun _ H' => Q .non H', rt := Q } σ H, rt := Q } τ H3 := by
      intro ms x hx hxz hL3 τ y hτ
      subst hτ
      refine ⟨_, rfl, L, _, rfl, .inl (.inl (.inl hL3)), _, rfl, _, _, rfl, rfl, _, rfl, ite2 (fun h => ?_) (fun h => ?_)⟩
      · have hl := of_decide_eq_true h
        rw [List.length_map] at hl
        exact ⟨_, rfl, raise_at (C := C) (f := "place") (v := .int x) (H1 := H3) (Q := fun cls d H' => E cls d H') fun d hd => kE2 ms x d _ hx (by omega) (e3.trans (Ex.new hd)) upd_same hxz⟩
      · have hl : ¬ ms.length < least := fun z0 => h (decide_eq_true (by rw [List.length_map]; omega))
        refine ⟨_, rfl, L, _, rfl, .inl ⟨.inl (.inl hL3), fun u hu => ⟨_, rfl, (show 2 ≤ sizeLine by decide), fun t ht => ?_⟩⟩⟩
        have hut : u ≠ t := ne_of_none upd_same ht
        refine k' ms x t u _ hx hl (e3.trans ((Ex.new hu).trans (Ex.new ht))) upd_same (by rw [upd_ne hut]; exact upd_same) hxz (none_of e3 hu)
    -- the break
    by_cases hb : m = 0 ∨ q1 = (cs z).length ∨ (cs z)[q1]? ≠ some 120
    · rw [if_pos hb] at hsc
      have fin := after (acc ++ [n]) q1 hsc.symm q1z h3 _ (some (.int n)) rfl
      refine ⟨_, rfl, L, _, rfl, .inl (.inl (.inl h3)), _, rfl, rfl, _, rfl, ?_⟩
      refine ite2 (fun _ => ?_) (fun hne => ?_)
      · exact fin
      · refine ⟨_, rfl, _, rfl, z, rfl, zs, rfl, _, rfl, ite2 (fun _ => ?_) (fun hne2 => ?_)⟩
        · exact fin
        · have n1 : m ≠ 0 := fun h0 => hne (decide_eq_true (by rw [l3]; congr 1; omega))
          have n2 : q1 ≠ (cs z).length := fun h0 => hne2 (decide_eq_true (by rw [h0, cs_len]))
          have q1l : q1 < (cs z).length := by rw [cs_len] at n2 ⊢; omega
          have hc : (cs z)[q1]? = some (cs z)[q1] := List.getElem?_eq_getElem q1l
          refine ⟨_, rfl, _, rfl, z, _, _, rfl, rfl, zs, atI_nat hc, rfl, _, rfl, ite2 (fun _ => ?_) (fun hne3 => ?_)⟩
          · exact fin
          · exfalso
            rcases hb with h0 | h0 | h0
            · exact n1 h0
            · exact n2 h0
            · apply h0
              rw [hc]
              have e : decide (V.str ⟨#[(cs z)[q1]]⟩ = V.str "x") = true := by simpa using hne3
              have e2 := V.str.inj (of_decide_eq_true e)
              have e3 : (⟨#[(cs z)[q1]]⟩ : Str).cps.toList = ("x" : Str).cps.toList := by rw [e2]
              have e4 : ("x" : Str).cps.toList = [120] := by decide +kernel
              rw [e4] at e3
              exact congrArg some (List.cons.inj e3).1
    · rw [if_neg hb] at hsc
      have n1 : m ≠ 0 := fun h0 => hb (.inl h0)
      have n2 : q1 ≠ (cs z).length := fun h0 => hb (.inr (.inl h0))
      have n3 : (cs z)[q1]? = some 120 := Classical.byContradiction fun h0 => hb (.inr (.inr h0))
      have q1l : q1 < (cs z).length := by rw [cs_len] at n2 ⊢; omega
      refine ⟨_, rfl, L, _, rfl, .inl (.inl (.inl h3)), _, rfl, rfl, _, rfl, ite2 (fun h0 => ?_) (fun _ => ?_)⟩
      · exfalso
        have := V.int.inj (of_decide_eq_true h0)
        rw [l3] at this
        omega
      refine ⟨_, rfl, _, rfl, z, rfl, zs, rfl, _, rfl, ite2 (fun h0 => ?_) (fun _ => ?_)⟩
      · exfalso
        have := V.int.inj (of_decide_eq_true h0)
        rw [cs_len] at n2
        omega
      refine ⟨_, rfl, _, rfl, z, _, 120, rfl, rfl, zs, atI_nat n3, rfl, _, rfl, ite2 (fun h0 => ?_) (fun _ => ?_)⟩
      · exfalso
        have e : decide (V.str ⟨#[120]⟩ = V.str "x") = true := by decide +kernel
        rw [e] at h0
        cases h0
      refine ⟨_, rfl, _, _, rfl, rfl, ?_⟩
      exact ⟨acc ++ [n], q1 + 1, _, rfl, e3, h3, by rw [List.length_append, List.length_singleton]; omega, by omega, by rw [cs_len] at q1l; omega, hsc⟩
/-! ### parse_kinds -/
def txA (es : List PyData) : Prop := ∃ e : PyData, es = [e] ∧ ∀ z, e = .str z → z.length ≤ 10000
def pkF (es : List PyData) (r : PyData) : Prop := ∃ z nss, es = [.str z] ∧ parseK (cs z) = .ok nss ∧ r = tupK nss
def pkG (es : List PyData) (r : PyData) : Prop := ∃ e : PyData, es = [e] ∧ ((∃ z q, e = .str z ∧ parseK (cs z) = .error q ∧ r = .int (q : Nat)) ∨ (DL.isA "str" e = false ∧ r = .none))
theorem isStr {e : PyData} (h : DL.isA "str" e = true) : ∃ z, e = .str z := by
  cases e <;> first | exact ⟨_, rfl⟩ | cases h
theorem parseK_of {c : List Nat} {ns : List Int} {q : Nat} (h : TB.sidesAt c 0 1 4 = .ok (ns, q)) : kindsL c ns.length 3 [ns] q = parseK c := by
  unfold parseK
  rw [h]
theorem parseK_er {c : List Nat} {q : Nat} (h : TB.sidesAt c 0 1 4 = .error q) : parseK c = .error q := by
  unfold parseK
  rw [h]
theorem sidesAt_len {c : List Nat} {p l m : Nat} {ns : List Int} {q : Nat} (h : TB.sidesAt c p l m = .ok (ns, q)) : 1 ≤ ns.length ∧ ns.length ≤ m := by
  unfold TB.sidesAt at h
  cases e : sidesL c m [] p with
  | error q' => rw [e] at h; cases h
  | ok r =>
    obtain ⟨ms, q'⟩ := r
    rw [e] at h
    dsimp only at h
    split at h
    · cases h
    · cases h
      refine ⟨sidesL_pos _ _ _ _ _ e, ?_⟩
      have : ∀ (m : Nat) (acc : List Int) (p : Nat) (ns : List Int) (q : Nat), sidesL c m acc p = .ok (ns, q) → ns.length ≤ acc.length + m := by
        intro m
        induction m with
        | zero => intro acc p ns q h; cases h
        | succ m ih =>
          intro acc p ns q h
          rw [sidesL] at h
          split at h
          · cases h
          · split at h
            · cases h
              rw [List.length_append, List.length_singleton]; omega
            · have := ih _ _ _ _ h
              rw [List.length_append, List.length_singleton] at this
              omega
      have := this m [] p _ _ e
      simpa using this
set_option maxHeartbeats 1000000 in
theorem ok_parse_kinds (T : Txt mg) {f : Addr} {fd : FuncData} (F : Fun K "parse_kinds" "parse_kinds" s_parse_kinds f fd) {C : Addr} (E_BadText : ErrC P w K mg base "BadText" "place" C) (h_sides_at : KeepsX P w K mg base 3 "sides_at" p_sides_at (spSidesAt C)) : FnOk P w K mg base (L2.CX P w) 4 f fd p_parse_kinds (DL.SpX C "place" txA pkF pkG) := by
  refine F.okX sc_parse_kinds (fun vs H Q E h => ?_) (fun cdv A outer s H vs Q E hr h => ?_)
  · obtain ⟨N, es, _, r, ⟨e, rfl, _⟩, _⟩ := h
    rw [r.len]; rfl
  obtain ⟨N, es, ok, r, ⟨e, rfl, hz⟩, q, qE⟩ := h
  refine ⟨_, (pss_cons (ps_if (pt_not (pt_val (pe_callB call_isi (by rfl) T.n_isinstance (by decide +kernel) (pa_cons (pv 0) (pa_cons (pe_bltn (v := .ty "str") (u := .type "str") (by rfl) T.n_str (by decide +kernel) rfl) pa_nil)))))
 (pss_one (TB.ps_raiseF rfl E_BadText (hr.mono (by decide)) (takes_of rfl rfl rfl rfl) (by rfl) (pa_cons pe_non pa_nil))) pss_nil)
 (pss_cons (ps_asg (TB.pe_ownX h_sides_at (hr.mono (by decide)) (takes_of rfl rfl rfl rfl) (by rfl) (pa_cons (pv 0) (pa_cons pe_int (pa_cons pe_int (pa_cons (TB.pe_con (by rfl) T.c_MAX_DIMS) pa_nil))))) (pg_tup rfl (pgs_cons (pg_name (i := 1) sc_parse_kinds.nd rfl (.inl rfl)) (pgs_cons (pg_name (i := 2) sc_parse_kinds.nd rfl (.inl rfl)) pgs_nil))))
 (pss_cons (ps_set (i := 3) sc_parse_kinds.nd rfl (.inl rfl) (pe_lst (pa_cons (pv 1) pa_nil)))
 (pss_cons (ps_while (passes_of rfl) (pt_cmpR op_lt (pv 2) (pe_callB call_len_str (by rfl) T.n_len (by decide +kernel) (pa_cons (pv 0) pa_nil)) (nomark _))
 (pss_cons (ps_if (PW.pt (pw_or (pt_cmpR op_ne (pe_ix ix_str (pv 0) (pv 2) (fun _ _ => rfl)) pe_str (nomark _)) (pw_or1 (pt_cmpR op_eq (pe_callB call_len_seq (by rfl) T.n_len (by decide +kernel) (pa_cons (pv 3) pa_nil)) (TB.pe_con (by rfl) T.c_MAX_KINDS) (nomark _)))))
 (pss_one (TB.ps_raiseF rfl E_BadText (hr.mono (by decide)) (takes_of rfl rfl rfl rfl) (by rfl) (pa_cons (pv 2) pa_nil))) pss_nil)
 (pss_cons (ps_asg (TB.pe_ownX h_sides_at (hr.mono (by decide)) (takes_of rfl rfl rfl rfl) (by rfl) (pa_cons (pv 0) (pa_cons (pe_op op_add (pv 2) pe_int) (pa_cons (pe_callB call_len_seq (by rfl) T.n_len (by decide +kernel) (pa_cons (pv 1) pa_nil)) (pa_cons (pe_callB call_len_seq (by rfl) T.n_len (by decide +kernel) (pa_cons (pv 1) pa_nil)) pa_nil))))) (pg_tup rfl (pgs_cons (pg_name (i := 4) sc_parse_kinds.nd rfl (.inl rfl)) (pgs_cons (pg_name (i := 2) sc_parse_kinds.nd rfl (.inl rfl)) pgs_nil))))
 (pss_one (ps_expr (pe_bm PySem.F.plainAttrs_list PySem.F.slot_list_append PySem.F.type_list_append mt_append (pv 3) (pa_cons (pv 4) pa_nil)))))))
 (pss_one (ps_ret (pe_callTy call_tuple_of (by rfl) T.n_tuple (by decide +kernel) (pa_cons (pv 3) pa_nil)))))))), ?_⟩
  have S := DL.St.startF (k := 4) ok r
  have L := r.len
  match vs, L with
  | [v], _ =>
  refine DL.d_if ?_
  have t1 : DL.EvT (DL.WF N H) H _ S.rho (· = !DL.isA "str" e) := DL.et_not (DL.et_b (DL.ev_isi' (K := K) (T := "str") (d := e) (DL.ev_dat (i := 0) rfl) DL.kit_str))
  refine t1 [] [] _ H S _ fun b H1 S1 hb => ?_
  subst hb
  cases hs : DL.isA "str" e with
  | false =>
    refine (if_pos rfl).mpr ?_
    refine DL.raise_X (P := (· = .none)) DL.ev_non S1 fun d v' e' H' S' hd p => ?_
    obtain ⟨x, y⟩ := S'.endF
    exact qE d v' e' H' hd x y ⟨e, rfl, .inr ⟨hs, p⟩⟩
  | true =>
    refine (if_neg (by decide)).mpr ?_
    obtain ⟨z, rfl⟩ := isStr hs
    have hz := hz z rfl
    have x1 : Ex H H1 := fun a o h => by
      by_cases hN : N a
      · rw [S1.inv.2 a hN]; exact h
      · exact S1.off a o h hN
    cases r with
    | cons rb rn =>
    cases rb
    have zs := size_small (n := z.length) (by omega)
    obtain ⟨R, hR⟩ : ∃ R, R = parseK (cs z) := ⟨_, rfl⟩
    have kOk : ∀ nss t H', R = .ok nss → Ex H1 H' → DL.Rg N H' (.ref t) (tupK nss) → Q (.ref t) H' := fun nss t H' h1 x h2 => q (.ref t) (tupK nss) H' (x1.trans x) h2 ⟨z, nss, rfl, by rw [← hR, h1], rfl⟩
    have kEr : ∀ p d H', R = .error p → Ex H1 H' → H' d = some (.xd [("place", .int (p : Nat))]) → E (.ref C) (some d) H' := fun p d H' h1 x hd => qE d (.int p) (.int p) H' hd (x1.trans x) (.int p) ⟨.str z, rfl, .inl ⟨z, p, rfl, by rw [← hR, h1], rfl⟩⟩
    have fresh : ∀ u, H1 u = none → ¬ N u := fun u hu hN => ok u hN (none_of x1 hu)
    clear q qE S S1 t1
    refine DL.d_next ?_
    refine ⟨_, rfl, z, 0, 1, 4, rfl, Nat.zero_le _, hz, by decide, Nat.le_refl _, fun ns p0 t u H2 h1 e1 ht hu hp0 hfr => ?_, fun p d H2 h1 e1 hd hp => kEr p d H2 (by rw [hR]; exact parseK_er h1) e1 hd⟩
    refine ⟨t, _, rfl, .inl (.inl ht), rfl, _, _, rfl, _, _, rfl, rfl, ?_⟩
    obtain ⟨n1, n4⟩ := sidesAt_len h1
    have h2 := parseK_of h1
    rw [← hR] at h2
    -- kinds = [first]
    refine ⟨_, rfl, (show 1 ≤ sizeLine by decide), fun L hL => ?_⟩
    have hNL : ¬ N L := fresh L (none_of e1 hL)
    have ngo : ∀ {a : Addr}, H1 a = none → a ≠ L → ¬ (N a ∨ a = L) := fun h1 h2 h => h.elim (fresh _ h1) h2
    have huL : u ≠ L := fun z0 => by rw [z0, hL] at hu; cases hu
    refine ⟨fun m σ H' => ∃ (acc : List (List Int)) (xs : List V) (p : Nat) (y4 : Option V), σ = [some (.str z), some (.ref u), some (.int p), some (.ref L), y4] ∧ Ex H2 H' ∧
        H' L = some (.lst xs) ∧ DL.RgAll (fun a => N a ∨ a = L) H' xs (acc.map tupI) ∧ acc.length + m = 4 ∧ p ≤ z.length ∧ kindsL (cs z) ns.length m acc p = R,
      ⟨3, [ns], [.ref u], p0, none, rfl, Ex.new hL, upd_same, .cons (.tup (by rw [upd_ne huL]; exact hu) (ngo hfr huL) (DL.rgInts ns)) .nil, rfl, hp0, h2⟩, fun m σ H3 hW => ?_⟩
    obtain ⟨acc, xs, p, y4, rfl, e2, g1, g2, g3, hp, g4⟩ := hW
    have xl : xs.length = acc.length := by rw [g2.len, List.length_map]
    refine ⟨_, rfl, _, rfl, z, rfl, zs, _, _, rfl, rfl, _, rfl, ite2 (fun hlt => ?_) (fun hlt => ?_)⟩
    · have hlt' : p < (cs z).length := by rw [cs_len]; have := of_decide_eq_true hlt; omega
      have hc : (cs z)[p]? = some (cs z)[p] := List.getElem?_eq_getElem hlt'
      cases m with
      | zero =>
        have g4 := (kindsL_bad (cs z) ns.length 0 acc hlt' (.inr rfl)).symm.trans g4
        have fin := raise_at (C := C) (f := "place") (v := .int p) (H1 := H3) (Q := fun cls d H' => E cls d H') fun d hd => kEr p d _ g4.symm ((e1.trans e2).trans (Ex.new hd)) upd_same
        refine ⟨fun _ _ => False, fun _ _ h => False.elim h, ?_⟩
        refine ⟨_, rfl, _, rfl, z, _, _, rfl, rfl, zs, atI_nat hc, rfl, _, rfl, ite2 (fun _ => ⟨_, rfl, fin⟩) (fun _ => ?_)⟩
        refine ⟨_, rfl, L, _, rfl, .inl (.inl (.inl g1)), rfl, _, rfl, ite2 (fun _ => ⟨_, rfl, fin⟩) (fun hne => ?_)⟩
        exact absurd (decide_eq_true (by rw [xl, show acc.length = 4 by omega]; rfl)) hne
      | succ m =>
        refine ⟨_, fun σ' H' hN => ⟨m, Nat.lt_succ_self m, hN⟩, ?_⟩
        by_cases h32 : (cs z)[p] = 32
        · have hc : (cs z)[p]? = some 32 := by rw [hc, h32]
          refine ⟨_, rfl, _, rfl, z, _, 32, rfl, rfl, zs, atI_nat hc, rfl, _, rfl, ite2 (fun h0 => ?_) (fun _ => ?_)⟩
          · exfalso
            have e : (!decide (V.str ⟨#[32]⟩ = V.str " ")) = false := by decide +kernel
            rw [e] at h0
            cases h0
          refine ⟨_, rfl, L, _, rfl, .inl (.inl (.inl g1)), rfl, _, rfl, ite2 (fun h0 => ?_) (fun _ => ?_)⟩
          · exfalso
            have := V.int.inj (of_decide_eq_true h0)
            rw [xl] at this
            omega
          have hu2 := e2 _ _ hu
          have lu : ((ns.map V.int).length : Int) = (ns.length : Nat) := by rw [List.length_map]
          have g5 : (match TB.sidesAt (cs z) (p + 1) ns.length ns.length with
            | .ok (ms, q') => kindsL (cs z) ns.length m (acc ++ [ms]) q'
            | .error q' => .error q') = R := by
            rw [← g4, kindsL.eq_def (cs z) ns.length (m + 1)]
            simp only
            rw [if_pos hlt', if_neg (fun z0 => z0 hc)]
            all_goals (cases TB.sidesAt (cs z) (p + 1) ns.length ns.length <;> rfl)
          refine ⟨_, rfl, _, rfl, _, _, rfl, rfl, _, rfl, u, _, rfl, .inr (.inl (.inl hu2)), _, rfl, u, _, rfl, .inr (.inl (.inl hu2)), ?_⟩
          rw [lu]
          refine ⟨z, p + 1, ns.length, ns.length, rfl, by rw [cs_len] at hlt'; omega, hz, n1, n4, fun ms q' t2 u2 H4 hs' e3 ht2 hu2' hq' hfr2 => ?_, fun q' d H4 hs' e3 hd hq' => ?_⟩
          · rw [hs'] at g5
            refine ⟨t2, _, rfl, .inl (.inl ht2), rfl, _, _, rfl, _, _, rfl, rfl, ?_⟩
            have g1' := e3 _ _ g1
            have hne2 : u2 ≠ L := fun z0 => by rw [z0, g1] at hfr2; cases hfr2
            refine ⟨_, rfl, .inl ⟨rfl, _, .inl (.inl g1')⟩, _, rfl, L, _, _, rfl, rfl, g1', size_small' (by rw [xl]; omega), ?_⟩
            have e4 : Ex H2 (upd H4 L (.lst (xs ++ [.ref u2]))) := (e2.trans e3).mut hL
            refine ⟨acc ++ [ms], xs ++ [.ref u2], q', _, rfl, e4, upd_same, ?_, by rw [List.length_append, List.length_singleton]; omega, hq', g5⟩
            rw [List.map_append]
            exact ((g2.ex e3).upd (.inr rfl)).app (.cons (.tup (by rw [upd_ne hne2]; exact hu2') (ngo (none_of (e1.trans e2) hfr2) hne2) (DL.rgInts ms)) .nil)
          · rw [hs'] at g5
            exact kEr q' d H4 g5.symm ((e1.trans e2).trans e3) hd
        · have g4 := (kindsL_bad (cs z) ns.length (m + 1) acc hlt' (.inl (by rw [hc]; simpa using h32))).symm.trans g4
          have fin := raise_at (C := C) (f := "place") (v := .int p) (H1 := H3) (Q := fun cls d H' => E cls d H') fun d hd => kEr p d _ g4.symm ((e1.trans e2).trans (Ex.new hd)) upd_same
          refine ⟨_, rfl, _, rfl, z, _, _, rfl, rfl, zs, atI_nat hc, rfl, _, rfl, ite2 (fun _ => ⟨_, rfl, fin⟩) (fun h0 => ?_)⟩
          exfalso
          apply h32
          have e : decide (V.str ⟨#[(cs z)[p]]⟩ = V.str " ") = true := by simpa using h0
          have e2 := V.str.inj (of_decide_eq_true e)
          have e3 : (⟨#[(cs z)[p]]⟩ : Str).cps.toList = (" " : Str).cps.toList := by rw [e2]
          have e4 : (" " : Str).cps.toList = [32] := by decide +kernel
          rw [e4] at e3
          exact (List.cons.inj e3).1
    · have hlt' : ¬ p < (cs z).length := by rw [cs_len]; intro q; exact hlt (decide_eq_true (by omega))
      have g4 := (kindsL_end' (cs z) ns.length m acc hlt').symm.trans g4
      refine ⟨_, rfl, L, _, rfl, .inl ⟨.inl (.inl g1), fun t ht => ?_⟩⟩
      have x2 : Ex H1 (upd H3 t (.tup xs)) := (e1.trans e2).trans (Ex.new ht)
      exact kOk acc t _ g4.symm x2 (.tup upd_same (fresh t (none_of (e1.trans e2) ht)) (DL.RgAll.to (fun a o h n => ⟨Ex.new ht a o h, fun q => n (.inl q)⟩) _ _ g2))
end
end K06
set_option Elab.async false
set_option linter.all false
set_option maxRecDepth 100000
namespace K06
open PySem PySem.Spec PyProof.Rows L2 Evl TB DL
section
variable {P : Program} {w : World} {K : PySem.W.Frag} {mg : Str → Option Value} {base : Heap}
/-! ### the law's own look -/
def numA (es : List PyData) : Prop := ∃ (z : Str) (b : Bool), es = [.str z, .bool b] ∧ TxOk 1000 z
def numF (es : List PyData) (r : PyData) : Prop := ∃ (z : Str) (b : Bool), es = [.str z, .bool b] ∧ r = .bool (isNumB (cs z) b)
theorem str_empty {z : Str} (h : cs z = []) : z = "" := cs_ext (by rw [h]; rfl)
theorem ok__law_is_number (T : Txt mg) {f : Addr} {fd : FuncData} (F : Fun K "_law_is_number" "_law_is_number" s__law_is_number f fd) : FnOk P w K mg base CX0 1 f fd p__law_is_number (SpF numA numF) := by
  refine F.ok sc__law_is_number (fun vs H Q E h => ?_) (fun cdv A outer s H vs Q E hr h => ?_)
  · obtain ⟨N, es, _, r, ⟨z, b, rfl, _⟩, _⟩ := h
    rw [r.len]; rfl
  obtain ⟨N, es, ok, r, ⟨z, b, rfl, hz⟩, q⟩ := h
  refine ⟨_, (pss_cons (ps_if (pt_cmpR op_eq (pv 0) pe_str (nomark _))
 (pss_one (ps_ret (pe_not (pv 1)))) pss_nil)
 (pss_cons (ps_if (PW.pt (pw_or (pt_cmpR (op_neD hr.units) (pe_lc (own := [("_law_sign", 2)]) (g := gName 2) rfl sc__law_is_number.nd (pi_str (pv 0)) (blkOk_by (N := n__law_is_number) (sc := defScope s__law_is_number) (by decide +kernel)) (fun _ _ _ _ _ => pg_name (i := 2) sc__law_is_number.nd rfl (.inl rfl)) (fun _ _ _ _ _ => (pts_one (pt_cmpR op_notIn_sign (pv 2) pe_str (by rfl)))) (fun _ _ _ _ _ => (pv 2))) (pe_lst pa_nil) (nomark _)) (pw_or (pt_cmpR op_eq (pe_ix ix_str (pv 0) pe_int (fun _ _ => rfl)) pe_str (nomark _)) (pw_or1 (pt_cmpR op_gt (pe_callB call_len_str (by rfl) T.n_len (by decide +kernel) (pa_cons (pv 0) pa_nil)) pe_int (nomark _))))))
 (pss_one (ps_ret pe_bl)) pss_nil)
 (pss_one (ps_ret (pe_cmpR op_le (pe_callTy call_int_str (by rfl) T.n_int (by decide +kernel) (pa_cons (pv 0) pa_nil)) (pe_op op_pow pe_int pe_int) (nomark _)))))), ?_⟩
  have S := St.startF (k := 1) ok r
  have L := r.len
  match vs, L with
  | [v1, v2], _ =>
  refine d_if ?_
  refine (et_of (ev_op' (ev_dat (i := 0) rfl) ev_str (opd_eqS (x := z) (y := "")))) [] [] _ H S _ fun c H1 S1 hc => ?_
  subst hc
  by_cases h0 : z = ""
  · rw [decide_eq_true h0]
    refine (if_pos rfl).mpr ?_
    refine d_ret ?_
    refine (ev_not (ev_dat (i := 1) rfl)) [] [] _ H1 S1 _ fun x e H2 S2 p => ?_
    obtain ⟨x1, r1⟩ := S2.endF
    exact q x e H2 x1 r1 ⟨z, b, rfl, by rw [p, h0]; rfl⟩
  · rw [decide_eq_false h0]
    refine (if_neg Bool.false_ne_true).mpr ?_
    refine d_next ?_
    have hne : cs z ≠ [] := fun h => h0 (str_empty h)
    obtain ⟨c0, cr, hc0⟩ : ∃ c0 cr, cs z = c0 :: cr := by
      cases h : cs z with
      | nil => exact absurd h hne
      | cons c0 cr => exact ⟨c0, cr, rfl⟩
    have zl := hz.len
    have t1 : EvT (WF N H) H _ S1.rho (· = !(List.isEmpty ((cs z).filter fun c => !decide (c ∈ cs "0123456789")))) :=
      et_of' (P := (· = .bool (!(List.isEmpty ((cs z).filter fun c => !decide (c ∈ cs "0123456789")))))) (ev_op' (e := .bool (!(List.isEmpty ((cs z).filter fun c => !decide (c ∈ cs "0123456789"))))) (ev_lcS (i := 2) (b := fun c => !decide (c ∈ cs "0123456789")) (f := fun c => .str ⟨#[c]⟩) (by omega) rfl (ev_dat (i := 0) rfl) (fun c hc => et_of (ev_op' (ev_dat (i := 2) rfl) ev_str opd_notInS)) fun c hc _ => ev_dat (i := 2) rfl)
        (ev_lst' eva_nil (by decide)) ((opd_neD (K := K) (e := .list []) (by
          rw [show (fun c => PyData.str ⟨#[c]⟩) = PyData.str ∘ (fun c => (⟨#[c]⟩ : Str)) from rfl, ← List.map_map]
          refine shaped_strs fun y hy => ?_
          obtain ⟨c, hc, rfl⟩ := List.mem_map.mp hy
          exact TxOk.ok (n := 1) ⟨Nat.le_refl _, fun x hx => by
            rw [cs_sign] at hx
            rw [List.mem_singleton.mp hx]
            exact hz.code c ((List.mem_filter.mp hc).1)⟩) (by decide)).imp fun e h => by rw [h, eqv_nil', List.isEmpty_map])) fun e h => ⟨_, h, rfl⟩
    have t2 : EvT (WF N H) H _ S1.rho (· = decide (c0 = 48)) := et_of' (P := (· = .bool (decide (c0 = 48)))) (ev_op' (e := .bool (decide (c0 = 48))) (ev_op' (ev_dat (i := 0) rfl) (ev_int (i := 0)) (opd_ixS (c := c0) (by omega) (atI_nat (j := 0) (by rw [hc0]; rfl)))) (ev_str (x := "0")) (opd_eqS.imp fun e h => by rw [h, sign_eq (k := 48) (by decide +kernel)])) fun e h => ⟨_, h, rfl⟩
    have t3 : EvT (WF N H) H _ S1.rho (· = decide ((13 : Int) < (z.length : Int))) := et_of (ev_op' (ev_cb' (eva_one (ev_dat (i := 0) rfl)) (cad_lenS (by omega))) (ev_int (i := 13)) opd_gt)
    have key : isNumB (cs z) b = (!((!(List.isEmpty ((cs z).filter fun c => !decide (c ∈ cs "0123456789")))) || (decide (c0 = 48) || decide ((13 : Int) < (z.length : Int)))) && decide ((valN (cs z) : Int) ≤ 1000000000000)) := by
      unfold isNumB
      rw [if_neg hne, filter_empty, show (fun c => !decide (c ∈ cs "0123456789")) = fun c => !digB c from funext fun c => by rw [digit_mem]]
      have a1 : (cs z).all digB = !(cs z).any fun c => !digB c := by
        rw [List.all_eq_not_any_not]
      have a2 : decide ((cs z).head? = some 48) = decide (c0 = 48) := by rw [hc0]; simp
      have a3 : decide ((cs z).length ≤ 13) = !decide ((13 : Int) < (z.length : Int)) := by
        rw [cs_len, Bool.eq_iff_iff]; simp; omega
      have a4 : decide (valN (cs z) ≤ 1000000000000) = decide ((valN (cs z) : Int) ≤ 1000000000000) := by
        rw [Bool.eq_iff_iff]; simp; omega
      rw [a1, a2, a3, a4]
      cases ((cs z).any fun c => !digB c) <;> cases decide (c0 = 48) <;> cases decide ((13 : Int) < (z.length : Int)) <;> rfl
    refine d_if ?_
    refine (et_or t1 fun _ => et_or t2 fun _ => t3) [] [] _ H1 S1 _ fun c H2 S2 hc => ?_
    subst hc
    generalize hB : ((!(List.isEmpty ((cs z).filter fun c => !decide (c ∈ cs "0123456789")))) || (decide (c0 = 48) || decide ((13 : Int) < (z.length : Int)))) = B at key
    cases B with
    | true =>
      refine (if_pos rfl).mpr ?_
      refine d_ret ?_
      refine (ev_bl (b := false)) [] [] _ H2 S2 _ fun x e H3 S3 p => ?_
      obtain ⟨x1, r1⟩ := S3.endF
      exact q x e H3 x1 r1 ⟨z, b, rfl, by rw [p, key]; rfl⟩
    | false =>
      refine (if_neg Bool.false_ne_true).mpr ?_
      refine d_next ?_
      refine d_ret ?_
      rw [Bool.or_eq_false_iff, Bool.or_eq_false_iff] at hB
      have dg : NumText.AllDigits z.cps.toList := fun c hc => by
        have e := hB.1
        rw [filter_empty, Bool.not_not, List.any_eq_false] at e
        have e := e c hc
        rw [digit_mem] at e
        simpa [digB] using e
      have E1 : EvP (WF N H) H _ S2.rho (· = .bool (decide ((valN (cs z) : Int) ≤ 10 ^ (12 : Int).toNat))) := ev_op' (ev_cb' (eva_one (ev_dat (i := 0) rfl)) (cad_intS (intText_digits dg hne (by omega)) (by have := of_decide_eq_false hB.2.2; omega))) (ev_pow (i := 10) (j := 12) ⟨by decide, by decide, by decide +kernel⟩) opd_le
      refine E1 [] [] _ H2 S2 _ fun x e H3 S3 p => ?_
      obtain ⟨x1, r1⟩ := S3.endF
      exact q x e H3 x1 r1 ⟨z, b, rfl, by rw [p, key]; rfl⟩
theorem c_num {W : Wd} {H0 : Hp} {ρ : List (Option Sl)} {ta te : TE} {z : Str} {b : Bool} (hz : TxOk 1000 z) (h : EvP W H0 ta ρ (· = .str z)) (h2 : EvP W H0 te ρ (· = .bool b)) : EvP W H0 (tCall (SpF numA numF) [] E0 (tCons ta (tCons te tNil))) ρ (· = .bool (isNumB (cs z) b)) :=
  (ev_callF (A := numA) (F := numF) (PA := (· = [.str z, .bool b])) (eva_more h (eva_one h2)) fun es h => ⟨z, b, h, hz⟩).imp fun r h => by
    obtain ⟨es, rfl, z', b', h1, rfl⟩ := h
    cases h1; rfl
abbrev rMin2 : List V → Hp → VK → Prop := fun xs H Q => ∃ n m, xs = [.int n, .int m] ∧ Q (.int (if m < n then m else n)) H
theorem cad_min2 {i j : Int} : CaD rMin2 [.int i, .int j] (· = .int (if j < i then j else i)) := fun N H vs _ r => by
  cases r with
  | cons r1 r2 =>
    cases r2 with
    | cons r2 r3 =>
      cases r3; cases r1; cases r2
      exact res_rfl (.int _) fun Q q => ⟨i, j, rfl, q⟩
def axD : Option Nat → PyData
  | none => .none
  | some n => .int (n : Nat)
def isNn : PyData → Bool
  | .none => true
  | _ => false
theorem is_none' {e : PyData} : OpD rIsN e .none (· = .bool (isNn e)) := opd_isN.imp fun x h => by rw [h]; cases e <;> rfl
theorem not_none' {e : PyData} : OpD rNotN e .none (· = .bool (!isNn e)) := opd_notN.imp fun x h => by rw [h]; cases e <;> rfl
theorem axD_none (ax : Option Nat) : isNn (axD ax) = !ax.isSome := by cases ax <;> rfl
/-- the words of a text -/
theorem words_of {z y : Str} {b n : Nat} (hy : cs y = [b]) (hb : b < 256) (hz : TxOk n z) : ∃ ws : List Str, Txt.split z y = ws ∧ ws.map cs = sp b (cs z) ∧ (∀ w ∈ ws, TxOk n w) ∧ ws.length ≤ n + 1 ∧ ∃ init last, ws = init ++ [last] := by
  have es : (Txt.split z y).map cs = sp b (cs z) := split_sp hy hb
  refine ⟨_, rfl, es, fun w hw => hz.word es hw, ?_, ?_⟩
  · have := (sp_len b (cs z)).2
    rw [← es, List.length_map, cs_len] at this
    have := hz.len
    omega
  · have hne : Txt.split z y ≠ [] := fun h => by
      rw [h] at es
      exact sp_ne b (cs z) es.symm
    exact ⟨_, _, (List.dropLast_concat_getLast hne).symm⟩
def grpA (es : List PyData) : Prop := ∃ (z : Str) (ax : Option Nat) (b : Bool), es = [.str z, axD ax, .bool b] ∧ TxOk 1000 z
def grpF (es : List PyData) (r : PyData) : Prop := ∃ (z : Str) (ax : Option Nat) (b : Bool), es = [.str z, axD ax, .bool b] ∧ r = .bool (isGroupB (cs z) ax b)
theorem axD_inj {a b : Option Nat} (h : axD a = axD b) : a = b := by
  cases a <;> cases b <;> first | rfl | (cases h; done) | (cases h; rfl)
theorem ok__law_is_group (T : Txt mg) {f : Addr} {fd : FuncData} (F : Fun K "_law_is_group" "_law_is_group" s__law_is_group f fd) (h__law_is_number : Keeps P w K mg base 1 "_law_is_number" p__law_is_number (SpF numA numF)) : FnOk P w K mg base CX0 2 f fd p__law_is_group (SpF grpA grpF) := by
  refine F.ok sc__law_is_group (fun vs H Q E h => ?_) (fun cdv A outer s H vs Q E hr h => ?_)
  · obtain ⟨N, es, _, r, ⟨z, ax, b, rfl, _⟩, _⟩ := h
    rw [r.len]; rfl
  obtain ⟨N, es, ok, r, ⟨z, ax, b, rfl, hz⟩, q⟩ := h
  refine ⟨_, (pss_cons (ps_set (i := 3) sc__law_is_group.nd rfl (.inl rfl) (pe_bm PySem.F.plainAttrs_str PySem.F.slot_str_split PySem.F.type_str_split mt_split (pv 0) (pa_cons pe_str pa_nil)))
 (pss_cons (ps_if (PW.pt (pw_or (pt_cmpR op_gt (pe_callB call_len_seq (by rfl) T.n_len (by decide +kernel) (pa_cons (pv 3) pa_nil)) (pe_ifExp (pt_cmpR op_isN1 (pv 1) pe_non (nomark _)) pe_int (pe_callB (call_min2 rfl) (by rfl) T.n_min (by decide +kernel) (pa_cons pe_int (pa_cons (pv 1) pa_nil)))) (nomark _)) (pw_or1 (pt_cmpR (op_neD hr.units) (pe_lc (own := [("_law_word", 4)]) (g := gName 4) rfl sc__law_is_group.nd (pi_list (pe_slice sl_list (pv 3) po_none (po_some (pe_un un_neg pe_int)))) (blkOk_by (N := n__law_is_group) (sc := defScope s__law_is_group) (by decide +kernel)) (fun _ _ _ _ _ => pg_name (i := 4) sc__law_is_group.nd rfl (.inl rfl)) (fun _ _ _ _ _ => (pts_one (pt_not (pt_val (TB.pe_own h__law_is_number (hr.mono (by decide)) (by rfl) (pa_cons (pv 4) (pa_cons pe_bl pa_nil))))))) (fun _ _ _ _ _ => (pv 4))) (pe_lst pa_nil) (nomark _)))))
 (pss_one (ps_ret pe_bl)) pss_nil)
 (pss_cons (ps_if (PW.pt (pw_and (pt_val (pv 2)) (pw_and (pt_cmpR op_notN1 (pv 1) pe_non (nomark _)) (pw_and1 (pt_cmpR op_ne (pe_callB call_len_seq (by rfl) T.n_len (by decide +kernel) (pa_cons (pv 3) pa_nil)) (pv 1) (nomark _))))))
 (pss_one (ps_ret pe_bl)) pss_nil)
 (pss_one (ps_ret (TB.pe_own h__law_is_number (hr.mono (by decide)) (by rfl) (pa_cons (pe_ix ix_list (pv 3) (pe_un un_neg pe_int) (fun _ _ => rfl)) (pa_cons (pv 2) pa_nil)))))))), ?_⟩
  have S := St.startF (k := 2) ok r
  have L := r.len
  match vs, L with
  | [v1, v2, v3], _ =>
  have zl := hz.len
  obtain ⟨ws, hws, es, wok, wlen, init, last, hil⟩ := words_of (y := "x") (b := 120) (by decide +kernel) (by decide) hz
  have E0 : EvP (WF N H) H _ S.rho (· = .list (ws.map PyData.str)) := (ev_split (K := K) (b := "x") (ev_dat (i := 0) rfl) ev_str (by decide +kernel) (by omega)).imp fun e h => by rw [h, hws]
  refine d_asg ?_
  refine E0 [] [] _ H S _ fun x e H1 S1' p => ?_
  subst p
  have S1 := S1'.set (i := 3)
  clear S1' E0
  have lim : EvP (WF N H) H _ S1.rho (· = .int (limOf ax : Nat)) := ev_if (tt := tTest (tOp rIsN (tVar 1) (tC .non))) (ta := tC (.int 4)) (tb := tCB rMin2 (tCons (tC (.int 4)) (tCons (tVar 1) tNil))) (et_of (ev_op' (ev_dat (i := 1) rfl) ev_non is_none')) (fun h => by
      cases ax with
      | none => exact ev_int (i := 4)
      | some n => cases h) fun h => by
      cases ax with
      | none => cases h
      | some n =>
        refine (ev_cb' (eva_more (ev_int (i := 4)) (eva_one (ev_dat (i := 1) (e := .int (n : Nat)) rfl))) cad_min2).imp fun e h => ?_
        rw [h]
        congr 1
        show (if (n : Int) < 4 then (n : Int) else 4) = ((min 4 n : Nat) : Int)
        by_cases h : (n : Int) < 4
        · rw [if_pos h]; omega
        · rw [if_neg h]; omega
  have t1 : EvT (WF N H) H _ S1.rho (· = decide ((limOf ax : Int) < ((ws.map PyData.str).length : Int))) := et_of (ev_op' (ev_cb' (eva_one (ev_dat (i := 3) rfl)) (cad_lenL (K := K))) lim opd_gt)
  have t2 : EvT (WF N H) H _ S1.rho (· = (ws.dropLast.any fun y => !isNumB (cs y) true)) :=
    et_of' (P := (· = .bool (ws.dropLast.any fun y => !isNumB (cs y) true))) (ev_op' (e := .bool (ws.dropLast.any fun y => !isNumB (cs y) true))
      ((ev_lcLf (K := K) (i := 4) (ds := ws.dropLast.map PyData.str) (b := fun d => match d with | .str y => !isNumB (cs y) true | _ => false) (f := id) (by rw [List.length_map, List.length_dropLast]; omega) rfl
        ((ev_slL (K := K) (ev_dat (i := 3) rfl) eo_none (eo_some (ev_neg (ev_int (i := 1))))).imp fun e h => by rw [h, cutD_map, cutD_init]) (fun G d hd => by
          obtain ⟨y, hy, rfl⟩ := List.mem_map.mp hd
          exact et_not (et_b (c_num (wok y (List.dropLast_subset _ hy)) (ev_dat (i := 4) rfl) (ev_bl (b := true))))) fun G d hd _ => ev_dat (i := 4) rfl).imp fun e h => show e = .list ((ws.dropLast.filter fun y => !isNumB (cs y) true).map PyData.str) by
          rw [h, List.map_id, List.filter_map]; rfl)
      (ev_lst' eva_nil (by decide)) ((opd_neD (K := K) (e := .list []) (shaped_strs fun y hy => (wok y (List.dropLast_subset _ ((List.mem_filter.mp hy).1))).ok) (by decide)).imp fun e h => by rw [h, eqv_nil', List.isEmpty_map, filter_empty, Bool.not_not])) fun e h => ⟨_, h, rfl⟩
  have key : isGroupB (cs z) ax b = (!(decide ((limOf ax : Int) < ((ws.map PyData.str).length : Int)) || (ws.dropLast.any fun y => !isNumB (cs y) true)) && (!(b && (ax.isSome && !decide (ax = some ws.length))) && isNumB (cs last) b)) := by
    unfold isGroupB
    rw [← es, ← List.map_dropLast, List.any_map, List.length_map, List.length_map]
    have a1 : decide (limOf ax < ws.length) = decide ((limOf ax : Int) < (ws.length : Int)) := by rw [Bool.eq_iff_iff]; simp
    have a2 : (ws.map cs).getLastD [] = cs last := by rw [hil]; simp [List.getLastD_eq_getLast?]
    rw [a1, a2]; rfl
  refine d_if ?_
  refine (et_or t1 fun _ => t2) [] [] _ H1 S1 _ fun c H2 S2 hc => ?_
  subst hc
  generalize (decide ((limOf ax : Int) < ((ws.map PyData.str).length : Int)) || (ws.dropLast.any fun y => !isNumB (cs y) true)) = B at key
  cases B with
  | true =>
    refine (if_pos rfl).mpr ?_
    refine d_ret ?_
    refine (ev_bl (b := false)) [] [] _ H2 S2 _ fun x e H3 S3 p => ?_
    obtain ⟨x1, r1⟩ := S3.endF
    exact q x e H3 x1 r1 ⟨z, ax, b, rfl, by rw [p, key]; rfl⟩
  | false =>
    refine (if_neg Bool.false_ne_true).mpr ?_
    refine d_next ?_
    have t3 : EvT (WF N H) H _ S2.rho (· = (b && ((!isNn (axD ax)) && !decide (ax = some ws.length)))) := et_and (et_of (ev_dat (i := 2) rfl)) fun _ => et_and (et_of (ev_op' (ev_dat (i := 1) rfl) ev_non not_none')) fun h => by
      cases ax with
      | none => cases h
      | some n => exact et_of (ev_op' (ev_cb' (eva_one (ev_dat (i := 3) rfl)) (cad_lenL (K := K))) (ev_dat (i := 1) (e := .int (n : Nat)) rfl) (opd_neI.imp fun e h => by
          rw [h, List.length_map]
          congr 2
          rw [Bool.eq_iff_iff]
          simp only [decide_eq_true_eq, Option.some.injEq]
          omega))
    refine d_if ?_
    refine t3 [] [] _ H2 S2 _ fun c H3 S3 hc => ?_
    subst hc
    rw [show (!isNn (axD ax)) = ax.isSome by rw [axD_none, Bool.not_not]]
    generalize (b && (ax.isSome && !decide (ax = some ws.length))) = B at key
    cases B with
    | true =>
      refine (if_pos rfl).mpr ?_
      refine d_ret ?_
      refine (ev_bl (b := false)) [] [] _ H3 S3 _ fun x e H4 S4 p => ?_
      obtain ⟨x1, r1⟩ := S4.endF
      exact q x e H4 x1 r1 ⟨z, ax, b, rfl, by rw [p, key]; rfl⟩
    | false =>
      refine (if_neg Bool.false_ne_true).mpr ?_
      refine d_next ?_
      refine d_ret ?_
      refine (c_num (z := last) (b := b) (wok last (by rw [hil]; simp)) (ev_op' (ev_dat (i := 3) rfl) (ev_neg (ev_int (i := 1))) (opd_ixL (K := K) (by rw [hil, List.map_append]; exact atI_last _ _))) (ev_dat (i := 2) rfl)) [] [] _ H3 S3 _ fun x e H4 S4 p => ?_
      obtain ⟨x1, r1⟩ := S4.endF
      exact q x e H4 x1 r1 ⟨z, ax, b, rfl, by rw [p, key]; rfl⟩
theorem c_grp {W : Wd} {H0 : Hp} {ρ : List (Option Sl)} {ta tx te : TE} {z : Str} {ax : Option Nat} {b : Bool} (hz : TxOk 1000 z) (h : EvP W H0 ta ρ (· = .str z)) (hx : EvP W H0 tx ρ (· = axD ax)) (h2 : EvP W H0 te ρ (· = .bool b)) : EvP W H0 (tCall (SpF grpA grpF) [] E0 (tCons ta (tCons tx (tCons te tNil)))) ρ (· = .bool (isGroupB (cs z) ax b)) :=
  (ev_callF (A := grpA) (F := grpF) (PA := (· = [.str z, axD ax, .bool b])) (eva_more h (eva_more hx (eva_one h2))) fun es h => ⟨z, ax, b, h, hz⟩).imp fun r h => by
    obtain ⟨es, rfl, z', ax', b', h1, rfl⟩ := h
    have e1 := PyData.str.inj (List.cons.inj h1).1
    have e2 := axD_inj (List.cons.inj (List.cons.inj h1).2).1
    have e3 := PyData.bool.inj (List.cons.inj (List.cons.inj (List.cons.inj h1).2).2).1
    rw [e1, e2, e3]
def textF (es : List PyData) (r : PyData) : Prop := ∃ (z : Str) (b : Bool), es = [.str z, .bool b] ∧ r = .bool (isTextKB (cs z) b)
theorem ok__law_is_text (T : Txt mg) {f : Addr} {fd : FuncData} (F : Fun K "_law_is_text" "_law_is_text" s__law_is_text f fd) (h__law_is_group : Keeps P w K mg base 2 "_law_is_group" p__law_is_group (SpF grpA grpF)) : FnOk P w K mg base CX0 3 f fd p__law_is_text (SpF numA textF) := by
  refine F.ok sc__law_is_text (fun vs H Q E h => ?_) (fun cdv A outer s H vs Q E hr h => ?_)
  · obtain ⟨N, es, _, r, ⟨z, b, rfl, _⟩, _⟩ := h
    rw [r.len]; rfl
  obtain ⟨N, es, ok, r, ⟨z, b, rfl, hz⟩, q⟩ := h
  refine ⟨_, (pss_cons (ps_set (i := 2) sc__law_is_text.nd rfl (.inl rfl) (pe_bm PySem.F.plainAttrs_str PySem.F.slot_str_split PySem.F.type_str_split mt_split (pv 0) (pa_cons pe_str pa_nil)))
 (pss_cons (ps_set (i := 3) sc__law_is_text.nd rfl (.inr rfl) (pe_ifExp (pt_cmpR op_gt (pe_callB call_len_seq (by rfl) T.n_len (by decide +kernel) (pa_cons (pv 2) pa_nil)) pe_int (nomark _)) (pe_callB call_len_seq (by rfl) T.n_len (by decide +kernel) (pa_cons (pe_bm PySem.F.plainAttrs_str PySem.F.slot_str_split PySem.F.type_str_split mt_split (pe_ix ix_list (pv 2) pe_int (fun _ _ => rfl)) (pa_cons pe_str pa_nil)) pa_nil)) pe_non))
 (pss_cons (ps_if (PW.pt (pw_or (pt_cmpR op_gt (pe_callB call_len_seq (by rfl) T.n_len (by decide +kernel) (pa_cons (pv 2) pa_nil)) pe_int (nomark _)) (pw_or1 (pt_cmpR (op_neD hr.units) (pe_lc (own := [("_law_group", 4)]) (g := gName 4) rfl sc__law_is_text.nd (pi_list (pe_slice sl_list (pv 2) po_none (po_some (pe_un un_neg pe_int)))) (blkOk_by (N := n__law_is_text) (sc := defScope s__law_is_text) (by decide +kernel)) (fun _ _ _ _ _ => pg_name (i := 4) sc__law_is_text.nd rfl (.inl rfl)) (fun _ _ _ _ _ => (pts_one (pt_not (pt_val (TB.pe_own h__law_is_group (hr.mono (by decide)) (by rfl) (pa_cons (pv 4) (pa_cons (pv 3) (pa_cons pe_bl pa_nil)))))))) (fun _ _ _ _ _ => (pv 4))) (pe_lst pa_nil) (nomark _)))))
 (pss_one (ps_ret pe_bl)) pss_nil)
 (pss_one (ps_ret (TB.pe_own h__law_is_group (hr.mono (by decide)) (by rfl) (pa_cons (pe_ix ix_list (pv 2) (pe_un un_neg pe_int) (fun _ _ => rfl)) (pa_cons (pv 3) (pa_cons (pv 1) pa_nil))))))))), ?_⟩
  have S := St.startF (k := 3) ok r
  have L := r.len
  match vs, L with
  | [v1, v2], _ =>
  have zl := hz.len
  obtain ⟨gs, hgs, es, gok, glen, init, last, hil⟩ := words_of (y := " ") (b := 32) (by decide +kernel) (by decide) hz
  have E0 : EvP (WF N H) H _ S.rho (· = .list (gs.map PyData.str)) := (ev_split (K := K) (b := " ") (ev_dat (i := 0) rfl) ev_str (by decide +kernel) (by omega)).imp fun e h => by rw [h, hgs]
  refine d_asg ?_
  refine E0 [] [] _ H S _ fun x e H1 S1' p => ?_
  subst p
  have S1 := S1'.set (i := 2)
  clear S1' E0
  have E1 : EvP (WF N H) H _ S1.rho (· = axD (axesOf (gs.map cs))) := ev_if (tt := tTest (tOp (rI0 fun i j => .bl (decide (j < i))) (tCB (TB.rLenQ K) (tCons (tVar 2) tNil)) (tC (.int 1)))) (tb := tC .non)
    (ta := tCB (TB.rLenQ K) (tCons (tBM K "str" rSplitQ (tOp (rIxL K) (tVar 2) (tC (.int 0))) (tCons (tC (.str "x")) tNil)) tNil))
    (et_of (ev_op' (ev_cb' (eva_one (ev_dat (i := 2) rfl)) (cad_lenL (K := K))) (ev_int (i := 1)) opd_gt)) (fun h => by
      have h := of_decide_eq_true h
      rw [List.length_map] at h
      obtain ⟨g0, gt, hg⟩ : ∃ g0 gt, gs = g0 :: gt := by
        cases gs with
        | nil => exact absurd h (by decide)
        | cons g0 gt => exact ⟨g0, gt, rfl⟩
      have g0k := gok g0 (by rw [hg]; exact List.mem_cons_self)
      obtain ⟨ws, hws, es', _, wlen, _⟩ := words_of (y := "x") (b := 120) (by decide +kernel) (by decide) g0k
      have g0l := g0k.len
      have this : axesOf (gs.map cs) = some ws.length := by
        unfold axesOf axH
        rw [if_pos (by rw [List.length_map]; omega), hg]
        show some (sp 120 (cs g0)).length = _
        rw [← es', List.length_map]
      refine (ev_cb' (eva_one ((ev_split (K := K) (a := g0) (b := "x") (ev_op' (ev_dat (i := 2) rfl) (ev_int (i := 0)) (opd_ixL (K := K) (atI_nat (j := 0) (by rw [hg]; rfl)))) ev_str (by decide +kernel) (by omega)).imp fun e h => show e = .list (ws.map PyData.str) by rw [h, hws])) (cad_lenL (K := K))).imp fun e h' => ?_
      rw [h', List.length_map]
      rw [this]; rfl) fun h => by
      have h := of_decide_eq_false h
      rw [List.length_map] at h
      have : axesOf (gs.map cs) = none := by
        unfold axesOf
        rw [if_neg (by rw [List.length_map]; omega)]
      rw [this]
      exact ev_non
  refine d_asg ?_
  refine E1 [] [] _ H1 S1 _ fun x e H2 S2' p => ?_
  subst p
  have S2 := S2'.set (i := 3)
  clear S2' E1
  obtain ⟨ax, hax⟩ : ∃ ax, ax = axesOf (gs.map cs) := ⟨_, rfl⟩
  rw [← hax] at S2
  have t1 : EvT (WF N H) H _ S2.rho (· = decide ((4 : Int) < ((gs.map PyData.str).length : Int))) := et_of (ev_op' (ev_cb' (eva_one (ev_dat (i := 2) rfl)) (cad_lenL (K := K))) (ev_int (i := 4)) opd_gt)
  have t2 : EvT (WF N H) H _ S2.rho (· = (gs.dropLast.any fun y => !isGroupB (cs y) ax true)) :=
    et_of' (P := (· = .bool (gs.dropLast.any fun y => !isGroupB (cs y) ax true))) (ev_op' (e := .bool (gs.dropLast.any fun y => !isGroupB (cs y) ax true))
      ((ev_lcLf (K := K) (i := 4) (ds := gs.dropLast.map PyData.str) (b := fun d => match d with | .str y => !isGroupB (cs y) ax true | _ => false) (f := id) (by rw [List.length_map, List.length_dropLast]; omega) rfl
        ((ev_slL (K := K) (ev_dat (i := 2) rfl) eo_none (eo_some (ev_neg (ev_int (i := 1))))).imp fun e h => by rw [h, cutD_map, cutD_init]) (fun G d hd => by
          obtain ⟨y, hy, rfl⟩ := List.mem_map.mp hd
          exact et_not (et_b (c_grp (gok y (List.dropLast_subset _ hy)) (ev_dat (i := 4) rfl) (ev_dat (i := 3) rfl) (ev_bl (b := true))))) fun G d hd _ => ev_dat (i := 4) rfl).imp fun e h => show e = .list ((gs.dropLast.filter fun y => !isGroupB (cs y) ax true).map PyData.str) by
          rw [h, List.map_id, List.filter_map]; rfl)
      (ev_lst' eva_nil (by decide)) ((opd_neD (K := K) (e := .list []) (shaped_strs fun y hy => (gok y (List.dropLast_subset _ ((List.mem_filter.mp hy).1))).ok) (by decide)).imp fun e h => by rw [h, eqv_nil', List.isEmpty_map, filter_empty, Bool.not_not])) fun e h => ⟨_, h, rfl⟩
  have key : isTextKB (cs z) b = (!(decide ((4 : Int) < ((gs.map PyData.str).length : Int)) || (gs.dropLast.any fun y => !isGroupB (cs y) ax true)) && isGroupB (cs last) ax b) := by
    unfold isTextKB
    rw [← es, ← List.map_dropLast, List.any_map, List.length_map, List.length_map, ← hax]
    have a1 : decide (4 < gs.length) = decide ((4 : Int) < (gs.length : Int)) := by rw [Bool.eq_iff_iff]; simp; omega
    have a2 : (gs.map cs).getLastD [] = cs last := by rw [hil]; simp [List.getLastD_eq_getLast?]
    rw [a1, a2]; rfl
  refine d_if ?_
  refine (et_or t1 fun _ => t2) [] [] _ H2 S2 _ fun c H3 S3 hc => ?_
  subst hc
  generalize (decide ((4 : Int) < ((gs.map PyData.str).length : Int)) || (gs.dropLast.any fun y => !isGroupB (cs y) ax true)) = B at key
  cases B with
  | true =>
    refine (if_pos rfl).mpr ?_
    refine d_ret ?_
    refine (ev_bl (b := false)) [] [] _ H3 S3 _ fun x e H4 S4 p => ?_
    obtain ⟨x1, r1⟩ := S4.endF
    exact q x e H4 x1 r1 ⟨z, b, rfl, by rw [p, key]; rfl⟩
  | false =>
    refine (if_neg Bool.false_ne_true).mpr ?_
    refine d_next ?_
    refine d_ret ?_
    refine (c_grp (z := last) (ax := ax) (b := b) (gok last (by rw [hil]; simp)) (ev_op' (ev_dat (i := 2) rfl) (ev_neg (ev_int (i := 1))) (opd_ixL (K := K) (by rw [hil, List.map_append]; exact atI_last _ _))) (ev_dat (i := 3) rfl) (ev_dat (i := 1) rfl)) [] [] _ H3 S3 _ fun x e H4 S4 p => ?_
    obtain ⟨x1, r1⟩ := S4.endF
    exact q x e H4 x1 r1 ⟨z, b, rfl, by rw [p, key]; rfl⟩
theorem c_text {W : Wd} {H0 : Hp} {ρ : List (Option Sl)} {ta te : TE} {z : Str} {b : Bool} (hz : TxOk 1000 z) (h : EvP W H0 ta ρ (· = .str z)) (h2 : EvP W H0 te ρ (· = .bool b)) : EvP W H0 (tCall (SpF numA textF) [] E0 (tCons ta (tCons te tNil))) ρ (· = .bool (isTextKB (cs z) b)) :=
  (ev_callF (A := numA) (F := textF) (PA := (· = [.str z, .bool b])) (eva_more h (eva_one h2)) fun es h => ⟨z, b, h, hz⟩).imp fun r h => by
    obtain ⟨es, rfl, z', b', h1, rfl⟩ := h
    cases h1; rfl
end
end K06
set_option Elab.async false
set_option linter.all false
set_option maxRecDepth 100000
namespace DL
open PySem PySem.Spec PyProof.Rows L2 Evl TB
section
variable {W : Wd} {H0 : Hp} {ρ : List (Option Sl)} {te tn : TE} {P : PyData → Prop} {tas : TA}
/-- [e for x in range(n)], n not told -/
theorem ev_lcRx {i : Nat} {Pn : Nat → Prop} (hi : ρ[i]? = some none) (ha : EvP W H0 tn ρ (fun e => ∃ n : Nat, e = .int n ∧ n ≤ 1000 ∧ Pn n))
    (he : ∀ j : Nat, EvP W H0 te (ρ.set i (some (.dat (.int j)))) P) :
    EvP W H0 (tLc (iRng1 (tCons tn tNil)) (gName i) tYes te [i]) ρ (fun e => ∃ ds : List PyData, e = .list ds ∧ Pn ds.length ∧ ds.length ≤ 1000 ∧ ∀ d ∈ ds, P d) := fun τ l σ H S Q k =>
  ha τ l σ H S _ fun v e H1 S1 p => by
    obtain ⟨n, rfl, hn, hp⟩ := p
    obtain ⟨N, n3, n5, n4, q⟩ := S1.ext
    have hv := n5 _ List.mem_cons_self
    cases hv
    refine ⟨n, rfl, by omega, by omega, fun D hD => ?_⟩
    refine lc_range (lo := 0) (n := n) (fun j H' => ∃ ds : List PyData, ds.length = j ∧ (∀ d ∈ ds, P d) ∧ St W H0 ρ τ ((D, ds) :: l) σ H') ?_ (fun j H' hj h => ?_) (fun H' h => ?_)
    · exact ⟨[], rfl, (fun d h => nomatch h), (S1.pop).newL hD⟩
    · obtain ⟨ds, hl, hd, S2⟩ := h
      have S3 : St W H0 (ρ.set i (some (.dat (.int j)))) τ ((D, ds) :: l) ((L2.wipe σ [i]).set i (some (.int (0 + (j : Int))))) H' := by
        have a := (S2.wipe [i])
        obtain ⟨N', m3, m5, m4, q'⟩ := a.ext
        have b := q' H' (((.int (0 + (j : Int)), .int (0 + (j : Int))) : V × PyData) :: τ) ex_refl fun p hp => by
          rcases List.mem_cons.mp hp with rfl | hp
          · exact .int _
          · exact m5 p hp
        have c := b.set (i := i)
        have e1 : (wipeR ρ [i]).set i (some (Sl.dat (.int (0 + (j : Int))))) = ρ.set i (some (.dat (.int j))) := by
          show (ρ.set i none).set i _ = _
          rw [List.set_set, Int.zero_add]
        rw [e1] at c
        exact c
      refine ⟨wipe_id, he j τ _ _ H' S3 _ fun y e H4 S4 pe => ?_⟩
      have S5 := S4.re hi (fun j hj => wipe_set_ne hj) S.len
      obtain ⟨xs, x1, x2, S6⟩ := S5.app
      exact ⟨xs, x1, size_small' (by rw [x2]; omega), ds ++ [e], by rw [List.length_append, hl]; rfl, fun d h => by
        rcases List.mem_append.mp h with h | h
        · exact hd d h
        · rw [List.mem_singleton.mp h]; exact pe, S6⟩
    · obtain ⟨ds, hl, hd, S2⟩ := h
      have hl : ds.length = n := hl
      exact k _ _ H' S2.frz ⟨ds, rfl, by rw [hl]; exact hp, by omega, hd⟩
end
end DL
namespace K06
open PySem PySem.Spec PyProof.Rows L2 Evl TB DL
section
variable {P : Program} {w : World} {K : PySem.W.Frag} {mg : Str → Option Value} {base : Heap}
/-! ### what must be told, what is told -/
def tellE : Except Nat (List (List Int)) → PyData
  | .ok nss => .list [.str "ok", tupK nss]
  | .error q => .list [.str "bad", .int (q : Nat)]
def dueE : PyData → PyData
  | .str z => tellE (dueK (cs z))
  | _ => .list [.str "bad", .none]
def Vt (e : PyData) : Prop := ∀ z, e = .str z → TxOk 1000 z
def dueA (es : List PyData) : Prop := ∃ e : PyData, es = [e] ∧ Vt e
def dueF (es : List PyData) (r : PyData) : Prop := ∃ e : PyData, es = [e] ∧ r = dueE e
theorem dueE_no {e : PyData} (h : DL.isA "str" e = false) : dueE e = .list [.str "bad", .none] := by
  cases e <;> first | rfl | cases h
theorem group_word {g : List Nat} {ax : Option Nat} (h : isGroupB g ax true = true) : (sp 120 g).length ≤ 4 ∧ ∀ w ∈ sp 120 g, w ≠ [] ∧ Gw w := by
  obtain ⟨us, cur, e⟩ := sp_last 120 g
  obtain ⟨h1, h2, _, h3⟩ := (isGroup_iff e).mp h
  have l4 : limOf ax ≤ 4 := by
    cases ax with
    | none => exact Nat.le_refl _
    | some n => exact Nat.min_le_left _ _
  refine ⟨by rw [e, List.length_append, List.length_singleton]; omega, fun y hy => ?_⟩
  rw [e] at hy
  rcases List.mem_append.mp hy with hm | hm
  · exact isNum_true.mp (h2 _ hm)
  · rw [List.mem_singleton.mp hm]; exact isNum_true.mp h3
theorem text_group {c : List Nat} (h : isTextKB c true = true) : (sp 32 c).length ≤ 4 ∧ ∀ g ∈ sp 32 c, (sp 120 g).length ≤ 4 ∧ ∀ w ∈ sp 120 g, w ≠ [] ∧ Gw w := by
  obtain ⟨gs, cg, e⟩ := sp_last 32 c
  obtain ⟨h1, h2, h3⟩ := (isTextK_iff e).mp h
  refine ⟨by rw [e, List.length_append, List.length_singleton]; omega, fun g hg => ?_⟩
  rw [e] at hg
  rcases List.mem_append.mp hg with hm | hm
  · exact group_word (h2 _ hm)
  · rw [List.mem_singleton.mp hm]; exact group_word h3
theorem ok__law_due (T : Txt mg) {f : Addr} {fd : FuncData} (F : Fun K "_law_due" "_law_due" s__law_due f fd) (h__law_is_text : Keeps P w K mg base 3 "_law_is_text" p__law_is_text (SpF numA textF)) : FnOk P w K mg base CX0 4 f fd p__law_due (SpF dueA dueF) := by
  refine F.ok sc__law_due (fun vs H Q E h => ?_) (fun cdv A outer s H vs Q E hr h => ?_)
  · obtain ⟨N, es, _, r, ⟨e, rfl, _⟩, _⟩ := h
    rw [r.len]; rfl
  obtain ⟨N, es, ok, r, ⟨e, rfl, hv⟩, q⟩ := h
  refine ⟨_, (pss_cons (ps_if (pt_not (pt_val (pe_callB call_isi (by rfl) T.n_isinstance (by decide +kernel) (pa_cons (pv 0) (pa_cons (pe_bltn (v := .ty "str") (u := .type "str") (by rfl) T.n_str (by decide +kernel) rfl) pa_nil)))))
 (pss_one (ps_ret (pe_lst (pa_cons pe_str (pa_cons pe_non pa_nil))))) pss_nil)
 (pss_cons (ps_if (pt_val (TB.pe_own h__law_is_text (hr.mono (by decide)) (by rfl) (pa_cons (pv 0) (pa_cons pe_bl pa_nil))))
 (pss_one (ps_ret (pe_lst (pa_cons pe_str (pa_cons (pe_callTy call_tuple_of (by rfl) T.n_tuple (by decide +kernel) (pa_cons (pe_lc (own := [("_law_group", 2)]) (g := gName 2) rfl sc__law_due.nd (pi_list (pe_bm PySem.F.plainAttrs_str PySem.F.slot_str_split PySem.F.type_str_split mt_split (pv 0) (pa_cons pe_str pa_nil))) (blkOk_by (N := n__law_due) (sc := defScope s__law_due) (by decide +kernel)) (fun _ _ _ _ _ => pg_name (i := 2) sc__law_due.nd rfl (.inl rfl)) (fun _ _ _ _ _ => pts_nil) (fun _ _ _ _ _ => (pe_callTy (r := TB.rTupQ K) call_tuple_of (by rfl) T.n_tuple (by decide +kernel) (pa_cons (pe_lc (own := [("_law_word", 3)]) (g := gName 3) rfl sc__law_due.nd (show PI _ _ _ (iList K (tBM K "str" DL.rSplitQ (tVar 2) (tCons (tC (.str "x")) tNil))) from pi_list (show PE _ _ (tBM K "str" DL.rSplitQ (tVar 2) (tCons (tC (.str "x")) tNil)) from pe_bm PySem.F.plainAttrs_str PySem.F.slot_str_split PySem.F.type_str_split mt_split (pv 2) (pa_cons pe_str pa_nil))) (blkOk_by (N := n__law_due) (sc := { kind := .function, names := [(".0", .local), ("_law_group", .local), ("tuple", .globalImplicit)], isGenerator := false, isCoroutine := false }) (by decide +kernel)) (fun _ _ _ _ _ => pg_name (i := 3) sc__law_due.nd rfl (.inl rfl)) (fun _ _ _ _ _ => pts_nil) (fun _ _ _ _ _ => (pe_callTy call_int_str (by rfl) T.n_int (by decide +kernel) (pa_cons (pv 3) pa_nil)))) pa_nil)))) pa_nil)) pa_nil))))) pss_nil)
 (pss_cons (ps_setLc (i := 1) (own := [("_law_k", 4)]) (g := gName 4) rfl sc__law_due.nd rfl rfl (sw_true rfl rfl rfl (by decide +kernel)) (pi_range1 (by rfl) T.n_range (pa_cons (pe_callB call_len_str (by rfl) T.n_len (by decide +kernel) (pa_cons (pv 0) pa_nil)) pa_nil)) (blkOk_by (N := n__law_due) (sc := defScope s__law_due) (by decide +kernel)) (fun _ _ _ _ _ => pg_name (i := 4) sc__law_due.nd rfl (.inl rfl)) (fun _ _ _ _ _ => (pts_one (pt_not (pt_val (TB.pe_own h__law_is_text (hr.mono (by decide)) (by rfl) (pa_cons (pe_slice sl_str (pv 0) po_none (po_some (pe_op op_add (pv 4) pe_int))) (pa_cons pe_bl pa_nil))))))) (fun _ _ _ _ _ => (pv 4)))
 (pss_one (ps_ret (pe_lst (pa_cons pe_str (pa_cons (pe_ix ix_list (pe_op op_cat (pv 1) (pe_lst (pa_cons (pe_callB call_len_str (by rfl) T.n_len (by decide +kernel) (pa_cons (pv 0) pa_nil)) pa_nil))) pe_int (fun _ _ => rfl)) pa_nil)))))))), ?_⟩
  have S := St.startF (k := 4) ok r
  have L := r.len
  match vs, L with
  | [v], _ =>
  refine d_if ?_
  refine (et_not (et_b (ev_isi' (K := K) (T := "str") (d := e) (ev_dat (i := 0) rfl) kit_str))) [] [] _ H S _ fun c H1 S1 hc => ?_
  subst hc
  cases hs : DL.isA "str" e with
  | false =>
    refine (if_pos rfl).mpr ?_
    refine d_ret ?_
    refine (ev_lst' (eva_more ev_str (eva_one ev_non)) (show 2 ≤ 100000 by decide)) [] [] _ H1 S1 _ fun x e' H2 S2 p => ?_
    obtain ⟨x1, r1⟩ := S2.endF
    exact q x e' H2 x1 r1 ⟨e, rfl, by rw [p, dueE_no hs]⟩
  | true =>
    obtain ⟨z, rfl⟩ := isStr hs
    have hz := hv z rfl
    have zl := hz.len
    refine (if_neg (by decide)).mpr ?_
    refine d_next ?_
    refine d_if ?_
    refine (et_b (c_text (b := true) hz (ev_dat (i := 0) rfl) ev_bl)) [] [] _ H1 S1 _ fun c H2 S2 hc => ?_
    subst hc
    cases ht : isTextKB (cs z) true with
    | true =>
      refine (if_pos rfl).mpr ?_
      obtain ⟨gs, hgs, es, gok, glen, _⟩ := words_of (y := " ") (b := 32) (by decide +kernel) (by decide) hz
      obtain ⟨_, wd⟩ := text_group ht
      have E1 : EvP (WF N H) H _ S2.rho (· = .list [.str "ok", tupK (gs.map fun y => valG (cs y))]) := ev_lst' (eva_more ev_str (eva_one (ev_cb' (eva_one (ev_lcLf (K := K) (i := 2) (ds := gs.map PyData.str) (b := fun _ => true) (f := fun d => match d with | .str y => tupI (valG (cs y)) | _ => .none) (by rw [List.length_map]; omega) rfl
          ((ev_split (K := K) (b := " ") (ev_dat (i := 0) rfl) ev_str (by decide +kernel) (by omega)).imp fun e h => by rw [h, hgs]) (fun G d hd => et_yes) fun G d hd _ => by
            obtain ⟨y, hy, rfl⟩ := List.mem_map.mp hd
            have yk := gok y hy
            have yl := yk.len
            obtain ⟨_, wy⟩ := wd (cs y) (by rw [← es]; exact List.mem_map_of_mem hy)
            obtain ⟨ws, hws, es', wok, wlen, _⟩ := words_of (y := "x") (b := 120) (by decide +kernel) (by decide) yk
            exact ev_cb' (eva_one (ev_lcLf (K := K) (i := 3) (ds := ws.map PyData.str) (b := fun _ => true) (f := fun d => match d with | .str u => .int (valN (cs u)) | _ => .none) (by rw [List.length_map]; omega) rfl
              ((ev_split (K := K) (b := "x") (ev_dat (i := 2) rfl) ev_str (by decide +kernel) (by omega)).imp fun e h => by rw [h, hws]) (fun G d hd => et_yes) fun G d hd _ => by
                obtain ⟨u, hu, rfl⟩ := List.mem_map.mp hd
                obtain ⟨n1, n2⟩ := wy (cs u) (by rw [← es']; exact List.mem_map_of_mem hu)
                have l13 := n2.len
                rw [cs_len] at l13
                exact ev_cb' (eva_one (ev_dat (i := 3) rfl)) (cad_intS (intText_digits (fun c hc => n2.dig c hc) n1 (by omega)) (by omega)))) ((cad_tuple (K := K)).imp fun e h => by
              rw [h, filter_yes, List.map_map]
              show _ = tupI (valG (cs y))
              unfold tupI valG
              rw [← es', List.map_map, List.map_map]; rfl))) ((cad_tuple (K := K)).imp fun e h => by
          rw [h, filter_yes, List.map_map]
          unfold tupK
          rw [List.map_map]; rfl)))) (show 2 ≤ 100000 by decide)
      refine d_ret ?_
      refine E1 [] [] _ H2 S2 _ fun x e' H3 S3 p => ?_
      obtain ⟨x1, r1⟩ := S3.endF
      refine q x e' H3 x1 r1 ⟨_, rfl, ?_⟩
      rw [p]
      show _ = tellE (dueK (cs z))
      unfold dueK
      rw [if_pos ht, ← es, List.map_map]; rfl
    | false =>
      refine (if_neg Bool.false_ne_true).mpr ?_
      refine d_next ?_
      have E1 : EvP (WF N H) H _ S2.rho (· = .list (((List.range z.length).filter fun k => !isTextKB ((cs z).take (k + 1)) false).map fun k => .int (k : Nat))) :=
        (ev_lcRf (n := (z.length : Int)) (i := 4) (b := fun k => !isTextKB ((cs z).take (k + 1)) false) (f := fun k => .int (k : Nat)) (by omega) (by omega) rfl (ev_cb' (eva_one (ev_dat (i := 0) rfl)) (cad_lenS (by omega)))
          (fun j hj => et_not (et_b ((c_text (b := false) (hz.cut none (some ((j : Int) + 1))) (ev_slS (by omega) (ev_dat (i := 0) rfl) eo_none (eo_some (ev_op' (ev_dat (i := 4) rfl) (ev_int (i := 1)) opd_add))) ev_bl).imp fun e h => by
            rw [h, cs_cut, show ((j : Int) + 1) = ((j + 1 : Nat) : Int) by omega, cutD_to]))) fun j hj _ => ev_dat (i := 4) rfl)
      refine d_asg ?_
      refine E1 [] [] _ H2 S2 _ fun x e' H3 S3' p => ?_
      subst p
      have S3 := S3'.set (i := 1)
      clear S3' E1
      have due : dueK (cs z) = .error (((List.range z.length).filter fun k => !isTextKB ((cs z).take (k + 1)) false).head?.getD z.length) := by
        unfold dueK
        rw [if_neg (by rw [ht]; exact Bool.false_ne_true), cs_len]
      generalize hwr : ((List.range z.length).filter fun k => !isTextKB ((cs z).take (k + 1)) false) = wr at S3 due
      have wl : wr.length ≤ 1000 := by
        rw [← hwr]
        have := List.length_filter_le (fun k => !isTextKB ((cs z).take (k + 1)) false) (List.range z.length)
        rw [List.length_range] at this
        omega
      refine d_ret ?_
      have E2 : EvP (WF N H) H _ S3.rho (· = .list [.str "bad", .int ((wr.head?.getD z.length : Nat) : Int)]) := ev_lst' (eva_more ev_str (eva_one (ev_op' (ev_catL (ev_dat (i := 1) rfl) (ev_lst' (eva_one (ev_cb' (eva_one (ev_dat (i := 0) rfl)) (cad_lenS (z := z) (by omega)))) (show 1 ≤ 100000 by decide)) (by rw [List.length_map]; simp only [List.length_singleton]; omega)) (ev_int (i := 0)) (opd_ixL (K := K) (atI_nat (j := 0) (by cases wr <;> rfl)))))) (show 2 ≤ 100000 by decide)
      refine E2 [] [] _ H3 S3 _ fun x e' H4 S4 p => ?_
      obtain ⟨x1, r1⟩ := S4.endF
      refine q x e' H4 x1 r1 ⟨_, rfl, ?_⟩
      rw [p]
      show _ = tellE (dueK (cs z))
      rw [due]; rfl
theorem ok__law_told (T : Txt mg) {f : Addr} {fd : FuncData} (F : Fun K "_law_told" "_law_told" s__law_told f fd) {C : Addr} (E_BadText : ErrC P w K mg base "BadText" "place" C) (h_parse_kinds : KeepsX P w K mg base 4 "parse_kinds" p_parse_kinds (DL.SpX C "place" txA pkF pkG)) : FnOk P w K mg base CX0 5 f fd p__law_told (SpF dueA dueF) := by
  refine F.ok sc__law_told (fun vs H Q E h => ?_) (fun cdv A outer s H vs Q E hr h => ?_)
  · obtain ⟨N, es, _, r, ⟨e, rfl, _⟩, _⟩ := h
    rw [r.len]; rfl
  obtain ⟨N, es, ok, r, ⟨e, rfl, hv⟩, q⟩ := h
  refine ⟨_, (pss_cons (ps_try_as (i := 2) (Wout := fun _ _ _ _ => False) rfl rfl sc__law_told.nd rfl rfl ⟨rfl, by decide, .inl E_BadText.g⟩ takes0
 (fun W pn xe tk _ => (pss_one (ps_set (i := 1) sc__law_told.nd rfl (.inl rfl) (pe_lst (pa_cons pe_str (pa_cons (TB.pe_ownX h_parse_kinds (hr.mono (by decide)) tk (by rfl) (pa_cons (pv 0) pa_nil)) pa_nil))))))
 (fun a oe cls d pn hz hf => (pss_one (ps_set (i := 1) sc__law_told.nd rfl (.inl rfl) (pe_lst (pa_cons pe_str (pa_cons (pe_xf E_BadText.xf E_BadText.no hz hf (pv 2)) pa_nil)))))))
 (pss_one (ps_ret (pv 1)))), ?_⟩
  have S := St.startF (k := 2) ok r
  have L := r.len
  match vs, L with
  | [v], _ =>
  refine d_seq ?_
  refine d_asg1 ?_
  refine call_X (C := C) (f := "place") (A := txA) (F := pkF) (G := pkG) (PA := (· = [e])) (Q := fun y H2 => [V.str "ok", y].length ≤ sizeLine ∧ ∀ p, H2 p = none → _) (eva_one (ev_dat (i := 0) rfl)) (fun es h => by
    rw [h]
    exact ⟨e, rfl, fun z hz => Nat.le_trans (hv z hz).len (by decide)⟩) S (fun y e2 es H2 S2 hes hF => ?_) (fun d y e2 es H2 S2 hd hes hG => ?_)
  · subst hes
    obtain ⟨z, ns, h1, h2, rfl⟩ := hF
    cases h1
    obtain ⟨x1, r1⟩ := S2.endF
    refine ⟨(show 2 ≤ sizeLine by decide), fun p hp => ?_⟩
    refine ⟨.ref p, rfl, q (.ref p) (.list [.str "ok", tupK ns]) _ (x1.trans (Ex.new hp)) (.lst upd_same ((ok.ex x1).new hp) (.cons (.str _) (.cons (r1.ex (Ex.new hp)) .nil))) ⟨_, rfl, ?_⟩⟩
    show _ = tellE (dueK (cs z))
    rw [← parseK_due, h2]; rfl
  · subst hes
    obtain ⟨x1, r1⟩ := S2.endF
    refine ⟨true, E_BadText.te, fun _ a ha => ?_, fun h => nomatch h⟩
    refine d_asg1 ?_
    refine ⟨.ref a, rfl, rfl, rfl, d, _, y, rfl, hd, rfl, (show 2 ≤ sizeLine by decide), fun p hp => ?_⟩
    refine ⟨.ref p, rfl, q (.ref p) (.list [.str "bad", e2]) _ (x1.trans (Ex.new hp)) (.lst upd_same ((ok.ex x1).new hp) (.cons (.str _) (.cons (r1.ex (Ex.new hp)) .nil))) ⟨_, rfl, ?_⟩⟩
    obtain ⟨e0, h0, h⟩ := hG
    cases h0
    rcases h with ⟨z, k, rfl, h2, rfl⟩ | ⟨h1, rfl⟩
    · show _ = tellE (dueK (cs z))
      rw [← parseK_due, h2]; rfl
    · rw [dueE_no h1]
/-! ### texts of sides, with signs otherwise -/
def itemsI : PyData → List Int
  | .tuple ds => ds.map fun d => match d with | .int n => n | _ => 0
  | _ => []
def sideA (es : List PyData) : Prop := ∃ ns : List Int, es = [tupI ns] ∧ ns.length ≤ 4 ∧ ∀ n ∈ ns, 1 ≤ n ∧ n ≤ MS
def sideF (es : List PyData) (r : PyData) : Prop := ∃ ns : List Int, es = [tupI ns] ∧ r = .str (sideT ns)
theorem ok__law_sides_text (T : Txt mg) {f : Addr} {fd : FuncData} (F : Fun K "_law_sides_text" "_law_sides_text" s__law_sides_text f fd) : FnOk P w K mg base CX0 1 f fd p__law_sides_text (SpF sideA sideF) := by
  refine F.ok sc__law_sides_text (fun vs H Q E h => ?_) (fun cdv A outer s H vs Q E hr h => ?_)
  · obtain ⟨N, es, _, r, ⟨ns, rfl, _⟩, _⟩ := h
    rw [r.len]; rfl
  obtain ⟨N, es, ok, r, ⟨ns, rfl, hl, hn⟩, q⟩ := h
  refine ⟨_, (pss_one (ps_ret (pe_bm PySem.F.plainAttrs_str PySem.F.slot_str_join PySem.F.type_str_join mt_join pe_str (pa_cons (pe_lc (own := [("_law_side", 1)]) (g := gName 1) rfl sc__law_sides_text.nd (pi_tup (pv 0)) (blkOk_by (N := n__law_sides_text) (sc := defScope s__law_sides_text) (by decide +kernel)) (fun _ _ _ _ _ => pg_name (i := 1) sc__law_sides_text.nd rfl (.inl rfl)) (fun _ _ _ _ _ => pts_nil) (fun _ _ _ _ _ => (pe_callTy call_str_int (by rfl) T.n_str (by decide +kernel) (pa_cons (pv 1) pa_nil)))) pa_nil)))), ?_⟩
  have S := St.startF (k := 1) ok r
  have L := r.len
  match vs, L with
  | [v], _ =>
  have hms : MS = 1000000000000 := rfl
  have sz : ∀ n ∈ ns, (numS n).length ≤ 13 := fun n h => by
    have := hn n h
    rw [← cs_len, cs_num (by omega)]
    exact digs_len (by omega)
  have E1 : EvP (WF N H) H _ S.rho (· = .list ((ns.map numS).map PyData.str)) := (ev_lcTf (K := K) (i := 1) (ds := ns.map PyData.int) (f := fun d => match d with | .int n => .str (numS n) | _ => .none) (by rw [List.length_map]; omega) rfl (ev_dat (i := 0) rfl) fun G d hd => by
    obtain ⟨n, h, rfl⟩ := List.mem_map.mp hd
    have := hn n h
    exact ev_cb' (eva_one (ev_dat (i := 1) rfl)) (cad_strI (by
      by_cases h0 : n.natAbs = 0
      · rw [h0]; decide
      · exact Nat.lt_of_lt_of_le ((Nat.log2_lt h0).mpr (show n.natAbs < 2 ^ 41 by omega)) (by decide)))).imp fun e h => by
    rw [h, List.map_map, List.map_map]; rfl
  refine d_ret ?_
  refine (ev_join (K := K) (x := "x") (ys := ns.map numS) (by
    have := sum_le (·.length) 13 (ns.map numS) (fun y hy => by
      obtain ⟨n, h, rfl⟩ := List.mem_map.mp hy
      exact sz n h)
    rw [List.length_map] at this ⊢
    have e : ("x" : Str).length = 1 := by decide +kernel
    rw [e]
    omega) E1) [] [] _ H S _ fun x e H1 S1 p => ?_
  obtain ⟨x1, r1⟩ := S1.endF
  exact q x e H1 x1 r1 ⟨ns, rfl, p⟩
theorem side_ok {ns : List Int} (hl : ns.length ≤ 4) (hn : ∀ n ∈ ns, 1 ≤ n ∧ n ≤ MS) : TxOk 56 (sideT ns) := ⟨by
  rw [← cs_len, cs_side hn]
  exact sideC_len hl hn, fun c hc => by
  rw [cs_side hn] at hc
  exact Nat.lt_trans (side_code hc) (by decide)⟩
def kindA (es : List PyData) : Prop := ∃ nss : List (List Int), es = [tupK nss] ∧ nss.length ≤ 4 ∧ ∀ ns ∈ nss, ns.length ≤ 4 ∧ ∀ n ∈ ns, 1 ≤ n ∧ n ≤ MS
def kindF (es : List PyData) (r : PyData) : Prop := ∃ nss : List (List Int), es = [tupK nss] ∧ r = .str (kindT nss)
theorem c_side {W : Wd} {H0 : Hp} {ρ : List (Option Sl)} {ta : TE} {ns : List Int} (hl : ns.length ≤ 4) (hn : ∀ n ∈ ns, 1 ≤ n ∧ n ≤ MS) (h : EvP W H0 ta ρ (· = tupI ns)) : EvP W H0 (tCall (SpF sideA sideF) [] E0 (tCons ta tNil)) ρ (· = .str (sideT ns)) :=
  (ev_callF (A := sideA) (F := sideF) (PA := (· = [tupI ns])) (eva_one h) fun es h => ⟨ns, h, hl, hn⟩).imp fun r h => by
    obtain ⟨es, rfl, ns', h1, rfl⟩ := h
    rw [tupI_inj (List.cons.inj h1).1]
theorem tupI_inv' {ns : List Int} : itemsI (tupI ns) = ns := by
  unfold itemsI tupI
  simp only
  induction ns with
  | nil => rfl
  | cons n ns ih => rw [List.map_cons, List.map_cons, ih]
theorem ok__law_kinds_text (T : Txt mg) {f : Addr} {fd : FuncData} (F : Fun K "_law_kinds_text" "_law_kinds_text" s__law_kinds_text f fd) (h__law_sides_text : Keeps P w K mg base 1 "_law_sides_text" p__law_sides_text (SpF sideA sideF)) : FnOk P w K mg base CX0 2 f fd p__law_kinds_text (SpF kindA kindF) := by
  refine F.ok sc__law_kinds_text (fun vs H Q E h => ?_) (fun cdv A outer s H vs Q E hr h => ?_)
  · obtain ⟨N, es, _, r, ⟨nss, rfl, _⟩, _⟩ := h
    rw [r.len]; rfl
  obtain ⟨N, es, ok, r, ⟨nss, rfl, hl, hn⟩, q⟩ := h
  refine ⟨_, (pss_one (ps_ret (pe_bm PySem.F.plainAttrs_str PySem.F.slot_str_join PySem.F.type_str_join mt_join pe_str (pa_cons (pe_lc (own := [("_law_sides", 1)]) (g := gName 1) rfl sc__law_kinds_text.nd (pi_tup (pv 0)) (blkOk_by (N := n__law_kinds_text) (sc := defScope s__law_kinds_text) (by decide +kernel)) (fun _ _ _ _ _ => pg_name (i := 1) sc__law_kinds_text.nd rfl (.inl rfl)) (fun _ _ _ _ _ => pts_nil) (fun _ _ _ _ _ => (TB.pe_own h__law_sides_text (hr.mono (by decide)) (by rfl) (pa_cons (pv 1) pa_nil)))) pa_nil)))), ?_⟩
  have S := St.startF (k := 1) ok r
  have L := r.len
  match vs, L with
  | [v], _ =>
  have E1 : EvP (WF N H) H _ S.rho (· = .list ((nss.map sideT).map PyData.str)) := (ev_lcTf (K := K) (i := 1) (ds := nss.map tupI) (f := fun d => .str (sideT (itemsI d))) (by rw [List.length_map]; omega) rfl (ev_dat (i := 0) (e := tupK nss) rfl) fun G d hd => by
    obtain ⟨ns, h, rfl⟩ := List.mem_map.mp hd
    have := hn ns h
    exact (c_side this.1 this.2 (ev_dat (i := 1) rfl)).imp fun e h => by rw [h, tupI_inv']).imp fun e h => by
    rw [h, List.map_map, List.map_map]
    congr 1
    refine List.map_congr_left fun ns _ => ?_
    show PyData.str (sideT (itemsI (tupI ns))) = PyData.str (sideT ns)
    rw [tupI_inv']
  refine d_ret ?_
  refine (ev_join (K := K) (x := " ") (ys := nss.map sideT) (by
    have := sum_le (·.length) 56 (nss.map sideT) (fun y hy => by
      obtain ⟨ns, h, rfl⟩ := List.mem_map.mp hy
      exact (side_ok (hn ns h).1 (hn ns h).2).len)
    rw [List.length_map] at this ⊢
    have e : (" " : Str).length = 1 := by decide +kernel
    rw [e]
    omega) E1) [] [] _ H S _ fun x e H1 S1 p => ?_
  obtain ⟨x1, r1⟩ := S1.endF
  exact q x e H1 x1 r1 ⟨nss, rfl, p⟩
theorem kind_ok {nss : List (List Int)} (hl : nss.length ≤ 4) (hn : ∀ ns ∈ nss, ns.length ≤ 4 ∧ ∀ n ∈ ns, 1 ≤ n ∧ n ≤ MS) : TxOk 228 (kindT nss) := ⟨by
  rw [← cs_len, cs_kind fun ns h => (hn ns h).2]
  exact kindC_len hl hn, fun c hc => by
  rw [cs_kind fun ns h => (hn ns h).2] at hc
  exact Nat.lt_trans (kind_code hc) (by decide)⟩
def spoA (es : List PyData) : Prop := ∃ z : Str, es = [.str z] ∧ TxOk 900 z
def spoF (es : List PyData) (r : PyData) : Prop := ∃ z : Str, es = [.str z] ∧ Tx (2 * z.length + 12) r
theorem ok__law_spoilt (T : Txt mg) {f : Addr} {fd : FuncData} (F : Fun K "_law_spoilt" "_law_spoilt" s__law_spoilt f fd) (h__law_draw' : Keeps P w K mg base 1 "_law_draw" p__law_draw spDraw) (h__law_one' : Keeps P w K mg base 2 "_law_one" p__law_one spOne) : FnOk P w K mg base CX0 3 f fd p__law_spoilt (SpW spoA spoF) := by
  have h__law_draw := DL.Keeps.imp h__law_draw' fun _ _ _ _ => draw_imp
  have h__law_one := DL.Keeps.imp h__law_one' fun _ _ _ _ => one_imp
  refine F.ok sc__law_spoilt (fun vs H Q E h => ?_) (fun cdv A outer s H vs Q E hr h => ?_)
  · obtain ⟨d, g, l, N, es, vs', rfl, _, _, _, _, _, r, ⟨z, rfl, _⟩, _⟩ := h
    rw [List.length_cons, r.len]; rfl
  obtain ⟨d, g, l, N, es, vs', rfl, ok, nd, ng, nl, D, r, ⟨z, rfl, hz0⟩, q⟩ := h
  refine ⟨_, (pss_cons (ps_par (i := 2) (j := 3) (by rfl) sc__law_spoilt.nd rfl rfl (by decide) rfl rfl (pa_cons (TB.pe_own h__law_draw (hr.mono (by decide)) (by rfl) (pa_cons (pv 0) (pa_cons (pe_op op_add (pe_callB call_len_str (by rfl) T.n_len (by decide +kernel) (pa_cons (pv 1) pa_nil)) pe_int) pa_nil))) (pa_cons (TB.pe_own h__law_draw (hr.mono (by decide)) (by rfl) (pa_cons (pv 0) (pa_cons pe_int pa_nil))) pa_nil)) (by rfl))
 (pss_cons (ps_set (i := 4) sc__law_spoilt.nd rfl (.inl rfl) (TB.pe_own h__law_one (hr.mono (by decide)) (by rfl) (pa_cons (pv 0) (pa_cons (pe_lst (pa_cons pe_str (pa_cons pe_str (pa_cons pe_str (pa_cons pe_str (pa_cons pe_str (pa_cons pe_str (pa_cons pe_str (pa_cons pe_str (pa_cons pe_str (pa_cons pe_str (pa_cons pe_str (pa_cons pe_str (pa_cons pe_str (pa_cons pe_str pa_nil))))))))))))))) pa_nil))))
 (pss_one (ps_ret (pe_ix ix_list (pe_lst (pa_cons (pe_op op_add_str (pe_op op_add_str (pe_slice sl_str (pv 1) po_none (po_some (pv 2))) (pv 4)) (pe_slice sl_str (pv 1) (po_some (pv 2)) po_none)) (pa_cons (pe_op op_add_str (pe_op op_add_str (pe_slice sl_str (pv 1) po_none (po_some (pv 2))) (pv 4)) (pe_slice sl_str (pv 1) (po_some (pe_op op_add (pv 2) pe_int)) po_none)) (pa_cons (pe_slice sl_str (pv 1) po_none (po_some (pv 2))) (pa_cons (pe_op op_add_str (pv 1) (pv 4)) pa_nil))))) (pv 3) (fun _ _ => rfl)))))), ?_⟩
  have S := St.startW (k := 3) ok nd ng nl D r
  have L := r.len
  match vs', L with
  | [v1], _ =>
  have zl := hz0.len
  have E1 : EvA (WD d g l N H) H _ S.rho (fun es => ∃ a b : Nat, es = [.int a, .int b] ∧ a ≤ z.length ∧ b < 4) :=
    eva_cons (PA := fun es => ∃ b : Nat, es = [.int b] ∧ b < 4) (ev_draw (j := 0) (m := (z.length : Int) + 1) rfl (ev_op' (ev_cb' (eva_one (ev_dat (i := 1) rfl)) (cad_lenS (z := z) (by omega))) (ev_int (i := 1)) opd_add) (by omega) (by omega))
      (eva_cons (ev_draw (j := 0) (m := 4) rfl (ev_int (i := 4)) (by decide) (by decide)) eva_nil fun e es h1 h2 => by
        obtain ⟨b, rfl, b0, b1⟩ := h1
        exact ⟨b.toNat, by rw [h2, Int.toNat_of_nonneg b0], by omega⟩) fun e es h1 h2 => by
        obtain ⟨a, rfl, a0, a1⟩ := h1
        obtain ⟨b, rfl, b1⟩ := h2
        exact ⟨a.toNat, b, by rw [Int.toNat_of_nonneg a0], by omega, b1⟩
  refine d_par ?_
  refine E1 [] [] _ H S _ fun vs es H1 S1' le p => ?_
  obtain ⟨a, b, rfl, ha, hb⟩ := p
  match vs, le, S1' with
  | [w1, w2], _, S1' =>
  refine ⟨w1, w2, rfl, ?_⟩
  have S1 : St (WD d g l N H) H [some (.raw (.ref d)), some (.dat (.str z)), some (.dat (.int a)), some (.dat (.int b)), none] [] [] _ H1 := (S1'.set (i := 2)).set (i := 3)
  clear S1' E1
  have E2 : EvP (WD d g l N H) H _ S1.rho (Tx 12) := ev_oneG (n := 14) (P := Tx 12) (j := 0) rfl (ev_lstG (n := 14) (eva_g (ev_tx (z := "0") (n := 12) (by decide +kernel)) (eva_g (ev_tx (z := "1") (n := 12) (by decide +kernel)) (eva_g (ev_tx (z := "9") (n := 12) (by decide +kernel)) (eva_g (ev_tx (z := "x") (n := 12) (by decide +kernel)) (eva_g (ev_tx (z := " ") (n := 12) (by decide +kernel)) (eva_g (ev_tx (z := "-") (n := 12) (by decide +kernel)) (eva_g (ev_tx (z := "x1") (n := 12) (by decide +kernel)) (eva_g (ev_tx (z := "") (n := 12) (by decide +kernel)) (eva_g (ev_tx (z := "  ") (n := 12) (by decide +kernel)) (eva_g (ev_tx (z := ".") (n := 12) (by decide +kernel)) (eva_g (ev_tx (z := " 1") (n := 12) (by decide +kernel)) (eva_g (ev_tx (z := "\n") (n := 12) (by decide +kernel)) (eva_g (ev_tx (z := "1x1") (n := 12) (by decide +kernel)) (eva_g (ev_tx (z := "000000000000") (n := 12) (by decide +kernel)) eva_g0)))))))))))))) (by decide)) (by decide) (by decide)
  refine d_asg ?_
  refine E2 [] [] _ H1 S1 _ fun x e H2 S2' p => ?_
  obtain ⟨y, rfl, hy⟩ := p
  have S2 : St (WD d g l N H) H [some (.raw (.ref d)), some (.dat (.str z)), some (.dat (.int a)), some (.dat (.int b)), some (.dat (.str y))] [] [] _ H2 := S2'.set (i := 4)
  clear S2' E2
  obtain ⟨n, en⟩ : ∃ n, n = z.length := ⟨_, rfl⟩
  have hn : n ≤ 900 := by omega
  have hz : TxOk n z := ⟨by omega, hz0.code⟩
  have E3 : EvP (WD d g l N H) H _ S2.rho (Tx (n + 12 + n)) :=
    ev_ixG (K := K) (n := 4) (i := b) (ev_lstG (n := 4) (eva_g ((ev_addT (n := n + 12) (m := n) (ev_addT (n := n) (m := 12) (ev_slT' hz (by omega) (ev_dat (i := 1) rfl) eo_none (eo_some (ev_dat (i := 2) rfl))) ((ev_dat (i := 4) rfl).imp fun e h => ⟨y, h, hy⟩) (by omega)) (ev_slT' hz (by omega) (ev_dat (i := 1) rfl) (eo_some (ev_dat (i := 2) rfl)) eo_none) (by omega)))
      (eva_g ((ev_addT (n := n + 12) (m := n) (ev_addT (n := n) (m := 12) (ev_slT' hz (by omega) (ev_dat (i := 1) rfl) eo_none (eo_some (ev_dat (i := 2) rfl))) ((ev_dat (i := 4) rfl).imp fun e h => ⟨y, h, hy⟩) (by omega)) (ev_slT' hz (by omega) (ev_dat (i := 1) rfl) (eo_some (ev_op' (ev_dat (i := 2) rfl) (ev_int (i := 1)) opd_add)) eo_none) (by omega)))
      (eva_g ((ev_slT' hz (by omega) (ev_dat (i := 1) rfl) eo_none (eo_some (ev_dat (i := 2) rfl))).imp fun e h => h.mono (by omega))
      (eva_g ((ev_addT (n := n) (m := 12) ((ev_dat (i := 1) rfl).imp fun e h => ⟨z, h, hz⟩) ((ev_dat (i := 4) rfl).imp fun e h => ⟨y, h, hy⟩) (by omega)).imp fun e h => h.mono (by omega)) eva_g0)))) (by decide)) (ev_dat (i := 3) rfl) hb
  refine d_ret ?_
  refine E3 [] [] _ H2 S2 _ fun x e H3 S3 p => ?_
  obtain ⟨D', o', r'⟩ := S3.endW
  exact q x e H3 D' o' r' ⟨z, rfl, p.mono (by omega)⟩

theorem wide_imp {vs : List V} {H : Hp} {Q : VK} {E : XK} (h : SpW wideA wideF vs H Q E) : spWide vs H Q E := by
  obtain ⟨d, g, l, N, es, vs', rfl, ok, nd, ng, nl, D, r, ⟨n, rfl, hn⟩, q⟩ := h
  cases r with
  | cons r1 r2 =>
    cases r2; cases r1
    refine ⟨d, g, l, n, rfl, hn, D, fun p ns H' h1 h2 h3 h4 D' o => q _ (tupI ns) H' D' (fun a o' e n1 n2 _ => o a o' e n1 n2) (.tup h4 (ok.new h3) (rgInts ns)) ⟨n, ns, rfl, rfl, h1, h2⟩⟩
def vtB : PyData → Bool
  | .str z => decide (z.length ≤ 1000) && (cs z).all (· < 1000000)
  | _ => true
theorem vt_of {ds : List PyData} (h : ds.all vtB = true) {e : PyData} (he : e ∈ ds) : Vt e := fun z hz => by
  have := List.all_eq_true.mp h e he
  rw [hz] at this
  exact tx_of this
def oddT (es : List PyData) (e : PyData) : Prop := Gd 100 3 e ∧ Vt e
set_option maxHeartbeats 400000 in
theorem ok__law_odd (T : Txt mg) {f : Addr} {fd : FuncData} (F : Fun K "_law_odd" "_law_odd" s__law_odd f fd) (h__law_one' : Keeps P w K mg base 2 "_law_one" p__law_one spOne) : FnOk P w K mg base CX0 3 f fd p__law_odd (SpW nonA oddT) := by
  have h__law_one := DL.Keeps.imp h__law_one' fun _ _ _ _ => one_imp
  refine F.ok sc__law_odd (fun vs H Q E h => ?_) (fun cdv A outer s H vs Q E hr h => ?_)
  · obtain ⟨d, g, l, N, es, vs', rfl, _, _, _, _, _, r, rfl, _⟩ := h
    rw [List.length_cons, r.len]; rfl
  obtain ⟨d, g, l, N, es, vs', rfl, ok, nd, ng, nl, D, r, rfl, q⟩ := h
  cases r
  refine ⟨_, (pss_cons (ps_set (i := 1) sc__law_odd.nd rfl (.inl rfl) (pe_lst (pa_cons pe_non (pa_cons pe_bl (pa_cons pe_bl (pa_cons pe_int (pa_cons pe_int (pa_cons pe_int (pa_cons (pe_un un_neg pe_int) (pa_cons (pe_op op_pow pe_int pe_int) (pa_cons pe_str (pa_cons pe_str (pa_cons pe_str (pa_cons pe_str (pa_cons (pe_tup pa_nil) (pa_cons (pe_lst pa_nil) (pa_cons pe_dnewK (pa_cons (pe_tup (pa_cons pe_int pa_nil)) (pa_cons (pe_tup (pa_cons pe_int pa_nil)) (pa_cons (pe_tup (pa_cons pe_int (pa_cons pe_int pa_nil))) (pa_cons (pe_tup (pa_cons pe_int (pa_cons pe_int pa_nil))) pa_nil)))))))))))))))))))))
 (pss_cons (ps_set (i := 1) sc__law_odd.nd rfl (.inl rfl) (pe_op op_cat (pv 1) (pe_lst (pa_cons (pe_tup (pa_cons pe_bl pa_nil)) (pa_cons (pe_tup (pa_cons pe_int (pa_cons (pe_tup (pa_cons pe_int pa_nil)) pa_nil))) (pa_cons (pe_tup (pa_cons pe_int (pa_cons (pe_tup (pa_cons pe_int (pa_cons pe_int pa_nil))) pa_nil))) (pa_cons (pe_tup (pa_cons pe_int (pa_cons (pe_tup (pa_cons pe_int (pa_cons pe_int pa_nil))) pa_nil))) (pa_cons (pe_tup (pa_cons pe_int (pa_cons (pe_tup (pa_cons pe_int (pa_cons pe_int pa_nil))) (pa_cons pe_int pa_nil)))) (pa_cons (pe_tup (pa_cons (pe_tup (pa_cons pe_int (pa_cons pe_int pa_nil))) (pa_cons pe_int pa_nil))) (pa_cons (pe_tup (pa_cons (pe_tup (pa_cons pe_int pa_nil)) (pa_cons pe_int pa_nil))) (pa_cons (pe_tup (pa_cons pe_str (pa_cons pe_int pa_nil))) pa_nil)))))))))))
 (pss_one (ps_ret (TB.pe_own h__law_one (hr.mono (by decide)) (by rfl) (pa_cons (pv 0) (pa_cons (pe_op op_cat (pv 1) (pe_lst (pa_cons (pe_tup (pa_cons pe_non pa_nil)) (pa_cons (pe_tup (pa_cons (pe_un un_neg pe_int) pa_nil)) (pa_cons (pe_tup (pa_cons pe_int (pa_cons (pe_tup (pa_cons (pe_un un_neg pe_int) pa_nil)) pa_nil))) (pa_cons (pe_tup (pa_cons pe_int (pa_cons (pe_tup (pa_cons pe_bl (pa_cons pe_int pa_nil))) pa_nil))) (pa_cons (pe_tup (pa_cons pe_int (pa_cons pe_int pa_nil))) (pa_cons (pe_tup (pa_cons (pe_tup (pa_cons pe_int (pa_cons pe_int pa_nil))) (pa_cons (pe_tup (pa_cons pe_int (pa_cons pe_int pa_nil))) pa_nil))) (pa_cons (pe_tup (pa_cons (pe_tup (pa_cons pe_int pa_nil)) (pa_cons (pe_tup (pa_cons pe_int pa_nil)) pa_nil))) pa_nil))))))))) pa_nil))))))), ?_⟩
  have S := St.startW (k := 1) ok nd ng nl D (.nil (N := N) (H := H))
  have E1 := fun ρ => ((ev_lst' (eva_more ev_non (eva_more (ev_bl (b := true)) (eva_more (ev_bl (b := false)) (eva_more (ev_int (i := 0)) (eva_more (ev_int (i := 1)) (eva_more (ev_int (i := 2)) (eva_more (ev_neg (ev_int (i := 1))) (eva_more (ev_pow (i := 10) (j := 30) ⟨by decide, by decide, by decide⟩) (eva_more (ev_str (x := "")) (eva_more (ev_str (x := "a")) (eva_more (ev_str (x := "0")) (eva_more (ev_str (x := "2x3")) (eva_more (ev_tup' eva_nil (show 0 ≤ 100000 by decide)) (eva_more (ev_lst' eva_nil (show 0 ≤ 100000 by decide)) (eva_more ev_dict0 (eva_more (ev_tup' (eva_more (ev_int (i := 0)) eva_nil) (show 1 ≤ 100000 by decide)) (eva_more (ev_tup' (eva_more (ev_int (i := 1)) eva_nil) (show 1 ≤ 100000 by decide)) (eva_more (ev_tup' (eva_more (ev_int (i := 0)) (eva_more (ev_int (i := 0)) eva_nil)) (show 2 ≤ 100000 by decide)) (eva_more (ev_tup' (eva_more (ev_int (i := 1)) (eva_more (ev_int (i := 1)) eva_nil)) (show 2 ≤ 100000 by decide)) eva_nil))))))))))))))))))) (show 19 ≤ 100000 by decide)) : EvP (WD d g l N H) H _ ρ _)
  refine d_asg ?_
  refine (E1 _) [] [] _ H S _ fun v1 e1 H1 S1 p1 => ?_
  have S2 := S1.set (i := 1)
  rw [p1] at S2
  clear p1 S1 E1
  have E2 : EvP (WD d g l N H) H _ S2.rho _ := (ev_catL (ev_dat (i := 1) rfl) (ev_lst' (eva_more (ev_tup' (eva_more (ev_bl (b := true)) eva_nil) (show 1 ≤ 100000 by decide)) (eva_more (ev_tup' (eva_more (ev_int (i := 0)) (eva_more (ev_tup' (eva_more (ev_int (i := 0)) eva_nil) (show 1 ≤ 100000 by decide)) eva_nil)) (show 2 ≤ 100000 by decide)) (eva_more (ev_tup' (eva_more (ev_int (i := 0)) (eva_more (ev_tup' (eva_more (ev_int (i := 0)) (eva_more (ev_int (i := 0)) eva_nil)) (show 2 ≤ 100000 by decide)) eva_nil)) (show 2 ≤ 100000 by decide)) (eva_more (ev_tup' (eva_more (ev_int (i := 1)) (eva_more (ev_tup' (eva_more (ev_int (i := 0)) (eva_more (ev_int (i := 0)) eva_nil)) (show 2 ≤ 100000 by decide)) eva_nil)) (show 2 ≤ 100000 by decide)) (eva_more (ev_tup' (eva_more (ev_int (i := 0)) (eva_more (ev_tup' (eva_more (ev_int (i := 0)) (eva_more (ev_int (i := 0)) eva_nil)) (show 2 ≤ 100000 by decide)) (eva_more (ev_int (i := 1)) eva_nil))) (show 3 ≤ 100000 by decide)) (eva_more (ev_tup' (eva_more (ev_tup' (eva_more (ev_int (i := 0)) (eva_more (ev_int (i := 0)) eva_nil)) (show 2 ≤ 100000 by decide)) (eva_more (ev_int (i := 1)) eva_nil)) (show 2 ≤ 100000 by decide)) (eva_more (ev_tup' (eva_more (ev_tup' (eva_more (ev_int (i := 0)) eva_nil) (show 1 ≤ 100000 by decide)) (eva_more (ev_int (i := 1)) eva_nil)) (show 2 ≤ 100000 by decide)) (eva_more (ev_tup' (eva_more (ev_str (x := "step")) (eva_more (ev_int (i := 0)) eva_nil)) (show 2 ≤ 100000 by decide)) eva_nil)))))))) (show 8 ≤ 100000 by decide)) (Nat.le_of_ble_eq_true rfl))
  refine d_asg ?_
  refine E2 [] [] _ H1 S2 _ fun v2 e2 H2 S3 p2 => ?_
  have S4 := S3.set (i := 1)
  rw [p2] at S4
  clear p2 S3 E2
  have E3 : EvP (WD d g l N H) H _ S4.rho _ := ev_one (d := d) (g := g) (l := l) (N := N) (B := H) (j := 0) rfl (ev_catL (ev_dat (i := 1) rfl) (ev_lst' (eva_more (ev_tup' (eva_more ev_non eva_nil) (show 1 ≤ 100000 by decide)) (eva_more (ev_tup' (eva_more (ev_neg (ev_int (i := 1))) eva_nil) (show 1 ≤ 100000 by decide)) (eva_more (ev_tup' (eva_more (ev_int (i := 0)) (eva_more (ev_tup' (eva_more (ev_neg (ev_int (i := 1))) eva_nil) (show 1 ≤ 100000 by decide)) eva_nil)) (show 2 ≤ 100000 by decide)) (eva_more (ev_tup' (eva_more (ev_int (i := 0)) (eva_more (ev_tup' (eva_more (ev_bl (b := true)) (eva_more (ev_int (i := 0)) eva_nil)) (show 2 ≤ 100000 by decide)) eva_nil)) (show 2 ≤ 100000 by decide)) (eva_more (ev_tup' (eva_more (ev_int (i := 2)) (eva_more (ev_int (i := 1)) eva_nil)) (show 2 ≤ 100000 by decide)) (eva_more (ev_tup' (eva_more (ev_tup' (eva_more (ev_int (i := 2)) (eva_more (ev_int (i := 1)) eva_nil)) (show 2 ≤ 100000 by decide)) (eva_more (ev_tup' (eva_more (ev_int (i := 1)) (eva_more (ev_int (i := 2)) eva_nil)) (show 2 ≤ 100000 by decide)) eva_nil)) (show 2 ≤ 100000 by decide)) (eva_more (ev_tup' (eva_more (ev_tup' (eva_more (ev_int (i := 2)) eva_nil) (show 1 ≤ 100000 by decide)) (eva_more (ev_tup' (eva_more (ev_int (i := 3)) eva_nil) (show 1 ≤ 100000 by decide)) eva_nil)) (show 2 ≤ 100000 by decide)) eva_nil))))))) (show 7 ≤ 100000 by decide)) (Nat.le_of_ble_eq_true rfl)) fun e h => ⟨_, h, Nat.le_of_ble_eq_true rfl, Nat.le_of_ble_eq_true rfl⟩
  refine d_ret ?_
  refine E3 [] [] _ H2 S4 _ fun v e H' S' p => ?_
  obtain ⟨D', o', r'⟩ := S'.endW
  refine q v e H' D' o' r' ?_
  obtain ⟨ds, hds, he⟩ := p
  have hl := PyData.list.inj hds
  rw [hl] at he
  exact ⟨gd_of (by decide +kernel) he, vt_of (by decide +kernel) he⟩
/-! ### what is told is good to be shown -/
theorem dueK_ok {c : List Nat} {nss : List (List Int)} (h : dueK c = .ok nss) : nss.length ≤ 4 ∧ ∀ ns ∈ nss, ns.length ≤ 4 ∧ ∀ n ∈ ns, 1 ≤ n ∧ n ≤ MS := by
  have hms : MS = 1000000000000 := rfl
  unfold dueK at h
  by_cases ht : isTextKB c true = true
  · rw [if_pos ht] at h
    cases h
    obtain ⟨h1, h2⟩ := text_group ht
    refine ⟨by rw [List.length_map]; exact h1, fun ns hns => ?_⟩
    obtain ⟨g, hg, rfl⟩ := List.mem_map.mp hns
    obtain ⟨h3, h4⟩ := h2 g hg
    refine ⟨by unfold valG; rw [List.length_map]; exact h3, fun n hn => ?_⟩
    obtain ⟨y, hy, rfl⟩ := List.mem_map.mp hn
    obtain ⟨y1, y2⟩ := h4 y hy
    have := y2.val
    have := gw_pos y2 y1
    omega
  · rw [if_neg ht] at h
    cases h
theorem dueK_er {c : List Nat} {q : Nat} (h : dueK c = .error q) : q ≤ c.length := by
  unfold dueK at h
  by_cases ht : isTextKB c true = true
  · rw [if_pos ht] at h
    cases h
  · rw [if_neg ht] at h
    cases h
    cases e : (List.range c.length).filter (fun k => !isTextKB (c.take (k + 1)) false) with
    | nil => exact Nat.le_refl _
    | cons x xs =>
      have : x ∈ (List.range c.length).filter (fun k => !isTextKB (c.take (k + 1)) false) := by rw [e]; exact List.mem_cons_self
      exact Nat.le_of_lt (List.mem_range.mp ((List.mem_filter.mp this).1))
theorem fit_str' {x : Str} (h : (decide (x.length ≤ 90) && (cs x).all (· < 1000000)) = true) : Fit 3000 2 (.str x) := by
  have := (tx_of h).gd.2
  exact this.mono (by decide) (by decide)
theorem gd_two {x : Str} {e : PyData} (hx : (decide (x.length ≤ 90) && (cs x).all (· < 1000000)) = true) (hp : plain e) (hf : Fit 3000 2 e) : Gd 100000 5 (.list [.str x, e]) :=
  ⟨okD_list fun y hy => by
    simp only [List.mem_cons, List.not_mem_nil, or_false] at hy
    rcases hy with rfl | rfl
    · exact ⟨rfl, rfl⟩
    · exact hp, (fit_lst (ds := [.str x, e]) (n := 3000) (k := 2) (m := 100000) (fun y hy => by
    simp only [List.mem_cons, List.not_mem_nil, or_false] at hy
    rcases hy with rfl | rfl
    · exact fit_str' hx
    · exact hf) (show 2 ≤ 9 by decide) (by decide)).mono (Nat.le_refl _) (by decide)⟩
theorem gd_due {e : PyData} (h : Vt e) : Gd 100000 5 (dueE e) := by
  have none_ : Gd 100000 5 (.list [.str "bad", .none]) := gd_two (by decide +kernel) ⟨rfl, rfl⟩ ⟨rfl, by decide +kernel, by decide +kernel⟩
  cases hs : DL.isA "str" e with
  | false => rw [dueE_no hs]; exact none_
  | true =>
    obtain ⟨z, rfl⟩ := isStr hs
    have hz := h z rfl
    show Gd 100000 5 (tellE (dueK (cs z)))
    cases hd : dueK (cs z) with
    | ok nss =>
      obtain ⟨h1, h2⟩ := dueK_ok hd
      exact gd_two (by decide +kernel) (plain_tuple fun x hx => by
        obtain ⟨ns, hn, rfl⟩ := List.mem_map.mp hx
        exact plain_of rfl) (fit_tupK h1 h2)
    | error q =>
      have := dueK_er hd
      rw [cs_len] at this
      have := hz.len
      have hms : MS = 1000000000000 := rfl
      exact gd_two (by decide +kernel) ⟨rfl, rfl⟩ ((fit_int (i := (q : Nat)) (by omega) (by omega)).mono (by decide) (by decide))
theorem c_due {W : Wd} {H0 : Hp} {ρ : List (Option Sl)} {te : TE} {d : PyData} (hv : Vt d) (h : EvP W H0 te ρ (· = d)) : EvP W H0 (tCall (SpF dueA dueF) [] E0 (tCons te tNil)) ρ (· = dueE d) := (ev_callF (A := dueA) (F := dueF) (PA := (· = [d])) (eva_one h) fun es h => ⟨d, h, hv⟩).imp fun r h => by
  obtain ⟨es, rfl, e, h1, rfl⟩ := h
  rw [(List.cons.inj h1).1]
theorem vt_tx {n : Nat} {e : PyData} (h : Tx n e) (hn : n ≤ 1000) : Vt e := fun z hz => by
  obtain ⟨y, rfl, hy⟩ := h
  cases hz
  exact hy.mono hn
end
end K06
set_option Elab.async false
set_option linter.all false
set_option maxRecDepth 100000
namespace K06
open PySem PySem.Spec PyProof.Rows L2 Evl TB DL
section
variable {P : Program} {w : World} {K : PySem.W.Frag} {mg : Str → Option Value} {base : Heap}
def spLaw (K : PySem.W.Frag) : Sp := fun vs H Q _ => ∃ (a : Addr) (ns : List Int), vs = [.ref a] ∧ SqL K H a (ns.map V.int) ∧ ns.length ≤ 63 ∧ ∀ H', Q (.bl true) H'
theorem kinds_of {ds : List PyData} (h : ∀ d ∈ ds, ∃ ns : List Int, d = tupI ns ∧ ns.length ≤ 4 ∧ ∀ n ∈ ns, 1 ≤ n ∧ n ≤ MS) : ∃ nss : List (List Int), ds = nss.map tupI ∧ ∀ ns ∈ nss, ns.length ≤ 4 ∧ ∀ n ∈ ns, 1 ≤ n ∧ n ≤ MS := by
  induction ds with
  | nil => exact ⟨[], rfl, fun _ h => nomatch h⟩
  | cons d ds ih =>
    obtain ⟨ns, rfl, hn⟩ := h d List.mem_cons_self
    obtain ⟨nss, rfl, hs⟩ := ih fun x hx => h x (List.mem_cons_of_mem _ hx)
    exact ⟨ns :: nss, rfl, fun m hm => by
      rcases List.mem_cons.mp hm with rfl | hm
      · exact hn
      · exact hs m hm⟩
theorem tupK_inj {a b : List (List Int)} (h : tupK a = tupK b) : a = b := by
  have h' := PyData.tuple.inj h
  have : ∀ {a b : List (List Int)}, a.map tupI = b.map tupI → a = b := by
    intro a
    induction a with
    | nil => intro b h; cases b <;> simp at h; rfl
    | cons x a ih =>
      intro b h
      cases b with
      | nil => simp at h
      | cons y b =>
        obtain ⟨h1, h2⟩ := List.cons.inj h
        rw [tupI_inj h1, ih h2]
  exact this h'
set_option maxHeartbeats 4000000 in
theorem ok_law (T : Txt mg) {f : Addr} {fd : FuncData} (F : Fun K "law" "law" s_law f fd)
    (h__law_deck : Keeps P w K mg base 1 "_law_deck" p__law_deck (spDeck K)) (h__law_draw' : Keeps P w K mg base 1 "_law_draw" p__law_draw spDraw)
    (h__law_odd : Keeps P w K mg base 3 "_law_odd" p__law_odd (SpW nonA oddT)) (h__law_wide' : Keeps P w K mg base 4 "_law_wide" p__law_wide spWide) (h__law_kinds_text : Keeps P w K mg base 2 "_law_kinds_text" p__law_kinds_text (SpF kindA kindF))
    (h__law_due : Keeps P w K mg base 4 "_law_due" p__law_due (SpF dueA dueF)) (h__law_told : Keeps P w K mg base 5 "_law_told" p__law_told (SpF dueA dueF)) (h__law_spoilt : Keeps P w K mg base 3 "_law_spoilt" p__law_spoilt (SpW spoA spoF)) : AtTop P w K mg base f fd "_law_script" (spLaw K) := by
  have h__law_draw := DL.Keeps.imp h__law_draw' fun _ _ _ _ => draw_imp
  have h__law_wide := DL.Keeps.imp h__law_wide' fun _ _ _ _ => wide_imp
  refine atTop_of F sc_law ⟨rfl, by decide, by decide⟩ (k := 8) (fun cdv s H v Q E hr h => ?_)
  obtain ⟨a, ns, ⟨⟩, hS, hn, k⟩ := h
  refine ⟨_, (pss_cons (ps_set (i := 1) sc_law.nd rfl (.inr rfl) (TB.pe_own h__law_deck (hr.mono (by decide)) (by rfl) (pa_cons (pv 0) pa_nil)))
 (pss_cons (ps_for PassesOwn.never rfl (pi_range1 (by rfl) T.n_range (pa_cons pe_int pa_nil)) (pg_name (i := 2) sc_law.nd rfl (.inl rfl))
 (pss_cons (ps_set (i := 3) sc_law.nd rfl (.inr rfl) (pe_op op_add pe_int (TB.pe_own h__law_draw (hr.mono (by decide)) (by rfl) (pa_cons (pv 1) (pa_cons pe_int pa_nil)))))
 (pss_cons (ps_set (i := 4) sc_law.nd rfl (.inl rfl) (TB.pe_own h__law_kinds_text (hr.mono (by decide)) (by rfl) (pa_cons (pe_callTy call_tuple_of (by rfl) T.n_tuple (by decide +kernel) (pa_cons (pe_lc (own := [("_law_k", 8)]) (g := gName 8) rfl sc_law.nd (pi_range1 (by rfl) T.n_range (pa_cons (pe_op op_add pe_int (TB.pe_own h__law_draw (hr.mono (by decide)) (by rfl) (pa_cons (pv 1) (pa_cons pe_int pa_nil)))) pa_nil)) (blkOk_by (N := n_law) (sc := defScope s_law) (by decide +kernel)) (fun _ _ _ _ _ => pg_name (i := 8) sc_law.nd rfl (.inl rfl)) (fun _ _ _ _ _ => pts_nil) (fun _ _ _ _ _ => (TB.pe_own h__law_wide (hr.mono (by decide)) (by rfl) (pa_cons (pv 1) (pa_cons (pv 3) pa_nil))))) pa_nil)) pa_nil)))
 (pss_cons (ps_set (i := 5) sc_law.nd rfl (.inl rfl) (TB.pe_own h__law_spoilt (hr.mono (by decide)) (by rfl) (pa_cons (pv 1) (pa_cons (pv 4) pa_nil))))
 (pss_cons (ps_set (i := 6) sc_law.nd rfl (.inl rfl) (pe_lst (pa_cons (pv 4) (pa_cons (pv 5) (pa_cons (TB.pe_own h__law_spoilt (hr.mono (by decide)) (by rfl) (pa_cons (pv 1) (pa_cons (pv 5) pa_nil))) (pa_cons (TB.pe_own h__law_spoilt (hr.mono (by decide)) (by rfl) (pa_cons (pv 1) (pa_cons (pv 4) pa_nil))) (pa_cons (pe_op op_add_str (pe_op op_add_str (pv 4) pe_str) (pv 4)) (pa_cons (pe_slice sl_str (pv 4) po_none (po_some (pe_un un_neg pe_int))) (pa_cons (pe_op op_add_str (pv 4) pe_str) pa_nil)))))))))
 (pss_cons (ps_set (i := 6) sc_law.nd rfl (.inl rfl) (pe_op op_cat (pv 6) (pe_lst (pa_cons pe_str (pa_cons pe_str (pa_cons pe_str (pa_cons pe_str (pa_cons pe_str (pa_cons pe_str (pa_cons pe_str (pa_cons pe_str (pa_cons pe_str pa_nil))))))))))))
 (pss_one (ps_for PassesOwn.never rfl (pi_list (pe_op op_cat (pv 6) (pe_lst (pa_cons (TB.pe_own h__law_odd (hr.mono (by decide)) (by rfl) (pa_cons (pv 1) pa_nil)) (pa_cons pe_non (pa_cons (pe_lst (pa_cons (pv 4) pa_nil)) pa_nil)))))) (pg_name (i := 7) sc_law.nd rfl (.inl rfl))
 (pss_one (ps_if (pt_cmpR op_ne (pe_callB (DL.call_reprD rfl hr.units) (by rfl) T.n_repr (by decide +kernel) (pa_cons (TB.pe_own h__law_told (hr.mono (by decide)) (by rfl) (pa_cons (pv 7) pa_nil)) pa_nil)) (pe_callB (DL.call_reprD rfl hr.units) (by rfl) T.n_repr (by decide +kernel) (pa_cons (TB.pe_own h__law_due (hr.mono (by decide)) (by rfl) (pa_cons (pv 7) pa_nil)) pa_nil)) (nomark _))
 (pss_one (ps_ret pe_bl)) pss_nil))))))))))
 (pss_one (ps_ret pe_bl)))), ?_⟩
  refine ⟨_, rfl, a, ns, rfl, hS, hn, fun d g l H1 e1 hd hg D1 => ?_⟩
  have S0 : St (WL d g l H1) H1 [none, some (.raw (.ref d)), none, none, none, none, none, none, none] [] [] [some (.ref a), some (.ref d), none, none, none, none, none, none, none] H1 :=
    St.deck0 D1 rfl fun i s h => by
      match i, h with
      | 0, h => cases h
      | 1, h => cases h; exact ⟨_, rfl, rfl⟩
      | 2, h => cases h
      | 3, h => cases h
      | 4, h => cases h
      | 5, h => cases h
      | 6, h => cases h
      | 7, h => cases h
      | 8, h => cases h
      | i + 9, h => simp at h
  refine ⟨10, rfl, by decide, by decide, for_range (lo := 0) (n := 10) (fun i σ H' => St (WL d g l H1) H1 [none, some (.raw (.ref d)), none, none, none, none, none, none, none] [] [] σ H') S0 (fun i σ H2 hi Sa => ?_) (fun σ H' _ => k _)⟩
  refine g_name ?_
  have S := Sa.clr (i := 2) (o := some (.int (0 + (i : Int))))
  have drawE : ∀ {ρ} {m : Nat}, 0 < m → m ≤ 100 → ρ[1]? = some (some (Sl.raw (.ref d))) → EvP (WL d g l H1) H1 (tOp (rI0 fun i j => .int (i + j)) (tC (.int 1)) (tCall (SpW drawA drawF) [] E0 (tCons (tVar 1) (tCons (tC (.int (m : Nat))) tNil)))) ρ (fun e => ∃ n : Nat, e = .int n ∧ 1 ≤ n ∧ n ≤ m) := fun {ρ m} h0 h1 hρ =>
    ev_op (P2 := fun e => ∃ r : Int, e = .int r ∧ 0 ≤ r ∧ r < (m : Int)) (ev_int (i := 1)) (ev_draw (j := 1) hρ (ev_int (i := (m : Nat))) (by omega) (by omega)) fun e1 e2 h1 h2 => by
      obtain ⟨r, rfl, r0, r1⟩ := h2
      subst h1
      exact opd_add.imp fun e h => ⟨(1 + r).toNat, by rw [h, Int.toNat_of_nonneg (by omega)], by omega, by omega⟩
  -- axes
  refine d_asg ?_
  refine (drawE (m := 3) (by decide) (by decide) rfl) [] [] _ H2 S _ fun x e H3 S3' p => ?_
  obtain ⟨na, rfl, na1, na3⟩ := p
  have S3 : St (WL d g l H1) H1 [none, some (.raw (.ref d)), none, some (.dat (.int (na : Nat))), none, none, none, none, none] [] [] _ H3 := S3'.set (i := 3)
  clear S3' S Sa S0
  -- text
  have EL : EvP (WL d g l H1) H1 _ S3.rho (fun e => ∃ ds : List PyData, e = .list ds ∧ (1 ≤ ds.length ∧ ds.length ≤ 4) ∧ ds.length ≤ 1000 ∧ ∀ x ∈ ds, ∃ ns : List Int, x = tupI ns ∧ ns.length ≤ 4 ∧ ∀ n ∈ ns, 1 ≤ n ∧ n ≤ MS) :=
    ev_lcRx (i := 8) (Pn := fun n => 1 ≤ n ∧ n ≤ 4) rfl ((drawE (m := 4) (by decide) (by decide) rfl).imp fun e h => by
      obtain ⟨n, rfl, h1, h2⟩ := h
      exact ⟨n, rfl, by omega, h1, h2⟩) fun j => (ev_callW (A := wideA) (F := wideF) (PA := (· = [.int (na : Nat)])) (i := 1) rfl (eva_one (ev_dat (i := 3) rfl)) fun es h => ⟨na, h, by omega⟩).imp fun e h => by
        obtain ⟨es, rfl, m, ns, h3, rfl, h4, h5⟩ := h
        have := Int.ofNat.inj (PyData.int.inj (List.cons.inj h3).1)
        exact ⟨ns, rfl, by omega, h5⟩
  have ETp : EvP (WL d g l H1) H1 _ S3.rho (fun e => ∃ nss : List (List Int), e = tupK nss ∧ nss.length ≤ 4 ∧ ∀ ns ∈ nss, ns.length ≤ 4 ∧ ∀ n ∈ ns, 1 ≤ n ∧ n ≤ MS) :=
    ev_cb (tas := tCons _ tNil) (PA := fun es => ∃ ds : List PyData, es = [.list ds] ∧ ds.length ≤ 4 ∧ ∀ x ∈ ds, ∃ ns : List Int, x = tupI ns ∧ ns.length ≤ 4 ∧ ∀ n ∈ ns, 1 ≤ n ∧ n ≤ MS) (eva_cons EL eva_nil fun e es h1 h2 => by
      obtain ⟨ds, rfl, h3, _, h4⟩ := h1
      exact ⟨ds, by rw [h2], h3.2, h4⟩) fun es h => by
      obtain ⟨ds, rfl, h3, h4⟩ := h
      obtain ⟨nss, rfl, h5⟩ := kinds_of h4
      exact (cad_tuple (K := K)).imp fun e h => ⟨nss, h, by rw [List.length_map] at h3; exact h3, h5⟩
  have ET : EvP (WL d g l H1) H1 _ S3.rho (Tx 228) :=
    (ev_callF (A := kindA) (F := kindF) (PA := fun es => ∃ nss : List (List Int), es = [tupK nss] ∧ nss.length ≤ 4 ∧ ∀ ns ∈ nss, ns.length ≤ 4 ∧ ∀ n ∈ ns, 1 ≤ n ∧ n ≤ MS) (eva_cons ETp eva_nil fun e es h1 h2 => by
      obtain ⟨nss, rfl, h⟩ := h1
      exact ⟨nss, by rw [h2], h⟩) fun es h => h).imp fun e h => by
      obtain ⟨es, ⟨nss, rfl, h1, h2⟩, nss', h3, rfl⟩ := h
      rw [← tupK_inj (List.cons.inj h3).1]
      exact ⟨_, rfl, kind_ok h1 h2⟩
  refine d_asg ?_
  refine ET [] [] _ H3 S3 _ fun x e H4 S4' p => ?_
  obtain ⟨tx, rfl, htx⟩ := p
  have S4 : St (WL d g l H1) H1 [none, some (.raw (.ref d)), none, some (.dat (.int (na : Nat))), some (.dat (.str tx)), none, none, none, none] [] [] _ H4 := S4'.set (i := 4)
  clear S4' ET ETp EL S3 drawE
  -- one_here
  have sp_ : ∀ {ρ : List (Option Sl)} {i : Nat} {z : Str} {n : Nat}, ρ[1]? = some (some (Sl.raw (.ref d))) → ρ[i]? = some (some (Sl.dat (.str z))) → TxOk n z → n ≤ 900 → EvP (WL d g l H1) H1 (tCall (SpW spoA spoF) [] E0 (tCons (tVar 1) (tCons (tVar i) tNil))) ρ (fun e => ∃ y, e = .str y ∧ TxOk (2 * n + 12) y) := fun {ρ i z n} h1 hi hz hn =>
    (ev_callW (A := spoA) (F := spoF) (PA := (· = [.str z])) (i := 1) h1 (eva_one (ev_dat hi)) fun es h => ⟨z, h, hz.mono hn⟩).imp fun e h => by
      obtain ⟨es, rfl, z', h3, h4⟩ := h
      cases h3
      exact h4.mono (by have := hz.len; omega)
  refine d_asg ?_
  refine (sp_ (i := 4) rfl rfl htx (by decide)) [] [] _ H4 S4 _ fun x e H5 S5' p => ?_
  obtain ⟨ty, rfl, hty⟩ := p
  have S5 : St (WL d g l H1) H1 [none, some (.raw (.ref d)), none, some (.dat (.int (na : Nat))), some (.dat (.str tx)), some (.dat (.str ty)), none, none, none] [] [] _ H5 := S5'.set (i := 5)
  clear S5' S4
  -- some
  have txd : ∀ {ρ : List (Option Sl)}, ρ[4]? = some (some (Sl.dat (.str tx))) → EvP (WL d g l H1) H1 (tVar 4) ρ (Tx 228) := fun h => (ev_dat h).imp fun e h => ⟨tx, h, htx⟩
  have ES : EvP (WL d g l H1) H1 _ S5.rho (LstG 7 Vt) := ev_lstG (n := 7) (eva_g ((ev_dat (i := 4) rfl).imp fun e h => vt_tx ⟨tx, h, htx⟩ (by decide)) (eva_g ((ev_dat (i := 5) rfl).imp fun e h => vt_tx ⟨ty, h, hty⟩ (by decide)) (eva_g ((sp_ (i := 5) rfl rfl hty (by decide)).imp fun e h => vt_tx h (by decide)) (eva_g ((sp_ (i := 4) rfl rfl htx (by decide)).imp fun e h => vt_tx h (by decide))
    (eva_g ((ev_addT (n := 228 + 1) (m := 228) (ev_addT (n := 228) (m := 1) (txd rfl) (ev_tx (z := " ") (by decide +kernel)) (by decide)) (txd rfl) (by decide)).imp fun e h => vt_tx h (by decide))
    (eva_g ((ev_slT' htx (by decide) (ev_dat (i := 4) rfl) eo_none (eo_some (ev_neg (ev_int (i := 1))))).imp fun e h => vt_tx h (by decide))
    (eva_g ((ev_addT (n := 228) (m := 1) (txd rfl) (ev_tx (z := " ") (by decide +kernel)) (by decide)).imp fun e h => vt_tx h (by decide)) eva_g0))))))) (by decide)
  refine d_asg ?_
  refine ES [] [] _ H5 S5 _ fun x e H6 S6' p => ?_
  have S6'' := S6'.set (i := 6)
  obtain ⟨sm, rfl, hsm⟩ := p
  have S6 : St (WL d g l H1) H1 [none, some (.raw (.ref d)), none, some (.dat (.int (na : Nat))), some (.dat (.str tx)), some (.dat (.str ty)), some (.dat (.list sm)), none, none] [] [] _ H6 := S6''
  clear S6' S6'' ES S5
  have EC : EvP (WL d g l H1) H1 _ S6.rho (LstG (7 + 9) Vt) := ev_catG (n := 7) (m := 9) ((ev_dat (i := 6) rfl).imp fun e h => ⟨sm, h, hsm⟩) (ev_lstG (n := 9) (eva_g ((ev_tx (z := "2x2 3 1") (n := 20) (by decide +kernel)).imp fun e h => vt_tx h (by decide)) (eva_g ((ev_tx (z := "2 3 4 5 6") (n := 20) (by decide +kernel)).imp fun e h => vt_tx h (by decide)) (eva_g ((ev_tx (z := "2 3x1") (n := 20) (by decide +kernel)).imp fun e h => vt_tx h (by decide)) (eva_g ((ev_tx (z := "2x2  3x3") (n := 20) (by decide +kernel)).imp fun e h => vt_tx h (by decide)) (eva_g ((ev_tx (z := " 2") (n := 20) (by decide +kernel)).imp fun e h => vt_tx h (by decide)) (eva_g ((ev_tx (z := "2x2 3x") (n := 20) (by decide +kernel)).imp fun e h => vt_tx h (by decide)) (eva_g ((ev_tx (z := "2x2 3x3x3") (n := 20) (by decide +kernel)).imp fun e h => vt_tx h (by decide)) (eva_g ((ev_tx (z := "2x2\n3x3") (n := 20) (by decide +kernel)).imp fun e h => vt_tx h (by decide)) (eva_g ((ev_tx (z := "") (n := 20) (by decide +kernel)).imp fun e h => vt_tx h (by decide)) eva_g0))))))))) (by decide)) (by decide)
  refine d_asg ?_
  refine EC [] [] _ H6 S6 _ fun x e H7 S7' p => ?_
  have S7'' := S7'.set (i := 6)
  obtain ⟨sn, rfl, hsn⟩ := p
  have S7 : St (WL d g l H1) H1 [none, some (.raw (.ref d)), none, some (.dat (.int (na : Nat))), some (.dat (.str tx)), some (.dat (.str ty)), some (.dat (.list sn)), none, none] [] [] _ H7 := S7''
  clear S7' S7'' EC S6
  have EV : EvP (WL d g l H1) H1 _ S7.rho (LstG (7 + 9 + 3) Vt) := ev_catG (n := 7 + 9) (m := 3) ((ev_dat (i := 6) rfl).imp fun e h => ⟨sn, h, hsn⟩)
    (ev_lstG (n := 3) (eva_g ((ev_callW (A := nonA) (F := oddT) (i := 1) rfl eva_nil fun es h => h).imp fun e h => h.choose_spec.2.2)
      (eva_g (ev_non.imp fun e h z hz => by rw [h] at hz; cases hz)
      (eva_g ((ev_lst' (eva_one (ev_dat (i := 4) rfl)) (show 1 ≤ 100000 by decide)).imp fun e h z hz => by rw [h] at hz; cases hz) eva_g0))) (by decide)) (by decide)
  refine d_forL ?_
  refine EV [] [] _ H7 S7 _ fun x e H8 S8' p => ?_
  obtain ⟨us, rfl, _, ug⟩ := p
  have S8 : St (WL d g l H1) H1 [none, some (.raw (.ref d)), none, none, none, none, none, none, none] [(x, .list us)] [] _ H8 := S8'.less rfl fun i s h => by
    match i, h with
        | 0, h => cases h
        | 1, h => exact h
        | 2, h => cases h
        | 3, h => cases h
        | 4, h => cases h
        | 5, h => cases h
        | 6, h => cases h
        | 7, h => cases h
        | 8, h => cases h
        | i + 9, h => simp at h
  clear EV S7 S8'
  refine for_dataL (K := K) (i := 7) S8 (fun j ρ' l' => ∃ x7, ρ' = [none, some (.raw (.ref d)), none, none, none, none, none, x7, none] ∧ l' = []) ⟨none, rfl, rfl⟩
    (fun G j dd ρ' l' σ' H9 u1 u2 hd hJ S10 Nx nx => ?_) (fun ρ' l' σ' H9 hJ S10 => ?_)
  · obtain ⟨x7, rfl, rfl⟩ := hJ
    have S10 : St (WL d g l H1) G [none, some (.raw (.ref d)), none, none, none, none, none, some (.dat dd), none] [(x, .list us)] [] σ' H9 := S10
    have vd := ug dd (List.mem_of_getElem? hd)
    have gd := gd_due vd
    have t1 : EvT (WL d g l H1) G _ S10.rho (· = !decide ((dueE dd).shown = (dueE dd).shown)) := et_of (ev_op' (ev_repr (c_due vd (ev_dat (i := 7) rfl)) gd (by decide) (by decide)) (ev_repr (c_due vd (ev_dat (i := 7) rfl)) gd (by decide) (by decide)) opd_neS)
    rw [decide_eq_true rfl] at t1
    refine d_ifl ?_
    refine t1 _ _ _ H9 S10 _ fun b H11 S12 hb => ?_
    subst hb
    refine (if_neg Bool.false_ne_true).mpr ?_
    exact nx _ _ _ _ ⟨_, rfl, rfl⟩ S12
  · obtain ⟨x7, rfl, rfl⟩ := hJ
    exact (S10.nil).less (ρ' := [none, some (.raw (.ref d)), none, none, none, none, none, none, none]) rfl fun i s h => by
      match i, h with
        | 0, h => cases h
        | 1, h => exact h
        | 2, h => cases h
        | 3, h => cases h
        | 4, h => cases h
        | 5, h => cases h
        | 6, h => cases h
        | 7, h => cases h
        | 8, h => cases h
        | i + 9, h => simp at h
theorem sp_start {H : Hp} {a : Addr} {ns : List Int} (hl : ns.length ≤ 63) (hS : SqL K H a (ns.map V.int)) : spLaw K [.ref a] H (fun v _ => v = .bl true) fun _ _ _ => False := ⟨a, ns, rfl, hS, hl, fun _ => rfl⟩
end
end K06
set_option Elab.async false
set_option linter.all false
set_option maxRecDepth 100000
namespace K06
open PySem PySem.Spec PyProof.Rows L2 Evl TB DL
theorem all_mk {l : PySem.W.OpenLaw} {w : World} {K : PySem.W.Frag} {h : Heap} {mg : Str → Option Value} {fa f1 f2 f3 f4 f5 f6 f7 f8 f9 f10 f11 f12 f13 f14 f15 f16 f17 f18 : Addr} (X : K.In h) (G : h.Ns mainGlobals mg) (hfa : mg "law" = some (.ref fa))
    {od1 an1 od2 an2 od3 an3 od4 an4 od5 an5 od6 an6 od7 an7 od8 an8 od9 an9 od10 an10 od11 an11 od12 an12 od13 an13 od14 an14 od15 an15 od16 an16 od17 an17 od18 an18 : Option Addr} {sl1 sl2 sl3 sl4 sl5 sl6 sl7 sl8 sl9 sl10 sl11 sl12 sl13 sl14 sl15 sl16 sl17 sl18 : Array (Option Value)} {oc1 kV1 dc1 pm1 cd1 ct1 oc2 kV2 dc2 pm2 cd2 ct2 oc3 kV3 dc3 pm3 cd3 ct3 oc4 kV4 dc4 pm4 cd4 ct4 oc5 kV5 dc5 pm5 cd5 ct5 oc6 kV6 dc6 pm6 cd6 ct6 oc7 kV7 dc7 pm7 cd7 ct7 oc8 kV8 dc8 pm8 cd8 ct8 oc9 kV9 dc9 pm9 cd9 ct9 oc10 kV10 dc10 pm10 cd10 ct10 oc11 kV11 dc11 pm11 cd11 ct11 oc12 kV12 dc12 pm12 cd12 ct12 oc13 kV13 dc13 pm13 cd13 ct13 oc14 kV14 dc14 pm14 cd14 ct14 oc15 kV15 dc15 pm15 cd15 ct15 oc16 kV16 dc16 pm16 cd16 ct16 oc17 kV17 dc17 pm17 cd17 ct17 oc18 kV18 dc18 pm18 cd18 ct18 : Value} {tMAX_DIMS tMAX_KINDS tMAX_SIDE : Tok}
    (a1 : PySem.W.nsIn K mainGlobals "number_at" = some (some (.ref f1))) (l1 : K.lookup f1 = some ⟨oc1, od1, .func (PySem.W.fnOf "number_at" "number_at" (defArgs s_number_at) (defBody s_number_at) (defScope s_number_at) .none kV1 dc1 pm1 an1 cd1 ct1), sl1⟩) (c1 : PySem.W.codeIn K cd1 "number_at" = true) (k1 : PySem.W.keepIn K (.ref f1) = true)
    (a2 : PySem.W.nsIn K mainGlobals "sides_at" = some (some (.ref f2))) (l2 : K.lookup f2 = some ⟨oc2, od2, .func (PySem.W.fnOf "sides_at" "sides_at" (defArgs s_sides_at) (defBody s_sides_at) (defScope s_sides_at) .none kV2 dc2 pm2 an2 cd2 ct2), sl2⟩) (c2 : PySem.W.codeIn K cd2 "sides_at" = true) (k2 : PySem.W.keepIn K (.ref f2) = true)
    (a3 : PySem.W.nsIn K mainGlobals "parse_kinds" = some (some (.ref f3))) (l3 : K.lookup f3 = some ⟨oc3, od3, .func (PySem.W.fnOf "parse_kinds" "parse_kinds" (defArgs s_parse_kinds) (defBody s_parse_kinds) (defScope s_parse_kinds) .none kV3 dc3 pm3 an3 cd3 ct3), sl3⟩) (c3 : PySem.W.codeIn K cd3 "parse_kinds" = true) (k3 : PySem.W.keepIn K (.ref f3) = true)
    (a4 : PySem.W.nsIn K mainGlobals "_law_deck" = some (some (.ref f4))) (l4 : K.lookup f4 = some ⟨oc4, od4, .func (PySem.W.fnOf "_law_deck" "_law_deck" (defArgs s__law_deck) (defBody s__law_deck) (defScope s__law_deck) .none kV4 dc4 pm4 an4 cd4 ct4), sl4⟩) (c4 : PySem.W.codeIn K cd4 "_law_deck" = true) (k4 : PySem.W.keepIn K (.ref f4) = true)
    (a5 : PySem.W.nsIn K mainGlobals "_law_draw" = some (some (.ref f5))) (l5 : K.lookup f5 = some ⟨oc5, od5, .func (PySem.W.fnOf "_law_draw" "_law_draw" (defArgs s__law_draw) (defBody s__law_draw) (defScope s__law_draw) .none kV5 dc5 pm5 an5 cd5 ct5), sl5⟩) (c5 : PySem.W.codeIn K cd5 "_law_draw" = true) (k5 : PySem.W.keepIn K (.ref f5) = true)
    (a6 : PySem.W.nsIn K mainGlobals "_law_one" = some (some (.ref f6))) (l6 : K.lookup f6 = some ⟨oc6, od6, .func (PySem.W.fnOf "_law_one" "_law_one" (defArgs s__law_one) (defBody s__law_one) (defScope s__law_one) .none kV6 dc6 pm6 an6 cd6 ct6), sl6⟩) (c6 : PySem.W.codeIn K cd6 "_law_one" = true) (k6 : PySem.W.keepIn K (.ref f6) = true)
    (a7 : PySem.W.nsIn K mainGlobals "_law_odd" = some (some (.ref f7))) (l7 : K.lookup f7 = some ⟨oc7, od7, .func (PySem.W.fnOf "_law_odd" "_law_odd" (defArgs s__law_odd) (defBody s__law_odd) (defScope s__law_odd) .none kV7 dc7 pm7 an7 cd7 ct7), sl7⟩) (c7 : PySem.W.codeIn K cd7 "_law_odd" = true) (k7 : PySem.W.keepIn K (.ref f7) = true)
    (a8 : PySem.W.nsIn K mainGlobals "_law_far" = some (some (.ref f8))) (l8 : K.lookup f8 = some ⟨oc8, od8, .func (PySem.W.fnOf "_law_far" "_law_far" (defArgs s__law_far) (defBody s__law_far) (defScope s__law_far) .none kV8 dc8 pm8 an8 cd8 ct8), sl8⟩) (c8 : PySem.W.codeIn K cd8 "_law_far" = true) (k8 : PySem.W.keepIn K (.ref f8) = true)
    (a9 : PySem.W.nsIn K mainGlobals "_law_wide" = some (some (.ref f9))) (l9 : K.lookup f9 = some ⟨oc9, od9, .func (PySem.W.fnOf "_law_wide" "_law_wide" (defArgs s__law_wide) (defBody s__law_wide) (defScope s__law_wide) .none kV9 dc9 pm9 an9 cd9 ct9), sl9⟩) (c9 : PySem.W.codeIn K cd9 "_law_wide" = true) (k9 : PySem.W.keepIn K (.ref f9) = true)
    (a10 : PySem.W.nsIn K mainGlobals "_law_sides_text" = some (some (.ref f10))) (l10 : K.lookup f10 = some ⟨oc10, od10, .func (PySem.W.fnOf "_law_sides_text" "_law_sides_text" (defArgs s__law_sides_text) (defBody s__law_sides_text) (defScope s__law_sides_text) .none kV10 dc10 pm10 an10 cd10 ct10), sl10⟩) (c10 : PySem.W.codeIn K cd10 "_law_sides_text" = true) (k10 : PySem.W.keepIn K (.ref f10) = true)
    (a11 : PySem.W.nsIn K mainGlobals "_law_kinds_text" = some (some (.ref f11))) (l11 : K.lookup f11 = some ⟨oc11, od11, .func (PySem.W.fnOf "_law_kinds_text" "_law_kinds_text" (defArgs s__law_kinds_text) (defBody s__law_kinds_text) (defScope s__law_kinds_text) .none kV11 dc11 pm11 an11 cd11 ct11), sl11⟩) (c11 : PySem.W.codeIn K cd11 "_law_kinds_text" = true) (k11 : PySem.W.keepIn K (.ref f11) = true)
    (a12 : PySem.W.nsIn K mainGlobals "_law_is_number" = some (some (.ref f12))) (l12 : K.lookup f12 = some ⟨oc12, od12, .func (PySem.W.fnOf "_law_is_number" "_law_is_number" (defArgs s__law_is_number) (defBody s__law_is_number) (defScope s__law_is_number) .none kV12 dc12 pm12 an12 cd12 ct12), sl12⟩) (c12 : PySem.W.codeIn K cd12 "_law_is_number" = true) (k12 : PySem.W.keepIn K (.ref f12) = true)
    (a13 : PySem.W.nsIn K mainGlobals "_law_is_group" = some (some (.ref f13))) (l13 : K.lookup f13 = some ⟨oc13, od13, .func (PySem.W.fnOf "_law_is_group" "_law_is_group" (defArgs s__law_is_group) (defBody s__law_is_group) (defScope s__law_is_group) .none kV13 dc13 pm13 an13 cd13 ct13), sl13⟩) (c13 : PySem.W.codeIn K cd13 "_law_is_group" = true) (k13 : PySem.W.keepIn K (.ref f13) = true)
    (a14 : PySem.W.nsIn K mainGlobals "_law_is_text" = some (some (.ref f14))) (l14 : K.lookup f14 = some ⟨oc14, od14, .func (PySem.W.fnOf "_law_is_text" "_law_is_text" (defArgs s__law_is_text) (defBody s__law_is_text) (defScope s__law_is_text) .none kV14 dc14 pm14 an14 cd14 ct14), sl14⟩) (c14 : PySem.W.codeIn K cd14 "_law_is_text" = true) (k14 : PySem.W.keepIn K (.ref f14) = true)
    (a15 : PySem.W.nsIn K mainGlobals "_law_due" = some (some (.ref f15))) (l15 : K.lookup f15 = some ⟨oc15, od15, .func (PySem.W.fnOf "_law_due" "_law_due" (defArgs s__law_due) (defBody s__law_due) (defScope s__law_due) .none kV15 dc15 pm15 an15 cd15 ct15), sl15⟩) (c15 : PySem.W.codeIn K cd15 "_law_due" = true) (k15 : PySem.W.keepIn K (.ref f15) = true)
    (a16 : PySem.W.nsIn K mainGlobals "_law_told" = some (some (.ref f16))) (l16 : K.lookup f16 = some ⟨oc16, od16, .func (PySem.W.fnOf "_law_told" "_law_told" (defArgs s__law_told) (defBody s__law_told) (defScope s__law_told) .none kV16 dc16 pm16 an16 cd16 ct16), sl16⟩) (c16 : PySem.W.codeIn K cd16 "_law_told" = true) (k16 : PySem.W.keepIn K (.ref f16) = true)
    (a17 : PySem.W.nsIn K mainGlobals "_law_spoilt" = some (some (.ref f17))) (l17 : K.lookup f17 = some ⟨oc17, od17, .func (PySem.W.fnOf "_law_spoilt" "_law_spoilt" (defArgs s__law_spoilt) (defBody s__law_spoilt) (defScope s__law_spoilt) .none kV17 dc17 pm17 an17 cd17 ct17), sl17⟩) (c17 : PySem.W.codeIn K cd17 "_law_spoilt" = true) (k17 : PySem.W.keepIn K (.ref f17) = true)
    (a18 : PySem.W.nsIn K mainGlobals "law" = some (some (.ref f18))) (l18 : K.lookup f18 = some ⟨oc18, od18, .func (PySem.W.fnOf "law" "law" (defArgs s_law) (defBody s_law) (defScope s_law) .none kV18 dc18 pm18 an18 cd18 ct18), sl18⟩) (c18 : PySem.W.codeIn K cd18 "law" = true) (k18 : PySem.W.keepIn K (.ref f18) = true)
    (z_abs : PySem.W.nsIn K mainGlobals "abs" = some none)
    (z_int : PySem.W.nsIn K mainGlobals "int" = some none)
    (z_isinstance : PySem.W.nsIn K mainGlobals "isinstance" = some none)
    (z_len : PySem.W.nsIn K mainGlobals "len" = some none)
    (z_min : PySem.W.nsIn K mainGlobals "min" = some none)
    (z_range : PySem.W.nsIn K mainGlobals "range" = some none)
    (z_repr : PySem.W.nsIn K mainGlobals "repr" = some none)
    (z_str : PySem.W.nsIn K mainGlobals "str" = some none)
    (z_tuple : PySem.W.nsIn K mainGlobals "tuple" = some none)
    (v_MAX_DIMS : PySem.W.nsIn K mainGlobals "MAX_DIMS" = some (some (.int 4 tMAX_DIMS)))
    (v_MAX_KINDS : PySem.W.nsIn K mainGlobals "MAX_KINDS" = some (some (.int 4 tMAX_KINDS)))
    (v_MAX_SIDE : PySem.W.nsIn K mainGlobals "MAX_SIDE" = some (some (.int 1000000000000 tMAX_SIDE)))
    {CBadText IBadText BBadText0 : Addr} {nmBadText qBadText : Str} {NBadText : Addr} {bsBadText subBadText : List Value} {snBadText : List Str} {abBadText : Bool} {colBadText : Option Bool} {ddBadText odBadText anBadText : Option Addr} {m0BadText m1BadText m2BadText m3BadText m5BadText : Option Value} {slBadText : Array (Option Value)} {ocBadText kVBadText dcBadText pmBadText cdBadText ctBadText : Value}
    (aCBadText : PySem.W.nsIn K mainGlobals "BadText" = some (some (.ref CBadText)))
    (xLBadText : K.lookup CBadText = some (excClassObj nmBadText qBadText CBadText NBadText bsBadText [.ref BBadText0, .type "ValueError", .type "Exception", .type "BaseException", .type "object"] true snBadText subBadText abBadText colBadText ddBadText m0BadText m1BadText m2BadText m3BadText m5BadText "ValueError.__new__"))
    (saBadText : PySem.W.findIn K (.ref CBadText) "__setattr__" = some (some (.builtin "object.__setattr__")))
    (gaBadText : PySem.W.findIn K (.ref CBadText) "__getattribute__" = some (some (.builtin "BaseException.__getattribute__")))
    (gtBadText : PySem.W.findIn K (.ref CBadText) "__getattr__" = some none)
    (hdBadText : PySem.W.hasDictIn K CBadText = true)
    (nbBadText : PySem.W.findIn K (.ref CBadText) "place" = some none)
    (iABadText : PySem.W.findIn K (.ref CBadText) "__init__" = some (some (.ref IBadText)))
    (tABadText : PySem.W.typeIn K (.ref IBadText) = some (.type "function"))
    (lABadText : K.lookup IBadText = some ⟨ocBadText, odBadText, .func (PySem.W.fnOf "__init__" "BadText.__init__" (defArgs s_ini_BadText) (defBody s_ini_BadText) (defScope s_ini_BadText) .none kVBadText dcBadText pmBadText anBadText cdBadText ctBadText), slBadText⟩)
    (cABadText : PySem.W.codeIn K cdBadText "BadText.__init__" = true)
    (kABadText : PySem.W.keepIn K (.ref IBadText) = true)
    (kCBadText : PySem.W.keepIn K (.ref CBadText) = true)
    (eCBadText : PySem.W.subIn K (.ref CBadText) (.type "BaseException") = some true)
    (tCBadText : PySem.W.typeIn K (.ref CBadText) = some (.type "type"))
    (hCBadText : PySem.W.isClsIn K CBadText = true)
    (sCBadText : PySem.W.subIn K (.ref CBadText) (.ref CBadText) = some true)
    : ∃ fd : FuncData, (∀ (s : Shared) (v : Value), BindsTo s fd ⟨[v], []⟩ [("_law_script", v)]) ∧ ∀ base : Heap, K.In base → base.Ns mainGlobals mg → TB.AtTop l.prog w K mg base fa fd "_law_script" (spLaw K) := by
  have e := hfa.symm.trans (PySem.W.mg_of X G a18)
  cases e
  have T : Txt mg := ⟨PySem.W.mg_none_of X G z_abs, PySem.W.mg_none_of X G z_int, PySem.W.mg_none_of X G z_isinstance, PySem.W.mg_none_of X G z_len, PySem.W.mg_none_of X G z_min, PySem.W.mg_none_of X G z_range, PySem.W.mg_none_of X G z_repr, PySem.W.mg_none_of X G z_str, PySem.W.mg_none_of X G z_tuple, ⟨_, PySem.W.mg_of X G v_MAX_DIMS⟩, ⟨_, PySem.W.mg_of X G v_MAX_KINDS⟩, ⟨_, PySem.W.mg_of X G v_MAX_SIDE⟩⟩
  have F1 := fun_mk (st := s_number_at) l1 c1 k1
  have F2 := fun_mk (st := s_sides_at) l2 c2 k2
  have F3 := fun_mk (st := s_parse_kinds) l3 c3 k3
  have F4 := fun_mk (st := s__law_deck) l4 c4 k4
  have F5 := fun_mk (st := s__law_draw) l5 c5 k5
  have F6 := fun_mk (st := s__law_one) l6 c6 k6
  have F7 := fun_mk (st := s__law_odd) l7 c7 k7
  have F8 := fun_mk (st := s__law_far) l8 c8 k8
  have F9 := fun_mk (st := s__law_wide) l9 c9 k9
  have F10 := fun_mk (st := s__law_sides_text) l10 c10 k10
  have F11 := fun_mk (st := s__law_kinds_text) l11 c11 k11
  have F12 := fun_mk (st := s__law_is_number) l12 c12 k12
  have F13 := fun_mk (st := s__law_is_group) l13 c13 k13
  have F14 := fun_mk (st := s__law_is_text) l14 c14 k14
  have F15 := fun_mk (st := s__law_due) l15 c15 k15
  have F16 := fun_mk (st := s__law_told) l16 c16 k16
  have F17 := fun_mk (st := s__law_spoilt) l17 c17 k17
  have F18 := fun_mk (st := s_law) l18 c18 k18
  refine ⟨PySem.W.fnOf "law" "law" (defArgs s_law) (defBody s_law) (defScope s_law) .none kV18 dc18 pm18 an18 cd18 ct18, fun s v => .of_eq rfl, fun base _ _ => ?_⟩
  have FIBadText := fun_mk (st := s_ini_BadText) lABadText cABadText kABadText
  have OBadText : OexC K CBadText := ⟨⟨_, _, _, _, _, _, _, _, _, _, _, _, _, _, _, xLBadText, rfl⟩, saBadText, eCBadText, tCBadText, kCBadText⟩
  have E_BadText : TB.ErrC l.prog w K mg base "BadText" "place" CBadText := ⟨PySem.W.mg_of X G aCBadText, OBadText, ⟨gaBadText, gtBadText, eCBadText, hdBadText⟩, nbBadText, TB.exm_own eCBadText hCBadText tCBadText sCBadText, _, _, _, iABadText, tABadText, FIBadText.binds (ps := ["self", "place"]) fun _ _ _ _ _ _ us hl => match us, hl with | [_, _], _ => rfl, ok_ini_BadText FIBadText OBadText nbBadText⟩
  have h_number_at := TB.keeps_of (F := F1) (PySem.W.mg_of X G a1) (F1.binds (ps := p_number_at) fun _ _ _ _ _ _ us hl => match us, hl with | [_, _], _ => rfl) (ok_number_at (P := l.prog) (w := w) (base := base) T F1 )
  have h_sides_at := TB.keepsX_of (F := F2) (PySem.W.mg_of X G a2) (F2.binds (ps := p_sides_at) fun _ _ _ _ _ _ us hl => match us, hl with | [_, _, _, _], _ => rfl) (ok_sides_at (P := l.prog) (w := w) (base := base) T F2 E_BadText h_number_at)
  have h_parse_kinds := TB.keepsX_of (F := F3) (PySem.W.mg_of X G a3) (F3.binds (ps := p_parse_kinds) fun _ _ _ _ _ _ us hl => match us, hl with | [_], _ => rfl) (ok_parse_kinds (P := l.prog) (w := w) (base := base) T F3 E_BadText h_sides_at)
  have h__law_deck := TB.keeps_of (F := F4) (PySem.W.mg_of X G a4) (F4.binds (ps := p__law_deck) fun _ _ _ _ _ _ us hl => match us, hl with | [_], _ => rfl) (ok__law_deck (P := l.prog) (w := w) (base := base) T F4 )
  have h__law_draw := TB.keeps_of (F := F5) (PySem.W.mg_of X G a5) (F5.binds (ps := p__law_draw) fun _ _ _ _ _ _ us hl => match us, hl with | [_, _], _ => rfl) (ok__law_draw (P := l.prog) (w := w) (base := base) T F5 )
  have h__law_one := TB.keeps_of (F := F6) (PySem.W.mg_of X G a6) (F6.binds (ps := p__law_one) fun _ _ _ _ _ _ us hl => match us, hl with | [_, _], _ => rfl) (ok__law_one (P := l.prog) (w := w) (base := base) T F6 h__law_draw)
  have h__law_odd := TB.keeps_of (F := F7) (PySem.W.mg_of X G a7) (F7.binds (ps := p__law_odd) fun _ _ _ _ _ _ us hl => match us, hl with | [_], _ => rfl) (ok__law_odd (P := l.prog) (w := w) (base := base) T F7 h__law_one)
  have h__law_far := TB.keeps_of (F := F8) (PySem.W.mg_of X G a8) (F8.binds (ps := p__law_far) fun _ _ _ _ _ _ us hl => match us, hl with | [_], _ => rfl) (ok__law_far (P := l.prog) (w := w) (base := base) T F8 h__law_draw h__law_one)
  have h__law_wide := TB.keeps_of (F := F9) (PySem.W.mg_of X G a9) (F9.binds (ps := p__law_wide) fun _ _ _ _ _ _ us hl => match us, hl with | [_, _], _ => rfl) (ok__law_wide (P := l.prog) (w := w) (base := base) T F9 h__law_far)
  have h__law_sides_text := TB.keeps_of (F := F10) (PySem.W.mg_of X G a10) (F10.binds (ps := p__law_sides_text) fun _ _ _ _ _ _ us hl => match us, hl with | [_], _ => rfl) (ok__law_sides_text (P := l.prog) (w := w) (base := base) T F10 )
  have h__law_kinds_text := TB.keeps_of (F := F11) (PySem.W.mg_of X G a11) (F11.binds (ps := p__law_kinds_text) fun _ _ _ _ _ _ us hl => match us, hl with | [_], _ => rfl) (ok__law_kinds_text (P := l.prog) (w := w) (base := base) T F11 h__law_sides_text)
  have h__law_is_number := TB.keeps_of (F := F12) (PySem.W.mg_of X G a12) (F12.binds (ps := p__law_is_number) fun _ _ _ _ _ _ us hl => match us, hl with | [_, _], _ => rfl) (ok__law_is_number (P := l.prog) (w := w) (base := base) T F12 )
  have h__law_is_group := TB.keeps_of (F := F13) (PySem.W.mg_of X G a13) (F13.binds (ps := p__law_is_group) fun _ _ _ _ _ _ us hl => match us, hl with | [_, _, _], _ => rfl) (ok__law_is_group (P := l.prog) (w := w) (base := base) T F13 h__law_is_number)
  have h__law_is_text := TB.keeps_of (F := F14) (PySem.W.mg_of X G a14) (F14.binds (ps := p__law_is_text) fun _ _ _ _ _ _ us hl => match us, hl with | [_, _], _ => rfl) (ok__law_is_text (P := l.prog) (w := w) (base := base) T F14 h__law_is_group)
  have h__law_due := TB.keeps_of (F := F15) (PySem.W.mg_of X G a15) (F15.binds (ps := p__law_due) fun _ _ _ _ _ _ us hl => match us, hl with | [_], _ => rfl) (ok__law_due (P := l.prog) (w := w) (base := base) T F15 h__law_is_text)
  have h__law_told := TB.keeps_of (F := F16) (PySem.W.mg_of X G a16) (F16.binds (ps := p__law_told) fun _ _ _ _ _ _ us hl => match us, hl with | [_], _ => rfl) (ok__law_told (P := l.prog) (w := w) (base := base) T F16 E_BadText h_parse_kinds)
  have h__law_spoilt := TB.keeps_of (F := F17) (PySem.W.mg_of X G a17) (F17.binds (ps := p__law_spoilt) fun _ _ _ _ _ _ us hl => match us, hl with | [_, _], _ => rfl) (ok__law_spoilt (P := l.prog) (w := w) (base := base) T F17 h__law_draw h__law_one)
  exact ok_law T F18 h__law_deck h__law_draw h__law_odd h__law_wide h__law_kinds_text h__law_due h__law_told h__law_spoilt

end K06
open PySem PySem.W PyProof.Rows
set_option maxHeartbeats 0 in
theorem PySem.Challenge.cw_twobricks_k06_texts_of_no_kinds_holds : PySem.Challenge.rw_twobricks_k06_texts_of_no_kinds.Holds := by
  w_on; o_law; k_head; (case hw => w_witness2)
  k_fill
  refine TB.walk_top (l := PySem.Challenge.rw_twobricks_k06_texts_of_no_kinds) (n := 63) (x := "_law_script") (sp := fun w => K06.spLaw _) rfl (by decide) rfl (fun w h Y => PySem.W.kIn_of Y) ?F (fun _ _ a ns hl _ _ hS => K06.sp_start hl hS)
  case F =>
    intro w mg fa h KX G hmg
    refine' K06.all_mk KX G hmg ?a1 ?l1 ?c1 ?k1 ?a2 ?l2 ?c2 ?k2 ?a3 ?l3 ?c3 ?k3 ?a4 ?l4 ?c4 ?k4 ?a5 ?l5 ?c5 ?k5 ?a6 ?l6 ?c6 ?k6 ?a7 ?l7 ?c7 ?k7 ?a8 ?l8 ?c8 ?k8 ?a9 ?l9 ?c9 ?k9 ?a10 ?l10 ?c10 ?k10 ?a11 ?l11 ?c11 ?k11 ?a12 ?l12 ?c12 ?k12 ?a13 ?l13 ?c13 ?k13 ?a14 ?l14 ?c14 ?k14 ?a15 ?l15 ?c15 ?k15 ?a16 ?l16 ?c16 ?k16 ?a17 ?l17 ?c17 ?k17 ?a18 ?l18 ?c18 ?k18 ?z_abs ?z_int ?z_isinstance ?z_len ?z_min ?z_range ?z_repr ?z_str ?z_tuple ?v_MAX_DIMS ?v_MAX_KINDS ?v_MAX_SIDE ?aCBadText ?xLBadText ?saBadText ?gaBadText ?gtBadText ?hdBadText ?nbBadText ?iABadText ?tABadText ?lABadText ?cABadText ?kABadText ?kCBadText ?eCBadText ?tCBadText ?hCBadText ?sCBadText
    (case a1 => k_is)
    (case l1 => k_is)
    (case c1 => k_is)
    (case k1 => k_is)
    (case a2 => k_is)
    (case l2 => k_is)
    (case c2 => k_is)
    (case k2 => k_is)
    (case a3 => k_is)
    (case l3 => k_is)
    (case c3 => k_is)
    (case k3 => k_is)
    (case a4 => k_is)
    (case l4 => k_is)
    (case c4 => k_is)
    (case k4 => k_is)
    (case a5 => k_is)
    (case l5 => k_is)
    (case c5 => k_is)
    (case k5 => k_is)
    (case a6 => k_is)
    (case l6 => k_is)
    (case c6 => k_is)
    (case k6 => k_is)
    (case a7 => k_is)
    (case l7 => k_is)
    (case c7 => k_is)
    (case k7 => k_is)
    (case a8 => k_is)
    (case l8 => k_is)
    (case c8 => k_is)
    (case k8 => k_is)
    (case a9 => k_is)
    (case l9 => k_is)
    (case c9 => k_is)
    (case k9 => k_is)
    (case a10 => k_is)
    (case l10 => k_is)
    (case c10 => k_is)
    (case k10 => k_is)
    (case a11 => k_is)
    (case l11 => k_is)
    (case c11 => k_is)
    (case k11 => k_is)
    (case a12 => k_is)
    (case l12 => k_is)
    (case c12 => k_is)
    (case k12 => k_is)
    (case a13 => k_is)
    (case l13 => k_is)
    (case c13 => k_is)
    (case k13 => k_is)
    (case a14 => k_is)
    (case l14 => k_is)
    (case c14 => k_is)
    (case k14 => k_is)
    (case a15 => k_is)
    (case l15 => k_is)
    (case c15 => k_is)
    (case k15 => k_is)
    (case a16 => k_is)
    (case l16 => k_is)
    (case c16 => k_is)
    (case k16 => k_is)
    (case a17 => k_is)
    (case l17 => k_is)
    (case c17 => k_is)
    (case k17 => k_is)
    (case a18 => k_is)
    (case l18 => k_is)
    (case c18 => k_is)
    (case k18 => k_is)
    (case z_abs => k_is)
    (case z_int => k_is)
    (case z_isinstance => k_is)
    (case z_len => k_is)
    (case z_min => k_is)
    (case z_range => k_is)
    (case z_repr => k_is)
    (case z_str => k_is)
    (case z_tuple => k_is)
    (case v_MAX_DIMS => k_is)
    (case v_MAX_KINDS => k_is)
    (case v_MAX_SIDE => k_is)
    (case aCBadText => k_is)
    (case xLBadText => k_is)
    (case saBadText => k_is)
    (case gaBadText => k_is)
    (case gtBadText => k_is)
    (case hdBadText => k_is)
    (case nbBadText => k_is)
    (case iABadText => k_is)
    (case tABadText => k_is)
    (case lABadText => k_is)
    (case cABadText => k_is)
    (case kABadText => k_is)
    (case kCBadText => k_is)
    (case eCBadText => k_is)
    (case tCBadText => k_is)
    (case hCBadText => k_is)
    (case sCBadText => first | k_is | rfl)
