import PyProof.Rows.All
import Wide.All
import OpenK.AllK
import Wide.FinOn
import HandS.ForMost
import HandS.Wide
import HandS.EndBits
import HandS.TupAny
import HandS.Style
import HandS.IsInst
import HandS.Evl
import PyProof.ReprRoads
import KE.KIntText
import KE.GoesMore
import HandS.Zip
import HandS.Steps
import HandS.ExcInit
import HandS.ExcField
import HandS.WordsExc
import HandS.Walk
import HandS.TupMul
import HandS.Gcd
import KE.DatumOrd
import HandS.Conv
import HandS.SortKw
import KE.SortData
import PySem.Challenge.RW_twobricks_k29_whole_pairs_of_great_brick
set_option Elab.async false
set_option linter.all false
set_option maxRecDepth 100000
/-! The base of the law proofs of Twobricks: repr of data, the end of a row whose law asks repr (its guards told). -/
namespace TB
open PySem PySem.Spec PyProof.Rows L2
/-! ### data in the abstract heap, dicts of nothing among them -/
mutual
inductive Rp (K : PySem.W.Frag) (H : Hp) : V → PyData → Prop
  | non : Rp K H .non .none
  | bl (b : Bool) : Rp K H (.bl b) (.bool b)
  | int (i : Int) : Rp K H (.int i) (.int i)
  | str (x : Str) : Rp K H (.str x) (.str x)
  | lst {a : Addr} {xs : List V} {ds : List PyData} : SqL K H a xs → RpAll K H xs ds → Rp K H (.ref a) (.list ds)
  | tup {a : Addr} {xs : List V} {ds : List PyData} : SqT K H a xs → RpAll K H xs ds → Rp K H (.ref a) (.tuple ds)
inductive RpAll (K : PySem.W.Frag) (H : Hp) : List V → List PyData → Prop
  | nil : RpAll K H [] []
  | cons {v : V} {vs : List V} {d : PyData} {ds : List PyData} : Rp K H v d → RpAll K H vs ds → RpAll K H (v :: vs) (d :: ds)
end
section
variable {X : Cx} {pins : List (Addr × Obj)} {σ : L2.St} {H : Hp} {s : Shared}
mutual
theorem Rp.reads (J : Inv X pins σ H s) : ∀ (e : PyData) (z : V) (y : Value), Rp X.K H z e → RelV z y → (∃ as, Reads s.heap y e as) ∧ e.hasDict = false
  | .none, _, _, q, r => by
    cases q; cases r
    exact ⟨⟨_, Reads.none⟩, rfl⟩
  | .bool c, _, _, q, r => by
    cases q; cases r
    exact ⟨⟨_, Reads.bool c⟩, rfl⟩
  | .int j, _, _, q, r => by
    cases q
    obtain ⟨tk, rfl⟩ := r
    exact ⟨⟨_, Reads.int j tk⟩, rfl⟩
  | .str y, _, _, q, r => by
    cases q
    obtain ⟨tk, rfl⟩ := r
    exact ⟨⟨_, Reads.str y tk⟩, rfl⟩
  | .list es, _, _, q, r => by
    cases q with
    | lst hq hz =>
      cases r
      obtain ⟨iq, rz, ⟨oq, nq, hoq, hcq, _, hdq⟩, _⟩ := J.list hq
      obtain ⟨⟨as, hr⟩, hn⟩ := Rp.readsAll J es _ iq hz rz
      exact ⟨⟨_, Reads.list hoq hcq hdq hr⟩, hn⟩
  | .tuple es, _, _, q, r => by
    cases q with
    | tup hq hz =>
      cases r
      obtain ⟨iq, rz, ⟨oq, hoq, hcq, nq, hdq⟩, _⟩ := J.tuple hq
      obtain ⟨⟨as, hr⟩, hn⟩ := Rp.readsAll J es _ iq hz rz
      exact ⟨⟨_, Reads.tuple hoq hcq hdq hr⟩, hn⟩
  | .dict _, _, _, q, _ => by cases q
theorem Rp.readsAll (J : Inv X pins σ H s) : ∀ (es : List PyData) (zs : List V) (ys : List Value), RpAll X.K H zs es → Vals zs ys → (∃ as, ReadsAll s.heap ys es as) ∧ PyData.hasDictAll es = false
  | [], _, _, q, r => by
    cases q; cases r
    exact ⟨⟨_, ReadsAll.nil⟩, rfl⟩
  | e :: es, _, _, q, r => by
    cases q with
    | cons q1 q2 =>
      cases r with
      | cons r1 r2 =>
        obtain ⟨⟨as, g1⟩, n1⟩ := Rp.reads J e _ _ q1 r1
        obtain ⟨⟨bs, g2⟩, n2⟩ := Rp.readsAll J es _ _ q2 r2
        exact ⟨⟨_, ReadsAll.cons g1 g2⟩, by rw [PyData.hasDictAll, n1, n2]; rfl⟩
end
end
def rRep (K : PySem.W.Frag) : List V → Hp → VK → Prop := fun xs H Q =>
  ∃ z e, xs = [z] ∧ Rp K H z e ∧ e.showable = true ∧ e.depth < 60 ∧ e.shown.length ≤ sizeLine ∧ Q (.str e.shown) H
theorem call_repr {X : Cx} (hg : X.A.guards = some []) (hu : X.A.units + 64 < cLine) : CallR X (.builtin "repr") (rRep X.K) := by
  intro pins s σ H xs us Q J r h
  obtain ⟨z, e, rfl, hz, hs, hd, hl, q⟩ := h
  obtain ⟨u, rfl, ru⟩ := vals1 r
  obtain ⟨⟨as, hr⟩, hn⟩ := Rp.reads J e z u hz ru
  cases hz with
  | non =>
    cases ru
    exact PySem.P.repr_of_none ⟨.str _, H, J.tok _, ⟨_, rfl⟩, q⟩
  | bl b =>
    cases ru
    exact PySem.P.repr_of_bool ⟨.str _, H, J.tok _, ⟨_, rfl⟩, by cases b <;> exact q⟩
  | int i =>
    obtain ⟨t, rfl⟩ := ru
    exact PySem.P.repr_of_int (of_decide_eq_true hs) ⟨.str _, H, J.tok _, ⟨_, rfl⟩, q⟩
  | str x =>
    obtain ⟨t, rfl⟩ := ru
    exact PySem.P.repr_of_str (hsz := hl) ⟨.str _, H, J.tok _, ⟨_, rfl⟩, q⟩
  | lst h1 h2 =>
    cases ru
    exact repr_of_reads' hr hs (fun hx => by rw [hn] at hx; cases hx) hg (by omega) (fun b o e => e) (fun h' u tk hk => ⟨.str _, H, J.kept hk, ⟨_, rfl⟩, q⟩) hl
  | tup h1 h2 =>
    cases ru
    exact repr_of_reads' hr hs (fun hx => by rw [hn] at hx; cases hx) hg (by omega) (fun b o e => e) (fun h' u tk hk => ⟨.str _, H, J.kept hk, ⟨_, rfl⟩, q⟩) hl
/-! ### a def that is called from the row's own caller, its guards known -/
/-- what the def at fa does, called by the row's caller -/
def AtTop (P : Program) (w : World) (K : PySem.W.Frag) (mg : Str → Option Value) (base : Heap) (fa : Addr) (fd : FuncData) (x : Str) (sp : Sp) : Prop :=
  ∀ (s : Shared) (H : Hp) (u : Value) (v : V) (Q : VK) (E : XK), Env0 P w K mg base callerA [] s H → BindsTo s fd ⟨[u], []⟩ [(x, u)] → RelV v u → sp [v] H Q E →
    codeAny (model P w) callerA (.call (.ref fa) ⟨[u], []⟩) (CR CX0 [] P w H s Q E) s
theorem atTop_of {P : Program} {w : World} {K : PySem.W.Frag} {mg : Str → Option Value} {base : Heap} {k : Nat} {x qual : Str} {st : Stmt} {f : Addr} {fd : FuncData} {N : List Str} {arg : Str} {sp : Sp}
    (F : Fun K x qual st f fd) (S : FnScope N [arg] (defScope st)) (hrm : Room (k + 1) callerA)
    (hbody : ∀ (cdv : Value) (s : Shared) (H : Hp) (v : V) (Q : VK) (E : XK), Room k (callerA.deeper (envOfC qual (defScope st) s.heap.objs.size f cdv)) → sp [v] H Q E →
      ∃ t, PSs (cxOf CX0 P w K mg base N qual (defScope st) f cdv callerA [] s H E).nox (defBody st) t ∧ t { nx := fun _ H' => Q .non H', rt := Q } (start N [v]) H) :
    AtTop P w K mg base f fd arg sp := by
  intro s H u v Q E e0 hb rv hsp
  obtain ⟨oc, od, kV, doc, pm, an, cdv, ct, osl, rfl, lk, hcd⟩ := F.ex
  have kin : K.In s.heap := e0.mod.kin.keeps fun b o q => (e0.bs b o q).1
  have nolim : s.heap.NoLimit := e0.mod.nolimit.keeps fun b o q => (e0.bs b o q).1
  have kinds : ∀ y ∈ [arg].zip [u], (defScope st).names.lookup y.1 = some .local ∨ ((defScope st).names.lookup y.1 = some .cell ∧ ((cellsFrom (s.heap.objs.size + 1) (defScope st).names []).lookup y.1).isSome = true) := fun ⟨m, z⟩ hy => by
    rcases S.par m (List.of_mem_zip hy).1 with c | c
    · exact .inl c
    · exact .inr ⟨c, PySem.W.cellsFrom_some _ _ _ (.inl c)⟩
  refine codeAny_call_function hrm.depth (kin _ _ lk) rfl S.co S.gen rfl (PySem.W.codeRec_of kin hcd) (hb _ _ _ _ ?_)
  refine wpAny_newFunctionEnv_cells S.kind kinds fun env henv s1 hin => ?_
  subst henv
  refine ⟨nolim.keeps hin.toInCall.keep, codeAny_func ?_⟩
  obtain ⟨t, ht, hq⟩ := hbody cdv s H v Q E (hrm.deeper _) hsp
  have J := inv_start (CX := CX0) (E := E) S hrm.hd e0 (vs := [v]) rfl (.cons rv .nil) hin
  refine wpAny_mono (ht.nox.run [] s1 (start N [v]) H _ J hq) (fun fl s' hs => ?_) fun _ _ hs => hs
  have done : ∀ {τ : L2.St} {H' : Hp} {z : V} {y : Value}, Inv (cxOf CX0 P w K mg base N qual (defScope st) f cdv callerA [] s H E) [] τ H' s' → RelV z y → Q z H' → CE [] P w H s Q y s' :=
    fun {τ H' z y} I r q => ⟨z, H', I.os, I.bare, I.base, I.hok, r, q⟩
  cases fl with
  | ret y =>
    obtain ⟨z, τ, H', I, r, q⟩ := hs
    exact done I r q
  | next =>
    obtain ⟨τ, H', I, q⟩ := hs
    exact done (z := V.non) (y := Value.none) I rfl q
  | brk =>
    obtain ⟨_, _, _, q⟩ := hs
    exact q.elim
  | cont =>
    obtain ⟨_, _, _, q⟩ := hs
    exact q.elim
theorem law_top {P : Program} {w : World} {K : PySem.W.Frag} {mg mb : Str → Option Value} {fa a : Addr} {fd : FuncData} {x : Str} {sp : Sp} {s₁ : Shared} {vs : List Value} {ns : List Int}
    (kin : K.In s₁.heap) (gn : s₁.heap.Ns mainGlobals mg) (bn : s₁.heap.Ns builtinsNs mb) (bnb : ∀ y : Str, y ≠ "__name__" → mb y = bootBuiltins y) (nolim : s₁.heap.NoLimit) (gens : s₁.gens = #[])
    (ho : s₁.heap.get? a = some { cls := .type "list", data := .seq vs.toArray }) (hi : IntsAre vs ns) (hl : ns.length ≤ sizeLine)
    (F : ∀ base : Heap, K.In base → base.Ns mainGlobals mg → AtTop P w K mg base fa fd x sp) (hb : ∀ (s : Shared) (u : Value), BindsTo s fd ⟨[u], []⟩ [(x, u)])
    (hsp : ∀ H : Hp, Only H → SqL K H a (ns.map V.int) → sp [.ref a] H (fun v _ => v = .bl true) fun _ _ _ => False) :
    codeAny (model P w) callerA (.call (.ref fa) ⟨[.ref a], []⟩) (fun r s' => r = .ok (.ret (.bool true)) ∧ OldK s₁.heap s'.heap ∧ s'.os = s₁.os ∧ AllBare s'.gens) s₁ := by
  have rv := vals_ints hi
  have main : ∀ H : Hp, Only H → SqL K H a (ns.map V.int) → HOk P w H s₁.heap → (∀ b, H b ≠ none → b = a) → (H a ≠ none → K.lookup a = none) →
      codeAny (model P w) callerA (.call (.ref fa) ⟨[.ref a], []⟩) (fun r s' => r = .ok (.ret (.bool true)) ∧ OldK s₁.heap s'.heap ∧ s'.os = s₁.os ∧ AllBare s'.gens) s₁ := by
    intro H only hS hok onlyA noK
    have notA : ∀ {b : Addr} {o : Obj} {es : Array DictEntry} {n : Nat}, s₁.heap.get? b = some o → o.data = .dict es n → H b = none := fun {b o es n} e d => by
      cases q : H b with
      | none => rfl
      | some u =>
        have eb : b = a := onlyA b (by rw [q]; simp)
        subst eb
        rw [ho] at e
        cases e
        exact nomatch d
    have keepNs : ∀ {b : Addr} {m : Str → Option Value}, s₁.heap.Ns b m → (hidT s₁.heap H).Ns b m := fun {b m} ⟨o, es, n, e, d, r⟩ => ⟨o, es, n, hidT_get e (notA e d), d, r⟩
    have kinT : K.In (hidT s₁.heap H) := fun b o e => hidT_get (kin b o e) (by
      cases q : H b with
      | none => rfl
      | some u =>
        have eb : b = a := onlyA b (by rw [q]; simp)
        subst eb
        rw [noK (by rw [q]; simp)] at e
        cases e)
    have hM : Mod K mg (hidT s₁.heap H) := ⟨kinT, keepNs gn, ⟨mb, keepNs bn, bnb⟩, let ⟨mc, c1, c2⟩ := nolim; ⟨mc, keepNs c1, c2⟩⟩
    have e0 : Env0 P w K mg (hidT s₁.heap H) callerA [] s₁ H := ⟨rfl, hM, fun b o e => of_hidT e, Nat.le_of_eq (hidT_size _ _), trivial, fun b hb => (by cases hb), hok, .of_eq gens⟩
    refine codeAny_mono (F _ kinT (keepNs gn) s₁ H (.ref a) (.ref a) _ _ e0 (hb s₁ (.ref a)) rfl (hsp H only hS)) fun r s' h => ?_
    cases r with
    | error e => exact False.elim h
    | ok fl =>
      cases fl with
      | next => exact h.elim
      | brk => exact h.elim
      | cont => exact h.elim
      | ret u =>
        obtain ⟨v, H', os, bare, un, hok', r', q⟩ := h
        have q' : v = .bl true := q
        subst q'
        cases r'
        refine ⟨rfl, OldK.of_keep fun b o e => ?_, os, bare⟩
        cases q : H b with
        | none => exact un.keep b o e q (fun z => by cases z) (fun z => by cases z)
        | some u =>
          rcases only b with z | ⟨ob, xs, z⟩
          · rw [q] at z; cases z
          · obtain ⟨e1, _⟩ := hok b _ z
            obtain ⟨e2, _⟩ := hok' b _ (un.frzs b ob _ z)
            rw [e] at e1
            cases e1
            exact e2
  cases hk : K.lookup a with
  | some o =>
    have e := kin a o hk
    rw [ho] at e
    cases e
    exact main (fun _ => none) (fun _ => .inl rfl) (.inr ⟨_, vs.toArray, _, hk, rfl, rfl, rfl, by rw [List.size_toArray, hi.length]; exact hl, by simpa using rv⟩) (fun b u z => nomatch z) (fun b z => (z rfl).elim) fun z => (z rfl).elim
  | none =>
    refine main (fun b => if b = a then some (.frz { cls := .type "list", data := .seq vs.toArray } (.lst (ns.map V.int))) else none) (fun b => ?_) (.inl (.inr ⟨{ cls := .type "list", data := .seq vs.toArray }, if_pos rfl⟩)) (fun b u z => ?_) (fun b z => ?_) fun _ => hk
    · by_cases eb : b = a
      · exact .inr ⟨_, _, if_pos eb⟩
      · exact .inl (if_neg eb)
    · by_cases eb : b = a
      · have z' := (if_pos eb).symm.trans z
        cases z'
        subst eb
        exact ⟨ho, by rw [List.length_map]; exact hl, vs, _, rv, ho⟩
      · exact nomatch (if_neg eb).symm.trans z
    · by_cases eb : b = a
      · exact eb
      · exact (z (if_neg eb)).elim
/-- the goal behind the head, from the law's promise at its caller; the script's bits told -/
theorem walk_top {l : PySem.W.OpenLaw} {n : Nat} {q : Program} {loose : List Str} {XP : (Str → Option Value) → Heap → Prop} {YP : World → Heap → Prop} {d : DefRec} {K : Params → PySem.W.Frag} {sp : World → Sp} {x : Str}
    (hn : l.most = some n) (hn2 : n ≤ sizeLine) (hdf : d.params.defaults = [])
    (hY : ∀ (w : World) (h : Heap), YP w h → (K w.params).In h)
    (F : ∀ (w : World) (mg : Str → Option Value) (fa : Addr) (h : Heap), (K w.params).In h → h.Ns mainGlobals mg → mg d.name = some (.ref fa) →
      ∃ fd : FuncData, (∀ (s : Shared) (u : Value), BindsTo s fd ⟨[u], []⟩ [(x, u)]) ∧ ∀ base : Heap, (K w.params).In base → base.Ns mainGlobals mg → AtTop l.prog w (K w.params) mg base fa fd x (sp w))
    (hsp : ∀ (w : World) (H : Hp) (a : Addr) (ns : List Int), ns.length ≤ n → (∀ z ∈ ns, Builtin.Int.intBits z ≤ 1048576) → Only H → SqL (K w.params) H a (ns.map V.int) → sp w [.ref a] H (fun v _ => v = .bl true) fun _ _ _ => False) :
    PySem.W.WalkO q loose XP YP l.row.toRowW d [] (fun f vs => PySem.call f vs) := by
  refine Att.attach_callB hn hdf fun w s₀ s₁ mg mb fa o pm cd doc a vs ns G Y _ _ _ hmg hobj hints hlen hbits hg => ?_
  have kin := hY w _ Y
  obtain ⟨fd, hb, hF⟩ := F w mg fa _ kin G.T.g hmg
  exact law_top kin G.T.g G.T.b G.T.builtins G.T.nolimit hg hobj hints (Nat.le_trans hlen hn2) hF hb fun H hO hS => hsp w H a ns hlen hbits hO hS
end TB
namespace TB
open PySem PySem.Spec PyProof.Rows L2 Evl
/-! ### a def that keeps a promise, called by its name -/
def Keeps (P : Program) (w : World) (K : PySem.W.Frag) (mg : Str → Option Value) (base : Heap) (k : Nat) (x : Str) (ps : List Str) (sp : Sp) : Prop :=
  ∃ (f : Addr) (fd : FuncData), mg x = some (.ref f) ∧ PySem.W.keepIn K (.ref f) = true ∧ Binds K fd ps [] ∧ FnOk P w K mg base CX0 k f fd ps sp
theorem keeps_of {P : Program} {w : World} {K : PySem.W.Frag} {mg : Str → Option Value} {base : Heap} {k : Nat} {x q : Str} {st : Stmt} {f : Addr} {fd : FuncData} {ps : List Str} {sp : Sp}
    (F : Fun K x q st f fd) {y : Str} (g : mg y = some (.ref f)) (b : Binds K fd ps []) (G : FnOk P w K mg base CX0 k f fd ps sp) : Keeps P w K mg base k y ps sp := ⟨f, fd, g, F.kp, b, G⟩
theorem pe_own {X : Cx} {k : Nat} {x : Str} {ps : List Str} {sp : Sp} {e : Expr} {es : List Expr} {t : TA} {p pos : Pos}
    (h : Keeps X.prog X.w X.K X.mg X.base k x ps sp) (hr : Room k X.A) (hg : Gl X x) (ha : PA X (e :: es) t) (hdb : (x == ("__debug__" : Str)) = false := by decide)
    (he : starEach (e :: es) X.env = (false, eval e X.env) :: starEach es X.env := by rfl) (hpl : (backTo pos (starEach es X.env)).any (·.1) = false := by rfl) :
    PE X (.Call (.Name x p) (e :: es) [] pos) (tCall sp [] E0 t) := by
  obtain ⟨f, fd, g, kp, b, G⟩ := h
  exact pe_call G hr hg g kp b .nil pass0 ha hdb he hpl
theorem pe_con {X : Cx} {x : Str} {i : Int} {pos : Pos} (hg : Gl X x) (h : ∃ t, X.mg x = some (.int i t)) (hdb : (x == ("__debug__" : Str)) = false := by decide) : PE X (.Name x pos) (tC (.int i)) := by
  obtain ⟨t, h⟩ := h
  exact pe_glob hg h ⟨t, rfl⟩ hdb
/-! ### the deck of drawn numbers -/
/-- at d stands the deck: the great numbers at g, all numbers at l, a count -/
def Deck (H : Hp) (d g l : Addr) : Prop := ∃ (gs ls : List Int) (c : Int),
  H d = some (.lst [.ref g, .ref l, .int c]) ∧ H g = some (.lst (gs.map V.int)) ∧ H l = some (.lst (ls.map V.int)) ∧ d ≠ g ∧ d ≠ l ∧ g ≠ l ∧ 0 < ls.length
/-- all but the deck's two changing lists stands as before -/
def Off (d g : Addr) (H H' : Hp) : Prop := ∀ a o, H a = some o → a ≠ d → a ≠ g → H' a = some o
theorem Off.refl {d g : Addr} {H : Hp} : Off d g H H := fun _ _ e _ _ => e
theorem Off.trans {d g : Addr} {H H1 H2 : Hp} (a : Off d g H H1) (b : Off d g H1 H2) : Off d g H H2 := fun x o e n m => b x o (a x o e n m) n m
theorem Off.of {d g : Addr} {H H' : Hp} (e : Ex H H') : Off d g H H' := fun a o h _ _ => e a o h
theorem Deck.ex {H H' : Hp} {d g l : Addr} (e : Ex H H') (h : Deck H d g l) : Deck H' d g l := by
  obtain ⟨gs, ls, c, h1, h2, h3, r⟩ := h
  exact ⟨gs, ls, c, e _ _ h1, e _ _ h2, e _ _ h3, r⟩
theorem Deck.ne {H : Hp} {d g l a : Addr} (h : Deck H d g l) (n : H a = none) : a ≠ d ∧ a ≠ g := by
  obtain ⟨gs, ls, c, h1, h2, h3, r⟩ := h
  exact ⟨fun q => (by rw [q, h1] at n; cases n), fun q => (by rw [q, h2] at n; cases n)⟩
/-- a tuple is none of the deck's lists -/
theorem Off.tup {d g l a : Addr} {H H' : Hp} {xs : List V} (e : Off d g H H') (D : Deck H d g l) (h : H a = some (.tup xs)) : H' a = some (.tup xs) := by
  obtain ⟨gs, ls, c, h1, h2, h3, r⟩ := D
  exact e a _ h (fun q => by rw [q, h1] at h; cases h) fun q => by rw [q, h2] at h; cases h
theorem Off.sqT {K : PySem.W.Frag} {d g l a : Addr} {H H' : Hp} {xs : List V} (e : Off d g H H') (D : Deck H d g l) (h : SqT K H a xs) : SqT K H' a xs := by
  obtain ⟨gs, ls, c, h1, h2, h3, r⟩ := D
  rcases h with (h | ⟨o, h⟩) | h
  · exact .inl (.inl (e a _ h (fun q => by rw [q, h1] at h; cases h) fun q => by rw [q, h2] at h; cases h))
  · exact .inl (.inr ⟨o, e a _ h (fun q => by rw [q, h1] at h; cases h) (fun q => by rw [q, h2] at h; cases h)⟩)
  · exact .inr h
def spDeck (K : PySem.W.Frag) : Sp := fun vs H Q _ => ∃ (a : Addr) (ns : List Int), vs = [.ref a] ∧ SqL K H a (ns.map V.int) ∧ ns.length ≤ 63 ∧
  ∀ d g l H', Ex H H' → H d = none → H g = none → Deck H' d g l → Q (.ref d) H'
def spDraw : Sp := fun vs H Q _ => ∃ (d g l : Addr) (m : Int), vs = [.ref d, .int m] ∧ 0 < m ∧ m ≤ 1000000000000000000 ∧ Deck H d g l ∧
  ∀ r H', 0 ≤ r → r < m → Deck H' d g l → Off d g H H' → Q (.int r) H'
def spOne : Sp := fun vs H Q _ => ∃ (d g l p : Addr) (xs : List V), vs = [.ref d, .ref p] ∧ Deck H d g l ∧ H p = some (.lst xs) ∧ p ≠ d ∧ p ≠ g ∧ 0 < xs.length ∧ xs.length ≤ 100000 ∧
  ∀ (i : Nat) (v : V) H', xs[i]? = some v → Deck H' d g l → Off d g H H' → Q v H'
theorem fmod_rng {a m : Int} (h : 0 < m) : 0 ≤ a.fmod m ∧ a.fmod m < m := ⟨Int.fmod_nonneg_of_pos a h, Int.fmod_lt_of_pos a h⟩
theorem fmod_small {a m : Int} (h : 0 < m) (h2 : m ≤ 2 ^ 64) : -(2 ^ 64) < a.fmod m ∧ a.fmod m < 2 ^ 64 := by
  have := fmod_rng (a := a) h
  omega
theorem ixN_zero {n : Nat} (h : 0 < n) : ixN n 0 = some 0 := by
  unfold ixN
  rw [if_pos (by omega), if_pos (by omega)]
  rfl
theorem size_small {n : Nat} (h : n ≤ 100000) : n ≤ sizeLine := Nat.le_trans h (by decide)
theorem size_small' {n : Nat} (h : n ≤ 100000) : n < sizeLine := Nat.lt_of_le_of_lt h (by decide)
end TB

namespace TB
open PySem PySem.Spec PyProof.Rows L2 Evl
/-! ### data kept -/
mutual
def flatD : PyData → Bool
  | .none | .bool _ | .int _ | .str _ => true
  | .list _ => false
  | .tuple ds => flatDs ds
  | .dict _ => false
def flatDs : List PyData → Bool
  | [] => true
  | d :: ds => flatD d && flatDs ds
end
section
variable {K : PySem.W.Frag} {H H' : Hp}
mutual
theorem Rp.ex (x : Ex H H') : ∀ (e : PyData) (z : V), Rp K H z e → Rp K H' z e
  | .none, _, q => by cases q; exact .non
  | .bool c, _, q => by cases q; exact .bl c
  | .int j, _, q => by cases q; exact .int j
  | .str y, _, q => by cases q; exact .str y
  | .list es, _, q => by
    cases q with
    | lst hq hz => exact .lst (ex_l x hq) (RpAll.ex x es _ hz)
  | .tuple es, _, q => by
    cases q with
    | tup hq hz => exact .tup (ex_t x hq) (RpAll.ex x es _ hz)
  | .dict _, _, q => by cases q
theorem RpAll.ex (x : Ex H H') : ∀ (es : List PyData) (zs : List V), RpAll K H zs es → RpAll K H' zs es
  | [], _, q => by cases q; exact .nil
  | e :: es, _, q => by
    cases q with
    | cons q1 q2 => exact .cons (Rp.ex x e _ q1) (RpAll.ex x es _ q2)
end
mutual
/-- what holds no lists stays when numbers are drawn -/
theorem Rp.off {d g l : Addr} (D : Deck H d g l) (x : Off d g H H') : ∀ (e : PyData) (z : V), flatD e = true → Rp K H z e → Rp K H' z e
  | .none, _, _, q => by cases q; exact .non
  | .bool c, _, _, q => by cases q; exact .bl c
  | .int j, _, _, q => by cases q; exact .int j
  | .str y, _, _, q => by cases q; exact .str y
  | .list es, _, f, q => by rw [flatD] at f; cases f
  | .tuple es, _, f, q => by
    rw [flatD] at f
    cases q with
    | tup hq hz => exact .tup (x.sqT D hq) (RpAll.off D x es _ f hz)
  | .dict _, _, _, q => by cases q
theorem RpAll.off {d g l : Addr} (D : Deck H d g l) (x : Off d g H H') : ∀ (es : List PyData) (zs : List V), flatDs es = true → RpAll K H zs es → RpAll K H' zs es
  | [], _, _, q => by cases q; exact .nil
  | e :: es, _, f, q => by
    rw [flatDs, Bool.and_eq_true] at f
    cases q with
    | cons q1 q2 => exact .cons (Rp.off D x e _ f.1 q1) (RpAll.off D x es _ f.2 q2)
end
theorem RpAll.len : ∀ {zs : List V} {es : List PyData}, RpAll K H zs es → zs.length = es.length
  | _, _, .nil => rfl
  | _, _, .cons _ t => congrArg (· + 1) t.len
theorem RpAll.get : ∀ {zs : List V} {es : List PyData} {i : Nat} {z : V}, RpAll K H zs es → zs[i]? = some z → ∃ e, es[i]? = some e ∧ Rp K H z e
  | _, _, _, _, .nil, h => by simp at h
  | _, _, 0, z, .cons q _, h => by simp at h; subst h; exact ⟨_, rfl, q⟩
  | _, _, i + 1, z, .cons _ t, h => by
    obtain ⟨e, h1, h2⟩ := RpAll.get (i := i) t (by simpa using h)
    exact ⟨e, by simpa using h1, h2⟩
theorem RpAll.get' : ∀ {zs : List V} {es : List PyData} {i : Nat} {e : PyData}, RpAll K H zs es → es[i]? = some e → ∃ z, zs[i]? = some z ∧ Rp K H z e
  | _, _, _, _, .nil, h => by simp at h
  | _, _, 0, e, .cons q _, h => by simp at h; subst h; exact ⟨_, rfl, q⟩
  | _, _, i + 1, e, .cons _ t, h => by
    obtain ⟨z, h1, h2⟩ := RpAll.get' (i := i) t (by simpa using h)
    exact ⟨z, by simpa using h1, h2⟩
theorem RpAll.append : ∀ {zs ys : List V} {es fs : List PyData}, RpAll K H zs es → RpAll K H ys fs → RpAll K H (zs ++ ys) (es ++ fs)
  | _, _, _, _, .nil, s => s
  | _, _, _, _, .cons q t, s => .cons q (t.append s)
theorem rpInts : ∀ ns : List Int, RpAll K H (ns.map V.int) (ns.map PyData.int)
  | [] => .nil
  | n :: ns => .cons (.int n) (rpInts ns)
theorem rpInts_inv : ∀ {ns : List Int} {zs : List V}, RpAll K H zs (ns.map PyData.int) → zs = ns.map V.int
  | [], _, h => by cases h; rfl
  | n :: ns, _, h => by
    cases h with
    | cons q t => cases q; rw [rpInts_inv t]; rfl
/-- sides as data, kinds as data -/
def tupI (ns : List Int) : PyData := .tuple (ns.map PyData.int)
def tupK (nss : List (List Int)) : PyData := .tuple (nss.map tupI)
theorem flat_ints : ∀ ns : List Int, flatDs (ns.map PyData.int) = true
  | [] => rfl
  | n :: ns => by rw [List.map_cons, flatDs, flat_ints ns]; rfl
theorem flat_tupI (ns : List Int) : flatD (tupI ns) = true := by unfold tupI; rw [flatD]; exact flat_ints ns
theorem flat_tupK (nss : List (List Int)) : flatD (tupK nss) = true := by
  unfold tupK
  rw [flatD]
  induction nss with
  | nil => rfl
  | cons n ns ih => rw [List.map_cons, flatDs, flat_tupI, ih]; rfl
theorem rp_tupI {a : Addr} {ns : List Int} (h : SqT K H a (ns.map V.int)) : Rp K H (.ref a) (tupI ns) := .tup h (rpInts ns)
theorem tupI_inv {z : V} {ns : List Int} (h : Rp K H z (tupI ns)) : ∃ a, z = .ref a ∧ SqT K H a (ns.map V.int) := by
  unfold tupI at h
  cases h with
  | tup hs ha => rw [rpInts_inv ha] at hs; exact ⟨_, rfl, hs⟩
theorem tupK_inv {z : V} {nss : List (List Int)} (h : Rp K H z (tupK nss)) : ∃ a xs, z = .ref a ∧ SqT K H a xs ∧ RpAll K H xs (nss.map tupI) := by
  unfold tupK at h
  cases h with
  | tup hs ha => exact ⟨_, _, rfl, hs, ha⟩
theorem sum_le {α : Type} (f : α → Nat) (k : Nat) : ∀ l : List α, (∀ x ∈ l, f x ≤ k) → (l.map f).sum ≤ l.length * k
  | [], _ => Nat.zero_le _
  | x :: l, h => by
    have h1 := h x List.mem_cons_self
    have h2 := sum_le f k l fun y hy => h y (List.mem_cons_of_mem _ hy)
    rw [List.map_cons, List.sum_cons, List.length_cons, Nat.succ_mul]
    omega
end
end TB

namespace TB
open PySem PySem.Spec PyProof.Rows L2 Evl
section
variable {K : PySem.W.Frag} {H : Hp}
mutual
/-- what holds no lists stays when a list changes -/
theorem Rp.mut {L : Addr} {xs : List V} {o : HO} (hL : H L = some (.lst xs)) : ∀ (e : PyData) (z : V), flatD e = true → Rp K H z e → Rp K (upd H L o) z e
  | .none, _, _, q => by cases q; exact .non
  | .bool c, _, _, q => by cases q; exact .bl c
  | .int j, _, _, q => by cases q; exact .int j
  | .str y, _, _, q => by cases q; exact .str y
  | .list es, _, f, q => by rw [flatD] at f; cases f
  | .tuple es, _, f, q => by
    rw [flatD] at f
    cases q with
    | tup hq hz =>
      refine .tup ?_ (rpAll_flat_mut hL es _ f hz)
      rcases hq with (h | ⟨ob, h⟩) | h
      · exact .inl (.inl (by rw [upd_ne (ne_of h hL (by intro z; cases z))]; exact h))
      · exact .inl (.inr ⟨ob, by rw [upd_ne (ne_of h hL (by intro z; cases z))]; exact h⟩)
      · exact .inr h
  | .dict _, _, _, q => by cases q
theorem rpAll_flat_mut {L : Addr} {xs : List V} {o : HO} (hL : H L = some (.lst xs)) : ∀ (es : List PyData) (zs : List V), flatDs es = true → RpAll K H zs es → RpAll K (upd H L o) zs es
  | [], _, _, q => by cases q; exact .nil
  | e :: es, _, f, q => by
    rw [flatDs, Bool.and_eq_true] at f
    cases q with
    | cons q1 q2 => exact .cons (Rp.mut hL e _ f.1 q1) (rpAll_flat_mut hL es _ f.2 q2)
end
theorem flats_tupI : ∀ nss : List (List Int), flatDs (nss.map tupI) = true
  | [] => rfl
  | n :: ns => by rw [List.map_cons, flatDs, flat_tupI, flats_tupI ns]; rfl
end
end TB

namespace TB
open PySem PySem.Spec PyProof.Rows L2 Evl
section
variable {K : PySem.W.Frag} {H : Hp}
theorem cut_take {xs : List V} {k : Nat} : cutV xs none (some (k : Int)) = xs.take k := by
  unfold cutV
  rw [HT.sIx_none, HT.sIx_nat, List.drop_zero, Nat.sub_zero]
  rcases Nat.le_total k xs.length with h | h
  · rw [Nat.min_eq_left h]
  · rw [Nat.min_eq_right h, List.take_of_length_le (Nat.le_refl _), List.take_of_length_le h]
theorem RpAll.take : ∀ {zs : List V} {es : List PyData} (k : Nat), RpAll K H zs es → RpAll K H (zs.take k) (es.take k)
  | _, _, 0, _ => .nil
  | _, _, _ + 1, .nil => .nil
  | _, _, k + 1, .cons q t => .cons q (RpAll.take k t)
theorem RpAll.mem : ∀ {zs : List V} {es : List PyData} {z : V}, RpAll K H zs es → z ∈ zs → ∃ e ∈ es, Rp K H z e
  | _, _, _, .nil, h => by cases h
  | _, _, z, .cons q t, h => by
    rcases List.mem_cons.mp h with h | h
    · subst h; exact ⟨_, List.mem_cons_self, q⟩
    · obtain ⟨e, h1, h2⟩ := t.mem h
      exact ⟨e, List.mem_cons_of_mem _ h1, h2⟩
/-- t[:k] of a tuple of data: the same one, or a new one -/
theorem slA_take {z : V} {ds : List PyData} {k : Nat} {Q : VK} (hz : Rp K H z (.tuple ds)) (q : ∀ v H', Ex H H' → Rp K H' v (.tuple (ds.take k)) → Q v H') : rSlA K z none (some (k : Int)) H Q := by
  cases hz with
  | tup hs ha =>
    rename_i a xs
    refine ⟨a, xs, rfl, hs, fun h => ?_, fun _ p hp => ?_⟩
    · rw [HT.sIx_nat] at h
      have e : ds.take k = ds := List.take_of_length_le (by rw [← ha.len]; have := h.2; omega)
      exact q _ _ (fun _ _ e => e) (by rw [e]; exact .tup hs ha)
    · refine q _ _ (Ex.new hp) (.tup (.inl (.inl upd_same)) ?_)
      rw [cut_take]
      exact RpAll.ex (Ex.new hp) _ _ (ha.take k)
theorem ex_refl : Ex H H := fun _ _ e => e
/-- a list of data, made anew -/
theorem rp_new {p : Addr} {zs : List V} {ds : List PyData} (hp : H p = none) (h : RpAll K H zs ds) : Rp K (upd H p (.lst zs)) (.ref p) (.list ds) := .lst (.inl (.inl upd_same)) (RpAll.ex (Ex.new hp) _ _ h)
theorem rp_newT {p : Addr} {zs : List V} {ds : List PyData} (hp : H p = none) (h : RpAll K H zs ds) : Rp K (upd H p (.tup zs)) (.ref p) (.tuple ds) := .tup (.inl (.inl upd_same)) (RpAll.ex (Ex.new hp) _ _ h)
end
end TB

namespace TB
open PySem PySem.Spec PyProof.Rows L2
/-! readings by name, for a comprehension's block -/
abbrev rLenQ (K : PySem.W.Frag) : List V → Hp → VK → Prop := fun xs H Q => ∃ p ys, xs = [.ref p] ∧ (SqL K H p ys ∨ SqT K H p ys) ∧ Q (.int ys.length) H
abbrev rTupQ (K : PySem.W.Frag) : List V → Hp → VK → Prop := fun xs H Q => ∃ p ys, xs = [.ref p] ∧ ((SqL K H p ys ∧ ∀ l, H l = none → Q (.ref l) (upd H l (.tup ys))) ∨ (SqT K H p ys ∧ Q (.ref p) H))
abbrev rListQ (K : PySem.W.Frag) : List V → Hp → VK → Prop := fun xs H Q => ∃ p ys, xs = [.ref p] ∧ (SqL K H p ys ∨ SqT K H p ys) ∧ ∀ l, H l = none → Q (.ref l) (upd H l (.lst ys))
end TB
set_option Elab.async false
set_option linter.all false
set_option maxRecDepth 100000
/-! Texts of sides and kinds: plain mathematics. -/
namespace TB
open PySem PySem.Spec PyProof.Rows L2
abbrev cs (z : Str) : List Nat := z.cps.toList
theorem cs_app (a b : Str) : cs (a ++ b) = cs a ++ cs b := by show (a ++ b).cps.toList = _; rw [Str.cps_append, Array.toList_append]
theorem cs_len (z : Str) : (cs z).length = z.length := Array.length_toList
theorem cs_ext {a b : Str} (h : cs a = cs b) : a = b := by
  cases a; cases b
  have : ∀ {x y : Array Nat}, x.toList = y.toList → x = y := fun {x y} e => by cases x; cases y; simpa using e
  exact congrArg Str.mk (this h)
/-! ### digits -/
def digs (n : Nat) : List Nat := (Nat.toDigits 10 n).map Char.toNat
theorem digitChar_code : ∀ d : Nat, d < 10 → (Nat.digitChar d).toNat = 48 + d := by decide
theorem digs_lt {n : Nat} (h : n < 10) : digs n = [48 + n] := by
  unfold digs
  rw [Nat.toDigits_of_lt_base h, List.map_singleton, digitChar_code n h]
theorem digs_ge {n : Nat} (h : 10 ≤ n) : digs n = digs (n / 10) ++ [48 + n % 10] := by
  have hm : n % 10 < 10 := Nat.mod_lt n (by decide)
  have t : Nat.toDigits 10 (n / 10) ++ Nat.toDigits 10 (n % 10) = Nat.toDigits 10 (10 * (n / 10) + n % 10) := Nat.toDigits_append_toDigits (by decide) (by omega) hm
  rw [Nat.div_add_mod] at t
  unfold digs
  rw [← t, List.map_append, Nat.toDigits_of_lt_base hm, List.map_singleton, digitChar_code _ hm]
theorem digs_mem : ∀ (n c : Nat), c ∈ digs n → 48 ≤ c ∧ c ≤ 57 := by
  intro n
  induction n using Nat.strongRecOn with
  | _ n ih =>
    intro c hc
    by_cases h : n < 10
    · rw [digs_lt h, List.mem_singleton] at hc; omega
    · rw [digs_ge (by omega), List.mem_append] at hc
      rcases hc with hc | hc
      · exact ih _ (by omega) c hc
      · rw [List.mem_singleton] at hc; omega
theorem digs_ne (n : Nat) : digs n ≠ [] := by
  by_cases h : n < 10
  · rw [digs_lt h]; simp
  · rw [digs_ge (by omega)]; simp
theorem digs_len {n : Nat} (h : n ≤ 1000000000000) : (digs n).length ≤ 13 := by
  unfold digs
  rw [List.length_map]
  exact digits10_le (by decide) (by omega)
def numS (n : Int) : Str := Str.ofString (toString n)
theorem cs_num {n : Int} (h : 0 ≤ n) : cs (numS n) = digs n.toNat := by
  obtain ⟨m, rfl⟩ := Int.eq_ofNat_of_zero_le h
  exact PySem.W.KIN.signs_num m
/-! ### reading numbers -/
def MS : Int := 1000000000000
def scan : List Nat → Int → Nat → Int × Nat
  | [], a, p => (a, p)
  | c :: r, a, p => if 48 ≤ c ∧ c ≤ 57 ∧ 1 ≤ a * 10 + ((c : Int) - 48) ∧ a * 10 + ((c : Int) - 48) ≤ MS then scan r (a * 10 + ((c : Int) - 48)) (p + 1) else (a, p)
def NoDigit (r : List Nat) : Prop := ∀ c t, r = c :: t → ¬ (48 ≤ c ∧ c ≤ 57)
theorem scan_stop {r : List Nat} {a : Int} {p : Nat} (h : NoDigit r) : scan r a p = (a, p) := by
  cases r with
  | nil => rfl
  | cons c t =>
    have := h c t rfl
    unfold scan
    rw [if_neg (fun q => this ⟨q.1, q.2.1⟩)]
theorem scan_digs : ∀ (n : Nat), 1 ≤ n → (n : Int) ≤ MS → ∀ (r : List Nat) (p : Nat), scan (digs n ++ r) 0 p = scan r n (p + (digs n).length) := by
  intro n
  induction n using Nat.strongRecOn with
  | _ n ih =>
    intro h1 h2 r p
    have hms : MS = 1000000000000 := rfl
    by_cases h : n < 10
    · rw [digs_lt h]
      show scan ((48 + n) :: r) 0 p = _
      rw [scan, if_pos (by refine ⟨?_, ?_, ?_, ?_⟩ <;> omega)]
      congr 1
      omega
    · rw [digs_ge (by omega), List.append_assoc, ih (n / 10) (by omega) (by omega) (by omega)]
      show scan ((48 + n % 10) :: r) _ _ = _
      rw [scan, if_pos (by refine ⟨?_, ?_, ?_, ?_⟩ <;> omega), List.length_append]
      congr 1
      omega
theorem scan_rng : ∀ (l : List Nat) (a : Int) (p : Nat), 0 ≤ a → a ≤ MS → 0 ≤ (scan l a p).1 ∧ (scan l a p).1 ≤ MS ∧ p ≤ (scan l a p).2 ∧ (scan l a p).2 ≤ p + l.length
  | [], a, p, h1, h2 => ⟨h1, h2, Nat.le_refl _, Nat.le_refl _⟩
  | c :: r, a, p, h1, h2 => by
    unfold scan
    by_cases h : 48 ≤ c ∧ c ≤ 57 ∧ 1 ≤ a * 10 + ((c : Int) - 48) ∧ a * 10 + ((c : Int) - 48) ≤ MS
    · rw [if_pos h]
      have := scan_rng r (a * 10 + ((c : Int) - 48)) (p + 1) (by omega) h.2.2.2
      rw [List.length_cons]
      omega
    · rw [if_neg h]
      exact ⟨h1, h2, Nat.le_refl _, Nat.le_add_right _ _⟩
/-- the sides whose text begins at p, at most k of them; a wrong sign's place -/
def sidesL (c : List Nat) : Nat → List Int → Nat → Except Nat (List Int × Nat)
  | 0, _, p => .error p
  | k + 1, acc, p =>
    let r := scan (c.drop p) 0 p
    if r.1 = 0 then .error r.2
    else if k = 0 ∨ r.2 = c.length ∨ c[r.2]? ≠ some 120 then .ok (acc ++ [r.1], r.2)
    else sidesL c k (acc ++ [r.1]) (r.2 + 1)
/-- the same, least of them at least -/
def sidesAt (c : List Nat) (p least most : Nat) : Except Nat (List Int × Nat) :=
  match sidesL c most [] p with
  | .ok (ns, q) => if ns.length < least then .error q else .ok (ns, q)
  | .error q => .error q
def parseS (c : List Nat) : Except Nat (List Int) :=
  match sidesAt c 0 1 4 with
  | .ok (ns, q) => if q < c.length then .error q else .ok ns
  | .error q => .error q
def kindsL (c : List Nat) (n : Nat) : Nat → List (List Int) → Nat → Except Nat (List (List Int))
  | k, acc, p =>
    if p < c.length then
      if c[p]? ≠ some 32 then .error p
      else match k with
        | 0 => .error p
        | k + 1 => match sidesAt c (p + 1) n n with
          | .ok (ns, q) => kindsL c n k (acc ++ [ns]) q
          | .error q => .error q
    else .ok acc
def parseK (c : List Nat) : Except Nat (List (List Int)) :=
  match sidesAt c 0 1 4 with
  | .ok (ns, q) => kindsL c ns.length 3 [ns] q
  | .error q => .error q
/-! ### the texts -/
def gl (sep : List Nat) : List (List Nat) → List Nat
  | [] => []
  | [x] => x
  | x :: r => x ++ sep ++ gl sep r
theorem cs_join (sep : Str) : ∀ ys : List Str, cs (Txt.join sep ys) = gl (cs sep) (ys.map cs) := by
  intro ys
  show cs (Builtin.Str.glued sep ys) = _
  rw [StrLaws.glued_eq_join]
  induction ys with
  | nil => rfl
  | cons x r ih =>
    cases r with
    | nil => rfl
    | cons y r =>
      show cs (x ++ sep ++ Str.join sep (y :: r)) = cs x ++ cs sep ++ gl (cs sep) ((y :: r).map cs)
      rw [cs_app, cs_app, ih]
def sideT (ns : List Int) : Str := Txt.join "x" (ns.map numS)
def kindT (nss : List (List Int)) : Str := Txt.join " " (nss.map sideT)
def sideC (ns : List Int) : List Nat := gl [120] (ns.map fun n => digs n.toNat)
def kindC (nss : List (List Int)) : List Nat := gl [32] (nss.map sideC)
def SideOk (ns : List Int) : Prop := 1 ≤ ns.length ∧ ns.length ≤ 4 ∧ ∀ n ∈ ns, 1 ≤ n ∧ n ≤ MS
theorem cs_side {ns : List Int} (h : ∀ n ∈ ns, 1 ≤ n ∧ n ≤ MS) : cs (sideT ns) = sideC ns := by
  unfold sideT sideC
  rw [cs_join, List.map_map]
  have : cs ("x" : Str) = [120] := by decide +kernel
  rw [this]
  congr 1
  refine List.map_congr_left fun n hn => ?_
  exact cs_num (by have := (h n hn).1; omega)
theorem cs_kind {nss : List (List Int)} (h : ∀ ns ∈ nss, ∀ n ∈ ns, 1 ≤ n ∧ n ≤ MS) : cs (kindT nss) = kindC nss := by
  unfold kindT kindC
  rw [cs_join, List.map_map]
  have : cs (" " : Str) = [32] := by decide +kernel
  rw [this]
  congr 1
  exact List.map_congr_left fun ns hn => cs_side (h ns hn)
/-- what may stand behind sides that are at an end -/
def Behind (r : List Nat) : Prop := ∀ c t, r = c :: t → c = 32
theorem sidesL_text : ∀ (ns : List Int) (k : Nat) (acc : List Int) (pre r : List Nat), 1 ≤ ns.length → ns.length ≤ k → (∀ n ∈ ns, 1 ≤ n ∧ n ≤ MS) → Behind r →
    sidesL (pre ++ (sideC ns ++ r)) k acc pre.length = .ok (acc ++ ns, (pre ++ sideC ns).length)
  | [], _, _, _, _, h, _, _, _ => by simp at h
  | n :: ns, 0, _, _, _, _, h, _, _ => by simp at h
  | n :: ns, k + 1, acc, pre, r, h1, h2, h3, h4 => by
    have hn := h3 n List.mem_cons_self
    have hN : ((n.toNat : Nat) : Int) = n := Int.toNat_of_nonneg (by omega)
    have nr : NoDigit r := fun c t e q => by have := h4 c t e; omega
    unfold sidesL
    rw [List.drop_left]
    cases ns with
    | nil =>
      have e : sideC [n] = digs n.toNat := rfl
      rw [e, scan_digs _ (by omega) (by rw [hN]; exact hn.2), scan_stop nr, hN]
      dsimp only
      rw [if_neg (by omega), if_pos, List.length_append]
      by_cases hk : k = 0
      · exact .inl hk
      · right
        cases r with
        | nil => left; simp
        | cons c t =>
          right
          have hc := h4 c t rfl
          rw [← List.append_assoc, ← List.length_append, List.getElem?_append_right (Nat.le_refl _), Nat.sub_self, hc]
          simp
    | cons m ns =>
      have e : sideC (n :: m :: ns) = digs n.toNat ++ [120] ++ sideC (m :: ns) := rfl
      have nx : NoDigit ([120] ++ (sideC (m :: ns) ++ r)) := fun c t e q => by
        have e2 : 120 = c := (List.cons.inj e).1
        omega
      rw [e, List.append_assoc, List.append_assoc, List.append_assoc, scan_digs _ (by omega) (by rw [hN]; exact hn.2), scan_stop nx, hN]
      dsimp only
      rw [if_neg (by omega), if_neg]
      · have ih := sidesL_text (m :: ns) k (acc ++ [n]) (pre ++ digs n.toNat ++ [120]) r (by simp) (by simp at h2 ⊢; omega) (fun x hx => h3 x (List.mem_cons_of_mem _ hx)) h4
        have e1 : pre ++ digs n.toNat ++ [120] ++ (sideC (m :: ns) ++ r) = pre ++ (digs n.toNat ++ ([120] ++ (sideC (m :: ns) ++ r))) := by simp
        rw [e1] at ih
        have e2 : (pre ++ digs n.toNat ++ [120]).length = pre.length + (digs n.toNat).length + 1 := by simp; omega
        rw [e2] at ih
        rw [ih]
        congr 2
        · simp
        · simp
      · intro q
        rcases q with q | q | q
        · simp at h2; omega
        · simp at q
        · apply q
          rw [← List.append_assoc, ← List.length_append, List.getElem?_append_right (Nat.le_refl _), Nat.sub_self]
          rfl
theorem sidesAt_text {ns : List Int} {k l : Nat} (pre r : List Nat) (h1 : 1 ≤ ns.length) (h2 : ns.length ≤ k) (hl : l ≤ ns.length) (h3 : ∀ n ∈ ns, 1 ≤ n ∧ n ≤ MS) (h4 : Behind r) :
    sidesAt (pre ++ (sideC ns ++ r)) pre.length l k = .ok (ns, (pre ++ sideC ns).length) := by
  unfold sidesAt
  rw [sidesL_text ns k [] pre r h1 h2 h3 h4]
  dsimp only
  rw [List.nil_append, if_neg (by omega)]
theorem parseS_text {ns : List Int} (h : SideOk ns) : parseS (sideC ns) = .ok ns := by
  have e := sidesAt_text (l := 1) (k := 4) [] [] h.1 h.2.1 h.1 h.2.2 (fun c t e => nomatch e)
  simp only [List.nil_append, List.append_nil, List.length_nil] at e
  unfold parseS
  rw [e]
  dsimp only
  rw [if_neg (Nat.lt_irrefl _)]
theorem kindsL_text : ∀ (nss : List (List Int)) (n k : Nat) (acc : List (List Int)) (pre : List Nat), nss.length ≤ k → 1 ≤ n → (∀ ns ∈ nss, ns.length = n ∧ ∀ m ∈ ns, 1 ≤ m ∧ m ≤ MS) →
    kindsL (pre ++ (nss.map fun ns => 32 :: sideC ns).flatten) n k acc pre.length = .ok (acc ++ nss)
  | [], n, k, acc, pre, _, _, _ => by
    unfold kindsL
    rw [if_neg (by simp)]
    simp
  | ns :: nss, n, 0, acc, pre, h, _, _ => by simp at h
  | ns :: nss, n, k + 1, acc, pre, h, h1, h2 => by
    have hn := h2 ns List.mem_cons_self
    unfold kindsL
    rw [if_pos (by simp)]
    have g : (pre ++ (List.map (fun ns => 32 :: sideC ns) (ns :: nss)).flatten)[pre.length]? = some 32 := by
      rw [List.getElem?_append_right (Nat.le_refl _), Nat.sub_self]
      rfl
    rw [if_neg (by rw [g]; simp)]
    dsimp only
    have bh : Behind (List.map (fun ns => 32 :: sideC ns) nss).flatten := fun c t e => by
      cases nss with
      | nil => exact nomatch e
      | cons a b =>
        have : 32 = c := (List.cons.inj e).1
        exact this.symm
    have e := sidesAt_text (ns := ns) (l := n) (k := n) (pre ++ [32]) (List.map (fun ns => 32 :: sideC ns) nss).flatten (by omega) (by omega) (by omega) hn.2 bh
    have e1 : pre ++ [32] ++ (sideC ns ++ (List.map (fun ns => 32 :: sideC ns) nss).flatten) = pre ++ (List.map (fun ns => 32 :: sideC ns) (ns :: nss)).flatten := by simp
    have e2 : (pre ++ [32]).length = pre.length + 1 := by simp
    rw [e1, e2] at e
    rw [e]
    dsimp only
    have ih := kindsL_text nss n k (acc ++ [ns]) (pre ++ [32] ++ sideC ns) (by simp at h; omega) h1 fun x hx => h2 x (List.mem_cons_of_mem _ hx)
    have e3 : pre ++ [32] ++ sideC ns ++ (List.map (fun ns => 32 :: sideC ns) nss).flatten = pre ++ (List.map (fun ns => 32 :: sideC ns) (ns :: nss)).flatten := by simp
    rw [e3] at ih
    rw [ih]
    simp
theorem kindC_cons (ns : List Int) : ∀ nss : List (List Int), kindC (ns :: nss) = sideC ns ++ (nss.map fun ns => 32 :: sideC ns).flatten
  | [] => by simp [kindC, gl]
  | m :: nss => by
    show sideC ns ++ [32] ++ kindC (m :: nss) = _
    rw [kindC_cons m nss]
    simp
def KindOk (nss : List (List Int)) (n : Nat) : Prop := 1 ≤ n ∧ n ≤ 4 ∧ 1 ≤ nss.length ∧ nss.length ≤ 4 ∧ ∀ ns ∈ nss, ns.length = n ∧ ∀ m ∈ ns, 1 ≤ m ∧ m ≤ MS
theorem parseK_text {nss : List (List Int)} {n : Nat} (h : KindOk nss n) : parseK (kindC nss) = .ok nss := by
  obtain ⟨h1, h2, h3, h4, h5⟩ := h
  cases nss with
  | nil => simp at h3
  | cons ns nss =>
    have hn := h5 ns List.mem_cons_self
    have bh : Behind (List.map (fun ns => 32 :: sideC ns) nss).flatten := fun c t e => by
      cases nss with
      | nil => exact nomatch e
      | cons a b =>
        have : 32 = c := (List.cons.inj e).1
        exact this.symm
    have e := sidesAt_text (ns := ns) (l := 1) (k := 4) [] (List.map (fun ns => 32 :: sideC ns) nss).flatten (by omega) (by omega) (by omega) hn.2 bh
    simp only [List.nil_append, List.length_nil] at e
    unfold parseK
    rw [kindC_cons, e]
    dsimp only
    have k := kindsL_text nss ns.length 3 [ns] (sideC ns) (by simp at h4; omega) (by omega) fun x hx => by
      have := h5 x (List.mem_cons_of_mem _ hx)
      exact ⟨by omega, this.2⟩
    rw [k]
    rfl
/-! ### sizes -/
theorem gl_len (sep : List Nat) : ∀ (l : List (List Nat)) (k : Nat), (∀ x ∈ l, x.length ≤ k) → (gl sep l).length ≤ l.length * (k + sep.length)
  | [], _, _ => Nat.zero_le _
  | [x], k, h => by
    have := h x List.mem_cons_self
    show x.length ≤ 1 * _
    omega
  | x :: y :: r, k, h => by
    have h1 := h x List.mem_cons_self
    have h2 := gl_len sep (y :: r) k fun z hz => h z (List.mem_cons_of_mem _ hz)
    show (x ++ sep ++ gl sep (y :: r)).length ≤ (r.length + 1 + 1) * _
    rw [List.length_append, List.length_append, Nat.succ_mul]
    have : (y :: r).length = r.length + 1 := rfl
    rw [this] at h2
    omega
theorem sideC_len {ns : List Int} (h : ns.length ≤ 4) (h2 : ∀ n ∈ ns, 1 ≤ n ∧ n ≤ MS) : (sideC ns).length ≤ 56 := by
  have hms : MS = 1000000000000 := rfl
  have := gl_len [120] (ns.map fun n => digs n.toNat) 13 fun x hx => by
    obtain ⟨n, hn, rfl⟩ := List.mem_map.mp hx
    have := h2 n hn
    exact digs_len (by omega)
  rw [List.length_map] at this
  show (gl [120] _).length ≤ 56
  have e : ([120] : List Nat).length = 1 := rfl
  rw [e] at this
  omega
theorem kindC_len {nss : List (List Int)} (h : nss.length ≤ 4) (h2 : ∀ ns ∈ nss, ns.length ≤ 4 ∧ ∀ n ∈ ns, 1 ≤ n ∧ n ≤ MS) : (kindC nss).length ≤ 228 := by
  have := gl_len [32] (nss.map sideC) 56 fun x hx => by
    obtain ⟨ns, hn, rfl⟩ := List.mem_map.mp hx
    exact sideC_len (h2 ns hn).1 (h2 ns hn).2
  rw [List.length_map] at this
  show (gl [32] _).length ≤ 228
  have e : ([32] : List Nat).length = 1 := rfl
  rw [e] at this
  omega
/-! ### a sign among the digits -/
theorem find_digit (c : Nat) : Txt.find ("0123456789" : Str) ⟨#[c]⟩ = if 48 ≤ c ∧ c ≤ 57 then (c : Int) - 48 else -1 := by
  by_cases h : 48 ≤ c ∧ c ≤ 57
  · rw [if_pos h]
    obtain ⟨h1, h2⟩ := h
    have : c = 48 ∨ c = 49 ∨ c = 50 ∨ c = 51 ∨ c = 52 ∨ c = 53 ∨ c = 54 ∨ c = 55 ∨ c = 56 ∨ c = 57 := by omega
    rcases this with rfl | rfl | rfl | rfl | rfl | rfl | rfl | rfl | rfl | rfl <;> decide +kernel
  · rw [if_neg h]
    have e := StrLaws.found_one ("0123456789" : Str) c
    have e2 : decide (c ∈ ("0123456789" : Str).cps.toList) = false := by
      have : ("0123456789" : Str).cps.toList = [48, 49, 50, 51, 52, 53, 54, 55, 56, 57] := by decide +kernel
      rw [this]
      refine decide_eq_false ?_
      simp only [List.mem_cons, List.not_mem_nil, or_false]
      omega
    rw [e2] at e
    unfold Txt.find
    cases ho : Builtin.Str.occurrences ("0123456789" : Str) ⟨#[c]⟩ 0 ("0123456789" : Str).length 1 with
    | nil => rfl
    | cons a b => rw [ho] at e; cases e
/-! ### what repr asks of data: their texts are not too long -/
structure Fit (n k : Nat) (d : PyData) : Prop where
  sh : d.showable = true
  len : d.shown.length ≤ n
  dp : d.depth ≤ k
theorem Fit.mono {n m k j : Nat} {d : PyData} (h : Fit n k d) (h1 : n ≤ m) (h2 : k ≤ j) : Fit m j d := ⟨h.sh, Nat.le_trans h.len h1, Nat.le_trans h.dp h2⟩
theorem fit_all {n k : Nat} : ∀ ds : List PyData, (∀ d ∈ ds, Fit n k d) → PyData.showableAll ds = true ∧ PyData.depthAll ds ≤ k ∧ ((PyData.shownAll ds).map (·.length)).sum ≤ ds.length * n ∧ (PyData.shownAll ds).length = ds.length
  | [], _ => ⟨rfl, Nat.zero_le _, Nat.zero_le _, rfl⟩
  | d :: ds, h => by
    obtain ⟨a, b, c, e⟩ := fit_all ds fun x hx => h x (List.mem_cons_of_mem _ hx)
    have f := h d List.mem_cons_self
    refine ⟨by rw [PyData.showableAll, f.sh, a]; rfl, by rw [PyData.depthAll]; have := f.dp; omega, ?_, by rw [PyData.shownAll, List.length_cons, e]; rfl⟩
    rw [PyData.shownAll, List.map_cons, List.sum_cons, List.length_cons, Nat.succ_mul]
    have := f.len
    omega
theorem Fit.list {n k : Nat} {ds : List PyData} (h : ∀ d ∈ ds, Fit n k d) : Fit (ds.length * n + 2 * ds.length + 3) (k + 1) (.list ds) := by
  obtain ⟨a, b, c, e⟩ := fit_all ds h
  refine ⟨by rw [PyData.showable]; exact a, ?_, by rw [PyData.depth]; omega⟩
  have := listText_len_le (PyData.shownAll ds)
  rw [PyData.shown]
  omega
theorem Fit.tuple {n k : Nat} {ds : List PyData} (h : ∀ d ∈ ds, Fit n k d) : Fit (ds.length * n + 2 * ds.length + 3) (k + 1) (.tuple ds) := by
  obtain ⟨a, b, c, e⟩ := fit_all ds h
  refine ⟨by rw [PyData.showable]; exact a, ?_, by rw [PyData.depth]; omega⟩
  have := tupleText_len_le (PyData.shownAll ds)
  rw [PyData.shown]
  omega
theorem fit_int {i : Int} (h : 0 ≤ i) (h2 : i ≤ MS) : Fit 13 0 (.int i) := by
  have hms : MS = 1000000000000 := rfl
  refine ⟨?_, ?_, Nat.le_refl _⟩
  · rw [PyData.showable]
    refine decide_eq_true ?_
    by_cases h0 : i.natAbs = 0
    · rw [h0]; decide
    · exact Nat.lt_of_lt_of_le ((Nat.log2_lt h0).mpr (show i.natAbs < 2 ^ 41 by omega)) (by decide)
  · show (numS i).length ≤ 13
    rw [← cs_len, cs_num h]
    exact digs_len (by omega)
theorem fit_str {x : Str} {n : Nat} (h : x.length ≤ n) (hc : ∀ c ∈ cs x, c < 16 ^ 8) : Fit (10 * n + 2) 0 (.str x) := by
  refine ⟨rfl, ?_, Nat.le_refl _⟩
  have := StrLaws.reprText_len x hc
  rw [PyData.shown]
  omega
theorem gl_mem {sep : List Nat} {c : Nat} : ∀ {l : List (List Nat)}, c ∈ gl sep l → c ∈ sep ∨ ∃ x ∈ l, c ∈ x
  | [], h => by cases h
  | [x], h => .inr ⟨x, List.mem_cons_self, h⟩
  | x :: y :: r, h => by
    have h' : c ∈ x ++ sep ++ gl sep (y :: r) := h
    rcases List.mem_append.mp h' with h1 | h1
    · rcases List.mem_append.mp h1 with h2 | h2
      · exact .inr ⟨x, List.mem_cons_self, h2⟩
      · exact .inl h2
    · rcases gl_mem h1 with h2 | ⟨z, hz, h2⟩
      · exact .inl h2
      · exact .inr ⟨z, List.mem_cons_of_mem _ hz, h2⟩
theorem side_code {ns : List Int} {c : Nat} (h : c ∈ sideC ns) : c < 1000 := by
  rcases gl_mem h with h | ⟨x, hx, h⟩
  · rw [List.mem_singleton.mp h]; decide
  · obtain ⟨n, _, rfl⟩ := List.mem_map.mp hx
    have := digs_mem _ _ h
    omega
theorem kind_code {nss : List (List Int)} {c : Nat} (h : c ∈ kindC nss) : c < 1000 := by
  rcases gl_mem h with h | ⟨x, hx, h⟩
  · rw [List.mem_singleton.mp h]; decide
  · obtain ⟨n, _, rfl⟩ := List.mem_map.mp hx
    exact side_code h
theorem fit_side {ns : List Int} (h : ns.length ≤ 4) (h2 : ∀ n ∈ ns, 1 ≤ n ∧ n ≤ MS) : Fit 3000 0 (.str (sideT ns)) := by
  refine (fit_str (n := 56) ?_ fun c hc => ?_).mono (by decide) (Nat.le_refl _)
  · rw [← cs_len, cs_side h2]; exact sideC_len h h2
  · rw [cs_side h2] at hc
    exact Nat.lt_of_lt_of_le (side_code hc) (by decide)
theorem fit_kind {nss : List (List Int)} (h : nss.length ≤ 4) (h2 : ∀ ns ∈ nss, ns.length ≤ 4 ∧ ∀ n ∈ ns, 1 ≤ n ∧ n ≤ MS) : Fit 3000 0 (.str (kindT nss)) := by
  have e := cs_kind fun ns hn => (h2 ns hn).2
  refine (fit_str (n := 228) ?_ fun c hc => ?_).mono (by decide) (Nat.le_refl _)
  · rw [← cs_len, e]; exact kindC_len h h2
  · rw [e] at hc
    exact Nat.lt_of_lt_of_le (kind_code hc) (by decide)
theorem fit_tupI {ns : List Int} (h : ns.length ≤ 4) (h2 : ∀ n ∈ ns, 1 ≤ n ∧ n ≤ MS) : Fit 100 1 (tupI ns) := by
  have := Fit.tuple (n := 13) (k := 0) (ds := ns.map PyData.int) fun d hd => by
    obtain ⟨n, hn, rfl⟩ := List.mem_map.mp hd
    have := h2 n hn
    exact fit_int (by omega) this.2
  rw [List.length_map] at this
  exact this.mono (by omega) (Nat.le_refl _)
theorem fit_tupK {nss : List (List Int)} (h : nss.length ≤ 4) (h2 : ∀ ns ∈ nss, ns.length ≤ 4 ∧ ∀ n ∈ ns, 1 ≤ n ∧ n ≤ MS) : Fit 3000 2 (tupK nss) := by
  have := Fit.tuple (n := 100) (k := 1) (ds := nss.map tupI) fun d hd => by
    obtain ⟨ns, hn, rfl⟩ := List.mem_map.mp hd
    exact fit_tupI (h2 ns hn).1 (h2 ns hn).2
  rw [List.length_map] at this
  exact this.mono (by omega) (Nat.le_refl _)
theorem sizeLine_big {n : Nat} (h : n ≤ 100000) : n ≤ sizeLine := Nat.le_trans h (by decide)
end TB
set_option Elab.async false
set_option linter.all false
set_option maxRecDepth 100000
/-! A layer over data: what an expression evaluates to, said of data (PyData), the heap's bookkeeping hidden in one state St. -/
namespace DL
open PySem PySem.Spec PyProof.Rows L2 Evl TB
mutual
/-- v stands for the data e, none of its objects at an address of N -/
inductive Rg (N : Addr → Prop) (H : Hp) : V → PyData → Prop
  | non : Rg N H .non .none
  | bl (b : Bool) : Rg N H (.bl b) (.bool b)
  | int (i : Int) : Rg N H (.int i) (.int i)
  | str (x : Str) : Rg N H (.str x) (.str x)
  | lst {a : Addr} {xs : List V} {ds : List PyData} : H a = some (.lst xs) → ¬ N a → RgAll N H xs ds → Rg N H (.ref a) (.list ds)
  | tup {a : Addr} {xs : List V} {ds : List PyData} : H a = some (.tup xs) → ¬ N a → RgAll N H xs ds → Rg N H (.ref a) (.tuple ds)
  | dic {a : Addr} : H a = some (.dK []) → ¬ N a → Rg N H (.ref a) (.dict [])
inductive RgAll (N : Addr → Prop) (H : Hp) : List V → List PyData → Prop
  | nil : RgAll N H [] []
  | cons {v : V} {vs : List V} {d : PyData} {ds : List PyData} : Rg N H v d → RgAll N H vs ds → RgAll N H (v :: vs) (d :: ds)
end
mutual
def hasL : PyData → Bool
  | .none | .bool _ | .int _ | .str _ => false
  | .list _ => true
  | .tuple ds => hasLs ds
  | .dict _ => false
def hasLs : List PyData → Bool
  | [] => false
  | d :: ds => hasL d || hasLs ds
end
/-- not both a list and a dict in it -/
def okD (e : PyData) : Bool := !(e.hasDict) || !(hasL e)
section
variable {N M : Addr → Prop} {H H' : Hp}
mutual
theorem Rg.to (x : ∀ a o, H a = some o → ¬ N a → H' a = some o ∧ ¬ M a) : ∀ (e : PyData) (z : V), Rg N H z e → Rg M H' z e
  | .none, _, q => by cases q; exact .non
  | .bool c, _, q => by cases q; exact .bl c
  | .int j, _, q => by cases q; exact .int j
  | .str y, _, q => by cases q; exact .str y
  | .list es, _, q => by
    cases q with
    | lst h n r => exact .lst (x _ _ h n).1 (x _ _ h n).2 (RgAll.to x es _ r)
  | .tuple es, _, q => by
    cases q with
    | tup h n r => exact .tup (x _ _ h n).1 (x _ _ h n).2 (RgAll.to x es _ r)
  | .dict es, _, q => by
    cases q with
    | dic h n => exact .dic (x _ _ h n).1 (x _ _ h n).2
theorem RgAll.to (x : ∀ a o, H a = some o → ¬ N a → H' a = some o ∧ ¬ M a) : ∀ (es : List PyData) (zs : List V), RgAll N H zs es → RgAll M H' zs es
  | [], _, q => by cases q; exact .nil
  | e :: es, _, q => by
    cases q with
    | cons q1 q2 => exact .cons (Rg.to x e _ q1) (RgAll.to x es _ q2)
end
theorem Rg.ex {v : V} {e : PyData} (x : Ex H H') (r : Rg N H v e) : Rg N H' v e := Rg.to (fun a o h n => ⟨x a o h, n⟩) e v r
theorem RgAll.ex {vs : List V} {es : List PyData} (x : Ex H H') (r : RgAll N H vs es) : RgAll N H' vs es := RgAll.to (fun a o h n => ⟨x a o h, n⟩) es vs r
theorem Rg.sub {v : V} {e : PyData} (x : ∀ a, M a → N a) (r : Rg N H v e) : Rg M H v e := Rg.to (fun a o h n => ⟨h, fun q => n (x a q)⟩) e v r
theorem RgAll.len : ∀ {zs : List V} {es : List PyData}, RgAll N H zs es → zs.length = es.length
  | _, _, .nil => rfl
  | _, _, .cons _ t => congrArg (· + 1) t.len
theorem RgAll.get : ∀ {zs : List V} {es : List PyData} {i : Nat} {z : V}, RgAll N H zs es → zs[i]? = some z → ∃ e, es[i]? = some e ∧ Rg N H z e
  | _, _, _, _, .nil, h => by simp at h
  | _, _, 0, z, .cons q _, h => by simp at h; subst h; exact ⟨_, rfl, q⟩
  | _, _, i + 1, z, .cons _ t, h => by
    obtain ⟨e, h1, h2⟩ := RgAll.get (i := i) t (by simpa using h)
    exact ⟨e, by simpa using h1, h2⟩
theorem RgAll.get' : ∀ {zs : List V} {es : List PyData} {i : Nat} {e : PyData}, RgAll N H zs es → es[i]? = some e → ∃ z, zs[i]? = some z ∧ Rg N H z e
  | _, _, _, _, .nil, h => by simp at h
  | _, _, 0, e, .cons q _, h => by simp at h; subst h; exact ⟨_, rfl, q⟩
  | _, _, i + 1, e, .cons _ t, h => by
    obtain ⟨z, h1, h2⟩ := RgAll.get' (i := i) t (by simpa using h)
    exact ⟨z, by simpa using h1, h2⟩
theorem RgAll.app : ∀ {zs ys : List V} {es fs : List PyData}, RgAll N H zs es → RgAll N H ys fs → RgAll N H (zs ++ ys) (es ++ fs)
  | _, _, _, _, .nil, s => s
  | _, _, _, _, .cons q t, s => .cons q (t.app s)
theorem RgAll.take : ∀ {zs : List V} {es : List PyData} (k : Nat), RgAll N H zs es → RgAll N H (zs.take k) (es.take k)
  | _, _, 0, _ => .nil
  | _, _, _ + 1, .nil => .nil
  | _, _, k + 1, .cons q t => .cons q (RgAll.take k t)
theorem RgAll.drop : ∀ {zs : List V} {es : List PyData} (k : Nat), RgAll N H zs es → RgAll N H (zs.drop k) (es.drop k)
  | _, _, 0, r => r
  | _, _, _ + 1, .nil => .nil
  | _, _, k + 1, .cons _ t => RgAll.drop k t
theorem RgAll.rev : ∀ {zs : List V} {es : List PyData}, RgAll N H zs es → RgAll N H zs.reverse es.reverse
  | _, _, .nil => .nil
  | _, _, .cons q t => by
    rw [List.reverse_cons, List.reverse_cons]
    exact t.rev.app (.cons q .nil)
theorem RgAll.mem : ∀ {zs : List V} {es : List PyData} {z : V}, RgAll N H zs es → z ∈ zs → ∃ e ∈ es, Rg N H z e
  | _, _, _, .nil, h => by cases h
  | _, _, z, .cons q t, h => by
    rcases List.mem_cons.mp h with h | h
    · subst h; exact ⟨_, List.mem_cons_self, q⟩
    · obtain ⟨e, h1, h2⟩ := t.mem h
      exact ⟨e, List.mem_cons_of_mem _ h1, h2⟩
theorem rgInts : ∀ ns : List Int, RgAll N H (ns.map V.int) (ns.map PyData.int)
  | [] => .nil
  | n :: ns => .cons (.int n) (rgInts ns)
theorem rgStrs : ∀ ns : List Str, RgAll N H (ns.map V.str) (ns.map PyData.str)
  | [] => .nil
  | n :: ns => .cons (.str n) (rgStrs ns)
theorem rgInts_inv : ∀ {ns : List Int} {zs : List V}, RgAll N H zs (ns.map PyData.int) → zs = ns.map V.int
  | [], _, h => by cases h; rfl
  | n :: ns, _, h => by
    cases h with
    | cons q t => cases q; rw [rgInts_inv t]; rfl
end
/-! ### repr -/
section
variable {X : Cx} {pins : List (Addr × Obj)} {σ : L2.St} {N : Addr → Prop} {H : Hp} {s : Shared}
mutual
theorem Rg.reads (J : Inv X pins σ H s) : ∀ (e : PyData) (z : V) (y : Value), Rg N H z e → RelV z y → ∃ as, Reads s.heap y e as ∧ (hasL e = false → sysModules ∉ as)
  | .none, _, _, q, r => by cases q; cases r; exact ⟨_, Reads.none, fun _ h => nomatch h⟩
  | .bool c, _, _, q, r => by cases q; cases r; exact ⟨_, Reads.bool c, fun _ h => nomatch h⟩
  | .int j, _, _, q, r => by cases q; obtain ⟨tk, rfl⟩ := r; exact ⟨_, Reads.int j tk, fun _ h => nomatch h⟩
  | .str y, _, _, q, r => by cases q; obtain ⟨tk, rfl⟩ := r; exact ⟨_, Reads.str y tk, fun _ h => nomatch h⟩
  | .list es, _, _, q, r => by
    cases q with
    | lst hq _ hz =>
      cases r
      obtain ⟨iq, rz, ⟨oq, nq, hoq, hcq, _, hdq⟩, _⟩ := J.list (.inl (.inl hq))
      obtain ⟨as, hr, _⟩ := Rg.readsAll J es _ iq hz rz
      exact ⟨_, Reads.list hoq hcq hdq hr, fun h => by rw [hasL] at h; cases h⟩
  | .tuple es, _, _, q, r => by
    cases q with
    | tup hq _ hz =>
      cases r
      obtain ⟨iq, rz, ⟨oq, hoq, hcq, nq, hdq⟩, _⟩ := J.tuple (.inl (.inl hq))
      obtain ⟨as, hr, hn⟩ := Rg.readsAll J es _ iq hz rz
      exact ⟨_, Reads.tuple hoq hcq hdq hr, fun h => hn (by rw [hasL] at h; exact h)⟩
  | .dict es, _, _, q, r => by
    cases q with
    | dic hq _ =>
      cases r
      obtain ⟨_, hne, vs, kv, o, es, ep, ho, ⟨hc, _⟩, hd, _, hp, _⟩ := J.hok _ _ hq
      cases kv
      have e0 : es.toList = [] := by
        cases h : es.toList with
        | nil => rfl
        | cons a b => rw [h] at hp; cases hp
      refine ⟨_, Reads.dict ho hc hd (by rw [e0]; exact .nil) (by rw [e0]; exact .nil), fun _ hm => ?_⟩
      simp only [List.append_nil, List.mem_singleton] at hm
      rw [← hm] at hne
      simp at hne
theorem Rg.readsAll (J : Inv X pins σ H s) : ∀ (es : List PyData) (zs : List V) (ys : List Value), RgAll N H zs es → Vals zs ys → ∃ as, ReadsAll s.heap ys es as ∧ (hasLs es = false → sysModules ∉ as)
  | [], _, _, q, r => by cases q; cases r; exact ⟨_, ReadsAll.nil, fun _ h => nomatch h⟩
  | e :: es, _, _, q, r => by
    cases q with
    | cons q1 q2 =>
      cases r with
      | cons r1 r2 =>
        obtain ⟨as, g1, n1⟩ := Rg.reads J e _ _ q1 r1
        obtain ⟨bs, g2, n2⟩ := Rg.readsAll J es _ _ q2 r2
        refine ⟨_, ReadsAll.cons g1 g2, fun h hm => ?_⟩
        rw [hasLs, Bool.or_eq_false_iff] at h
        rcases List.mem_append.mp hm with hm | hm
        · exact n1 h.1 hm
        · exact n2 h.2 hm
end
end
def rReprD : List V → Hp → VK → Prop := fun xs H Q =>
  ∃ N z e, xs = [z] ∧ Rg N H z e ∧ okD e = true ∧ e.showable = true ∧ e.depth < 60 ∧ e.shown.length ≤ sizeLine ∧ Q (.str e.shown) H
theorem call_reprD {X : Cx} (hg : X.A.guards = some []) (hu : X.A.units + 64 < cLine) : CallR X (.builtin "repr") rReprD := by
  intro pins s σ H xs us Q J r h
  obtain ⟨N, z, e, rfl, hz, hk, hs, hd, hl, q⟩ := h
  obtain ⟨u, rfl, ru⟩ := vals1 r
  obtain ⟨as, hr, hn⟩ := Rg.reads J e z u hz ru
  have hk' : e.hasDict = true → sysModules ∉ as := fun h => by
    unfold okD at hk
    rw [h] at hk
    exact hn (by simpa using hk)
  cases hz with
  | non =>
    cases ru
    exact PySem.P.repr_of_none ⟨.str _, H, J.tok _, ⟨_, rfl⟩, q⟩
  | bl b =>
    cases ru
    exact PySem.P.repr_of_bool ⟨.str _, H, J.tok _, ⟨_, rfl⟩, by cases b <;> exact q⟩
  | int i =>
    obtain ⟨t, rfl⟩ := ru
    exact PySem.P.repr_of_int (of_decide_eq_true hs) ⟨.str _, H, J.tok _, ⟨_, rfl⟩, q⟩
  | str x =>
    obtain ⟨t, rfl⟩ := ru
    exact PySem.P.repr_of_str (hsz := hl) ⟨.str _, H, J.tok _, ⟨_, rfl⟩, q⟩
  | lst h1 h2 =>
    cases ru
    exact repr_of_reads' hr hs hk' hg (by omega) (fun b o e => e) (fun h' u tk hk => ⟨.str _, H, J.kept hk, ⟨_, rfl⟩, q⟩) hl
  | tup h1 h2 =>
    cases ru
    exact repr_of_reads' hr hs hk' hg (by omega) (fun b o e => e) (fun h' u tk hk => ⟨.str _, H, J.kept hk, ⟨_, rfl⟩, q⟩) hl
  | dic h1 h2 =>
    cases ru
    exact repr_of_reads' hr hs hk' hg (by omega) (fun b o e => e) (fun h' u tk hk => ⟨.str _, H, J.kept hk, ⟨_, rfl⟩, q⟩) hl
/-! ### the state -/
def NOk (N : Addr → Prop) (H : Hp) : Prop := ∀ a, N a → H a ≠ none
theorem NOk.ex {N : Addr → Prop} {H H' : Hp} (h : NOk N H) (x : Ex H H') : NOk N H' := fun a n => by
  cases e : H a with
  | none => exact absurd e (h a n)
  | some o => rw [x a o e]; simp
theorem NOk.new {N : Addr → Prop} {H : Hp} {p : Addr} (h : NOk N H) (hp : H p = none) : ¬ N p := fun n => h p n hp
inductive Sl where
  | dat (e : PyData)
  | raw (v : V)
  | rng (lo hi : Int)
/-- what must stand while a def runs: the objects of N may change, I is what is known of them -/
structure Wd where
  N : Addr → Prop
  I : Hp → Prop
  ok : ∀ H, I H → NOk N H
  stab : ∀ H H', I H → (∀ a, N a → H' a = H a) → I H'
def SlOk (N M : Addr → Prop) (H : Hp) : Sl → Option V → Prop
  | .dat e, o => ∃ v, o = some v ∧ Rg N H v e
  | .raw v, o => o = some v
  | .rng lo hi, o => ∃ a, o = some (.ref a) ∧ H a = some (.rng lo hi) ∧ ¬ N a
def Slots (N M : Addr → Prop) (H : Hp) (ρ : List (Option Sl)) (σ : L2.St) : Prop := ρ.length = σ.length ∧ ∀ (i : Nat) (s : Sl), ρ[i]? = some (some s) → ∃ o, σ[i]? = some o ∧ SlOk N M H s o
/-- the lists of one's own that still grow -/
def LocOk (N M : Addr → Prop) (H : Hp) (l : List (Addr × List PyData)) : Prop := (l.map (·.1)).Nodup ∧ ∀ p ∈ l, N p.1 ∧ ¬ M p.1 ∧ ∃ xs, H p.1 = some (.lst xs) ∧ RgAll N H xs p.2
structure St (W : Wd) (H0 : Hp) (ρ : List (Option Sl)) (τ : List (V × PyData)) (l : List (Addr × List PyData)) (σ : L2.St) (H : Hp) : Prop where
  inv : W.I H
  off : ∀ a o, H0 a = some o → ¬ W.N a → H a = some o
  ex : ∃ N : Addr → Prop, (∀ a, W.N a → N a) ∧ (∀ a, N a → ¬ W.N a → H0 a = none) ∧ NOk N H ∧ Slots N W.N H ρ σ ∧ (∀ p ∈ τ, Rg N H p.1 p.2) ∧ LocOk N W.N H l
theorem LocOk.ex {N M : Addr → Prop} {H H' : Hp} {l : List (Addr × List PyData)} (x : Ex H H') (h : LocOk N M H l) : LocOk N M H' l :=
  ⟨h.1, fun p hp => let ⟨a, b, xs, c, d⟩ := h.2 p hp; ⟨a, b, xs, x _ _ c, d.ex x⟩⟩
theorem SlOk.ex {N M : Addr → Prop} {H H' : Hp} {s : Sl} {o : Option V} (x : Ex H H') (h : SlOk N M H s o) : SlOk N M H' s o := by
  cases s with
  | dat e => obtain ⟨v, h1, h2⟩ := h; exact ⟨v, h1, h2.ex x⟩
  | raw v => exact h
  | rng lo hi => obtain ⟨a, h1, h2, h3⟩ := h; exact ⟨a, h1, x _ _ h2, h3⟩
theorem Slots.ex {N M : Addr → Prop} {H H' : Hp} {ρ : List (Option Sl)} {σ : L2.St} (x : Ex H H') (h : Slots N M H ρ σ) : Slots N M H' ρ σ :=
  ⟨h.1, fun i s e => let ⟨o, a, b⟩ := h.2 i s e; ⟨o, a, b.ex x⟩⟩
section
variable {W : Wd} {H0 H H' : Hp} {ρ : List (Option Sl)} {τ τ' : List (V × PyData)} {l : List (Addr × List PyData)} {σ : L2.St}
/-- the state at an extension of the heap, with the values that were made -/
theorem St.ext (S : St W H0 ρ τ l σ H) : ∃ N : Addr → Prop, NOk N H ∧ (∀ p ∈ τ, Rg N H p.1 p.2) ∧ (∀ (i : Nat) (s : Sl), ρ[i]? = some (some s) → ∃ o, σ[i]? = some o ∧ SlOk N W.N H s o) ∧
    ∀ H' (τ' : List (V × PyData)), Ex H H' → (∀ p ∈ τ', Rg N H' p.1 p.2) → St W H0 ρ τ' l σ H' := by
  obtain ⟨N, n1, n2, n3, n4, n5, n6⟩ := S.ex
  refine ⟨N, n3, n5, n4.2, fun H' τ' x h => ⟨W.stab H H' S.inv fun a na => ?_, fun a o e n => x _ _ (S.off a o e n), N, n1, n2, n3.ex x, n4.ex x, h, n6.ex x⟩⟩
  cases e : H a with
  | none => exact absurd e (n3 a (n1 a na))
  | some o => exact x a o e
theorem St.mono (S : St W H0 ρ τ l σ H) (h : ∀ p ∈ τ', p ∈ τ) : St W H0 ρ τ' l σ H := by
  obtain ⟨N, n1, n2, n3, n4, n5, n6⟩ := S.ex
  exact ⟨S.inv, S.off, N, n1, n2, n3, n4, fun p hp => n5 p (h p hp), n6⟩
theorem St.pop (S : St W H0 ρ (p :: τ) l σ H) : St W H0 ρ τ l σ H := S.mono fun _ h => List.mem_cons_of_mem _ h
theorem St.len (S : St W H0 ρ τ l σ H) : ρ.length = σ.length := let ⟨_, _, _, _, n4, _⟩ := S.ex; n4.1
/-- the last value goes to a slot -/
theorem St.set {v : V} {e : PyData} {i : Nat} (S : St W H0 ρ ((v, e) :: τ) l σ H) : St W H0 (ρ.set i (some (.dat e))) τ l (σ.set i (some v)) H := by
  obtain ⟨N, n1, n2, n3, n4, n5, n6⟩ := S.ex
  refine ⟨S.inv, S.off, N, n1, n2, n3, ⟨by rw [List.length_set, List.length_set]; exact n4.1, fun j s h => ?_⟩, fun p hp => n5 p (List.mem_cons_of_mem _ hp), n6⟩
  by_cases hj : i = j
  · subst hj
    have il : i < ρ.length := by
      have := (List.getElem?_eq_some_iff.mp h).1
      rw [List.length_set] at this
      exact this
    rw [List.getElem?_set_self il] at h
    cases h
    exact ⟨some v, List.getElem?_set_self (by rw [← n4.1]; exact il), v, rfl, n5 _ List.mem_cons_self⟩
  · rw [List.getElem?_set_ne hj] at h
    obtain ⟨o, h1, h2⟩ := n4.2 j s h
    exact ⟨o, by rw [List.getElem?_set_ne hj]; exact h1, h2⟩
/-- a slot is forgotten -/
theorem St.clr {i : Nat} {o : Option V} (S : St W H0 ρ τ l σ H) : St W H0 (ρ.set i none) τ l (σ.set i o) H := by
  obtain ⟨N, n1, n2, n3, n4, n5, n6⟩ := S.ex
  refine ⟨S.inv, S.off, N, n1, n2, n3, ⟨by rw [List.length_set, List.length_set]; exact n4.1, fun j s h => ?_⟩, n5, n6⟩
  by_cases hj : i = j
  · subst hj
    have il : i < ρ.length := by
      have := (List.getElem?_eq_some_iff.mp h).1
      rw [List.length_set] at this
      exact this
    rw [List.getElem?_set_self il] at h
    cases h
  · rw [List.getElem?_set_ne hj] at h
    obtain ⟨o', h1, h2⟩ := n4.2 j s h
    exact ⟨o', by rw [List.getElem?_set_ne hj]; exact h1, h2⟩
theorem St.dat {i : Nat} {e : PyData} (S : St W H0 ρ τ l σ H) (h : ρ[i]? = some (some (.dat e))) : ∃ v, σ[i]? = some (some v) ∧ St W H0 ρ ((v, e) :: τ) l σ H := by
  obtain ⟨N, n3, n5, n4, k⟩ := S.ext
  obtain ⟨o, h1, v, rfl, h2⟩ := n4 i _ h
  refine ⟨v, h1, k H _ ex_refl fun p hp => ?_⟩
  rcases List.mem_cons.mp hp with rfl | hp
  · exact h2
  · exact n5 p hp
theorem St.raw {i : Nat} {v : V} (S : St W H0 ρ τ l σ H) (h : ρ[i]? = some (some (.raw v))) : σ[i]? = some (some v) := by
  obtain ⟨N, n3, n5, n4, k⟩ := S.ext
  obtain ⟨o, h1, h2⟩ := n4 i _ h
  have h2 : o = some v := h2
  rw [h2] at h1
  exact h1
end
/-! ### expressions -/
def EvP (W : Wd) (H0 : Hp) (te : TE) (ρ : List (Option Sl)) (P : PyData → Prop) : Prop :=
  ∀ τ l σ H, St W H0 ρ τ l σ H → ∀ Q : VK, (∀ v e H', St W H0 ρ ((v, e) :: τ) l σ H' → P e → Q v H') → te σ H Q
def EvA (W : Wd) (H0 : Hp) (ta : TA) (ρ : List (Option Sl)) (P : List PyData → Prop) : Prop :=
  ∀ τ l σ H, St W H0 ρ τ l σ H → ∀ Q : List V → Hp → Prop, (∀ vs es H', St W H0 ρ (vs.zip es ++ τ) l σ H' → vs.length = es.length → P es → Q vs H') → ta σ H Q
def EvT (W : Wd) (H0 : Hp) (tt : TT) (ρ : List (Option Sl)) (P : Bool → Prop) : Prop :=
  ∀ τ l σ H, St W H0 ρ τ l σ H → ∀ Q : Bool → Hp → Prop, (∀ b H', St W H0 ρ τ l σ H' → P b → Q b H') → tt σ H Q
/-- what an operation on values does, said of data -/
def Res (N : Addr → Prop) (H : Hp) (P : PyData → Prop) (k : VK → Prop) : Prop := ∀ Q : VK, (∀ v e H', Ex H H' → Rg N H' v e → P e → Q v H') → k Q
def OpD (r : R2) (e1 e2 : PyData) (P : PyData → Prop) : Prop := ∀ N H v1 v2, NOk N H → Rg N H v1 e1 → Rg N H v2 e2 → Res N H P (r v1 v2 H)
def CaD (r : List V → Hp → VK → Prop) (es : List PyData) (P : PyData → Prop) : Prop := ∀ N H vs, NOk N H → RgAll N H vs es → Res N H P (r vs H)
section
variable {W : Wd} {H0 : Hp} {ρ : List (Option Sl)} {te ta tb : TE} {tas : TA} {P P1 P2 : PyData → Prop}
theorem EvP.imp (h : EvP W H0 te ρ P1) (i : ∀ e, P1 e → P2 e) : EvP W H0 te ρ P2 := fun τ l σ H S Q k => h τ l σ H S Q fun v e H' S' p => k v e H' S' (i e p)
theorem ev_dat {i : Nat} {e : PyData} (h : ρ[i]? = some (some (.dat e))) : EvP W H0 (tVar i) ρ (· = e) := fun τ l σ H S Q k => by
  obtain ⟨v, h1, S'⟩ := S.dat h
  exact ⟨v, h1, k v e H S' rfl⟩
theorem ev_const {v : V} {e : PyData} (h : ∀ N H, Rg N H v e) : EvP W H0 (tC v) ρ (· = e) := fun τ l σ H S Q k => by
  obtain ⟨N, n3, n5, n4, q⟩ := S.ext
  refine k v e H (q H _ ex_refl fun p hp => ?_) rfl
  rcases List.mem_cons.mp hp with rfl | hp
  · exact h _ _
  · exact n5 p hp
theorem ev_int {i : Int} : EvP W H0 (tC (.int i)) ρ (· = .int i) := ev_const fun _ _ => .int i
theorem ev_str {x : Str} : EvP W H0 (tC (.str x)) ρ (· = .str x) := ev_const fun _ _ => .str x
theorem ev_bl {b : Bool} : EvP W H0 (tC (.bl b)) ρ (· = .bool b) := ev_const fun _ _ => .bl b
theorem ev_non : EvP W H0 (tC .non) ρ (· = .none) := ev_const fun _ _ => .non
theorem ev_op {r : R2} (ha : EvP W H0 ta ρ P1) (hb : EvP W H0 tb ρ P2) (hr : ∀ e1 e2, P1 e1 → P2 e2 → OpD r e1 e2 P) : EvP W H0 (tOp r ta tb) ρ P := fun τ l σ H S Q k =>
  ha τ l σ H S _ fun v1 e1 H1 S1 p1 => hb _ l σ H1 S1 _ fun v2 e2 H2 S2 p2 => by
    obtain ⟨N, n3, n5, n4, q⟩ := S2.ext
    refine hr e1 e2 p1 p2 N H2 v1 v2 n3 (n5 _ (List.mem_cons_of_mem _ List.mem_cons_self)) (n5 _ List.mem_cons_self) Q fun v e H' x rg p => k v e H' (q H' _ x fun p hp => ?_) p
    rcases List.mem_cons.mp hp with rfl | hp
    · exact rg
    · exact (n5 p (List.mem_cons_of_mem _ (List.mem_cons_of_mem _ hp))).ex x
theorem eva_nil : EvA W H0 tNil ρ (· = []) := fun τ l σ H S Q k => k [] [] H S rfl rfl
theorem eva_cons {PA PB : List PyData → Prop} (ha : EvP W H0 ta ρ P1) (hb : EvA W H0 tas ρ PA) (h : ∀ e es, P1 e → PA es → PB (e :: es)) : EvA W H0 (tCons ta tas) ρ PB := fun τ l σ H S Q k =>
  ha τ l σ H S _ fun v e H1 S1 p1 => hb _ l σ H1 S1 _ fun vs es H2 S2 le p2 => k (v :: vs) (e :: es) H2 (S2.mono fun p hp => by
    simp only [List.zip_cons_cons, List.cons_append, List.mem_cons, List.mem_append] at hp ⊢
    rcases hp with hp | hp | hp
    · exact .inr (.inl hp)
    · exact .inl hp
    · exact .inr (.inr hp)) (congrArg (· + 1) le) (h e es p1 p2)
theorem zip_all {N : Addr → Prop} {H : Hp} : ∀ {vs : List V} {es : List PyData}, vs.length = es.length → (∀ p ∈ vs.zip es, Rg N H p.1 p.2) → RgAll N H vs es
  | [], [], _, _ => .nil
  | v :: vs, e :: es, l, h => .cons (h (v, e) (by simp)) (zip_all (by simpa using l) fun p hp => h p (by simp [hp]))
/-- a call of a built-in on data -/
theorem ev_cb {r : List V → Hp → VK → Prop} {PA : List PyData → Prop} (ha : EvA W H0 tas ρ PA) (hr : ∀ es, PA es → CaD r es P) : EvP W H0 (tCB r tas) ρ P := fun τ l σ H S Q k =>
  ha τ l σ H S _ fun vs es H1 S1 le pa => by
    obtain ⟨N, n3, n5, n4, q⟩ := S1.ext
    refine hr es pa N H1 vs n3 (zip_all le fun p hp => n5 p (List.mem_append_left _ hp)) Q fun v e H' x rg p => k v e H' (q H' _ x fun p hp => ?_) p
    rcases List.mem_cons.mp hp with rfl | hp
    · exact rg
    · exact (n5 p (List.mem_append_right _ hp)).ex x
theorem ev_tup {PA : List PyData → Prop} (ha : EvA W H0 tas ρ PA) (hs : ∀ es, PA es → es.length ≤ 100000) : EvP W H0 (tTup tas) ρ (fun e => ∃ es, e = .tuple es ∧ PA es) := fun τ l σ H S Q k =>
  ha τ l σ H S _ fun vs es H1 S1 le pa => ⟨size_small (by rw [le]; exact hs es pa), fun p hp => by
    obtain ⟨N, n3, n5, n4, q⟩ := S1.ext
    refine k _ (.tuple es) _ (q _ _ (Ex.new hp) fun p' hp' => ?_) ⟨es, rfl, pa⟩
    rcases List.mem_cons.mp hp' with rfl | hp'
    · exact .tup upd_same (n3.new hp) ((zip_all le fun p hp => n5 p (List.mem_append_left _ hp)).ex (Ex.new hp))
    · exact (n5 _ (List.mem_append_right _ hp')).ex (Ex.new hp)⟩
theorem ev_lst {PA : List PyData → Prop} (ha : EvA W H0 tas ρ PA) (hs : ∀ es, PA es → es.length ≤ 100000) : EvP W H0 (tLst tas) ρ (fun e => ∃ es, e = .list es ∧ PA es) := fun τ l σ H S Q k =>
  ha τ l σ H S _ fun vs es H1 S1 le pa => ⟨size_small (by rw [le]; exact hs es pa), fun p hp => by
    obtain ⟨N, n3, n5, n4, q⟩ := S1.ext
    refine k _ (.list es) _ (q _ _ (Ex.new hp) fun p' hp' => ?_) ⟨es, rfl, pa⟩
    rcases List.mem_cons.mp hp' with rfl | hp'
    · exact .lst upd_same (n3.new hp) ((zip_all le fun p hp => n5 p (List.mem_append_left _ hp)).ex (Ex.new hp))
    · exact (n5 _ (List.mem_append_right _ hp')).ex (Ex.new hp)⟩
end
end DL
set_option Elab.async false
set_option linter.all false
set_option maxRecDepth 100000
/-! t[::-1] of a tuple. -/
namespace DL
open PySem PySem.Spec PyProof.Rows L2 HT
section
variable {prog : Program} {w : World} {A : Around} {E : Value → Shared → Prop} {s : Shared}
theorem rev_places (n : Nat) : Builtin.Slice.slicePlaces ((n : Int) - 1) (-1) (-1) = n := by
  unfold Builtin.Slice.slicePlaces
  rw [if_neg (by decide), show -(-1 : Int) = 1 from rfl, Int.ediv_one]
  split <;> omega
theorem filterMap_all {α β : Type} {f : α → Option β} {g : α → β} : ∀ l : List α, (∀ x ∈ l, f x = some (g x)) → l.filterMap f = l.map g
  | [], _ => rfl
  | x :: l, h => by
    rw [List.filterMap_cons, h x List.mem_cons_self, List.map_cons, filterMap_all l fun y hy => h y (List.mem_cons_of_mem _ hy)]
theorem rev_adjust (n : Nat) : Builtin.Slice.sliceAdjust none none (-1) (n : Int) = ((n : Int) - 1, -1) := by
  unfold Builtin.Slice.sliceAdjust
  simp
theorem rev_pick (xs : Array Value) : ((List.range xs.size).filterMap fun (k : Nat) => xs[(((xs.size : Int) - 1) + (k : Int) * (-1)).toNat]?).toArray = xs.toList.reverse.toArray := by
  congr 1
  apply List.ext_getElem?
  intro i
  have e : (List.range xs.size).filterMap (fun (k : Nat) => xs[(((xs.size : Int) - 1) + (k : Int) * (-1)).toNat]?) = (List.range xs.size).map fun k => xs.toList.reverse[k]! := by
    refine filterMap_all _ fun k hk => ?_
    have hk' : k < xs.size := List.mem_range.mp hk
    have h1 : (((xs.size : Int) - 1) + (k : Int) * (-1)).toNat = xs.size - 1 - k := by omega
    rw [h1]
    have h2 : k < xs.toList.reverse.length := by rw [List.length_reverse, Array.length_toList]; exact hk'
    show xs[xs.size - 1 - k]? = some xs.toList.reverse[k]!
    rw [getElem!_pos xs.toList.reverse k h2, List.getElem_reverse, Array.getElem?_eq_getElem (by omega)]
    simp
  rw [e, List.getElem?_map]
  by_cases hi : i < xs.size
  · rw [List.getElem?_range hi]
    have h2 : i < xs.toList.reverse.length := by rw [List.length_reverse, Array.length_toList]; exact hi
    show some xs.toList.reverse[i]! = xs.toList.reverse[i]?
    rw [getElem!_pos xs.toList.reverse i h2, List.getElem?_eq_getElem h2]
  · have h2 : ¬ i < xs.toList.reverse.length := by rw [List.length_reverse, Array.length_toList]; exact hi
    rw [List.getElem?_eq_none (by rw [List.length_range]; omega), List.getElem?_eq_none (by omega)]
    rfl
theorem rev_applied {c : Addr} {t : Tok} {n : Nat} {Q : Int × Int × Nat → Shared → Prop} (hc : s.heap.IsSliceOf c .none .none (.int (-1) t)) (h : Q ((n : Int) - 1, -1, n) s) :
    wpAny (model prog w) A (Builtin.Slice.sliceApplied (.ref c) (pure (n : Int))) Q E s := by
  obtain ⟨ob, hob, _, hdd⟩ := id hc
  unfold Builtin.Slice.sliceApplied Builtin.Slice.sliceFields
  refine wpAny_bind (wpAny_bind (wpAny_field hob hdd (x := .none) rfl (wpAny_bind (wpAny_field hob hdd (x := .none) rfl (wpAny_bind (wpAny_field hob hdd (x := .int (-1) t) rfl (wpAny_pure ?_)))))))
  refine wpAny_bind (slicePart_int ?_)
  show wpAny _ _ (if ((-1 : Int) == 0) = true then _ else _) _ _ s
  rw [if_neg (by decide)]
  refine wpAny_bind (slicePart_none (wpAny_bind (slicePart_none (wpAny_bind (wpAny_pure ?_)))))
  show wpAny _ _ (match Builtin.Slice.sliceAdjust none none (-1) (n : Int) with | (lo, hi) => pure (lo, (-1 : Int), Builtin.Slice.slicePlaces lo hi (-1))) _ _ s
  rw [rev_adjust n]
  show wpAny _ _ (pure ((n : Int) - 1, (-1 : Int), Builtin.Slice.slicePlaces ((n : Int) - 1) (-1) (-1))) _ _ s
  rw [rev_places]
  exact wpAny_pure h
theorem tuple_rev {b c : Addr} {xs : Array Value} {t : Tok} {Q : Value → Shared → Prop} (hb : IsTup s.heap b xs) (hc : s.heap.IsSliceOf c .none .none (.int (-1) t)) (hz : xs.size ≤ sizeLine)
    (h : Q (.ref s.heap.objs.size) { s with heap := s.heap.push { cls := .type "tuple", data := .seq xs.toList.reverse.toArray } }) : wpAny (model prog w) A (getItem (.ref b) (.ref c)) Q E s := by
  have hsz : sizeOk (.seq xs.toList.reverse.toArray) := by
    show xs.toList.reverse.toArray.size ≤ sizeLine
    rw [List.size_toArray, List.length_reverse, Array.length_toList]
    exact hz
  obtain ⟨ob, hob, hcs, hdd⟩ := id hc
  have hty : s.TypeIs (.ref c) "slice" := ⟨ob, hob, hcs⟩
  unfold getItem
  try with_reducible refine wpAny_holding ?_
  first | refine wpAny_bind (wpAny_pure ?_) | skip
  refine wpAny_bind (wpAny_sequenceKey hb.typeIs (by decide) (wpAny_bind (wpAny_callSpecial?_slot (name := Str.ofString "__getitem__") hb.typeIs PyProof.Rows.slot_tuple_getitem
    (wpAny_call_entry PyProof.Rows.slot_tuple_getitem hb.typeIs entry_tuple_getitem ?_ (args_tuple_getitem _ _)))))
  show wpAny _ _ (Builtin.Tuple.tupleItemsOf (.ref b) >>= _) _ _ s
  refine wpAny_bind (tupleItemsOf_ hb (wpAny_bind (wpAny_typeOf hty ?_)))
  rw [if_pos (by decide)]
  refine wpAny_bind (rev_applied hc ?_)
  have no : ¬ ((((xs.size : Int) - 1) == 0 && (-1 : Int) == 1 && xs.size == xs.size) = true) := by simp
  show wpAny _ _ (if (((xs.size : Int) - 1) == 0 && (-1 : Int) == 1 && xs.size == xs.size) = true then _ else _) _ _ s
  rw [if_neg no, rev_pick]
  first
    | exact wpAny_bind (m := Builtin.Tuple.tupleExact _) (wpAny_newObj_type (wpAny_pure ⟨_, rfl, wpAny_pure h⟩) hsz)
    | exact wpAny_bind (m := Builtin.Tuple.tupleExact _) (wpAny_newObj_type (wpAny_bind (wpAny_pure (wpAny_pure ⟨_, rfl, wpAny_pure h⟩))) hsz)
    | exact wpAny_bind (wpAny_bind (m := Builtin.Tuple.tupleExact _) (wpAny_newObj_type (wpAny_pure (wpAny_pure ⟨_, rfl, wpAny_pure h⟩)) hsz))
    | exact wpAny_bind (wpAny_bind (m := Builtin.Tuple.tupleExact _) (wpAny_newObj_type (wpAny_pure ⟨_, rfl, wpAny_pure h⟩) hsz))
end
theorem slicePick_rev (items : Array Value) : slicePick items none none (some (-1)) = items.toList.reverse.toArray := by
  unfold slicePick
  have e : sliceBounds none none (some (-1)) items.size = ((items.size : Int) - 1, -1, -1) := by
    simp [sliceBounds]
  rw [e, ← rev_pick]
  congr 1
  show List.filterMap _ (sliceRange ((items.size : Int) - 1) (-1) (-1)) = _
  unfold sliceRange
  rw [List.filterMap_map]
  have c : (if (-1 : Int) > 0 then (if (items.size : Int) - 1 < -1 then (-1 - ((items.size : Int) - 1) + -1 - 1) / -1 else 0) else (if (items.size : Int) - 1 > -1 then ((items.size : Int) - 1 - -1 - -1 - 1) / (- -1) else 0)).toNat = items.size := by
    rw [if_neg (by decide), show (- (-1) : Int) = 1 from rfl, Int.ediv_one]
    split <;> omega
  rw [c]
  refine congrArg (fun f => List.filterMap f (List.range items.size)) (funext fun k => ?_)
  show items[((items.size : Int) - 1 + -1 * (k : Int)).toNat]? = _
  rw [Int.mul_comm (-1)]
def tRevT (K : PySem.W.Frag) (te : TE) : TE := fun σ H Q => te σ H fun x H1 => ∃ a xs, x = .ref a ∧ ((SqT K H1 a xs ∧ ∀ p, H1 p = none → Q (.ref p) (upd H1 p (.tup xs.reverse))) ∨ (SqL K H1 a xs ∧ ∀ p, H1 p = none → Q (.ref p) (upd H1 p (.lst xs.reverse))))
theorem pe_revT {X : Cx} {e : Expr} {te : TE} {k : Nat} {p1 p2 p3 pos : Pos} (he : PE X e te) : PE X (.Subscript e (.Slice none none (some (.UnaryOp .USub (.Constant (.int 1) k p1) p2)) p3) pos) (tRevT X.K te) := by
  refine ⟨fun pins s σ H Q J h => ?_⟩
  refine Subscript_ (thn (he.run pins s σ H _ J h) fun v s1 ⟨x, H1, J1, r1, q1⟩ => ?_)
  obtain ⟨a, xs, rfl, q⟩ := q1
  cases r1
  have hm : PO X (some (.UnaryOp .USub (.Constant (.int 1) k p1) p2)) (tPart (tUn (rU fun i => .int (-i)) (tC (.int 1)))) := po_some (pe_un un_neg pe_int)
  refine wpAny_Slice (thn (po_none.run pins s1 σ H1 (fun o G => o = none ∧ G = H1) J1 ⟨rfl, rfl⟩) fun vl s2 ⟨l, H2, J2, pl, el, e2⟩ => ?_)
  subst el e2
  refine thn (po_none.run pins s2 σ H2 (fun o G => o = none ∧ G = H2) J2 ⟨rfl, rfl⟩) fun vu s3 ⟨u, H3, J3, pu, eu, e3⟩ => ?_
  subst eu e3
  refine thn (hm.run pins s3 σ H3 (fun o G => o = some (-1) ∧ G = H3) J3 ⟨1, rfl, -1, rfl, rfl, rfl⟩) fun vs s4 ⟨o, H4, J4, ps, eo, e4⟩ => ?_
  subst eo e4
  have J5 : Inv X pins σ H4 { s4 with heap := s4.heap.push { cls := .type "slice", data := .fields #[vl, vu, vs] } } := J4.kept (t' := s4.toks) fun b ob z => Heap.get?_push_of_some _ z
  rcases q with ⟨hx, q⟩ | ⟨hx, q⟩
  · obtain ⟨its, r, ht, hz⟩ := J5.tuple hx
    have hlen := r.length
    cases pl
    cases pu
    cases ps
    refine tail_any (ops := [.ref a, .ref s4.heap.objs.size]) ht.typeIs (PyProof.Rows.slot_tuple_getitem.lookup) ?_ (by with_unfolding_all rfl)
    refine tuple_rev ht (Heap.IsSliceOf.new _ _ _ _) (by rw [List.size_toArray, ← hlen]; exact hz) ?_
    refine ⟨.ref _, _, J5.laid (t' := s4.toks) (o := .tup xs.reverse) (fun b ob z => Heap.get?_push_of_some _ z) (Nat.le_refl _) ?_, rfl, q _ (J5.hok.fresh (Nat.le_refl _))⟩
    exact ⟨by rw [List.length_reverse]; exact hz, _, r.reverse, IsTup.new _ _⟩
  · obtain ⟨its, r, ht, hz⟩ := J5.list hx
    have hlen := r.length
    cases pl
    cases pu
    cases ps with
    | int i t =>
    obtain ⟨ob, n, ho, hc, hdi, hd⟩ := ht
    have hl : Heap.IsList (s4.heap.push { cls := .type "slice", data := .fields #[Value.none, Value.none, Value.int (-1) t] }) a its.toArray := ⟨ob, ho, hc, n, hd⟩
    refine tail_any (ops := [.ref a, .ref s4.heap.objs.size]) hl.typeIs (slot_list_getitem.lookup) ?_ (by with_unfolding_all rfl)
    refine wpAny_getItem_list_slice hl (Heap.IsSliceOf.new _ _ _ _) .none .none (.int _ _) (by decide) ?_ (by rw [List.size_toArray, ← hlen]; exact hz)
    rw [slicePick_rev]
    refine ⟨.ref _, _, J5.laid (t' := s4.toks) (o := .lst xs.reverse) (fun b ob z => Heap.get?_push_of_some _ z) (Nat.le_refl _) ?_, rfl, q _ (J5.hok.fresh (Nat.le_refl _))⟩
    exact ⟨by rw [List.length_reverse]; exact hz, _, _, r.reverse, Heap.get?_push_size _ rfl⟩
end DL
set_option Elab.async false
set_option linter.all false
set_option maxRecDepth 100000
/-! The layer over data: operations, tests, calls. -/
namespace DL
open PySem PySem.Spec PyProof.Rows L2 Evl TB
section
variable {N : Addr → Prop} {H : Hp} {K : PySem.W.Frag}
/-! ### operations -/
theorem atI_all {zs : List V} {es : List PyData} {i : Int} {e : PyData} (r : RgAll N H zs es) (h : atI es i = some e) : ∃ z, atI zs i = some z ∧ Rg N H z e := by
  unfold atI at h ⊢
  rw [r.len]
  cases hj : ixN es.length i with
  | none => rw [hj] at h; cases h
  | some j =>
    rw [hj] at h
    exact r.get' h
theorem res_rfl {v : V} {e : PyData} {k : VK → Prop} (h : Rg N H v e) (hk : ∀ Q : VK, Q v H → k Q) : Res N H (· = e) k := fun Q q => hk Q (q v e H ex_refl h rfl)
theorem opd_I0 {g : Int → Int → V} {i j : Int} {e : PyData} (h : ∀ N H, Rg N H (g i j) e) : OpD (rI0 g) (.int i) (.int j) (· = e) := fun N H v1 v2 _ r1 r2 => by
  cases r1; cases r2
  exact res_rfl (h N H) fun Q q => ⟨i, j, rfl, rfl, q⟩
theorem opd_I {C : Int → Int → Prop} {g : Int → Int → V} {i j : Int} {e : PyData} (c : C i j) (h : ∀ N H, Rg N H (g i j) e) : OpD (rI C g) (.int i) (.int j) (· = e) := fun N H v1 v2 _ r1 r2 => by
  cases r1; cases r2
  exact res_rfl (h N H) fun Q q => ⟨i, j, rfl, rfl, c, q⟩
theorem opd_eqI {i j : Int} : OpD rEq (.int i) (.int j) (· = .bool (decide (i = j))) := fun N H v1 v2 _ r1 r2 => by
  cases r1; cases r2
  refine res_rfl (.bl _) fun Q q => ⟨rfl, ?_⟩
  have : decide (V.int i = V.int j) = decide (i = j) := by simp
  rw [this]; exact q
theorem opd_neI {i j : Int} : OpD rNe (.int i) (.int j) (· = .bool (!decide (i = j))) := fun N H v1 v2 _ r1 r2 => by
  cases r1; cases r2
  refine res_rfl (.bl _) fun Q q => ⟨rfl, ?_⟩
  have : decide (V.int i = V.int j) = decide (i = j) := by simp
  rw [this]; exact q
theorem opd_neS {x y : Str} : OpD rNe (.str x) (.str y) (· = .bool (!decide (x = y))) := fun N H v1 v2 _ r1 r2 => by
  cases r1; cases r2
  refine res_rfl (.bl _) fun Q q => ⟨rfl, ?_⟩
  have : decide (V.str x = V.str y) = decide (x = y) := by simp
  rw [this]; exact q
theorem opd_ixT {ds : List PyData} {i : Int} {e : PyData} (h : atI ds i = some e) : OpD (rIxT K) (.tuple ds) (.int i) (· = e) := fun N H v1 v2 _ r1 r2 => by
  cases r1 with
  | tup ha _ hr =>
    cases r2
    obtain ⟨z, h1, h2⟩ := atI_all hr h
    exact res_rfl h2 fun Q q => ⟨_, _, i, z, rfl, rfl, .inl (.inl ha), h1, q⟩
theorem opd_ixL {ds : List PyData} {i : Int} {e : PyData} (h : atI ds i = some e) : OpD (rIxL K) (.list ds) (.int i) (· = e) := fun N H v1 v2 _ r1 r2 => by
  cases r1 with
  | lst ha _ hr =>
    cases r2
    obtain ⟨z, h1, h2⟩ := atI_all hr h
    exact res_rfl h2 fun Q q => ⟨_, _, i, z, rfl, rfl, .inl (.inl ha), h1, q⟩
theorem opd_catT {ds es : List PyData} (hl : ds.length + es.length ≤ 100000) : OpD (rCatA K) (.tuple ds) (.tuple es) (· = .tuple (ds ++ es)) := fun N H v1 v2 ok r1 r2 Q q => by
  cases r1 with
  | tup ha na hr =>
    cases r2 with
    | tup hb nb hs =>
      rename_i a xs b ys
      refine ⟨a, b, xs, ys, rfl, rfl, .inl (.inl ha), .inl (.inl hb), size_small (by rw [hr.len, hs.len]; exact hl), fun h => ?_, fun _ h => ?_, fun _ _ p hp => ?_⟩
      · subst h
        cases hr
        exact q _ _ _ ex_refl (.tup hb nb hs) rfl
      · subst h
        cases hs
        exact q _ _ _ ex_refl (.tup ha na hr) (by rw [List.append_nil])
      · exact q _ _ _ (Ex.new hp) (.tup upd_same (ok.new hp) ((hr.app hs).ex (Ex.new hp))) rfl
theorem opd_catL {ds es : List PyData} (hl : ds.length + es.length ≤ 100000) : OpD rCat (.list ds) (.list es) (· = .list (ds ++ es)) := fun N H v1 v2 ok r1 r2 Q q => by
  cases r1 with
  | lst ha na hr =>
    cases r2 with
    | lst hb nb hs =>
      exact ⟨_, _, _, _, rfl, rfl, ha, hb, size_small (by rw [hr.len, hs.len]; exact hl), fun p hp => q _ _ _ (Ex.new hp) (.lst upd_same (ok.new hp) ((hr.app hs).ex (Ex.new hp))) rfl⟩
/-! data without dicts, for == and != -/
mutual
theorem Rg.dp : ∀ (e : PyData) (v : V), Rg N H v e → e.hasDict = false → Dp K H v e
  | .none, _, q, _ => by cases q; exact .non
  | .bool c, _, q, _ => by cases q; exact .bl c
  | .int j, _, q, _ => by cases q; exact .int j
  | .str y, _, q, _ => by cases q; exact .str y
  | .list es, _, q, h => by
    rw [PyData.hasDict] at h
    cases q with
    | lst ha _ r => exact .lst (.inl (.inl ha)) (RgAll.dp es _ r h)
  | .tuple es, _, q, h => by
    rw [PyData.hasDict] at h
    cases q with
    | tup ha _ r => exact .tup (.inl (.inl ha)) (RgAll.dp es _ r h)
  | .dict es, _, q, h => by rw [PyData.hasDict] at h; cases h
theorem RgAll.dp : ∀ (es : List PyData) (vs : List V), RgAll N H vs es → PyData.hasDictAll es = false → DpAll K H vs es
  | [], _, q, _ => by cases q; exact .nil
  | e :: es, _, q, h => by
    rw [PyData.hasDictAll, Bool.or_eq_false_iff] at h
    cases q with
    | cons q1 q2 => exact .cons (Rg.dp e _ q1 h.1) (RgAll.dp es _ q2 h.2)
end
theorem noDict_of {d : PyData} (h : SeqAt.shaped d = true) : d.hasDict = false := PyData.hasDict_of_canLay d (Bool.and_eq_true_iff.mp h).1
theorem opd_neD {d e : PyData} (h1 : SeqAt.shaped d = true) (h2 : SeqAt.shaped e = true) : OpD (rNeD K) d e (· = .bool (!PyData.eqv d e)) := fun N H v1 v2 _ r1 r2 =>
  res_rfl (.bl _) fun Q q => ⟨d, e, r1.dp _ _ (noDict_of h1), r2.dp _ _ (noDict_of h2), h1, h2, q⟩
theorem opd_eqD {d e : PyData} (h1 : SeqAt.shaped d = true) (h2 : SeqAt.shaped e = true) : OpD (rEqD K) d e (· = .bool (PyData.eqv d e)) := fun N H v1 v2 _ r1 r2 =>
  res_rfl (.bl _) fun Q q => ⟨d, e, r1.dp _ _ (noDict_of h1), r2.dp _ _ (noDict_of h2), h1, h2, q⟩
theorem opd_notB {a b : Bool} : OpD rNotB (.bool a) (.bool b) (· = .bool (!decide (a = b))) := fun N H v1 v2 _ r1 r2 => by
  cases r1; cases r2
  exact res_rfl (.bl _) fun Q q => ⟨a, b, rfl, rfl, q⟩
/-! ### built-in calls -/
theorem cad_len {ds : List PyData} : CaD (fun xs H Q => ∃ p ys, xs = [.ref p] ∧ (SqL K H p ys ∨ SqT K H p ys) ∧ Q (.int ys.length) H) [.tuple ds] (· = .int ds.length) := fun N H vs _ r => by
  cases r with
  | cons r1 r2 =>
    cases r2
    cases r1 with
    | tup ha _ hr =>
      refine res_rfl (.int _) fun Q q => ⟨_, _, rfl, .inr (.inl (.inl ha)), ?_⟩
      rw [hr.len]; exact q
theorem cad_lenL {ds : List PyData} : CaD (fun xs H Q => ∃ p ys, xs = [.ref p] ∧ (SqL K H p ys ∨ SqT K H p ys) ∧ Q (.int ys.length) H) [.list ds] (· = .int ds.length) := fun N H vs _ r => by
  cases r with
  | cons r1 r2 =>
    cases r2
    cases r1 with
    | lst ha _ hr =>
      refine res_rfl (.int _) fun Q q => ⟨_, _, rfl, .inl (.inl (.inl ha)), ?_⟩
      rw [hr.len]; exact q
theorem cad_list {ds : List PyData} : CaD (fun xs H Q => ∃ p ys, xs = [.ref p] ∧ (SqL K H p ys ∨ SqT K H p ys) ∧ ∀ l, H l = none → Q (.ref l) (upd H l (.lst ys))) [.tuple ds] (· = .list ds) := fun N H vs ok r Q q => by
  cases r with
  | cons r1 r2 =>
    cases r2
    cases r1 with
    | tup ha _ hr => exact ⟨_, _, rfl, .inr (.inl (.inl ha)), fun p hp => q _ _ _ (Ex.new hp) (.lst upd_same (ok.new hp) (hr.ex (Ex.new hp))) rfl⟩
theorem cad_listL {ds : List PyData} : CaD (fun xs H Q => ∃ p ys, xs = [.ref p] ∧ (SqL K H p ys ∨ SqT K H p ys) ∧ ∀ l, H l = none → Q (.ref l) (upd H l (.lst ys))) [.list ds] (· = .list ds) := fun N H vs ok r Q q => by
  cases r with
  | cons r1 r2 =>
    cases r2
    cases r1 with
    | lst ha _ hr => exact ⟨_, _, rfl, .inl (.inl (.inl ha)), fun p hp => q _ _ _ (Ex.new hp) (.lst upd_same (ok.new hp) (hr.ex (Ex.new hp))) rfl⟩
theorem cad_tuple {ds : List PyData} : CaD (fun xs H Q => ∃ p ys, xs = [.ref p] ∧ ((SqL K H p ys ∧ ∀ l, H l = none → Q (.ref l) (upd H l (.tup ys))) ∨ (SqT K H p ys ∧ Q (.ref p) H))) [.list ds] (· = .tuple ds) := fun N H vs ok r Q q => by
  cases r with
  | cons r1 r2 =>
    cases r2
    cases r1 with
    | lst ha _ hr => exact ⟨_, _, rfl, .inl ⟨.inl (.inl ha), fun p hp => q _ _ _ (Ex.new hp) (.tup upd_same (ok.new hp) (hr.ex (Ex.new hp))) rfl⟩⟩
theorem cad_strI {i : Int} (h : i.natAbs.log2 < 1920) : CaD (fun xs H Q => ∃ i, xs = [.int i] ∧ i.natAbs.log2 < 1920 ∧ Q (.str (toString i)) H) [.int i] (· = .str (numS i)) := fun N H vs _ r => by
  cases r with
  | cons r1 r2 =>
    cases r2; cases r1
    exact res_rfl (.str _) fun Q q => ⟨i, rfl, h, q⟩
theorem cad_boolI {i : Int} : CaD (fun xs H Q => (∃ i, xs = [.int i] ∧ Q (.bl (i != 0)) H) ∨ ∃ k, xs = [.bl k] ∧ Q (.bl k) H) [.int i] (· = .bool (i != 0)) := fun N H vs _ r => by
  cases r with
  | cons r1 r2 =>
    cases r2; cases r1
    exact res_rfl (.bl _) fun Q q => .inl ⟨i, rfl, q⟩
theorem cad_repr {d : PyData} (h1 : okD d = true) (h2 : d.showable = true) (h3 : d.depth < 60) (h4 : d.shown.length ≤ sizeLine) : CaD rReprD [d] (· = .str d.shown) := fun N H vs _ r => by
  cases r with
  | cons r1 r2 =>
    cases r2
    exact res_rfl (.str _) fun Q q => ⟨N, _, d, rfl, r1, h1, h2, h3, h4, q⟩
/-- the name of a value's class -/
def tyN : PyData → String
  | .none => "NoneType" | .bool _ => "bool" | .int _ => "int" | .str _ => "str" | .list _ => "list" | .tuple _ => "tuple" | .dict _ => "dict"
theorem tyX_of {v : V} {e : PyData} (r : Rg N H v e) : TyX K H v (.type (tyN e)) := by
  cases r with
  | non => exact .base .non
  | bl b => exact .base (.bl b)
  | int i => exact .base (.int i)
  | str x => exact .base (.str x)
  | lst h _ _ => exact .base (.lst h)
  | tup h _ _ => exact .base (.tup h)
  | dic h _ => exact .base (.dK h)
def isB (T n : String) : Bool := n == T || (T == "int" && n == "bool")
def isA (T : String) (e : PyData) : Bool := isB T (tyN e)
def tyNames : List String := ["NoneType", "bool", "int", "str", "list", "tuple", "dict"]
theorem tyN_mem (e : PyData) : tyN e ∈ tyNames := by cases e <;> simp [tyN, tyNames]
theorem kit_of {T : String} (h : ∀ n ∈ tyNames, kitB n T = some (isB T n)) (e : PyData) : PySem.W.kitOne K (.type (tyN e)) (.type T) = some (isA T e) := kit_ty (h _ (tyN_mem e))
theorem kit_tuple (e : PyData) : PySem.W.kitOne K (.type (tyN e)) (.type "tuple") = some (isA "tuple" e) := kit_of (by decide +kernel) e
theorem kit_int (e : PyData) : PySem.W.kitOne K (.type (tyN e)) (.type "int") = some (isA "int" e) := kit_of (by decide +kernel) e
theorem kit_bool (e : PyData) : PySem.W.kitOne K (.type (tyN e)) (.type "bool") = some (isA "bool" e) := kit_of (by decide +kernel) e
theorem kit_str (e : PyData) : PySem.W.kitOne K (.type (tyN e)) (.type "str") = some (isA "str" e) := kit_of (by decide +kernel) e
end
section
variable {W : Wd} {H0 : Hp} {ρ : List (Option Sl)} {te ta tb tc : TE} {tas : TA} {P P1 P2 : PyData → Prop} {K : PySem.W.Frag} {tt tu : TT}
theorem ev_isi {T : String} (ha : EvP W H0 te ρ P) (hk : ∀ e, PySem.W.kitOne K (.type (tyN e)) (.type T) = some (isA T e)) : EvP W H0 (tCB (rIsi K) (tCons te (tCons (tC (.ty T)) tNil))) ρ (fun e => ∃ d, P d ∧ e = .bool (isA T d)) := fun τ l σ H S Q k =>
  ha τ l σ H S _ fun v d H1 S1 p => by
    obtain ⟨N, n3, n5, n4, q⟩ := S1.ext
    refine ⟨v, .ty T, .type (tyN d), .type T, isA T d, rfl, .ty T, tyX_of (n5 _ List.mem_cons_self), hk d, k _ (.bool (isA T d)) H1 (q _ _ ex_refl fun p hp => ?_) ⟨d, p, rfl⟩⟩
    rcases List.mem_cons.mp hp with rfl | hp
    · exact .bl _
    · exact n5 _ (List.mem_cons_of_mem _ hp)
/-! ### one operand known -/
theorem ev_op' {r : R2} {d1 d2 e : PyData} (ha : EvP W H0 ta ρ (· = d1)) (hb : EvP W H0 tb ρ (· = d2)) (hr : OpD r d1 d2 (· = e)) : EvP W H0 (tOp r ta tb) ρ (· = e) :=
  ev_op ha hb fun e1 e2 h1 h2 => by rw [h1, h2]; exact hr
theorem eva_one {d : PyData} (ha : EvP W H0 te ρ (· = d)) : EvA W H0 (tCons te tNil) ρ (· = [d]) := eva_cons ha eva_nil fun e es h1 h2 => by rw [h1, h2]
theorem eva_more {d : PyData} {ds : List PyData} (ha : EvP W H0 te ρ (· = d)) (hb : EvA W H0 tas ρ (· = ds)) : EvA W H0 (tCons te tas) ρ (· = d :: ds) := eva_cons ha hb fun e es h1 h2 => by rw [h1, h2]
theorem ev_cb' {r : List V → Hp → VK → Prop} {ds : List PyData} {e : PyData} (ha : EvA W H0 tas ρ (· = ds)) (hr : CaD r ds (· = e)) : EvP W H0 (tCB r tas) ρ (· = e) := ev_cb ha fun es h => by rw [h]; exact hr
theorem ev_tup' {ds : List PyData} (ha : EvA W H0 tas ρ (· = ds)) (hs : ds.length ≤ 100000) : EvP W H0 (tTup tas) ρ (· = .tuple ds) := (ev_tup ha fun es h => by rw [h]; exact hs).imp fun e ⟨es, h1, h2⟩ => by rw [h1, h2]
theorem ev_lst' {ds : List PyData} (ha : EvA W H0 tas ρ (· = ds)) (hs : ds.length ≤ 100000) : EvP W H0 (tLst tas) ρ (· = .list ds) := (ev_lst ha fun es h => by rw [h]; exact hs).imp fun e ⟨es, h1, h2⟩ => by rw [h1, h2]
theorem ev_isi' {T : String} {d : PyData} (ha : EvP W H0 te ρ (· = d)) (hk : ∀ e, PySem.W.kitOne K (.type (tyN e)) (.type T) = some (isA T e)) : EvP W H0 (tCB (rIsi K) (tCons te (tCons (tC (.ty T)) tNil))) ρ (· = .bool (isA T d)) :=
  (ev_isi ha hk).imp fun e ⟨x, h1, h2⟩ => by rw [h2, h1]
theorem ev_and {a : Bool} (ha : EvP W H0 ta ρ (· = .bool a)) (hb : a = true → EvP W H0 tb ρ P) (h0 : a = false → P (.bool false)) : EvP W H0 (tAndV ta tb) ρ P := fun τ l σ H S Q k =>
  ha τ l σ H S _ fun v e H1 S1 p => by
    subst p
    obtain ⟨N, n3, n5, n4, q⟩ := S1.ext
    have hv : v = .bl a := by
      have := n5 _ List.mem_cons_self
      cases this; rfl
    subst hv
    refine ⟨a, rfl, ?_⟩
    cases a with
    | true => exact (if_pos rfl).mpr (hb rfl τ l σ H1 S1.pop Q k)
    | false => exact (if_neg Bool.false_ne_true).mpr (k _ (.bool false) H1 S1 (h0 rfl))
theorem ev_not {a : Bool} (ha : EvP W H0 ta ρ (· = .bool a)) : EvP W H0 (tNotV ta) ρ (· = .bool (!a)) := fun τ l σ H S Q k =>
  ha τ l σ H S _ fun v e H1 S1 p => by
    subst p
    obtain ⟨N, n3, n5, n4, q⟩ := S1.ext
    have hv : v = .bl a := by
      have := n5 _ List.mem_cons_self
      cases this; rfl
    subst hv
    refine ⟨a, rfl, k _ (.bool !a) H1 (q _ _ ex_refl fun p hp => ?_) rfl⟩
    rcases List.mem_cons.mp hp with rfl | hp
    · exact .bl _
    · exact n5 _ (List.mem_cons_of_mem _ hp)
theorem et_of {a : Bool} (ha : EvP W H0 te ρ (· = .bool a)) : EvT W H0 (tTest te) ρ (· = a) := fun τ l σ H S Q k =>
  ha τ l σ H S _ fun v e H1 S1 p => by
    subst p
    obtain ⟨N, n3, n5, n4, q⟩ := S1.ext
    have hv : v = .bl a := by
      have := n5 _ List.mem_cons_self
      cases this; rfl
    exact ⟨a, hv, k a H1 S1.pop rfl⟩
theorem et_b {a : Bool} (ha : EvP W H0 te ρ (· = .bool a)) : EvT W H0 (tB te) ρ (· = a) := et_of ha
theorem et_not {a : Bool} (h : EvT W H0 tt ρ (· = a)) : EvT W H0 (tNot tt) ρ (· = !a) := fun τ l σ H S Q k => h τ l σ H S _ fun b H1 S1 p => k _ H1 S1 (by rw [p])
theorem et_or {a b : Bool} (h1 : EvT W H0 tt ρ (· = a)) (h2 : a = false → EvT W H0 tu ρ (· = b)) : EvT W H0 (tOr tt tu) ρ (· = (a || b)) := fun τ l σ H S Q k => h1 τ l σ H S _ fun c H1 S1 p => by
  subst p
  cases c with
  | true => exact (if_pos rfl).mpr (k true H1 S1 rfl)
  | false => exact (if_neg Bool.false_ne_true).mpr (h2 rfl τ l σ H1 S1 Q fun c' H2 S2 p => k c' H2 S2 (by rw [p]; rfl))
theorem et_and {a b : Bool} (h1 : EvT W H0 tt ρ (· = a)) (h2 : a = true → EvT W H0 tu ρ (· = b)) : EvT W H0 (tAnd tt tu) ρ (· = (a && b)) := fun τ l σ H S Q k => h1 τ l σ H S _ fun c H1 S1 p => by
  subst p
  cases c with
  | true => exact (if_pos rfl).mpr (h2 rfl τ l σ H1 S1 Q fun c' H2 S2 p => k c' H2 S2 (by rw [p]; rfl))
  | false => exact (if_neg Bool.false_ne_true).mpr (k false H1 S1 rfl)
/-- a < b < c of ints -/
theorem ev_chain {g g' : Int → Int → Bool} {i j m : Int} (ha : EvP W H0 ta ρ (· = .int i)) (hb : EvP W H0 tb ρ (· = .int j)) (hc : EvP W H0 tc ρ (· = .int m)) :
    EvP W H0 (tChain (rI0 fun x y => .bl (g x y)) (rI0 fun x y => .bl (g' x y)) ta tb tc) ρ (· = .bool (g i j && g' j m)) := fun τ l σ H S Q k =>
  ha τ l σ H S _ fun v1 e1 H1 S1 p1 => hb _ l σ H1 S1 _ fun v2 e2 H2 S2 p2 => by
    subst p1 p2
    obtain ⟨N, n3, n5, n4, q⟩ := S2.ext
    have h2 := n5 _ List.mem_cons_self
    have h1 := n5 (v1, .int i) (List.mem_cons_of_mem _ List.mem_cons_self)
    cases h1; cases h2
    refine ⟨i, j, rfl, rfl, g i j, rfl, ?_⟩
    cases hg : g i j with
    | true =>
      refine (if_pos rfl).mpr (hc _ l σ H2 S2 _ fun v3 e3 H3 S3 p3 => ?_)
      subst p3
      obtain ⟨N3, m3, m5, m4, q3⟩ := S3.ext
      have h3 := m5 _ List.mem_cons_self
      cases h3
      refine ⟨j, m, rfl, rfl, k _ (.bool (g' j m)) H3 (q3 _ _ ex_refl fun p hp => ?_) (by simp [hg])⟩
      rcases List.mem_cons.mp hp with rfl | hp
      · exact .bl _
      · exact m5 p (List.mem_cons_of_mem _ (List.mem_cons_of_mem _ (List.mem_cons_of_mem _ hp)))
    | false =>
      refine (if_neg Bool.false_ne_true).mpr (k _ (.bool false) H2 (q _ _ ex_refl fun p hp => ?_) (by simp [hg]))
      rcases List.mem_cons.mp hp with rfl | hp
      · exact .bl _
      · exact n5 p (List.mem_cons_of_mem _ (List.mem_cons_of_mem _ hp))
theorem ev_if {a : Bool} (h : EvT W H0 tt ρ (· = a)) (h1 : a = true → EvP W H0 ta ρ P) (h2 : a = false → EvP W H0 tb ρ P) : EvP W H0 (tIf tt ta tb) ρ P := fun τ l σ H S Q k => h τ l σ H S _ fun c H1 S1 p => by
  subst p
  cases c with
  | true => exact (if_pos rfl).mpr (h1 rfl τ l σ H1 S1 Q k)
  | false => exact (if_neg Bool.false_ne_true).mpr (h2 rfl τ l σ H1 S1 Q k)
/-! ### slices -/
def EvO (W : Wd) (H0 : Hp) (to : TO) (ρ : List (Option Sl)) (o : Option Int) : Prop := ∀ τ l σ H, St W H0 ρ τ l σ H → ∀ Q : Option Int → Hp → Prop, (∀ H', St W H0 ρ τ l σ H' → Q o H') → to σ H Q
theorem eo_none : EvO W H0 tNoPart ρ none := fun τ l σ H S Q k => k H S
theorem eo_some {i : Int} (h : EvP W H0 te ρ (· = .int i)) : EvO W H0 (tPart te) ρ (some i) := fun τ l σ H S Q k => h τ l σ H S _ fun v e H1 S1 p => by
  subst p
  obtain ⟨N, n3, n5, n4, q⟩ := S1.ext
  have := n5 _ List.mem_cons_self
  cases this
  exact ⟨i, rfl, k H1 S1.pop⟩
def cutD {α : Type} (ds : List α) (lo hi : Option Int) : List α := (ds.drop (HT.sIx ds.length 0 lo)).take (HT.sIx ds.length ds.length hi - HT.sIx ds.length 0 lo)
theorem ev_slT {tl th : TO} {lo hi : Option Int} {ds : List PyData} (ha : EvP W H0 te ρ (· = .tuple ds)) (hl : EvO W H0 tl ρ lo) (hh : EvO W H0 th ρ hi) : EvP W H0 (tSl (rSlA K) te tl th) ρ (· = .tuple (cutD ds lo hi)) := fun τ l σ H S Q k =>
  ha τ l σ H S _ fun v e H1 S1 p => hl _ l σ H1 S1 _ fun H2 S2 => hh _ l σ H2 S2 _ fun H3 S3 => by
    subst p
    obtain ⟨N, n3, n5, n4, q⟩ := S3.ext
    have hv := n5 _ List.mem_cons_self
    have rest : ∀ p ∈ τ, Rg N H3 p.1 p.2 := fun p hp => n5 p (List.mem_cons_of_mem _ hp)
    cases hv with
    | tup hA hn hr =>
      rename_i a xs
      have ec : RgAll N H3 (cutV xs lo hi) (cutD ds lo hi) := by
        unfold cutV cutD
        rw [hr.len]
        exact (hr.drop _).take _
      refine ⟨a, xs, rfl, .inl (.inl hA), fun hw => ?_, fun _ p hp => ?_⟩
      · have e : cutD ds lo hi = ds := by
          unfold cutD
          rw [hr.len] at hw
          rw [hw.1, hw.2, List.drop_zero, Nat.sub_zero, List.take_length]
        refine k _ (.tuple ds) H3 (q _ _ ex_refl fun p hp => ?_) (by rw [e])
        rcases List.mem_cons.mp hp with rfl | hp
        · exact .tup hA hn hr
        · exact rest p hp
      · refine k _ (.tuple (cutD ds lo hi)) _ (q _ _ (Ex.new hp) fun p' hp' => ?_) rfl
        rcases List.mem_cons.mp hp' with rfl | hp'
        · exact .tup upd_same (n3.new hp) (ec.ex (Ex.new hp))
        · exact (rest p' hp').ex (Ex.new hp)
theorem ev_revT {ds : List PyData} (ha : EvP W H0 te ρ (· = .tuple ds)) : EvP W H0 (tRevT K te) ρ (· = .tuple ds.reverse) := fun τ l σ H S Q k =>
  ha τ l σ H S _ fun v e H3 S3 p => by
    subst p
    obtain ⟨N, n3, n5, n4, q⟩ := S3.ext
    have hv := n5 _ List.mem_cons_self
    cases hv with
    | tup hA hn hr =>
      refine ⟨_, _, rfl, .inl ⟨.inl (.inl hA), fun p hp => k _ (.tuple ds.reverse) _ (q _ _ (Ex.new hp) fun p' hp' => ?_) rfl⟩⟩
      rcases List.mem_cons.mp hp' with rfl | hp'
      · exact .tup upd_same (n3.new hp) (hr.rev.ex (Ex.new hp))
      · exact (n5 p' (List.mem_cons_of_mem _ hp')).ex (Ex.new hp)
/-! ### calls of defs -/
/-- a def upon data that changes nothing: where A holds of its arguments, its value is one of F -/
def SpF (A : List PyData → Prop) (F : List PyData → PyData → Prop) : Sp := fun vs H Q _ => ∃ N es, NOk N H ∧ RgAll N H vs es ∧ A es ∧ ∀ v e H', Ex H H' → Rg N H' v e → F es e → Q v H'
theorem ev_callF {A : List PyData → Prop} {F : List PyData → PyData → Prop} {PA : List PyData → Prop} (ha : EvA W H0 tas ρ PA) (hA : ∀ es, PA es → A es) : EvP W H0 (tCall (SpF A F) [] E0 tas) ρ (fun e => ∃ es, PA es ∧ F es e) := fun τ l σ H S Q k =>
  ha τ l σ H S _ fun vs es H1 S1 le pa => by
    obtain ⟨N, n3, n5, n4, q⟩ := S1.ext
    refine ⟨N, es, n3, ?_, hA es pa, fun v e H' x r f => k v e H' (q H' _ x fun p hp => ?_) ⟨es, pa, f⟩⟩
    · rw [List.append_nil]
      exact zip_all le fun p hp => n5 p (List.mem_append_left _ hp)
    · rcases List.mem_cons.mp hp with rfl | hp
      · exact r
      · exact (n5 p (List.mem_append_right _ hp)).ex x
/-- what stands while such a def runs -/
def WF (N : Addr → Prop) (H0 : Hp) : Wd where
  N := N
  I := fun H => NOk N H0 ∧ ∀ a, N a → H a = H0 a
  ok := fun H h a n => by rw [h.2 a n]; exact h.1 a n
  stab := fun H H' h x => ⟨h.1, fun a n => by rw [x a n]; exact h.2 a n⟩
def slotsOf (es : List PyData) (k : Nat) : List (Option Sl) := es.map (fun e => some (.dat e)) ++ List.replicate k none
theorem slots_start {N M : Addr → Prop} {H : Hp} {k : Nat} : ∀ {vs : List V} {es : List PyData}, RgAll N H vs es → Slots N M H (slotsOf es k) (vs.map some ++ List.replicate k none)
  | _, _, .nil => ⟨by simp [slotsOf], fun i s h => by
      have h' : (List.replicate k (none : Option Sl))[i]? = some (some s) := h
      rw [List.getElem?_replicate] at h'
      split at h' <;> cases h'⟩
  | v :: vs, e :: es, .cons r t => by
    obtain ⟨h1, h2⟩ := slots_start (M := M) (k := k) t
    refine ⟨by simpa [slotsOf] using h1, fun i s h => ?_⟩
    cases i with
    | zero =>
      have h' : some (some (Sl.dat e)) = some (some s) := h
      cases h'
      exact ⟨some v, rfl, v, rfl, r⟩
    | succ i => exact h2 i s h
theorem St.startF {N : Addr → Prop} {H : Hp} {vs : List V} {es : List PyData} {k : Nat} (ok : NOk N H) (r : RgAll N H vs es) : St (WF N H) H (slotsOf es k) [] [] (vs.map some ++ List.replicate k none) H :=
  ⟨⟨ok, fun _ _ => rfl⟩, fun _ _ e _ => e, N, fun _ h => h, fun _ h n => absurd h n, ok, slots_start r, (fun _ h => nomatch h), List.nodup_nil, fun _ h => nomatch h⟩
theorem St.endF {N : Addr → Prop} {H H' : Hp} {σ : L2.St} {τ : List (V × PyData)} {v : V} {e : PyData} {l : List (Addr × List PyData)} (S : St (WF N H) H ρ ((v, e) :: τ) l σ H') : Ex H H' ∧ Rg N H' v e := by
  obtain ⟨M, n1, n2, n3, n4, n5, n6⟩ := S.ex
  refine ⟨fun a o h => ?_, (n5 _ List.mem_cons_self).sub n1⟩
  by_cases hn : N a
  · rw [S.inv.2 a hn]; exact h
  · exact S.off a o h hn
end
end DL
set_option Elab.async false
set_option linter.all false
set_option maxRecDepth 100000
/-! The layer over data: local lists, comprehensions, loops, defs that draw. -/
namespace DL
open PySem PySem.Spec PyProof.Rows L2 Evl TB
section
variable {W : Wd} {H0 H H' : Hp} {ρ : List (Option Sl)} {τ τ' : List (V × PyData)} {l : List (Addr × List PyData)} {σ : L2.St}
theorem Rg.fresh {N : Addr → Prop} {H : Hp} {p : Addr} {v : V} {e : PyData} (hp : H p = none) (r : Rg N H v e) : Rg (fun a => N a ∨ a = p) H v e :=
  Rg.to (fun a o h n => ⟨h, fun q => q.elim n fun z => by rw [z, hp] at h; cases h⟩) e v r
theorem RgAll.fresh {N : Addr → Prop} {H : Hp} {p : Addr} {vs : List V} {es : List PyData} (hp : H p = none) (r : RgAll N H vs es) : RgAll (fun a => N a ∨ a = p) H vs es :=
  RgAll.to (fun a o h n => ⟨h, fun q => q.elim n fun z => by rw [z, hp] at h; cases h⟩) es vs r
/-- a new list of one's own -/
theorem St.newL {p : Addr} (S : St W H0 ρ τ l σ H) (hp : H p = none) : St W H0 ρ τ ((p, []) :: l) σ (upd H p (.lst [])) := by
  obtain ⟨N, n1, n2, n3, n4, n5, n6⟩ := S.ex
  have x : Ex H (upd H p (.lst [])) := Ex.new hp
  have hNp : ¬ N p := n3.new hp
  refine ⟨W.stab H _ S.inv fun a na => ?_, fun a o e n => x _ _ (S.off a o e n), fun a => N a ∨ a = p, fun a h => .inl (n1 a h), fun a h n => ?_, fun a h => ?_, ⟨n4.1, fun i s h => ?_⟩, fun q hq => ((n5 q hq).fresh hp).ex x, ?_, fun q hq => ?_⟩
  · rw [upd_ne (fun z => by rw [z] at na; exact hNp (n1 p na))]
  · rcases h with h | h
    · exact n2 a h n
    · subst h
      cases e : H0 a with
      | none => rfl
      | some o => rw [S.off a o e n] at hp; cases hp
  · rcases h with h | h
    · exact n3.ex x a h
    · rw [h, upd_same]; simp
  · obtain ⟨o, h1, h2⟩ := n4.2 i s h
    refine ⟨o, h1, ?_⟩
    cases s with
    | dat e => obtain ⟨v, q1, q2⟩ := h2; exact ⟨v, q1, (q2.fresh hp).ex x⟩
    | raw v => exact h2
    | rng lo hi => obtain ⟨y, q1, q2, q3⟩ := h2; exact ⟨y, q1, x _ _ q2, fun z => z.elim q3 fun e => by rw [e, hp] at q2; cases q2⟩
  · rw [List.map_cons, List.nodup_cons]
    refine ⟨fun hm => ?_, n6.1⟩
    obtain ⟨q, hq, e⟩ := List.mem_map.mp hm
    have := (n6.2 q hq).1
    rw [e] at this
    exact hNp this
  · rcases List.mem_cons.mp hq with rfl | hq
    · exact ⟨.inr rfl, fun q => hNp (n1 p q), [], upd_same, .nil⟩
    · obtain ⟨a1, a2, xs, a3, a4⟩ := n6.2 q hq
      exact ⟨.inl a1, a2, xs, x _ _ a3, (a4.fresh hp).ex x⟩
theorem Rg.upd {N : Addr → Prop} {H : Hp} {p : Addr} {o : HO} (hp : N p) {v : V} {e : PyData} (r : Rg N H v e) : Rg N (upd H p o) v e :=
  Rg.to (fun a o' h n => ⟨by rw [upd_ne (fun z => by rw [z] at n; exact n hp)]; exact h, n⟩) e v r
theorem RgAll.upd {N : Addr → Prop} {H : Hp} {p : Addr} {o : HO} (hp : N p) {vs : List V} {es : List PyData} (r : RgAll N H vs es) : RgAll N (L2.upd H p o) vs es :=
  RgAll.to (fun a o' h n => ⟨by rw [upd_ne (fun z => by rw [z] at n; exact n hp)]; exact h, n⟩) es vs r
/-- the last value is put behind a list of one's own -/
theorem St.app {p : Addr} {ds : List PyData} {v : V} {e : PyData} (S : St W H0 ρ ((v, e) :: τ) ((p, ds) :: l) σ H) : ∃ xs, H p = some (.lst xs) ∧ xs.length = ds.length ∧ St W H0 ρ τ ((p, ds ++ [e]) :: l) σ (L2.upd H p (.lst (xs ++ [v]))) := by
  obtain ⟨N, n1, n2, n3, n4, n5, n6⟩ := S.ex
  obtain ⟨b1, b2, xs, b3, b4⟩ := n6.2 _ List.mem_cons_self
  refine ⟨xs, b3, b4.len, W.stab H _ S.inv fun a na => ?_, fun a o e n => ?_, N, n1, n2, fun a h => ?_, ⟨n4.1, fun i s h => ?_⟩, fun q hq => (n5 q (List.mem_cons_of_mem _ hq)).upd b1, n6.1, fun q hq => ?_⟩
  · rw [upd_ne (fun z => by rw [z] at na; exact b2 na)]
  · rw [upd_ne (fun z => ?_)]
    · exact S.off a o e n
    · have := n2 p b1 b2
      rw [z, this] at e; cases e
  · by_cases z : a = p
    · rw [z, upd_same]; simp
    · rw [upd_ne z]; exact n3 a h
  · obtain ⟨o, h1, h2⟩ := n4.2 i s h
    refine ⟨o, h1, ?_⟩
    cases s with
    | dat e => obtain ⟨v, q1, q2⟩ := h2; exact ⟨v, q1, q2.upd b1⟩
    | raw v => exact h2
    | rng lo hi => obtain ⟨y, q1, q2, q3⟩ := h2; exact ⟨y, q1, by rw [upd_ne (fun e => q3 (by rw [e]; exact b1))]; exact q2, q3⟩
  · rcases List.mem_cons.mp hq with rfl | hq
    · exact ⟨b1, b2, _, upd_same, (b4.app (.cons (n5 _ List.mem_cons_self) .nil)).upd b1⟩
    · obtain ⟨a1, a2, ys, a3, a4⟩ := n6.2 q (List.mem_cons_of_mem _ hq)
      have nd := n6.1
      rw [List.map_cons, List.nodup_cons] at nd
      have hne : q.1 ≠ p := fun z => nd.1 (List.mem_map.mpr ⟨q, hq, z⟩)
      exact ⟨a1, a2, ys, by rw [upd_ne hne]; exact a3, a4.upd b1⟩
/-- a list of one's own is data from now on -/
theorem St.frz {p : Addr} {ds : List PyData} (S : St W H0 ρ τ ((p, ds) :: l) σ H) : St W H0 ρ ((.ref p, .list ds) :: τ) l σ H := by
  obtain ⟨N, n1, n2, n3, n4, n5, n6⟩ := S.ex
  obtain ⟨b1, b2, xs, b3, b4⟩ := n6.2 _ List.mem_cons_self
  have sub : ∀ a, (N a ∧ a ≠ p) → N a := fun a h => h.1
  have nd := n6.1
  rw [List.map_cons, List.nodup_cons] at nd
  refine ⟨S.inv, S.off, fun a => N a ∧ a ≠ p, fun a h => ⟨n1 a h, fun z => b2 (z ▸ h)⟩, fun a h n => n2 a h.1 n, fun a h => n3 a h.1, ⟨n4.1, fun i s h => ?_⟩, fun q hq => ?_, nd.2, fun q hq => ?_⟩
  · obtain ⟨o, h1, h2⟩ := n4.2 i s h
    refine ⟨o, h1, ?_⟩
    cases s with
    | dat e => obtain ⟨v, q1, q2⟩ := h2; exact ⟨v, q1, q2.sub sub⟩
    | raw v => exact h2
    | rng lo hi => obtain ⟨y, q1, q2, q3⟩ := h2; exact ⟨y, q1, q2, fun z => q3 (sub y z)⟩
  · rcases List.mem_cons.mp hq with rfl | hq
    · exact .lst b3 (fun z => z.2 rfl) (RgAll.to (fun a o h n => ⟨h, fun z => n z.1⟩) _ _ b4)
    · exact (n5 q hq).sub sub
  · obtain ⟨a1, a2, ys, a3, a4⟩ := n6.2 q (List.mem_cons_of_mem _ hq)
    exact ⟨⟨a1, fun z => nd.1 (List.mem_map.mpr ⟨q, hq, z⟩)⟩, a2, ys, a3, RgAll.to (fun a o h n => ⟨h, fun z => n z.1⟩) _ _ a4⟩
theorem St.raws {i : Nat} {v : V} (S : St W H0 ρ τ l σ H) (hσ : σ[i]? = some (some v)) (hi : i < ρ.length) : St W H0 (ρ.set i (some (.raw v))) τ l σ H := by
  obtain ⟨N, n1, n2, n3, n4, n5, n6⟩ := S.ex
  refine ⟨S.inv, S.off, N, n1, n2, n3, ⟨by rw [List.length_set]; exact n4.1, fun j s h => ?_⟩, n5, n6⟩
  by_cases hj : i = j
  · subst hj
    rw [List.getElem?_set_self hi] at h
    cases h
    exact ⟨_, hσ, rfl⟩
  · rw [List.getElem?_set_ne hj] at h
    exact n4.2 j s h
/-- fewer slots known -/
theorem St.less {ρ' : List (Option Sl)} (S : St W H0 ρ τ l σ H) (hl : ρ'.length = ρ.length) (h : ∀ (i : Nat) (s : Sl), ρ'[i]? = some (some s) → ρ[i]? = some (some s)) : St W H0 ρ' τ l σ H := by
  obtain ⟨N, n1, n2, n3, n4, n5, n6⟩ := S.ex
  exact ⟨S.inv, S.off, N, n1, n2, n3, ⟨by rw [hl]; exact n4.1, fun i s e => n4.2 i s (h i s e)⟩, n5, n6⟩
def wipeR (ρ : List (Option Sl)) : List Nat → List (Option Sl)
  | [] => ρ
  | v :: vs => (wipeR ρ vs).set v none
theorem St.wipe (S : St W H0 ρ τ l σ H) : ∀ vs, St W H0 (wipeR ρ vs) τ l (L2.wipe σ vs) H
  | [] => S
  | v :: vs => (S.wipe vs).clr
theorem wipe_id {i : Nat} {o : Option V} : (L2.wipe ((L2.wipe σ [i]).set i o) [i]) = L2.wipe σ [i] := by
  show ((σ.set i none).set i o).set i none = σ.set i none
  rw [List.set_set, List.set_set]
end
section
variable {W : Wd} {H0 : Hp} {ρ : List (Option Sl)} {te ta tb tn : TE} {tas : TA} {P P1 P2 : PyData → Prop} {K : PySem.W.Frag} {tt : TT}
/-- behind a block: the outer slots again -/
theorem St.re {τ : List (V × PyData)} {l : List (Addr × List PyData)} {σ σ' : L2.St} {H : Hp} {i : Nat} {x : Option Sl} (S : St W H0 (ρ.set i x) τ l σ' H) (hi : ρ[i]? = some none) (hσ : ∀ j, j ≠ i → σ'[j]? = σ[j]?) (hl : ρ.length = σ.length) : St W H0 ρ τ l σ H := by
  obtain ⟨N, n1, n2, n3, n4, n5, n6⟩ := S.ex
  refine ⟨S.inv, S.off, N, n1, n2, n3, ⟨hl, fun j s h => ?_⟩, n5, n6⟩
  have hj : j ≠ i := fun z => by rw [z, hi] at h; cases h
  obtain ⟨o, h1, h2⟩ := n4.2 j s (by rw [List.getElem?_set_ne hj.symm]; exact h)
  exact ⟨o, by rw [← hσ j hj]; exact h1, h2⟩
theorem wipe_set_ne {σ : L2.St} {i j : Nat} {o : Option V} (h : j ≠ i) : ((L2.wipe σ [i]).set i o)[j]? = σ[j]? := by
  show ((σ.set i none).set i o)[j]? = σ[j]?
  rw [List.set_set, List.getElem?_set_ne h.symm]
/-- [e for x in range(n)] -/
theorem ev_lcR {n : Int} {i : Nat} (hn0 : 0 ≤ n) (hn : n ≤ 1000) (hi : ρ[i]? = some none) (ha : EvP W H0 tn ρ (· = .int n))
    (he : ∀ j : Nat, (j : Int) < n → EvP W H0 te (ρ.set i (some (.dat (.int j)))) P) :
    EvP W H0 (tLc (iRng1 (tCons tn tNil)) (gName i) tYes te [i]) ρ (fun e => ∃ ds : List PyData, e = .list ds ∧ (ds.length : Int) = n ∧ ∀ d ∈ ds, P d) := fun τ l σ H S Q k =>
  ha τ l σ H S _ fun v e H1 S1 p => by
    subst p
    obtain ⟨N, n3, n5, n4, q⟩ := S1.ext
    have hv := n5 _ List.mem_cons_self
    cases hv
    refine ⟨n, rfl, by omega, by omega, fun D hD => ?_⟩
    -- the outer slots stand beside the block's
    refine lc_range (lo := 0) (n := n.toNat) (fun j H' => ∃ ds : List PyData, ds.length = j ∧ (∀ d ∈ ds, P d) ∧ St W H0 ρ τ ((D, ds) :: l) σ H') ?_ (fun j H' hj h => ?_) (fun H' h => ?_)
    · exact ⟨[], rfl, (fun d h => nomatch h), (S1.pop).newL hD⟩
    · obtain ⟨ds, hl, hd, S2⟩ := h
      have S3 : St W H0 (ρ.set i (some (.dat (.int j)))) τ ((D, ds) :: l) ((L2.wipe σ [i]).set i (some (.int (0 + (j : Int))))) H' := by
        have a := (S2.wipe [i])
        obtain ⟨N', m3, m5, m4, q'⟩ := a.ext
        have b := q' H' (((.int (0 + (j : Int)), .int (0 + (j : Int))) : V × PyData) :: τ) ex_refl fun p hp => by
          rcases List.mem_cons.mp hp with rfl | hp
          · exact .int _
          · exact m5 p hp
        have c := b.set (i := i)
        have e1 : (wipeR ρ [i]).set i (some (Sl.dat (.int (0 + (j : Int))))) = ρ.set i (some (.dat (.int j))) := by
          show (ρ.set i none).set i _ = _
          rw [List.set_set, Int.zero_add]
        rw [e1] at c
        exact c
      refine ⟨wipe_id, he j (by omega) τ _ _ H' S3 _ fun y e H4 S4 pe => ?_⟩
      have S5 := S4.re hi (fun j hj => wipe_set_ne hj) S.len
      obtain ⟨xs, x1, x2, S6⟩ := S5.app
      exact ⟨xs, x1, size_small' (by rw [x2]; omega), ds ++ [e], by rw [List.length_append, hl]; rfl, fun d h => by
        rcases List.mem_append.mp h with h | h
        · exact hd d h
        · rw [List.mem_singleton.mp h]; exact pe, S6⟩
    · obtain ⟨ds, hl, hd, S2⟩ := h
      exact k _ _ H' S2.frz ⟨ds, rfl, by omega, hd⟩
/-- a value's list, held fast: it is the same in every state over the new base -/
theorem St.baseL {τ : List (V × PyData)} {l : List (Addr × List PyData)} {σ : L2.St} {H : Hp} {v : V} {ds : List PyData} (S : St W H0 ρ ((v, .list ds) :: τ) l σ H) :
    ∃ a xs, v = .ref a ∧ H a = some (.lst xs) ∧ xs.length = ds.length ∧ ¬ W.N a ∧ (∀ b o, H0 b = some o → ¬ W.N b → upd H0 a (.lst xs) b = some o) ∧ (∀ b, upd H0 a (.lst xs) b = none → H0 b = none) ∧ St W (upd H0 a (.lst xs)) ρ ((v, .list ds) :: τ) l σ H := by
  obtain ⟨N, n1, n2, n3, n4, n5, n6⟩ := S.ex
  have hv := n5 _ List.mem_cons_self
  cases hv with
  | lst hA hn hr =>
    rename_i a xs
    refine ⟨a, xs, rfl, hA, hr.len, fun h => hn (n1 a h), fun b o e nb => ?_, fun b e => ?_, S.inv, fun b o e nb => ?_, N, n1, fun b h nb => ?_, n3, n4, n5, n6⟩
    · by_cases z : b = a
      · subst z
        have := S.off b o e nb
        rw [this] at hA
        cases hA
        exact upd_same
      · rw [upd_ne z]; exact e
    · by_cases z : b = a
      · rw [z, upd_same] at e; cases e
      · rw [upd_ne z] at e; exact e
    · by_cases z : b = a
      · rw [z, upd_same] at e; cases e; rw [z]; exact hA
      · rw [upd_ne z] at e; exact S.off b o e nb
    · rw [upd_ne (fun z => by rw [z] at h; exact hn h)]
      exact n2 b h nb
theorem St.baseT {τ : List (V × PyData)} {l : List (Addr × List PyData)} {σ : L2.St} {H : Hp} {v : V} {ds : List PyData} (S : St W H0 ρ ((v, .tuple ds) :: τ) l σ H) :
    ∃ a xs, v = .ref a ∧ H a = some (.tup xs) ∧ xs.length = ds.length ∧ ¬ W.N a ∧ (∀ b o, H0 b = some o → ¬ W.N b → upd H0 a (.tup xs) b = some o) ∧ (∀ b, upd H0 a (.tup xs) b = none → H0 b = none) ∧ St W (upd H0 a (.tup xs)) ρ ((v, .tuple ds) :: τ) l σ H := by
  obtain ⟨N, n1, n2, n3, n4, n5, n6⟩ := S.ex
  have hv := n5 _ List.mem_cons_self
  cases hv with
  | tup hA hn hr =>
    rename_i a xs
    refine ⟨a, xs, rfl, hA, hr.len, fun h => hn (n1 a h), fun b o e nb => ?_, fun b e => ?_, S.inv, fun b o e nb => ?_, N, n1, fun b h nb => ?_, n3, n4, n5, n6⟩
    · by_cases z : b = a
      · subst z
        have := S.off b o e nb
        rw [this] at hA
        cases hA
        exact upd_same
      · rw [upd_ne z]; exact e
    · by_cases z : b = a
      · rw [z, upd_same] at e; cases e
      · rw [upd_ne z] at e; exact e
    · by_cases z : b = a
      · rw [z, upd_same] at e; cases e; rw [z]; exact hA
      · rw [upd_ne z] at e; exact S.off b o e nb
    · rw [upd_ne (fun z => by rw [z] at h; exact hn h)]
      exact n2 b h nb
/-- back to the base ahead -/
theorem St.unbase {G : Hp} {τ : List (V × PyData)} {l : List (Addr × List PyData)} {σ : L2.St} {H : Hp} (h1 : ∀ b o, H0 b = some o → ¬ W.N b → G b = some o) (h2 : ∀ b, G b = none → H0 b = none) (S : St W G ρ τ l σ H) : St W H0 ρ τ l σ H := by
  obtain ⟨N, n1, n2, n3, n4, n5, n6⟩ := S.ex
  exact ⟨S.inv, fun b o e n => S.off b o (h1 b o e n) n, N, n1, fun b h n => h2 b (n2 b h n), n3, n4, n5, n6⟩
/-- an item of a list held fast, as the block's own name -/
theorem St.item {τ : List (V × PyData)} {l : List (Addr × List PyData)} {σ : L2.St} {H : Hp} {a : Addr} {xs : List V} {ds : List PyData} {c : PyData} {j : Nat} {x : V} (S : St W H0 ρ ((.ref a, c) :: τ) l σ H)
    (hc : ∀ N, Rg N H (.ref a) c → RgAll N H xs ds) (hx : xs[j]? = some x) : ∃ d, ds[j]? = some d ∧ St W H0 ρ ((x, d) :: (.ref a, c) :: τ) l σ H := by
  obtain ⟨N, n1, n2, n3, n4, n5, n6⟩ := S.ex
  obtain ⟨d, h1, h2⟩ := (hc N (n5 _ List.mem_cons_self)).get hx
  exact ⟨d, h1, S.inv, S.off, N, n1, n2, n3, n4, fun p hp => by
    rcases List.mem_cons.mp hp with rfl | hp
    · exact h2
    · exact n5 p hp, n6⟩
def Rel2 (R : PyData → PyData → Prop) (ds es : List PyData) : Prop := es.length = ds.length ∧ ∀ (i : Nat) (d e : PyData), ds[i]? = some d → es[i]? = some e → R d e
theorem Rel2.snoc {R : PyData → PyData → Prop} {ds es : List PyData} {j : Nat} {d e : PyData} (h : Rel2 R (ds.take j) es) (hd : ds[j]? = some d) (r : R d e) : Rel2 R (ds.take (j + 1)) (es ++ [e]) := by
  have jl : j < ds.length := (List.getElem?_eq_some_iff.mp hd).1
  have tl : (ds.take j).length = j := by rw [List.length_take]; omega
  have el : es.length = j := by rw [h.1, tl]
  refine ⟨by rw [List.length_append, List.length_take, el]; simp; omega, fun i x y hx hy => ?_⟩
  have il : i < j + 1 := by
    have := (List.getElem?_eq_some_iff.mp hy).1
    rw [List.length_append, el] at this
    exact this
  by_cases z : i < j
  · rw [List.getElem?_append_left (by omega)] at hy
    refine h.2 i x y ?_ hy
    rw [List.getElem?_take_of_lt z]
    rw [List.getElem?_take_of_lt il] at hx
    exact hx
  · have : i = j := by omega
    subst this
    rw [List.getElem?_append_right (by omega), el, Nat.sub_self] at hy
    rw [List.getElem?_take_of_lt il, hd] at hx
    cases hx
    have hy' : some e = some y := hy
    cases hy'
    exact r
/-- [e for x in t], t a tuple -/
theorem ev_lcT {i : Nat} {ds : List PyData} {R : PyData → PyData → Prop} (hl : ds.length ≤ 1000) (hi : ρ[i]? = some none) (ha : EvP W H0 ta ρ (· = .tuple ds))
    (he : ∀ G d, d ∈ ds → EvP W G te (ρ.set i (some (.dat d))) (R d)) :
    EvP W H0 (tLc (iTup K ta) (gName i) tYes te [i]) ρ (fun e => ∃ es : List PyData, e = .list es ∧ Rel2 R ds es) := fun τ l σ H S Q k =>
  ha τ l σ H S _ fun v e H1 S1 p => by
    subst p
    obtain ⟨a, xs, rfl, hA, hlen, hna, u1, u2, B⟩ := S1.baseT
    refine ⟨a, rfl, ⟨xs, .inl (.inl hA)⟩, fun D hD => ?_⟩
    have keep : ∀ {τ' l' σ' H'}, St W (upd H0 a (.tup xs)) ρ τ' l' σ' H' → H' a = some (.tup xs) := fun S => S.off a _ upd_same hna
    refine lc_tup (K := K) (a := a) (xs := xs) (fun j H' => ∃ es : List PyData, Rel2 R (ds.take j) es ∧ St W (upd H0 a (.tup xs)) ρ ((.ref a, .tuple ds) :: τ) ((D, es) :: l) σ H') ?_ (fun j H' _ h => ?_) (fun j x H' hx h => ?_) (fun H' h => ?_)
    · exact ⟨[], ⟨by simp, fun _ _ _ _ h => by simp at h⟩, B.newL hD⟩
    · obtain ⟨es, _, S2⟩ := h
      exact .inl (.inl (keep S2))
    · obtain ⟨es, hr, S2⟩ := h
      have hAk := keep S2
      obtain ⟨d, hd, S3⟩ := S2.item (xs := xs) (ds := ds) (fun N r => by
        cases r with
        | tup q1 q2 q3 => rw [hAk] at q1; cases q1; exact q3) hx
      have S4 := (S3.wipe [i]).set (i := i)
      have e1 : (wipeR ρ [i]).set i (some (Sl.dat d)) = ρ.set i (some (.dat d)) := by
        show (ρ.set i none).set i _ = _
        rw [List.set_set]
      rw [e1] at S4
      refine ⟨wipe_id, he _ d (List.mem_of_getElem? hd) _ _ _ H' S4 _ fun y e H4 S5 pe => ?_⟩
      have S6 := S5.re hi (fun j hj => wipe_set_ne hj) S.len
      obtain ⟨ys, x1, x2, S7⟩ := S6.app
      have el : es.length ≤ 1000 := by rw [hr.1, List.length_take]; omega
      exact ⟨ys, x1, size_small' (by rw [x2]; omega), es ++ [e], hr.snoc hd pe, S7⟩
    · obtain ⟨es, hr, S2⟩ := h
      rw [hlen, List.take_length] at hr
      exact k _ _ H' (((S2.unbase u1 u2).frz).mono fun p hp => by
        rcases List.mem_cons.mp hp with rfl | hp
        · exact List.mem_cons_self
        · exact List.mem_cons_of_mem _ (List.mem_cons_of_mem _ hp)) ⟨es, rfl, hr⟩
/-- [e for x in range(n) if t], known -/
theorem ev_lcRf {n : Int} {i : Nat} {b : Nat → Bool} {f : Nat → PyData} (hn0 : 0 ≤ n) (hn : n ≤ 1000) (hi : ρ[i]? = some none) (ha : EvP W H0 tn ρ (· = .int n))
    (ht : ∀ j : Nat, (j : Int) < n → EvT W H0 tt (ρ.set i (some (.dat (.int j)))) (· = b j)) (he : ∀ j : Nat, (j : Int) < n → b j = true → EvP W H0 te (ρ.set i (some (.dat (.int j)))) (· = f j)) :
    EvP W H0 (tLc (iRng1 (tCons tn tNil)) (gName i) tt te [i]) ρ (· = .list (((List.range n.toNat).filter b).map f)) := fun τ l σ H S Q k =>
  ha τ l σ H S _ fun v e H1 S1 p => by
    subst p
    obtain ⟨N, n3, n5, n4, q⟩ := S1.ext
    have hv := n5 _ List.mem_cons_self
    cases hv
    refine ⟨n, rfl, by omega, by omega, fun D hD => ?_⟩
    refine lc_range (lo := 0) (n := n.toNat) (fun j H' => St W H0 ρ τ ((D, ((List.range j).filter b).map f) :: l) σ H') ((S1.pop).newL hD) (fun j H' hj S2 => ?_) (fun H' S2 => k _ _ H' S2.frz rfl)
    have S3 : St W H0 (ρ.set i (some (.dat (.int j)))) τ ((D, ((List.range j).filter b).map f) :: l) ((L2.wipe σ [i]).set i (some (.int (0 + (j : Int))))) H' := by
      have a := (S2.wipe [i])
      obtain ⟨N', m3, m5, m4, q'⟩ := a.ext
      have c := (q' H' (((.int (0 + (j : Int)), .int (0 + (j : Int))) : V × PyData) :: τ) ex_refl fun p hp => by
        rcases List.mem_cons.mp hp with rfl | hp
        · exact .int _
        · exact m5 p hp).set (i := i)
      have e1 : (wipeR ρ [i]).set i (some (Sl.dat (.int (0 + (j : Int))))) = ρ.set i (some (.dat (.int j))) := by
        show (ρ.set i none).set i _ = _
        rw [List.set_set, Int.zero_add]
      rw [e1] at c
      exact c
    refine ⟨wipe_id, ht j (by omega) τ _ _ H' S3 _ fun c H3 S4 pc => ?_⟩
    subst pc
    have el : (((List.range j).filter b).map f).length ≤ 1000 := by
      rw [List.length_map]
      have := List.length_filter_le b (List.range j)
      rw [List.length_range] at this
      omega
    have er : (((List.range (j + 1)).filter b).map f) = (((List.range j).filter b).map f) ++ (if b j = true then [f j] else []) := by
      rw [List.range_succ, List.filter_append, List.map_append]
      cases hb : b j <;> simp [hb]
    cases hb : b j with
    | true =>
      refine (if_pos rfl).mpr (he j (by omega) hb τ _ _ H3 S4 _ fun y e H4 S5 pe => ?_)
      subst pe
      have S6 := S5.re hi (fun j hj => wipe_set_ne hj) S.len
      obtain ⟨ys, x1, x2, S7⟩ := S6.app
      rw [er, hb, if_pos rfl]
      exact ⟨ys, x1, size_small' (by rw [x2]; omega), S7⟩
    | false =>
      refine (if_neg Bool.false_ne_true).mpr ?_
      rw [er, hb, if_neg Bool.false_ne_true, List.append_nil]
      exact S4.re hi (fun j hj => wipe_set_ne hj) S.len
end
end DL
set_option Elab.async false
set_option linter.all false
set_option maxRecDepth 100000
/-! The layer over data: defs that draw numbers from the deck. -/
namespace DL
open PySem PySem.Spec PyProof.Rows L2 Evl TB
/-- what stands while a def that draws runs -/
def WD (d g l : Addr) (N : Addr → Prop) (B : Hp) : Wd where
  N := N
  I := fun H => NOk N H ∧ N d ∧ N g ∧ N l ∧ Deck H d g l ∧ ∀ a, N a → a ≠ d → a ≠ g → a ≠ l → H a = B a
  ok := fun H h => h.1
  stab := fun H H' h x => by
    obtain ⟨h1, h2, h3, h4, ⟨gs, ls, c, q1, q2, q3, q4⟩, h6⟩ := h
    exact ⟨fun a n => by rw [x a n]; exact h1 a n, h2, h3, h4, ⟨gs, ls, c, by rw [x d h2]; exact q1, by rw [x g h3]; exact q2, by rw [x l h4]; exact q3, q4⟩, fun a n n1 n2 n3 => by rw [x a n]; exact h6 a n n1 n2 n3⟩
def Oth (d g l : Addr) (H H' : Hp) : Prop := ∀ a o, H a = some o → a ≠ d → a ≠ g → a ≠ l → H' a = some o
def SpW (A : List PyData → Prop) (F : List PyData → PyData → Prop) : Sp := fun vs H Q _ => ∃ (d g l : Addr) (N : Addr → Prop) (es : List PyData) (vs' : List V), vs = .ref d :: vs' ∧ NOk N H ∧ N d ∧ N g ∧ N l ∧ Deck H d g l ∧ RgAll N H vs' es ∧ A es ∧
  ∀ v e H', Deck H' d g l → Oth d g l H H' → Rg N H' v e → F es e → Q v H'
section
variable {d g l : Addr} {N : Addr → Prop} {B H0 H H' : Hp} {ρ : List (Option Sl)} {te : TE} {tas : TA} {τ : List (V × PyData)} {loc : List (Addr × List PyData)} {σ : L2.St}
theorem Deck.tr {H : Hp} (D : Deck H d g l) : ∀ a, a = d ∨ a = g ∨ a = l → H a ≠ none := by
  obtain ⟨gs, ls, c, q1, q2, q3, _⟩ := D
  rintro a (rfl | rfl | rfl)
  · rw [q1]; simp
  · rw [q2]; simp
  · rw [q3]; simp
theorem nok_oth {M : Addr → Prop} (h : NOk M H) (D : Deck H' d g l) (x : Oth d g l H H') : NOk M H' := fun a n => by
  by_cases z : a = d ∨ a = g ∨ a = l
  · exact Deck.tr D a z
  · cases e : H a with
    | none => exact absurd e (h a n)
    | some o => rw [x a o e (fun q => z (.inl q)) (fun q => z (.inr (.inl q))) fun q => z (.inr (.inr q))]; simp
/-- the state behind a draw -/
theorem St.oth (S : St (WD d g l N B) H0 ρ τ loc σ H) :
    ∃ M : Addr → Prop, NOk M H ∧ M d ∧ M g ∧ M l ∧ Deck H d g l ∧ (∀ p ∈ τ, Rg M H p.1 p.2) ∧ ∀ (H' : Hp) (τ' : List (V × PyData)), Deck H' d g l → Oth d g l H H' → (∀ p ∈ τ', Rg M H' p.1 p.2) → St (WD d g l N B) H0 ρ τ' loc σ H' := by
  obtain ⟨M, n1, n2, n3, n4, n5, n6⟩ := S.ex
  obtain ⟨i1, i2, i3, i4, i5, i6⟩ := S.inv
  refine ⟨M, n3, n1 d i2, n1 g i3, n1 l i4, i5, n5, fun H' τ' D x h => ?_⟩
  have keep : ∀ {P : Addr → Prop}, P d → P g → P l → ∀ a o, H a = some o → ¬ P a → H' a = some o := fun {P} pd pg pl a o e n => x a o e (fun z => n (z ▸ pd)) (fun z => n (z ▸ pg)) fun z => n (z ▸ pl)
  have kM := keep (P := M) (n1 d i2) (n1 g i3) (n1 l i4)
  refine ⟨⟨nok_oth i1 D x, i2, i3, i4, D, fun a n q1 q2 q3 => ?_⟩, fun a o e n => keep (P := N) i2 i3 i4 a o (S.off a o e n) n, M, n1, n2, nok_oth n3 D x, ⟨n4.1, fun i s e => ?_⟩, h, n6.1, fun p hp => ?_⟩
  · rw [← i6 a n q1 q2 q3]
    cases e : H a with
    | none => exact absurd e (i1 a n)
    | some o => exact x a o e q1 q2 q3
  · obtain ⟨o, a1, a2⟩ := n4.2 i s e
    refine ⟨o, a1, ?_⟩
    cases s with
    | dat e => obtain ⟨v, b1, b2⟩ := a2; exact ⟨v, b1, Rg.to (fun a o h n => ⟨kM a o h n, n⟩) _ _ b2⟩
    | raw v => exact a2
    | rng lo hi => obtain ⟨y, b1, b2, b3⟩ := a2; exact ⟨y, b1, kM y _ b2 b3, b3⟩
  · obtain ⟨a1, a2, xs, a3, a4⟩ := n6.2 p hp
    have a2' : ¬ N p.1 := a2
    exact ⟨a1, a2, xs, keep (P := N) i2 i3 i4 _ _ a3 a2', RgAll.to (fun a o h n => ⟨kM a o h n, n⟩) _ _ a4⟩
theorem ev_callW {A : List PyData → Prop} {F : List PyData → PyData → Prop} {PA : List PyData → Prop} {i : Nat} (hr : ρ[i]? = some (some (.raw (.ref d)))) (ha : EvA (WD d g l N B) H0 tas ρ PA) (hA : ∀ es, PA es → A es) :
    EvP (WD d g l N B) H0 (tCall (SpW A F) [] E0 (tCons (tVar i) tas)) ρ (fun e => ∃ es, PA es ∧ F es e) := fun τ loc σ H S Q k =>
  ⟨.ref d, S.raw hr, ha τ loc σ H S _ fun vs es H1 S1 le pa => by
    obtain ⟨M, m1, m2, m3, m4, m5, m6, q⟩ := S1.oth
    refine ⟨d, g, l, M, es, vs, by rw [List.append_nil], m1, m2, m3, m4, m5, zip_all le fun p hp => m6 p (List.mem_append_left _ hp), hA es pa, fun v e H' D x r f => k v e H' (q H' _ D x fun p hp => ?_) ⟨es, pa, f⟩⟩
    rcases List.mem_cons.mp hp with rfl | hp
    · exact r
    · exact Rg.to (fun a o h n => ⟨x a o h (fun z => n (z ▸ m2)) (fun z => n (z ▸ m3)) fun z => n (z ▸ m4), n⟩) _ _ (m6 p (List.mem_append_right _ hp))⟩
theorem St.startW {vs : List V} {es : List PyData} {k : Nat} (ok : NOk N H) (h1 : N d) (h2 : N g) (h3 : N l) (D : Deck H d g l) (r : RgAll N H vs es) :
    St (WD d g l N H) H (some (.raw (.ref d)) :: slotsOf es k) [] [] (some (.ref d) :: (vs.map some ++ List.replicate k none)) H := by
  refine ⟨⟨ok, h1, h2, h3, D, fun _ _ _ _ _ => rfl⟩, fun _ _ e _ => e, N, fun _ h => h, fun _ h n => absurd h n, ok, ⟨?_, fun i s h => ?_⟩, (fun _ h => nomatch h), List.nodup_nil, fun _ h => nomatch h⟩
  · have := (slots_start (M := N) (k := k) r).1
    simpa using this
  · cases i with
    | zero =>
      have h' : some (some (Sl.raw (.ref d))) = some (some s) := h
      cases h'
      exact ⟨_, rfl, rfl⟩
    | succ i => exact (slots_start (M := N) (k := k) r).2 i s h
theorem St.endW {v : V} {e : PyData} (S : St (WD d g l N H) H ρ ((v, e) :: τ) loc σ H') : Deck H' d g l ∧ Oth d g l H H' ∧ Rg N H' v e := by
  obtain ⟨M, n1, n2, n3, n4, n5, n6⟩ := S.ex
  obtain ⟨i1, i2, i3, i4, i5, i6⟩ := S.inv
  refine ⟨i5, fun a o h q1 q2 q3 => ?_, (n5 _ List.mem_cons_self).sub n1⟩
  by_cases hn : N a
  · rw [i6 a hn q1 q2 q3]; exact h
  · exact S.off a o h hn
end
/-! ### the draws -/
def drawA (es : List PyData) : Prop := ∃ m : Int, es = [.int m] ∧ 0 < m ∧ m ≤ 1000000000000000000
def drawF (es : List PyData) (e : PyData) : Prop := ∃ m r : Int, es = [.int m] ∧ e = .int r ∧ 0 ≤ r ∧ r < m
theorem draw_imp {vs : List V} {H : Hp} {Q : VK} {E : XK} (h : SpW drawA drawF vs H Q E) : spDraw vs H Q E := by
  obtain ⟨d, g, l, N, es, vs', rfl, ok, nd, ng, nl, D, r, ⟨m, rfl, m0, m1⟩, q⟩ := h
  cases r with
  | cons r1 r2 =>
    cases r2; cases r1
    exact ⟨d, g, l, m, rfl, m0, m1, D, fun r H' r0 r1 D' o => q _ (.int r) H' D' (fun a o' e n1 n2 _ => o a o' e n1 n2) (.int r) ⟨m, r, rfl, rfl, r0, r1⟩⟩
def oneA (es : List PyData) : Prop := ∃ ds, es = [.list ds] ∧ 0 < ds.length ∧ ds.length ≤ 100000
def oneF (es : List PyData) (e : PyData) : Prop := ∃ ds, es = [.list ds] ∧ e ∈ ds
theorem one_imp {vs : List V} {H : Hp} {Q : VK} {E : XK} (h : SpW oneA oneF vs H Q E) : spOne vs H Q E := by
  obtain ⟨d, g, l, N, es, vs', rfl, ok, nd, ng, nl, D, r, ⟨ds, rfl, m0, m1⟩, q⟩ := h
  cases r with
  | cons r1 r2 =>
    cases r2
    cases r1 with
    | lst hA hn hr =>
      refine ⟨d, g, l, _, _, rfl, D, hA, fun z => hn (z ▸ nd), fun z => hn (z ▸ ng), by rw [hr.len]; exact m0, by rw [hr.len]; exact m1, fun i v H' hv D' o => ?_⟩
      obtain ⟨e, he, hre⟩ := hr.get hv
      exact q v e H' D' (fun a o' h n1 n2 _ => o a o' h n1 n2) (Rg.to (fun a o' h n => ⟨o a o' h (fun z => n (z ▸ nd)) (fun z => n (z ▸ ng)), n⟩) _ _ hre) ⟨ds, rfl, List.mem_of_getElem? he⟩
section
variable {P : Program} {w : World} {K : PySem.W.Frag} {mg : Str → Option Value} {base : Heap} {k : Nat} {x : Str} {ps : List Str}
theorem Keeps.imp {sp sp' : Sp} (h : Keeps P w K mg base k x ps sp) (i : ∀ vs H Q E, sp' vs H Q E → sp vs H Q E) : Keeps P w K mg base k x ps sp' := by
  obtain ⟨f, fd, a, b, c, G⟩ := h
  exact ⟨f, fd, a, b, c, G.imp i⟩
theorem Keeps.up {sp : Sp} {j : Nat} (h : Keeps P w K mg base k x ps sp) (i : k ≤ j) : Keeps P w K mg base j x ps sp := by
  obtain ⟨f, fd, a, b, c, G⟩ := h
  exact ⟨f, fd, a, b, c, G.mono i⟩
end
end DL
set_option Elab.async false
set_option linter.all false
set_option maxRecDepth 100000
/-! What is drawn. -/
namespace DL
open PySem PySem.Spec PyProof.Rows L2 Evl TB
section
variable {W : Wd} {H0 : Hp} {ρ : List (Option Sl)} {te ta tb tn : TE} {tas : TA} {P P1 P2 : PyData → Prop} {tt tu : TT} {R : Bool → Prop}
theorem ev_neg {i : Int} (h : EvP W H0 te ρ (· = .int i)) : EvP W H0 (tUn (rU fun i => .int (-i)) te) ρ (· = .int (-i)) := fun τ l σ H S Q k => h τ l σ H S _ fun v e H1 S1 p => by
  subst p
  obtain ⟨N, n3, n5, n4, q⟩ := S1.ext
  have := n5 _ List.mem_cons_self
  cases this
  refine ⟨i, rfl, k _ (.int (-i)) H1 (q _ _ ex_refl fun p hp => ?_) rfl⟩
  rcases List.mem_cons.mp hp with rfl | hp
  · exact .int _
  · exact n5 p (List.mem_cons_of_mem _ hp)
theorem ev_pow {i j : Int} (h : CPow i j) : EvP W H0 (tOp (rI CPow fun i j => .int (i ^ j.toNat)) (tC (.int i)) (tC (.int j))) ρ (· = .int (i ^ j.toNat)) := ev_op' ev_int ev_int (opd_I h fun _ _ => .int _)
theorem ev_catL {ds es : List PyData} (ha : EvP W H0 ta ρ (· = .list ds)) (hb : EvP W H0 tb ρ (· = .list es)) (h : ds.length + es.length ≤ 100000) : EvP W H0 (tOp rCat ta tb) ρ (· = .list (ds ++ es)) := ev_op' ha hb (opd_catL h)
theorem ev_dict0 : EvP W H0 tDNewK ρ (· = .dict []) := fun τ l σ H S Q k => fun p hp => by
  obtain ⟨N, n3, n5, n4, q⟩ := S.ext
  refine k _ (.dict []) _ (q _ _ (Ex.new hp) fun p' hp' => ?_) rfl
  rcases List.mem_cons.mp hp' with rfl | hp'
  · exact .dic upd_same (n3.new hp)
  · exact (n5 p' hp').ex (Ex.new hp)
theorem et_of' (ha : EvP W H0 te ρ P) (h : ∀ e, P e → ∃ b, e = .bool b ∧ R b) : EvT W H0 (tTest te) ρ R := fun τ l σ H S Q k => ha τ l σ H S _ fun v e H1 S1 p => by
  obtain ⟨b, rfl, rb⟩ := h e p
  obtain ⟨N, n3, n5, n4, q⟩ := S1.ext
  have := n5 _ List.mem_cons_self
  cases this
  exact ⟨b, rfl, k b H1 S1.pop rb⟩
theorem et_and1 (h1 : EvT W H0 tt ρ (· = true)) (h2 : EvT W H0 tu ρ R) : EvT W H0 (tAnd tt tu) ρ R := fun τ l σ H S Q k => h1 τ l σ H S _ fun b H1 S1 p => by
  subst p
  exact (if_pos rfl).mpr (h2 τ l σ H1 S1 Q k)
theorem et_and0 (h1 : EvT W H0 tt ρ (· = false)) (h : R false) : EvT W H0 (tAnd tt tu) ρ R := fun τ l σ H S Q k => h1 τ l σ H S _ fun b H1 S1 p => by
  subst p
  exact (if_neg Bool.false_ne_true).mpr (k false H1 S1 h)
theorem EvT.imp {R' : Bool → Prop} (h : EvT W H0 tt ρ R) (i : ∀ b, R b → R' b) : EvT W H0 tt ρ R' := fun τ l σ H S Q k => h τ l σ H S Q fun b H' S' p => k b H' S' (i b p)
end
theorem flds {xs ys : List PyData} : PyData.hasDictAll (xs ++ ys) = (PyData.hasDictAll xs || PyData.hasDictAll ys) := by
  induction xs with
  | nil => rw [List.nil_append, PyData.hasDictAll, Bool.false_or]
  | cons x xs ih => rw [List.cons_append, PyData.hasDictAll, PyData.hasDictAll, ih, Bool.or_assoc]
theorem flls {xs ys : List PyData} : hasLs (xs ++ ys) = (hasLs xs || hasLs ys) := by
  induction xs with
  | nil => rw [List.nil_append, hasLs, Bool.false_or]
  | cons x xs ih => rw [List.cons_append, hasLs, hasLs, ih, Bool.or_assoc]
/-- no list, no dict in it -/
def plain (e : PyData) : Prop := e.hasDict = false ∧ hasL e = false
theorem plains {xs : List PyData} (h : ∀ x ∈ xs, plain x) : PyData.hasDictAll xs = false ∧ hasLs xs = false := by
  induction xs with
  | nil => exact ⟨rfl, rfl⟩
  | cons x xs ih =>
    have := ih fun y hy => h y (List.mem_cons_of_mem _ hy)
    have hx := h x List.mem_cons_self
    exact ⟨by rw [PyData.hasDictAll, hx.1, this.1]; rfl, by rw [hasLs, hx.2, this.2]; rfl⟩
theorem okD_plain {e : PyData} (h : plain e) : okD e = true := by unfold okD; rw [h.1]; rfl
theorem okD_list {xs : List PyData} (h : ∀ x ∈ xs, plain x) : okD (.list xs) = true := by
  unfold okD
  rw [PyData.hasDict, (plains h).1]; rfl
theorem plain_tuple {xs : List PyData} (h : ∀ x ∈ xs, plain x) : plain (.tuple xs) := ⟨by rw [PyData.hasDict]; exact (plains h).1, by rw [hasL]; exact (plains h).2⟩
theorem okD_mid {xs ys : List PyData} {e : PyData} (hx : ∀ x ∈ xs, plain x) (hy : ∀ x ∈ ys, plain x) (he : okD e = true) : okD (.tuple (xs ++ [e] ++ ys)) = true := by
  unfold okD at he ⊢
  rw [PyData.hasDict, hasL, flds, flds, flls, flls, (plains hx).1, (plains hx).2, (plains hy).1, (plains hy).2]
  rw [PyData.hasDictAll, PyData.hasDictAll, hasLs, hasLs]
  simp only [Bool.or_false, Bool.false_or]
  exact he
theorem fit_nat {i : Int} (h : 0 ≤ i) (h2 : i < 10 ^ 40) : Fit 40 0 (.int i) := by
  refine ⟨?_, ?_, Nat.le_refl _⟩
  · rw [PyData.showable]
    refine decide_eq_true ?_
    by_cases h0 : i.natAbs = 0
    · rw [h0]; decide
    · exact Nat.lt_of_lt_of_le ((Nat.log2_lt h0).mpr (show i.natAbs < 2 ^ 133 by
        have : (10 : Int) ^ 40 < 2 ^ 133 := by decide
        omega)) (by decide)
  · show (numS i).length ≤ 40
    rw [← cs_len, cs_num h]
    unfold digs
    rw [List.length_map]
    exact digits10_le (by decide) (by
      have : ((i.toNat : Nat) : Int) = i := Int.toNat_of_nonneg h
      omega)
/-- what is good to be shown -/
def Gd (n k : Nat) (e : PyData) : Prop := okD e = true ∧ Fit n k e
theorem Gd.mono {n m k j : Nat} {e : PyData} (h : Gd n k e) (h1 : n ≤ m) (h2 : k ≤ j) : Gd m j e := ⟨h.1, h.2.mono h1 h2⟩
def Lv : Nat → PyData → Prop
  | 0, d => ∃ i : Int, d = .int i ∧ 0 ≤ i ∧ i ≤ MS
  | n + 1, d => ∃ ds : List PyData, d = .tuple ds ∧ ds.length ≤ 8 ∧ ∀ x ∈ ds, Lv n x
def Bo : Nat → Nat
  | 0 => 1000
  | n + 1 => 9 * Bo n + 100
theorem Bo_ge (n : Nat) : 1000 ≤ Bo n := by
  induction n with
  | zero => exact Nat.le_refl _
  | succ n ih => show 1000 ≤ 9 * Bo n + 100; omega
theorem Lv.plain : ∀ {n : Nat} {d : PyData}, Lv n d → plain d
  | 0, _, ⟨i, h, _⟩ => by rw [h]; exact ⟨rfl, rfl⟩
  | n + 1, _, ⟨ds, h, _, hx⟩ => by rw [h]; exact plain_tuple fun x hm => Lv.plain (hx x hm)
theorem fit_tup {n k m : Nat} {ds : List PyData} (h : ∀ d ∈ ds, Fit n k d) (hl : ds.length ≤ 9) (hm : 9 * n + 100 ≤ m) : Fit m (k + 1) (.tuple ds) :=
  (Fit.tuple h).mono (by have := Nat.mul_le_mul_right n hl; omega) (Nat.le_refl _)
theorem fit_lst {n k m : Nat} {ds : List PyData} (h : ∀ d ∈ ds, Fit n k d) (hl : ds.length ≤ 9) (hm : 9 * n + 100 ≤ m) : Fit m (k + 1) (.list ds) :=
  (Fit.list h).mono (by have := Nat.mul_le_mul_right n hl; omega) (Nat.le_refl _)
theorem Lv.fit : ∀ {n : Nat} {d : PyData}, Lv n d → Fit (Bo n) n d
  | 0, _, ⟨i, h, h0, h1⟩ => by rw [h]; exact (fit_int h0 h1).mono (by decide) (Nat.le_refl _)
  | n + 1, _, ⟨ds, h, hl, hx⟩ => by rw [h]; exact fit_tup (fun x hm => Lv.fit (hx x hm)) (by omega) (Nat.le_refl _)
/-! ### draws in expressions -/
section
variable {d g l : Addr} {N : Addr → Prop} {B H0 : Hp} {ρ : List (Option Sl)} {te : TE} {tas : TA} {P : PyData → Prop} {j : Nat}
theorem ev_draw {m : Int} (hr : ρ[j]? = some (some (.raw (.ref d)))) (hm : EvP (WD d g l N B) H0 te ρ (· = .int m)) (m0 : 0 < m) (m1 : m ≤ 1000000000000000000) :
    EvP (WD d g l N B) H0 (tCall (SpW drawA drawF) [] E0 (tCons (tVar j) (tCons te tNil))) ρ (fun e => ∃ r : Int, e = .int r ∧ 0 ≤ r ∧ r < m) :=
  (ev_callW hr (eva_one hm) fun es h => by rw [h]; exact ⟨m, rfl, m0, m1⟩).imp fun e ⟨es, h1, m', r, h2, h3, h4, h5⟩ => by
    rw [h1] at h2
    cases h2
    exact ⟨r, h3, h4, h5⟩
theorem ev_one (hr : ρ[j]? = some (some (.raw (.ref d)))) (hm : EvP (WD d g l N B) H0 te ρ P) (h : ∀ e, P e → ∃ ds, e = .list ds ∧ 0 < ds.length ∧ ds.length ≤ 100000) :
    EvP (WD d g l N B) H0 (tCall (SpW oneA oneF) [] E0 (tCons (tVar j) (tCons te tNil))) ρ (fun e => ∃ ds, P (.list ds) ∧ e ∈ ds) :=
  (ev_callW hr (PA := fun es => ∃ e, es = [e] ∧ P e) (eva_cons hm eva_nil fun e es h1 h2 => by rw [h2]; exact ⟨e, rfl, h1⟩) fun es ⟨e, h1, h2⟩ => by
    obtain ⟨ds, rfl, a, b⟩ := h e h2
    exact ⟨ds, h1, a, b⟩).imp fun x ⟨es, ⟨e, h1, h2⟩, ds, h3, h4⟩ => by
    rw [h1] at h3
    cases h3
    exact ⟨ds, h2, h4⟩
end
def nonA (es : List PyData) : Prop := es = []
def oddF (_ : List PyData) (e : PyData) : Prop := Gd 100 3 e
def farF (_ : List PyData) (e : PyData) : Prop := ∃ r : Int, e = .int r ∧ 1 ≤ r ∧ r ≤ MS
def wideA (es : List PyData) : Prop := ∃ n : Nat, es = [.int n] ∧ n ≤ 100
def wideF (es : List PyData) (e : PyData) : Prop := ∃ (n : Nat) (ns : List Int), es = [.int n] ∧ e = tupI ns ∧ ns.length = n ∧ ∀ x ∈ ns, 1 ≤ x ∧ x ≤ MS
theorem ints_of {R : Int → Prop} : ∀ {ds : List PyData}, (∀ d ∈ ds, ∃ n : Int, d = .int n ∧ R n) → ∃ ns : List Int, ds = ns.map PyData.int ∧ ∀ n ∈ ns, R n
  | [], _ => ⟨[], rfl, fun _ h => nomatch h⟩
  | d :: ds, h => by
    obtain ⟨n, rfl, hn⟩ := h d List.mem_cons_self
    obtain ⟨ns, rfl, hs⟩ := ints_of fun x hx => h x (List.mem_cons_of_mem _ hx)
    exact ⟨n :: ns, rfl, fun m hm => by
      rcases List.mem_cons.mp hm with rfl | hm
      · exact hn
      · exact hs m hm⟩
/-! ### statements in their readings -/
theorem d_asg {te : TE} {i : Nat} {ts : TS} {D : Ends} {σ : L2.St} {H : Hp} (h : te σ H fun x H1 => ts D (σ.set i (some x)) H1) : tSeq (tAsg te (gName i)) ts D σ H := h
theorem d_ret {te : TE} {D : Ends} {σ : L2.St} {H : Hp} (h : te σ H D.rt) : tRet te D σ H := h
theorem d_if {tt : TT} {t u ts : TS} {D : Ends} {σ : L2.St} {H : Hp} (h : tt σ H fun b H1 => if b = true then t { D with nx := fun σ H => ts D σ H } σ H1 else u { D with nx := fun σ H => ts D σ H } σ H1) : tSeq (tIfS tt t u) ts D σ H := h
theorem d_seq {t ts : TS} {D : Ends} {σ : L2.St} {H : Hp} (h : t { D with nx := fun σ H => ts D σ H } σ H) : tSeq t ts D σ H := h
abbrev St.rho {W : Wd} {H0 H : Hp} {ρ : List (Option Sl)} {τ : List (V × PyData)} {l : List (Addr × List PyData)} {σ : L2.St} (_ : St W H0 ρ τ l σ H) : List (Option Sl) := ρ
def goodB (n k : Nat) (e : PyData) : Bool := okD e && (e.showable && (decide (e.shown.length ≤ n) && decide (e.depth ≤ k)))
theorem gd_of {n k : Nat} {ds : List PyData} (h : ds.all (goodB n k) = true) {e : PyData} (he : e ∈ ds) : Gd n k e := by
  have := List.all_eq_true.mp h e he
  unfold goodB at this
  simp only [Bool.and_eq_true, decide_eq_true_eq] at this
  exact ⟨this.1, this.2.1, this.2.2.1, this.2.2.2⟩
theorem plain_of {e : PyData} {is : List Int} (h : e = tupI is) : plain e := by
  rw [h]
  exact plain_tuple fun x hx => by
    obtain ⟨n, _, rfl⟩ := List.mem_map.mp hx
    exact ⟨rfl, rfl⟩
theorem opd_add {i j : Int} : OpD (rI0 fun i j => .int (i + j)) (.int i) (.int j) (· = .int (i + j)) := opd_I0 fun _ _ => .int _
theorem opd_sub {i j : Int} : OpD (rI0 fun i j => .int (i - j)) (.int i) (.int j) (· = .int (i - j)) := opd_I0 fun _ _ => .int _
theorem opd_gt {i j : Int} : OpD (rI0 fun i j => .bl (decide (j < i))) (.int i) (.int j) (· = .bool (decide (j < i))) := opd_I0 fun _ _ => .bl _
theorem opd_lt {i j : Int} : OpD (rI0 fun i j => .bl (decide (i < j))) (.int i) (.int j) (· = .bool (decide (i < j))) := opd_I0 fun _ _ => .bl _
theorem OpD.imp {r : R2} {e1 e2 : PyData} {P P' : PyData → Prop} (h : OpD r e1 e2 P) (i : ∀ e, P e → P' e) : OpD r e1 e2 P' := fun N H v1 v2 ok q1 q2 Q k => h N H v1 v2 ok q1 q2 Q fun v e H' x y z => k v e H' x y (i e z)
theorem CaD.imp {r : List V → Hp → VK → Prop} {es : List PyData} {P P' : PyData → Prop} (h : CaD r es P) (i : ∀ e, P e → P' e) : CaD r es P' := fun N H vs ok q Q k => h N H vs ok q Q fun v e H' x y z => k v e H' x y (i e z)
theorem d_next {f : L2.St → Hp → Prop} {a : VK} {b c : L2.St → Hp → Prop} {σ : L2.St} {H : Hp} (h : f σ H) : tNext { nx := f, rt := a, bk := b, ct := c } σ H := h
theorem d_nx {f : L2.St → Hp → Prop} {a : VK} {b c : L2.St → Hp → Prop} {σ : L2.St} {H : Hp} (h : f σ H) : Ends.nx { nx := f, rt := a, bk := b, ct := c } σ H := h
end DL
set_option Elab.async false
set_option linter.all false
set_option maxRecDepth 100000
/-! The layer over data: loops over lists of data, a list of one's own made longer, a pair taken apart. -/
namespace DL
open PySem PySem.Spec PyProof.Rows L2 Evl TB
section
variable {W : Wd} {H0 H : Hp} {ρ : List (Option Sl)} {τ : List (V × PyData)} {l : List (Addr × List PyData)} {σ : L2.St} {K : PySem.W.Frag}
theorem St.un2 {v : V} {e1 e2 : PyData} (S : St W H0 ρ ((v, .tuple [e1, e2]) :: τ) l σ H) : ∃ a v1 v2, v = .ref a ∧ SqT K H a [v1, v2] ∧ St W H0 ρ ((v1, e1) :: (v2, e2) :: τ) l σ H := by
  obtain ⟨N, n1, n2, n3, n4, n5, n6⟩ := S.ex
  have hv := n5 _ List.mem_cons_self
  cases hv with
  | @tup a xs _ hA hn hr =>
    cases hr with
    | cons r1 r =>
      cases r with
      | cons r2 r =>
        cases r
        refine ⟨a, _, _, rfl, .inl (.inl hA), S.inv, S.off, N, n1, n2, n3, n4, fun p hp => ?_, n6⟩
        rcases List.mem_cons.mp hp with rfl | hp
        · exact r1
        · rcases List.mem_cons.mp hp with rfl | hp
          · exact r2
          · exact n5 p (List.mem_cons_of_mem _ hp)
/-- a list of one's own is made longer by another list -/
theorem St.more {p b : Addr} {ds es : List PyData} (S : St W H0 ρ ((.ref b, .list es) :: τ) ((p, ds) :: l) σ H) : ∃ xs zs, H p = some (.lst xs) ∧ H b = some (.lst zs) ∧ xs.length = ds.length ∧ zs.length = es.length ∧ St W H0 ρ τ ((p, ds ++ es) :: l) σ (upd H p (.lst (xs ++ zs))) := by
  obtain ⟨N, n1, n2, n3, n4, n5, n6⟩ := S.ex
  obtain ⟨b1, b2, xs, b3, b4⟩ := n6.2 _ List.mem_cons_self
  have hv := n5 _ List.mem_cons_self
  cases hv with
  | @lst _ zs _ hA hn hr =>
  refine ⟨xs, zs, b3, hA, b4.len, hr.len, W.stab H _ S.inv fun a na => ?_, fun a o e n => ?_, N, n1, n2, fun a h => ?_, ⟨n4.1, fun i s h => ?_⟩, fun q hq => (n5 q (List.mem_cons_of_mem _ hq)).upd b1, n6.1, fun q hq => ?_⟩
  · rw [upd_ne (fun z => by rw [z] at na; exact b2 na)]
  · rw [upd_ne (fun z => ?_)]
    · exact S.off a o e n
    · have := n2 p b1 b2
      rw [z, this] at e; cases e
  · by_cases z : a = p
    · rw [z, upd_same]; simp
    · rw [upd_ne z]; exact n3 a h
  · obtain ⟨o, h1, h2⟩ := n4.2 i s h
    refine ⟨o, h1, ?_⟩
    cases s with
    | dat e => obtain ⟨v, q1, q2⟩ := h2; exact ⟨v, q1, q2.upd b1⟩
    | raw v => exact h2
    | rng lo hi => obtain ⟨y, q1, q2, q3⟩ := h2; exact ⟨y, q1, by rw [upd_ne (fun e => q3 (by rw [e]; exact b1))]; exact q2, q3⟩
  · rcases List.mem_cons.mp hq with rfl | hq
    · exact ⟨b1, b2, _, upd_same, (b4.app hr).upd b1⟩
    · obtain ⟨a1, a2, ys, a3, a4⟩ := n6.2 q (List.mem_cons_of_mem _ hq)
      have nd := n6.1
      rw [List.map_cons, List.nodup_cons] at nd
      have hne : q.1 ≠ p := fun z => nd.1 (List.mem_map.mpr ⟨q, hq, z⟩)
      exact ⟨a1, a2, ys, by rw [upd_ne hne]; exact a3, a4.upd b1⟩
theorem St.loc {p : Addr} {ds : List PyData} (S : St W H0 ρ τ ((p, ds) :: l) σ H) : ∃ xs, H p = some (.lst xs) ∧ xs.length = ds.length := by
  obtain ⟨N, n1, n2, n3, n4, n5, n6⟩ := S.ex
  obtain ⟨b1, b2, xs, b3, b4⟩ := n6.2 _ List.mem_cons_self
  exact ⟨xs, b3, b4.len⟩
/-- for x in a list of data -/
theorem for_dataL {v : V} {ds : List PyData} {i : Nat} {tb : TS} {D : Ends} (S : St W H0 ρ ((v, .list ds) :: τ) l σ H) (J : Nat → List (Option Sl) → List (Addr × List PyData) → Prop) (hJ : J 0 ρ l)
    (hs : ∀ (G : Hp) (j : Nat) (d : PyData) (ρ' : List (Option Sl)) (l' : List (Addr × List PyData)) (σ' : L2.St) (H' : Hp), (∀ b o, H0 b = some o → ¬ W.N b → G b = some o) → (∀ b, G b = none → H0 b = none) → ds[j]? = some d → J j ρ' l' → St W G (ρ'.set i (some (.dat d))) ((v, .list ds) :: τ) l' σ' H' →
      ∀ Nx : L2.St → Hp → Prop, (∀ ρ2 l2 σ2 H2, J (j + 1) ρ2 l2 → St W G ρ2 ((v, .list ds) :: τ) l2 σ2 H2 → Nx σ2 H2) → tb { D with nx := Nx, ct := Nx, bk := D.nx } σ' H')
    (hd : ∀ ρ' l' σ' H', J ds.length ρ' l' → St W H0 ρ' ((v, .list ds) :: τ) l' σ' H' → D.nx σ' H') :
    ∃ a, v = .ref a ∧ (∃ xs, SqL K H a xs) ∧ ∃ Wx : Nat → Nat → L2.St → Hp → Prop, (∃ m, Wx 0 m σ H) ∧ ∀ i' m σ H, Wx i' m σ H → ((Itl K a).stop i' H ∧ D.nx σ H) ∨
      ((Itl K a).go i' H ∧ ∃ N : L2.St → Hp → Prop, (∀ σ' H', N σ' H' → ∃ m', m' < m ∧ Wx (i' + 1) m' σ' H') ∧ ∀ x H', (Itl K a).yld i' H x H' → gName i x σ H' fun σ2 H2 => tb { D with nx := N, ct := N, bk := D.nx } σ2 H2) := by
  obtain ⟨a, xs, rfl, hA, hlen, hna, u1, u2, B⟩ := S.baseL
  have keep : ∀ {τ' l' σ' H' ρ'}, St W (upd H0 a (.lst xs)) ρ' τ' l' σ' H' → H' a = some (.lst xs) := fun S => S.off a _ upd_same hna
  refine ⟨a, rfl, ⟨xs, .inl (.inl hA)⟩, for_list (K := K) (a := a) (xs := xs) (fun j σ' H' => ∃ ρ' l', J j ρ' l' ∧ St W (upd H0 a (.lst xs)) ρ' ((.ref a, .list ds) :: τ) l' σ' H') ⟨ρ, l, hJ, B⟩ (fun j σ' H' _ h => ?_) (fun j x σ' H' hx h => ?_) (fun σ' H' h => ?_)⟩
  · obtain ⟨ρ', l', _, S2⟩ := h
    exact .inl (.inl (keep S2))
  · obtain ⟨ρ', l', hj, S2⟩ := h
    have hAk := keep S2
    obtain ⟨d, hd', S3⟩ := S2.item (xs := xs) (ds := ds) (fun N r => by
      cases r with
      | lst q1 q2 q3 => rw [hAk] at q1; cases q1; exact q3) hx
    exact hs _ j d ρ' l' _ H' u1 u2 hd' hj S3.set _ fun ρ2 l2 σ2 H2 h1 h2 => ⟨ρ2, l2, h1, h2⟩
  · obtain ⟨ρ', l', hj, S2⟩ := h
    rw [hlen] at hj
    exact hd ρ' l' σ' H' hj (S2.unbase u1 u2)
end
/-- the law's own state, once its deck is made -/
theorem St.deck0 {d g l : Addr} {H : Hp} {ρ : List (Option Sl)} {σ : L2.St} (D : Deck H d g l) (hl : ρ.length = σ.length) (h : ∀ (i : Nat) (s : Sl), ρ[i]? = some (some s) → ∃ v, s = .raw v ∧ σ[i]? = some (some v)) :
    St (WD d g l (fun a => a = d ∨ a = g ∨ a = l) H) H ρ [] [] σ H := by
  have ok : NOk (fun a => a = d ∨ a = g ∨ a = l) H := fun a n => Deck.tr D a n
  refine ⟨⟨ok, .inl rfl, .inr (.inl rfl), .inr (.inr rfl), D, fun _ _ _ _ _ => rfl⟩, fun _ _ e _ => e, _, fun _ h => h, fun _ h n => absurd h n, ok, ⟨hl, fun i s e => ?_⟩, (fun _ h => nomatch h), List.nodup_nil, fun _ h => nomatch h⟩
  obtain ⟨v, rfl, hv⟩ := h i s e
  exact ⟨_, hv, rfl⟩
theorem fit_nat2 {i : Int} (h : 0 ≤ i) (h2 : i < 10 ^ 60) : Fit 60 0 (.int i) := by
  refine ⟨?_, ?_, Nat.le_refl _⟩
  · rw [PyData.showable]
    refine decide_eq_true ?_
    by_cases h0 : i.natAbs = 0
    · rw [h0]; decide
    · exact Nat.lt_of_lt_of_le ((Nat.log2_lt h0).mpr (show i.natAbs < 2 ^ 200 by
        have : (10 : Int) ^ 60 < 2 ^ 200 := by decide
        omega)) (by decide)
  · show (numS i).length ≤ 60
    rw [← cs_len, cs_num h]
    unfold digs
    rw [List.length_map]
    exact digits10_le (by decide) (by
      have : ((i.toNat : Nat) : Int) = i := Int.toNat_of_nonneg h
      omega)
section
variable {W : Wd} {H0 : Hp} {ρ : List (Option Sl)} {te ta tb : TE} {P : PyData → Prop}
/-- repr of what is good to be shown -/
theorem ev_repr {n k : Nat} {e : PyData} (h : EvP W H0 te ρ (· = e)) (g : Gd n k e) (hn : n ≤ 1000000) (hk : k < 60) : EvP W H0 (tCB rReprD (tCons te tNil)) ρ (· = .str e.shown) :=
  ev_cb' (eva_one h) (cad_repr g.1 g.2.sh (Nat.lt_of_le_of_lt g.2.dp hk) (Nat.le_trans g.2.len (Nat.le_trans hn (by decide))))
end
theorem d_forL {K : PySem.W.Frag} {te : TE} {i : Nat} {tb : TS} {D : Ends} {σ : L2.St} {H : Hp} (h : te σ H fun v H => ∃ a, v = .ref a ∧ (∃ xs, SqL K H a xs) ∧ ∃ Wx : Nat → Nat → L2.St → Hp → Prop, (∃ m, Wx 0 m σ H) ∧ ∀ i' m σ H, Wx i' m σ H → ((Itl K a).stop i' H ∧ D.nx σ H) ∨
      ((Itl K a).go i' H ∧ ∃ N : L2.St → Hp → Prop, (∀ σ' H', N σ' H' → ∃ m', m' < m ∧ Wx (i' + 1) m' σ' H') ∧ ∀ x H', (Itl K a).yld i' H x H' → gName i x σ H' fun σ2 H2 => tb { D with nx := N, ct := N, bk := D.nx } σ2 H2)) :
    tFor (iList K te) (gName i) tb D σ H := h
theorem g_name {i : Nat} {v : V} {σ : L2.St} {H : Hp} {Q : L2.St → Hp → Prop} (h : Q (σ.set i (some v)) H) : gName i v σ H Q := h
abbrev WL (d g l : Addr) (H : Hp) : Wd := WD d g l (fun a => a = d ∨ a = g ∨ a = l) H
theorem St.nil {W : Wd} {H0 H : Hp} {ρ : List (Option Sl)} {τ : List (V × PyData)} {l : List (Addr × List PyData)} {σ : L2.St} (S : St W H0 ρ τ l σ H) : St W H0 ρ [] l σ H := S.mono fun _ h => nomatch h
section
variable {W : Wd} {H0 : Hp} {ρ : List (Option Sl)} {te ta tb : TE} {P : PyData → Prop} {K : PySem.W.Frag} {tt : TT}
/-- [e for x in xs if t], where no item passes the test -/
theorem ev_lc0 {i : Nat} {Qd : List PyData → Prop} (hi : ρ[i]? = some none) (ha : EvP W H0 ta ρ (fun e => ∃ ds, e = .list ds ∧ Qd ds)) (ht : ∀ G ds dd, Qd ds → dd ∈ ds → EvT W G tt (ρ.set i (some (.dat dd))) (· = false)) :
    EvP W H0 (tLc (iList K ta) (gName i) tt te [i]) ρ (· = .list []) := fun τ l σ H S Q k =>
  ha τ l σ H S _ fun v e H1 S1 p => by
    obtain ⟨ds, rfl, hq⟩ := p
    obtain ⟨a, xs, rfl, hA, hlen, hna, u1, u2, B⟩ := S1.baseL
    refine ⟨a, rfl, ⟨xs, .inl (.inl hA)⟩, fun D hD => ?_⟩
    have keep : ∀ {τ' l' σ' H'}, St W (upd H0 a (.lst xs)) ρ τ' l' σ' H' → H' a = some (.lst xs) := fun S => S.off a _ upd_same hna
    refine lc_list (K := K) (a := a) (xs := xs) (fun j H' => St W (upd H0 a (.lst xs)) ρ ((.ref a, .list ds) :: τ) ((D, []) :: l) σ H') (B.newL hD) (fun j H' _ S2 => .inl (.inl (keep S2))) (fun j x H' hx S2 => ?_) (fun H' S2 => ?_)
    · have hAk := keep S2
      obtain ⟨d, hd, S3⟩ := S2.item (xs := xs) (ds := ds) (fun N r => by
        cases r with
        | lst q1 q2 q3 => rw [hAk] at q1; cases q1; exact q3) hx
      have S4 := (S3.wipe [i]).set (i := i)
      have e1 : (wipeR ρ [i]).set i (some (Sl.dat d)) = ρ.set i (some (.dat d)) := by
        show (ρ.set i none).set i _ = _
        rw [List.set_set]
      rw [e1] at S4
      refine ⟨wipe_id, ht _ ds d hq (List.mem_of_getElem? hd) _ _ _ H' S4 _ fun b H4 S5 pb => ?_⟩
      subst pb
      refine (if_neg Bool.false_ne_true).mpr ?_
      exact S5.re hi (fun j hj => wipe_set_ne hj) S.len
    · exact k _ _ H' (((S2.unbase u1 u2).frz).mono fun p hp => by
        rcases List.mem_cons.mp hp with rfl | hp
        · exact List.mem_cons_self
        · exact List.mem_cons_of_mem _ (List.mem_cons_of_mem _ hp)) rfl
end
theorem d_asgG {te : TE} {g : TG} {ts : TS} {D : Ends} {σ : L2.St} {H : Hp} (h : te σ H fun x H1 => g x σ H1 (ts D)) : tSeq (tAsg te g) ts D σ H := h
theorem d_ifl {tt : TT} {t u : TS} {D : Ends} {σ : L2.St} {H : Hp} (h : tt σ H fun b H1 => if b = true then t D σ H1 else u D σ H1) : tIfS tt t u D σ H := h
end DL
set_option Elab.async false
set_option linter.all false
set_option maxRecDepth 100000
/-! enumerate over a tuple: the call, the walk, the loop. -/
namespace EN
open PySem PySem.Spec PyProof.Rows L2 Evl
open Sem (wp)
set_option maxHeartbeats 1000000 in
theorem meets_enumT {v : Value} {o : Obj} {HB : Heap → Prop} (B : Begins v o HB) :
    Meets (Builtin.«enumerate.__new__» ⟨[.type "enumerate", v], []⟩) (fun _ R s => HB s.heap ∧
      R (.ok (.ret (.ref (s.heap.push o).objs.size)))
        { s with heap := (s.heap.push o).push { cls := .type "enumerate", data := .fields #[.none, .bool false, .ref s.heap.objs.size, rawInt 0, .none, .none] } }) :=
  .of_wp fun prog w A R s st => by
    obtain ⟨hp, gl, dd, tk, os⟩ := s; obtain ⟨st1, st⟩ := st
    have hsub2 := sub_enumerate
    have qi : ∀ {A' : Around} {E Q : Value → Shared → Prop}, Q (.ref hp.objs.size) ⟨hp.push o, gl, dd, tk, os⟩ → wpAny (model prog w) A' (pyIter v) Q E ⟨hp, gl, dd, tk, os⟩ :=
      fun q => B.iter prog w _ _ ⟨hp, gl, dd, tk, os⟩ _ st1 q
    wp_walk using qi
    refine wpAny_stack_any fun sk => wpAny_pure ?_
    split
    · rename_i c _ _ _ _ _
      cases (c == Value.type "enumerate")
      · wp_walk using qi
        exact ⟨_, rfl, st⟩
      · wp_walk using qi
        exact ⟨_, rfl, st⟩
    · wp_walk using qi
      exact ⟨_, rfl, st⟩
theorem call_enumT {prog : Program} {w : World} {A : Around} {E : Value → Shared → Prop} {s : Shared} {t : Addr} {items : Array Value} {Q : Value → Shared → Prop} (hT : s.heap.IsTuple t items)
    (k : ∀ g, IsEnum g (s.heap.objs.size + 1) s.heap.objs.size 0 .none → g.IsTupleIter s.heap.objs.size t 0 → g.objs.size = s.heap.objs.size + 2 →
      (∀ b o, s.heap.get? b = some o → g.get? b = some o) → Q (.ref (s.heap.objs.size + 1)) { s with heap := g }) :
    wpAny (model prog w) A (call (.type "enumerate") [.ref t]) Q E s := by
  refine callType_new F.called_enumerate (by decide) (F.typeCall_enumerate_1 _) (F.newCall_enumerate_1 _) (fun ob => F.args_object_init_2 ob _) F.entry_enumerate_new
    (meets_enumT (begins_tuple t items)) ⟨hT, ?_⟩
  have z1 : (s.heap.push { cls := .type "tuple_iterator", data := .fields #[.ref t, .int 0 0] }).objs.size = s.heap.objs.size + 1 := Heap.size_push ..
  show _ ∧ _
  rw [z1]
  have he1 : IsEnum ((s.heap.push { cls := .type "tuple_iterator", data := .fields #[.ref t, .int 0 0] }).push
      { cls := .type "enumerate", data := .fields #[.none, .bool false, .ref s.heap.objs.size, rawInt 0, .none, .none] }) (s.heap.objs.size + 1) s.heap.objs.size 0 .none := by
    have q := Heap.get?_push_size (s.heap.push { cls := .type "tuple_iterator", data := .fields #[.ref t, .int 0 0] })
      (o := { cls := .type "enumerate", data := .fields #[.none, .bool false, .ref s.heap.objs.size, rawInt 0, .none, .none] }) rfl
    rw [z1] at q; exact q
  refine ⟨⟨_, he1, rfl⟩, k _ he1 ⟨_, Heap.get?_push_of_some _ (Heap.get?_push_size _ rfl), rfl, rfl⟩ (by rw [Heap.size_push, z1]) fun b o x => Heap.get?_push_of_some _ (Heap.get?_push_of_some _ x)⟩
/-- the tuple at a, each item in a new pair -/
def IteT (K : PySem.W.Frag) (a : Addr) : It :=
  ⟨fun i H => ∃ (xs : List V) (x : V), SqT K H a xs ∧ xs[i]? = some x, fun i H v H' => ∃ T x, v = .ref T ∧ H T = none ∧ H' = upd H T (.tup [.int (i : Nat), x]) ∧ ∀ xs, SqT K H a xs → xs[i]? = some x, fun i H => ∃ xs : List V, SqT K H a xs ∧ xs.length ≤ i⟩
theorem turn_enumT {P : Program} {w : World} {K : PySem.W.Frag} {elts : List Expr} {kk : Nat} {tpos : Pos} (a e it : Addr) :
    Turn P w K (.Tuple elts kk tpos) (IteT K a) [e, it] e (fun i h => (∃ old, IsEnum h e it ((i : Nat) : Int) old) ∧ h.IsTupleIter it a i ∧ e ≠ it ∧ a ≠ e ∧ a ≠ it) where
  mem := by simp
  obj := fun i h st b hb => by
    obtain ⟨⟨old, he⟩, ⟨o, ho, hc, hd⟩, _⟩ := st
    rcases (by simpa using hb : b = e ∨ b = it) with z | z
    · rw [z]; exact ⟨_, he, fun v q => nomatch q⟩
    · rw [z]; exact ⟨o, ho, fun v q => by rw [hd] at q; cases q⟩
  keep := fun i h h' st k => let ⟨⟨old, he⟩, hi, hne⟩ := st; ⟨⟨old, k e (by simp) _ he⟩, hi.at fun o q => k it (by simp) o q, hne⟩
  item := by
    intro X hP hw hK hc i pins s σ H E I hf st hg
    subst hP hw hK
    obtain ⟨⟨old, he⟩, hit, hne, n1, n2⟩ := st
    obtain ⟨xs, x, hq, hx⟩ := hg
    obtain ⟨its, rv, p, hz⟩ := I.tuple hq
    obtain ⟨u, hu, ru⟩ := rv.get hx
    have p' : s.heap.IsTuple a its.toArray := p
    have hel : e < s.heap.objs.size := Heap.lt_size he
    have hil : it < s.heap.objs.size := by obtain ⟨_, q, _⟩ := hit; exact Heap.lt_size q
    have hlt : i < its.toArray.size := by
      have := (List.getElem?_eq_some_iff.mp hu).1
      simpa using this
    refine wpAny_pyNext_enum_itemD (Draws.tuple (prog := X.prog) (w := X.w) (A := X.A.in1) (show X.A.in1.handled = none from I.ok.hd hc) it a n2 its.toArray) he ⟨hit, p'⟩ hlt hne (fp := [it, a]) (fun q => by
      rcases (by simpa using q : e = it ∨ e = a) with z | z
      · exact hne z
      · exact n1 z.symm) fun y g tk hy ho hst hT hsz hk => ?_
    have ey : y = u := by
      have h1 : its.toArray[i]? = some u := by simpa using hu
      rw [h1] at hy
      exact (Option.some.inj hy).symm
    subst ey
    refine ⟨_, rfl, wpAny_letOwnedTupleGo_enum (s := { s with heap := g, toks := tk + 1 }) ho fun g2 he2 sb => ?_⟩
    have hT2 : g2.get? s.heap.objs.size = some { cls := .type "tuple", data := .seq #[.int i tk, y] } := (sb.2 _ (Nat.ne_of_gt hel)).trans hT
    have new : ObjOk X.prog X.w (upd H s.heap.objs.size (.tup [.int (i : Nat), x])) g2 s.heap.objs.size (.tup [.int (i : Nat), x]) :=
      ⟨by show 2 ≤ sizeLine; decide, [.int i tk, y], .cons ⟨_, rfl⟩ (.cons ru .nil), ⟨_, hT2, rfl, _, rfl⟩⟩
    have J1 : Inv X pins σ (upd H s.heap.objs.size (.tup [.int (i : Nat), x])) { s with heap := g2, toks := tk + 1 } :=
      I.turnedNew (ch := [e, it]) (fun b ob hb q => (sb.2 b (fun z => hb (by simp [z]))).trans (hk b ob (fun z => hb (by simp [z])) (fun z => hb (by simp [z])) q)) hf (Nat.le_refl _) new
    refine ⟨.ref s.heap.objs.size, _, J1, rfl, ⟨_, x, rfl, I.hok.fresh (Nat.le_refl _), rfl, fun ys hy => by rw [I.tuple_inj hy hq]; exact hx⟩, ⟨⟨y, ?_⟩, hst.1.at fun o q => (sb.2 it (Ne.symm hne)).trans q, hne, n1, n2⟩, fun b hb => ?_⟩
    · have e1 : ((i + 1 : Nat) : Int) = (i : Int) + 1 := by omega
      rw [e1]; exact he2
    · have hb' : b < s.heap.objs.size := by
        rcases (by simpa using hb : b = e ∨ b = it) with z | z
        · rw [z]; exact hel
        · rw [z]; exact hil
      rw [upd_ne (Nat.ne_of_lt hb')]
      exact (hf b hb).1
  done := by
    intro X hP hw hK hc i pins s σ H E I hf st hg
    subst hP hw hK
    obtain ⟨⟨old, he⟩, hit, hne, n1, n2⟩ := st
    obtain ⟨xs, hq, hx⟩ := hg
    obtain ⟨its, rv, p, hz⟩ := I.tuple hq
    obtain ⟨f0, f1, f2, f3, f4, f5⟩ := hf it (by simp)
    have hl := rv.length
    have p' : s.heap.IsTuple a its.toArray := p
    have D : Draws X.prog X.w X.A.in1 it [it, a] i (fun _ _ => True) (fun j h => j = i ∧ h.IsTupleIter it a j ∧ h.IsTuple a its.toArray) :=
      { live := fun _ _ st => let ⟨o, ho, _⟩ := st.2.1; ⟨o, ho⟩
        frame := fun _ _ _ st hk => ⟨st.1, st.2.1.at fun o e => hk it (by simp) o e, st.2.2.at fun o e => hk a (by simp) o e⟩
        item := fun j s Q E hi st hQ => absurd st.1 (Nat.ne_of_lt hi)
        done := fun s Q E st hE => wpAny_nextOf_tuple_end (show X.A.in1.handled = none from I.ok.hd hc) st.2.1 st.2.2 (by simp; omega) hE }
    exact wpAny_pyNext_enum_endD D he ⟨rfl, hit, p'⟩ fun g eb => ⟨rfl, I.turned (t' := s.toks) (fun b o hb q => eb b o hb q) f0 f1 f3 f4 f5⟩
  self := fun A i s Q E st h => let ⟨⟨_, he⟩, _⟩ := st; wpAny_pyIter_enum he h
def iEnumT (K : PySem.W.Frag) (ta : TA) : TI := fun σ H R => ta σ H fun vs H1 => ∃ a xs, vs = [.ref a] ∧ SqT K H1 a xs ∧ R (IteT K a) H1
theorem pi_enumT {X : Cx} {e : Expr} {ta : TA} {p pos tpos : Pos} {elts : List Expr} {kk : Nat} (hg : Gl X "enumerate") (hm : X.mg "enumerate" = none) (ha : PA X [e] ta) (hs : starEach [e] X.env = [(false, eval e X.env)] := by rfl) :
    PI X (.Tuple elts kk tpos) (.Call (.Name "enumerate" p) [e] [] pos) (iEnumT X.K ta) := by
  refine ⟨fun pins s σ H R I h => ?_⟩
  refine Call_ (ld_blt I hg hm boot_enumerate (PyProof.Rows.callWith_type1 (thn (ha.run pos pins s σ H _ I h) fun us t1 ⟨vs, H1, I1, r1, q1⟩ => ?_) hs rfl))
  obtain ⟨a, xs, ex, hq, q⟩ := q1
  subst ex
  cases r1 with
  | cons r rr =>
    cases rr
    cases r
    obtain ⟨its, rv, p1, hz⟩ := I1.tuple hq
    have p' : t1.heap.IsTuple a its.toArray := p1
    have ha : a < t1.heap.objs.size := by obtain ⟨o, ho, _⟩ := id p'; exact Heap.lt_size ho
    refine call_enumT p' fun g he hit hsz hk => wpAny_pyIter_enum he ?_
    have J : Inv X pins σ H1 { t1 with heap := g } := I1.kept (t' := t1.toks) hk
    refine ⟨t1.heap.objs.size + 1, [t1.heap.objs.size + 1, t1.heap.objs.size], _, _, H1, rfl, J, turn_enumT a (t1.heap.objs.size + 1) t1.heap.objs.size, ⟨⟨.none, he⟩, hit, Nat.succ_ne_self _, Nat.ne_of_lt (Nat.lt_succ_of_lt ha), Nat.ne_of_lt ha⟩, fun b hb => ?_, q⟩
    have hle : t1.heap.objs.size ≤ b := by
      rcases (by simpa using hb : b = t1.heap.objs.size + 1 ∨ b = t1.heap.objs.size) with z | z
      · rw [z]; exact Nat.le_succ _
      · rw [z]; exact Nat.le_refl _
    exact I1.fpOk hle (I1.hok.fresh hle)
theorem for_enumT {K : PySem.W.Frag} {a : Addr} {xs : List V} {g : TG} {tb : TS} {D : Ends} {σ : L2.St} {H : Hp} (Pv : Nat → L2.St → Hp → Prop) (h0 : Pv 0 σ H) (hq : ∀ i σ H, Pv i σ H → SqT K H a xs)
    (hs : ∀ (i : Nat) (x : V) (T : Addr) (σ : L2.St) (H : Hp), xs[i]? = some x → Pv i σ H → H T = none → g (.ref T) σ (upd H T (.tup [.int (i : Nat), x])) fun σ2 H2 => tb { D with nx := Pv (i + 1), ct := Pv (i + 1), bk := D.nx } σ2 H2) (hd : ∀ σ H, Pv xs.length σ H → D.nx σ H) :
    ∃ W : Nat → Nat → L2.St → Hp → Prop, (∃ m, W 0 m σ H) ∧ ∀ i m σ H, W i m σ H →
      ((IteT K a).stop i H ∧ D.nx σ H) ∨ ((IteT K a).go i H ∧ ∃ N : L2.St → Hp → Prop, (∀ σ' H', N σ' H' → ∃ m', m' < m ∧ W (i + 1) m' σ' H') ∧ ∀ v H', (IteT K a).yld i H v H' → g v σ H' fun σ2 H2 => tb { D with nx := N, ct := N, bk := D.nx } σ2 H2) := by
  refine ⟨fun i m σ H => m = xs.length - i ∧ i ≤ xs.length ∧ Pv i σ H, ⟨xs.length, rfl, Nat.zero_le _, h0⟩, ?_⟩
  rintro i m σ H ⟨rfl, hi, p⟩
  have qx := hq i σ H p
  by_cases hlt : i < xs.length
  · have hx : xs[i]? = some xs[i] := List.getElem?_eq_getElem hlt
    refine .inr ⟨⟨xs, _, qx, hx⟩, Pv (i + 1), fun σ' H' p' => ⟨xs.length - (i + 1), by omega, rfl, hlt, p'⟩, fun v H' y => ?_⟩
    obtain ⟨T, x', rfl, hT, rfl, f1⟩ := y
    exact hs i x' T σ H (f1 xs qx) p hT
  · have e : i = xs.length := by omega
    subst e
    exact .inl ⟨⟨xs, qx, Nat.le_refl _⟩, hd σ H p⟩
end EN
set_option Elab.async false
set_option linter.all false
set_option maxRecDepth 100000
/-! A loop with enumerate over a tuple of data. -/
namespace DL
open PySem PySem.Spec PyProof.Rows L2 Evl TB EN
section
variable {W : Wd} {H0 : Hp} {ρ : List (Option Sl)} {te : TE} {K : PySem.W.Frag}
theorem d_forE {te : TE} {g : TG} {tb : TS} {D : Ends} {σ : L2.St} {H : Hp} (h : te σ H fun v H => ∃ a xs, [v] = [V.ref a] ∧ SqT K H a xs ∧ ∃ Wx : Nat → Nat → L2.St → Hp → Prop, (∃ m, Wx 0 m σ H) ∧ ∀ i' m σ H, Wx i' m σ H → ((IteT K a).stop i' H ∧ D.nx σ H) ∨
      ((IteT K a).go i' H ∧ ∃ N : L2.St → Hp → Prop, (∀ σ' H', N σ' H' → ∃ m', m' < m ∧ Wx (i' + 1) m' σ' H') ∧ ∀ x H', (IteT K a).yld i' H x H' → g x σ H' fun σ2 H2 => tb { D with nx := N, ct := N, bk := D.nx } σ2 H2)) :
    tFor (iEnumT K (tCons te tNil)) g tb D σ H := h
theorem for_enumD {ds : List PyData} {i j : Nat} {tb : TS} {D : Ends} {τ : List (V × PyData)} {l : List (Addr × List PyData)} {σ : L2.St} {H : Hp} (he : EvP W H0 te ρ (· = .tuple ds)) (S : St W H0 ρ τ l σ H) (J : Nat → Prop) (Qr : List (Option Sl) → Prop) (hJ : J 0) (hQ : Qr ρ)
    (hs : ∀ (G : Hp) (k : Nat) (v : V) (d : PyData) (ρ' : List (Option Sl)) (σ' : L2.St) (H' : Hp), (∀ b o, H0 b = some o → ¬ W.N b → G b = some o) → (∀ b, G b = none → H0 b = none) → ds[k]? = some d → J k → Qr ρ' →
      St W G ((ρ'.set i (some (.dat (.int (k : Nat))))).set j (some (.dat d))) ((v, .tuple ds) :: τ) l σ' H' → ∀ Nx : L2.St → Hp → Prop, (∀ ρ2 σ2 H2, J (k + 1) → Qr ρ2 → St W G ρ2 ((v, .tuple ds) :: τ) l σ2 H2 → Nx σ2 H2) → tb { D with nx := Nx, ct := Nx, bk := D.nx } σ' H')
    (hd : ∀ v ρ' σ' H', J ds.length → Qr ρ' → St W H0 ρ' ((v, .tuple ds) :: τ) l σ' H' → D.nx σ' H') :
    tFor (iEnumT K (tCons te tNil)) (gTup K 2 (gCons (gName i) (gCons (gName j) gNil))) tb D σ H := by
  refine d_forE ?_
  refine he τ l σ H S _ fun v e H1 S1 p => ?_
  subst p
  obtain ⟨a, xs, rfl, hA, hlen, hna, u1, u2, B⟩ := S1.baseT
  have keep : ∀ {τ' l' σ' H' ρ'}, St W (upd H0 a (.tup xs)) ρ' τ' l' σ' H' → H' a = some (.tup xs) := fun S => S.off a _ upd_same hna
  refine ⟨a, xs, rfl, .inl (.inl hA), for_enumT (K := K) (a := a) (xs := xs) (fun k σ' H' => ∃ ρ', J k ∧ Qr ρ' ∧ St W (upd H0 a (.tup xs)) ρ' ((.ref a, .tuple ds) :: τ) l σ' H') ⟨ρ, hJ, hQ, B⟩ (fun k σ' H' h => ?_) (fun k x T σ' H' hx h hT => ?_) (fun σ' H' h => ?_)⟩
  · obtain ⟨ρ', _, _, S2⟩ := h
    exact .inl (.inl (keep S2))
  · obtain ⟨ρ', hj, hq, S2⟩ := h
    have hAk := keep S2
    obtain ⟨d, hd', S3⟩ := S2.item (xs := xs) (ds := ds) (fun N r => by
      cases r with
      | tup q1 q2 q3 => rw [hAk] at q1; cases q1; exact q3) hx
    have ex := Ex.new (o := .tup [.int (k : Nat), x]) hT
    obtain ⟨N', m3, m5, m4, q'⟩ := S3.ext
    have S4 := q' (upd H' T (.tup [.int (k : Nat), x])) ((.int (k : Nat), .int (k : Nat)) :: (x, d) :: (.ref a, .tuple ds) :: τ) ex fun p hp => by
      rcases List.mem_cons.mp hp with rfl | hp
      · exact .int _
      · exact (m5 p hp).ex ex
    refine ⟨T, _, rfl, .inl (.inl upd_same), rfl, _, _, rfl, _, _, rfl, rfl, ?_⟩
    exact hs _ k (.ref a) d ρ' _ _ u1 u2 hd' hj hq ((S4.set (i := i)).set (i := j)) _ fun ρ2 σ2 H2 h1 h2 h3 => ⟨ρ2, h1, h2, h3⟩
  · obtain ⟨ρ', hj, hq, S2⟩ := h
    rw [hlen] at hj
    exact hd _ ρ' σ' H' hj hq (S2.unbase u1 u2)
theorem d_forR {te : TE} {g : TG} {tb : TS} {D : Ends} {σ : L2.St} {H : Hp} (h : te σ H fun v H => ∃ n : Int, [v] = [V.int n] ∧ -(2 ^ 62) ≤ n ∧ n < 2 ^ 62 ∧ ∃ Wx : Nat → Nat → L2.St → Hp → Prop, (∃ m, Wx 0 m σ H) ∧ ∀ i' m σ H, Wx i' m σ H → ((Itr 0 n.toNat).stop i' H ∧ D.nx σ H) ∨
      ((Itr 0 n.toNat).go i' H ∧ ∃ N : L2.St → Hp → Prop, (∀ σ' H', N σ' H' → ∃ m', m' < m ∧ Wx (i' + 1) m' σ' H') ∧ ∀ x H', (Itr 0 n.toNat).yld i' H x H' → g x σ H' fun σ2 H2 => tb { D with nx := N, ct := N, bk := D.nx } σ2 H2)) :
    tFor (iRng1 (tCons te tNil)) g tb D σ H := h
/-- for i in range(n) -/
theorem for_rangeD {n : Nat} {i : Nat} {tb : TS} {D : Ends} {τ : List (V × PyData)} {l : List (Addr × List PyData)} {σ : L2.St} {H : Hp} (he : EvP W H0 te ρ (· = .int n)) (hn : n ≤ 1000) (S : St W H0 ρ τ l σ H) (J : Nat → Prop) (Qr : List (Option Sl) → Prop) (hJ : J 0) (hQ : Qr ρ)
    (hs : ∀ (k : Nat) (ρ' : List (Option Sl)) (σ' : L2.St) (H' : Hp), k < n → J k → Qr ρ' →
      St W H0 (ρ'.set i (some (.dat (.int (k : Nat))))) τ l σ' H' → ∀ Nx : L2.St → Hp → Prop, (∀ ρ2 σ2 H2, J (k + 1) → Qr ρ2 → St W H0 ρ2 τ l σ2 H2 → Nx σ2 H2) → tb { D with nx := Nx, ct := Nx, bk := D.nx } σ' H')
    (hd : ∀ ρ' σ' H', J n → Qr ρ' → St W H0 ρ' τ l σ' H' → D.nx σ' H') :
    tFor (iRng1 (tCons te tNil)) (gName i) tb D σ H := by
  refine d_forR ?_
  refine he τ l σ H S _ fun v e H1 S1 p => ?_
  subst p
  obtain ⟨N, n3, n5, n4, q⟩ := S1.ext
  have hv := n5 _ List.mem_cons_self
  cases hv
  refine ⟨n, rfl, by omega, by omega, ?_⟩
  refine for_range (lo := 0) (n := (n : Int).toNat) (fun k σ' H' => ∃ ρ', J k ∧ Qr ρ' ∧ St W H0 ρ' τ l σ' H') ⟨ρ, hJ, hQ, S1.pop⟩ (fun k σ' H' hk h => ?_) (fun σ' H' h => ?_)
  · obtain ⟨ρ', hj, hq, S2⟩ := h
    obtain ⟨N', m3, m5, m4, q'⟩ := S2.ext
    have S3 := q' H' ((.int (0 + (k : Int)), .int (k : Nat)) :: τ) ex_refl fun p hp => by
      rcases List.mem_cons.mp hp with rfl | hp
      · rw [Int.zero_add]; exact .int _
      · exact m5 p hp
    exact hs k ρ' _ _ (by omega) hj hq (S3.set (i := i)) _ fun ρ2 σ2 H2 h1 h2 h3 => ⟨ρ2, h1, h2, h3⟩
  · obtain ⟨ρ', hj, hq, S2⟩ := h
    exact hd ρ' σ' H' (by simpa using hj) hq S2
end
/-! ### the first that is told -/
def firstE (n : Nat) (f : Nat → Option PyData) : PyData := ((List.range n).findSome? f).getD .none
theorem first_none {n : Nat} {f : Nat → Option PyData} (h : ∀ k, k < n → f k = none) : firstE n f = .none := by
  unfold firstE
  have : (List.range n).findSome? f = none := by
    rw [List.findSome?_eq_none_iff]
    exact fun x hx => h x (List.mem_range.mp hx)
  rw [this]; rfl
theorem first_at {f : Nat → Option PyData} {i : Nat} {r : PyData} (h : ∀ k, k < i → f k = none) (hi : f i = some r) : ∀ n, i < n → (List.range n).findSome? f = some r
  | 0, h0 => absurd h0 (Nat.not_lt_zero _)
  | n + 1, h0 => by
    rw [List.range_succ, List.findSome?_append]
    by_cases z : i < n
    · rw [first_at h hi n z]; rfl
    · have : i = n := by omega
      subst this
      have e : (List.range i).findSome? f = none := by
        rw [List.findSome?_eq_none_iff]
        exact fun x hx => h x (List.mem_range.mp hx)
      rw [e, List.findSome?_cons, hi]; rfl
theorem first_eq {n i : Nat} {f : Nat → Option PyData} {r : PyData} (h : ∀ k, k < i → f k = none) (hi : f i = some r) (hn : i < n) : firstE n f = r := by
  unfold firstE
  rw [first_at h hi n hn]; rfl
theorem opd_isN {e : PyData} : OpD rIsN e .none (· = .bool (match e with | .none => true | _ => false)) := fun N H v1 v2 _ r1 r2 => by
  cases r2
  cases r1 <;> exact res_rfl (.bl _) fun Q q => ⟨rfl, q⟩
theorem opd_notN {e : PyData} : OpD rNotN e .none (· = .bool (!(match e with | .none => true | _ => false))) := fun N H v1 v2 _ r1 r2 => by
  cases r2
  cases r1 <;> exact res_rfl (.bl _) fun Q q => ⟨rfl, q⟩
end DL
set_option Elab.async false
set_option linter.all false
set_option maxRecDepth 100000
/-! Own errors with one field: made, raised, caught; defs that may raise, over data. -/
namespace TB
open PySem PySem.Spec PyProof.Rows L2
/-- __init__(self, f): self.f = f -/
def spIni (C : Addr) (f : Str) : Sp := fun vs H Q _ => ∃ (a : Addr) (v : V), vs = [.ref a, v] ∧ H a = some (exo a C none) ∧ ∀ dx, H dx = none → dx ≠ a → Q .non (upd (upd H dx (exd dx [(f, v)])) a (exo a C (some dx)))
/-- what the text tells of an own error class at C, the field f -/
structure ErrC (P : Program) (w : World) (K : PySem.W.Frag) (mg : Str → Option Value) (base : Heap) (x f : Str) (C : Addr) : Prop where
  g : mg x = some (.ref C)
  T : OexC K C
  xf : XfC K C
  no : PySem.W.findIn K (.ref C) f = some none
  te : PySem.W.exmOne K (.ref C) (.ref C) = some true
  init : ∃ (fI : Addr) (fd : FuncData) (ps : List Str), PySem.W.findIn K (.ref C) "__init__" = some (some (.ref fI)) ∧ PySem.W.typeIn K (.ref fI) = some (.type "function") ∧ Binds K fd ps [] ∧ FnOk P w K mg base CX0 1 fI fd ps (spIni C f)
theorem raise_at {C : Addr} {f : Str} {v : V} {H1 : Hp} {Q : XK} (h : ∀ d, H1 d = none → Q (.ref C) (some d) (upd H1 d (.xd [(f, v)]))) :
    [v].length ≤ 1000 ∧ ∀ a, H1 a = none → spIni C f (.ref a :: ([v] ++ [])) (upd H1 a (exo a C none))
      (fun u H2 => u = .non ∧ ∃ (d : Addr) (fs : List (Str × V)), H2 a = some (exo a C (some d)) ∧ H2 d = some (exd d fs) ∧ H1 d = none ∧ Q (.ref C) (some d) (upd (del H2 a) d (.xd fs))) (fun _ _ _ => False) := by
  refine ⟨(show 1 ≤ 1000 by decide), fun a ha => ⟨a, v, rfl, upd_same, fun dx hd hne => ⟨rfl, dx, _, upd_same, by rw [upd_ne hne, upd_same], ?_, ?_⟩⟩⟩
  · rwa [upd_ne hne] at hd
  · have hd' : H1 dx = none := by rwa [upd_ne hne] at hd
    have e : upd (del (upd (upd (upd H1 a (exo a C none)) dx (exd dx [(f, v)])) a (exo a C (some dx))) a) dx (.xd [(f, v)]) = upd H1 dx (.xd [(f, v)]) := by
      funext b
      by_cases z : b = dx
      · rw [z, upd_same, upd_same]
      · rw [upd_ne z, upd_ne z]
        by_cases y : b = a
        · rw [y, del_same, ha]
        · rw [del_ne y, upd_ne y, upd_ne z, upd_ne y]
    rw [e]
    exact h dx hd'
/-- raise x(e) -/
def tRaiseF (C : Addr) (f : Str) (W : WX) (ta : TA) : TS := fun _ σ H => tMkO C (spIni C f) [] ta σ H fun cls d H' => W cls d σ H'
theorem ps_raiseF {X : Cx} {W : WX} {x f : Str} {C : Addr} {e : Expr} {ta : TA} {p pos pos2 : Pos} (hc : X.calm = true) (G : ErrC X.prog X.w X.K X.mg X.base x f C) (hr : Room 2 X.A) (tk : Takes X W) (hg : Gl X x) (ha : PA X [e] ta)
    (hdb : (x == ("__debug__" : Str)) = false := by decide) (he : starEach (e :: []) X.env = (false, eval e X.env) :: starEach [] X.env := by rfl) (hpl : (backTo pos (starEach [] X.env)).any (·.1) = false := by rfl) :
    PS X (.Raise (some (.Call (.Name x p) [e] [] pos)) none pos2) (tRaiseF C f W ta) := by
  obtain ⟨fI, fd, ps, iC, tI, b, F1⟩ := G.init
  exact ps_raise hc tk (pmk_oex G.T iC tI F1 hr b .nil pass0 hg G.g ha hdb he hpl)
/-- a def that may raise -/
def KeepsX (P : Program) (w : World) (K : PySem.W.Frag) (mg : Str → Option Value) (base : Heap) (k : Nat) (x : Str) (ps : List Str) (sp : Sp) : Prop :=
  ∃ (f : Addr) (fd : FuncData), mg x = some (.ref f) ∧ PySem.W.keepIn K (.ref f) = true ∧ Binds K fd ps [] ∧ FnOk P w K mg base (L2.CX P w) k f fd ps sp
theorem keepsX_of {P : Program} {w : World} {K : PySem.W.Frag} {mg : Str → Option Value} {base : Heap} {k : Nat} {x q : Str} {st : Stmt} {f : Addr} {fd : FuncData} {ps : List Str} {sp : Sp}
    (F : Fun K x q st f fd) {y : Str} (g : mg y = some (.ref f)) (b : Binds K fd ps []) (G : FnOk P w K mg base (L2.CX P w) k f fd ps sp) : KeepsX P w K mg base k y ps sp := ⟨f, fd, g, F.kp, b, G⟩
theorem pe_ownX {X : Cx} {W : WX} {k : Nat} {x : Str} {ps : List Str} {sp : Sp} {e : Expr} {es : List Expr} {t : TA} {p pos : Pos}
    (h : KeepsX X.prog X.w X.K X.mg X.base k x ps sp) (hr : Room k X.A) (tk : Takes X W) (hg : Gl X x) (ha : PA X (e :: es) t) (hdb : (x == ("__debug__" : Str)) = false := by decide)
    (he : starEach (e :: es) X.env = (false, eval e X.env) :: starEach es X.env := by rfl) (hpl : (backTo pos (starEach es X.env)).any (·.1) = false := by rfl) :
    PE X (.Call (.Name x p) (e :: es) [] pos) (tCallS sp (WE W) t) := by
  obtain ⟨f, fd, g, kp, b, G⟩ := h
  exact pe_callS G hr hg g kp b (fun σ => passAt tk σ) ha hdb he hpl
/-- an error of the class at S is what «except S» names -/
theorem exm_own {K : PySem.W.Frag} {S : Addr} (h1 : PySem.W.subIn K (.ref S) (.type "BaseException") = some true) (h2 : PySem.W.isClsIn K S = true) (h3 : PySem.W.typeIn K (.ref S) = some (.type "type")) (h4 : PySem.W.subIn K (.ref S) (.ref S) = some true) :
    PySem.W.exmOne K (.ref S) (.ref S) = some true := by
  have a : (PySem.W.subIn K (.ref S) (.type "BaseException") == some true) = true := by rw [h1]; rfl
  have b : ((PySem.W.clsIn K S).isSome && PySem.W.typeIn K (.ref S) == some (.type "type")) = true := by
    have z : (PySem.W.clsIn K S).isSome = true := h2
    rw [z, h3]; rfl
  unfold PySem.W.exmOne
  rw [if_pos a]
  show (if _ then _ else _) = _
  rw [if_pos b]
  exact h4
end TB
namespace DL
open PySem PySem.Spec PyProof.Rows L2 Evl TB
/-- a def upon data that changes nothing and may raise the error at C: with A its value is one of F, or the error's field is one of G -/
def SpX (C : Addr) (f : Str) (A : List PyData → Prop) (F G : List PyData → PyData → Prop) : Sp := fun vs H Q E => ∃ N es, NOk N H ∧ RgAll N H vs es ∧ A es ∧ (∀ v e H', Ex H H' → Rg N H' v e → F es e → Q v H') ∧
  ∀ d v e H', H' d = some (.xd [(f, v)]) → Ex H H' → Rg N H' v e → G es e → E (.ref C) (some d) H'
section
variable {W : Wd} {H0 : Hp} {ρ : List (Option Sl)} {te : TE} {tas : TA} {P : PyData → Prop} {PA : List PyData → Prop} {C : Addr} {f : Str} {A : List PyData → Prop} {F G : List PyData → PyData → Prop}
theorem call_X {E : L2.St → XK} {τ : List (V × PyData)} {l : List (Addr × List PyData)} {σ : L2.St} {H : Hp} {Q : VK} (ha : EvA W H0 tas ρ PA) (hA : ∀ es, PA es → A es) (S : St W H0 ρ τ l σ H)
    (kq : ∀ v e es H', St W H0 ρ ((v, e) :: τ) l σ H' → PA es → F es e → Q v H') (ke : ∀ d v e es H', St W H0 ρ ((v, e) :: τ) l σ H' → H' d = some (.xd [(f, v)]) → PA es → G es e → E σ (.ref C) (some d) H') :
    tCallS (SpX C f A F G) E tas σ H Q :=
  ha τ l σ H S _ fun vs es H1 S1 le pa => by
    obtain ⟨N, n3, n5, n4, q⟩ := S1.ext
    have more : ∀ {v e H'}, Ex H1 H' → Rg N H' v e → St W H0 ρ ((v, e) :: τ) l σ H' := fun {v e H'} x r => q H' _ x fun p hp => by
      rcases List.mem_cons.mp hp with rfl | hp
      · exact r
      · exact (n5 p (List.mem_append_right _ hp)).ex x
    exact ⟨N, es, n3, zip_all le fun p hp => n5 p (List.mem_append_left _ hp), hA es pa, fun v e H' x r h => kq v e es H' (more x r) pa h, fun d v e H' hd x r h => ke d v e es H' (more x r) hd pa h⟩
theorem raise_X {Wx : WX} {τ : List (V × PyData)} {l : List (Addr × List PyData)} {σ : L2.St} {H : Hp} {D : Ends} (ha : EvP W H0 te ρ P) (S : St W H0 ρ τ l σ H)
    (k : ∀ d v e H', St W H0 ρ ((v, e) :: τ) l σ H' → H' d = some (.xd [(f, v)]) → P e → Wx (.ref C) (some d) σ H') : tRaiseF C f Wx (tCons te tNil) D σ H :=
  ha τ l σ H S _ fun v e H1 S1 p => raise_at (C := C) (f := f) (v := v) (H1 := H1) (Q := fun cls d H' => Wx cls d σ H') fun d hd => by
    obtain ⟨N, n3, n5, n4, q⟩ := S1.ext
    exact k d v e _ (q _ ((v, e) :: τ) (Ex.new hd) fun p hp => (n5 p hp).ex (Ex.new hd)) upd_same p
end
end DL
set_option Elab.async false
set_option linter.all false
set_option maxRecDepth 100000
set_option maxHeartbeats 2000000
/-! zip of two or three, each a list or a tuple. -/
namespace ZP
open PySem PySem.Spec PyProof.Rows L2 RZ
theorem nn {a b : Nat} (h : a ≠ b) : @Ne Addr a b := h
open PySem.Sem (wp)
/-- an iterator of a list (true) or of a tuple, at a place -/
def ItK (κ : Bool) (h : Heap) (it l : Addr) (k : Nat) : Prop := match κ with
  | true => h.IsListIter it l k
  | false => h.IsTupleIter it l k
def SqK (κ : Bool) (h : Heap) (l : Addr) (xs : Array Value) : Prop := match κ with
  | true => h.IsList l xs
  | false => h.IsTuple l xs
def SqV (κ : Bool) (K : PySem.W.Frag) (H : Hp) (a : Addr) (xs : List V) : Prop := match κ with
  | true => SqL K H a xs
  | false => SqT K H a xs
def itObj (κ : Bool) (l : Addr) : Obj := match κ with
  | true => { cls := .type "list_iterator", data := .fields #[.ref l, .int 0 0] }
  | false => { cls := .type "tuple_iterator", data := .fields #[.ref l, .int 0 0] }
theorem itObj_ok (κ : Bool) (l : Addr) : (itObj κ l).isFreed = false := by cases κ <;> rfl
theorem ItK.at {κ : Bool} {h h' : Heap} {a l : Addr} {k : Nat} (x : ItK κ h a l k) (e : ∀ o, h.get? a = some o → h'.get? a = some o) : ItK κ h' a l k := by
  cases κ with
  | true => exact Heap.IsListIter.at x e
  | false => exact Heap.IsTupleIter.at x e
theorem ItK.obj {κ : Bool} {h : Heap} {a l : Addr} {k : Nat} (x : ItK κ h a l k) : ∃ o, h.get? a = some o ∧ ∀ v, o.data ≠ .cell v := by
  cases κ with
  | true => obtain ⟨o, e, _, d⟩ := x; exact ⟨o, e, fun v q => by rw [d] at q; cases q⟩
  | false => obtain ⟨o, e, _, d⟩ := x; exact ⟨o, e, fun v q => by rw [d] at q; cases q⟩
theorem itK_new {κ : Bool} {h : Heap} {a l : Addr} (x : h.get? a = some (itObj κ l)) : ItK κ h a l 0 := by
  cases κ with
  | true => exact ⟨_, x, rfl, rfl⟩
  | false => exact ⟨_, x, rfl, rfl⟩
theorem SqK.at {κ : Bool} {h h' : Heap} {a : Addr} {xs : Array Value} (x : SqK κ h a xs) (e : ∀ o, h.get? a = some o → h'.get? a = some o) : SqK κ h' a xs := by
  cases κ with
  | true => obtain ⟨o, ho, r⟩ := x; exact ⟨o, e _ ho, r⟩
  | false => obtain ⟨o, ho, r⟩ := x; exact ⟨o, e _ ho, r⟩
theorem SqK.lt {κ : Bool} {h : Heap} {a : Addr} {xs : Array Value} (x : SqK κ h a xs) : a < h.objs.size := by
  cases κ with
  | true => obtain ⟨o, ho, r⟩ := x; exact Heap.lt_size ho
  | false => obtain ⟨o, ho, r⟩ := x; exact Heap.lt_size ho
section
variable {prog : Program} {w : World} {A : Around} {E : Value → Shared → Prop} {s : Shared}
theorem nextK_item {κ : Bool} {it l : Addr} {i : Nat} {items} {x : Value} {Q : Value → Shared → Prop} (hit : ItK κ s.heap it l i) (hl : SqK κ s.heap l items) (hx : items[i]? = some x)
    (hQ : ∀ h', ItK κ h' it l (i + 1) → Heap.SameBut it s.heap h' → Q x { s with heap := h' }) : wpAny (model prog w) A (Builtin.SmallTypes.nextOf (.ref it)) Q E s := by
  cases κ with
  | true => exact wpAny_nextOf_list_item hit hl hx hQ
  | false => exact nextOf_tuple_item hit hl hx hQ
theorem nextK_end {κ : Bool} {it l : Addr} {i : Nat} {items} {Q : Value → Shared → Prop} (hh : A.handled = none) (hit : ItK κ s.heap it l i) (hl : SqK κ s.heap l items) (hx : items[i]? = none)
    (hE : ∀ h' e, Heap.ExtBut it s.heap h' → (∃ o, h'.get? e = some o ∧ o.cls = .type "StopIteration") → E (.ref e) { s with heap := h' }) : wpAny (model prog w) A (Builtin.SmallTypes.nextOf (.ref it)) Q E s := by
  cases κ with
  | true => exact wpAny_nextOf_list_end hh hit hl hx hE
  | false => exact nextOf_tuple_end hh hit hl hx hE
theorem iterK {κ : Bool} {l : Addr} {items} {Q : Value → Shared → Prop} (hl : SqK κ s.heap l items) (hQ : Q (.ref s.heap.objs.size) { s with heap := s.heap.push (itObj κ l) }) : wpAny (model prog w) A (pyIter (.ref l)) Q E s := by
  cases κ with
  | true => exact wpAny_pyIter_list hl hQ
  | false => exact wpAny_pyIter_tuple hl hQ
end
theorem sqV_seq {X : Cx} {pins : List (Addr × Obj)} {σ : L2.St} {H : Hp} {s : Shared} {κ : Bool} {a : Addr} {xs : List V} (I : Inv X pins σ H s) (h : SqV κ X.K H a xs) : ∃ its : List Value, Vals xs its ∧ SqK κ s.heap a its.toArray := by
  cases κ with
  | true => obtain ⟨its, rv, p, _⟩ := I.list h; exact ⟨its, rv, p.isList⟩
  | false => obtain ⟨its, rv, p, _⟩ := I.tuple h; exact ⟨its, rv, p⟩
theorem sqV_inj {X : Cx} {pins : List (Addr × Obj)} {σ : L2.St} {H : Hp} {s : Shared} {κ : Bool} {a : Addr} {xs ys : List V} (I : Inv X pins σ H s) (h : SqV κ X.K H a xs) (h' : SqV κ X.K H a ys) : xs = ys := by
  cases κ with
  | true => exact I.list_inj h h'
  | false => exact I.tuple_inj h h'
theorem vals_2 {x1 x2 : V} {us : List Value} (r : Vals [x1, x2] us) : ∃ u1 u2, us = [u1, u2] ∧ RelV x1 u1 ∧ RelV x2 u2 := by
  cases r with
  | cons r1 r => cases r with
    | cons r2 r => cases r; exact ⟨_, _, rfl, r1, r2⟩
theorem vals_3 {x1 x2 x3 : V} {us : List Value} (r : Vals [x1, x2, x3] us) : ∃ u1 u2 u3, us = [u1, u2, u3] ∧ RelV x1 u1 ∧ RelV x2 u2 ∧ RelV x3 u3 := by
  cases r with
  | cons r1 r => cases r with
    | cons r2 r => cases r with
      | cons r3 r => cases r; exact ⟨_, _, _, rfl, r1, r2, r3⟩
abbrev IsRow2 (h : Heap) (T : Addr) (a1 a2 : Value) : Prop := h.get? T = some { cls := .type "tuple", data := .seq #[a1, a2] }
theorem updRow2 {prog : Program} {w : World} {A : Around} {E : Value → Shared → Prop} {s : Shared} {T : Addr} {a1 a2 x : Value} {k : Nat} {Q : Unit → Shared → Prop} (hT : IsRow2 s.heap T a1 a2)
    (h : ∀ h', h'.get? T = some { cls := .type "tuple", data := .seq ((#[a1, a2] : Array Value).setIfInBounds k x) } → Heap.SameBut T s.heap h' → Q () { s with heap := h' }) :
    wpAny (model prog w) A (updateSeq T (·.setIfInBounds k x)) Q E s := by
  refine wpAny_updateSeq hT rfl (h _ ?_ (Heap.SameBut.update ..))
  rw [Heap.get?_update_self _ hT rfl]
  simp [Obj.mapSeq]
/-- the zip object and its parts, at b and behind; the sources below b -/
structure Zs2 (h : Heap) (b l1 l2 : Nat) (κ1 κ2 : Bool) (f0 : Value) (k : Nat) : Prop where
  hz : IsZip h (b + 4) (b + 2) (b + 3) f0
  hTI : IsRow2 h (b + 2) (.ref b) (.ref (b + 1))
  hTO : ∃ a1 a2, IsRow2 h (b + 3) a1 a2
  h1 : ItK κ1 h b l1 k
  h2 : ItK κ2 h (b + 1) l2 k
  lt1 : l1 < b
  lt2 : l2 < b
section
variable {prog : Program} {w : World} {A : Around} {E : Value → Shared → Prop} {s : Shared} {b l1 l2 : Nat} {κ1 κ2 : Bool} {k : Nat} {xs1 xs2 : Array Value} {x1 x2 : Value}
theorem zip2_item {Q : Value → Shared → Prop} (D : Zs2 s.heap b l1 l2 κ1 κ2 .none k) (hl1 : SqK κ1 s.heap l1 xs1) (hl2 : SqK κ2 s.heap l2 xs2) (hx1 : xs1[k]? = some x1) (hx2 : xs2[k]? = some x2)
    (hQ : ∀ h', Zs2 h' b l1 l2 κ1 κ2 (rawInt s.heap.objs.size) (k + 1) → IsRow2 h' s.heap.objs.size x1 x2 → h'.objs.size = s.heap.objs.size + 1 →
      (∀ (c : Nat) o, (c < b ∨ b + 4 < c) → s.heap.get? c = some o → h'.get? c = some o) → Q (.ref s.heap.objs.size) { s with heap := h' }) :
    wpAny (model prog w) A (Builtin.«zip.__next__» ⟨[.ref (b + 4)], []⟩) (fun fin s' => ∃ v, fin = .done (.ret v) ∧ Q v s') E s := by
  obtain ⟨hz, hTI, ⟨a1, a2, hTO⟩, h1, h2, lt1, lt2⟩ := D
  show wpAny _ _ (field (.ref (b + 4)) 2 >>= _) _ _ _
  refine wpAny_bind (wpAny_field hz rfl (x := .bool false) rfl ?_)
  show wpAny _ _ (field (.ref (b + 4)) 3 >>= _) _ _ _
  refine wpAny_bind (wpAny_field hz rfl (x := .ref (b + 2)) rfl ?_)
  refine wpAny_bind (wpAny_seqItems hTI rfl ?_)
  show wpAny _ _ (Builtin.SmallTypes.ownedTupleIsFree (.ref (b + 4)) >>= _) _ _ _
  refine wpAny_bind ?_
  unfold Builtin.SmallTypes.ownedTupleIsFree
  refine wpAny_bind (wpAny_field hz rfl (x := .none) rfl (wpAny_pure ?_))
  simp only [if_true]
  refine wpAny_bind (wpAny_rule ?_)
  refine wpAny_bind (wpAny_field hz rfl (x := .ref (b + 3)) rfl ?_)
  refine wpAny_bind (wpAny_setField_rec hz (by simp) fun g0 hz0 s0 => ?_)
  replace hz0 : IsZip g0 (b + 4) (b + 2) (b + 3) .ellipsis := hz0
  refine wpAny_bind ?_
  simp only [List.zipIdx_cons, List.zipIdx_nil, List.forIn_cons, List.forIn_nil]
  have T0 : IsRow2 g0 (b + 3) a1 a2 := s0.extBut _ _ (nn (by omega)) hTO
  have up0 : ∀ (c : Nat) o, c ≠ (b + 4) → s.heap.get? c = some o → g0.get? c = some o := fun c o hc e => s0.extBut _ _ hc e
  refine wpAny_bind (wpAny_bind (wpAny_onRaise ?_))
  show wpAny _ _ (Builtin.SmallTypes.nextOf (.ref b) >>= _) _ _ _
  refine wpAny_bind (nextK_item (h1.at fun o e => up0 _ o (nn (by omega)) e) (hl1.at fun o e => up0 _ o (nn (by omega)) e) hx1 fun p1 hp1 sp1 => wpAny_pure ?_)
  have U1 : IsRow2 p1 (b + 3) a1 a2 := sp1.extBut _ _ (nn (by omega)) T0
  refine wpAny_bind (wpAny_seqItems U1 rfl ?_)
  refine wpAny_bind (updRow2 U1 fun g1 T1 s1 => ?_)
  replace T1 : IsRow2 g1 (b + 3) x1 a2 := T1
  have up1 : ∀ (c : Nat) o, c ≠ (b + 4) → c ≠ (b + 3) → c ≠ b → s.heap.get? c = some o → g1.get? c = some o := fun c o q0 q1 q2 e => s1.extBut _ _ q1 (sp1.extBut _ _ q2 (up0 c o q0 e))
  have Z1 : IsZip g1 (b + 4) (b + 2) (b + 3) .ellipsis := s1.extBut _ _ (nn (by omega)) (sp1.extBut _ _ (nn (by omega)) hz0)
  have sz1 : g1.objs.size = s.heap.objs.size := by rw [s1.1, sp1.1, s0.1]
  have H11 : ItK κ1 g1 b l1 (k + 1) := hp1.at fun o e => s1.extBut _ _ (nn (by omega)) e
  refine wpAny_bind (wpAny_letGo (wpAny_pure ?_))
  refine wpAny_bind (wpAny_bind (wpAny_onRaise ?_))
  show wpAny _ _ (Builtin.SmallTypes.nextOf (.ref (b + 1)) >>= _) _ _ _
  refine wpAny_bind (nextK_item (h2.at fun o e => up1 _ o (nn (by omega)) (nn (by omega)) (nn (by omega)) e) (hl2.at fun o e => up1 _ o (nn (by omega)) (nn (by omega)) (nn (by omega)) e) hx2 fun p2 hp2 sp2 => wpAny_pure ?_)
  have U2 : IsRow2 p2 (b + 3) x1 a2 := sp2.extBut _ _ (nn (by omega)) T1
  refine wpAny_bind (wpAny_seqItems U2 rfl ?_)
  refine wpAny_bind (updRow2 U2 fun g2 T2 s2 => ?_)
  replace T2 : IsRow2 g2 (b + 3) x1 x2 := T2
  have up2 : ∀ (c : Nat) o, c ≠ (b + 4) → c ≠ (b + 3) → c ≠ b → c ≠ (b + 1) → s.heap.get? c = some o → g2.get? c = some o := fun c o q0 q1 q2 q3 e => s2.extBut _ _ q1 (sp2.extBut _ _ q3 (up1 c o q0 q1 q2 e))
  have Z2 : IsZip g2 (b + 4) (b + 2) (b + 3) .ellipsis := s2.extBut _ _ (nn (by omega)) (sp2.extBut _ _ (nn (by omega)) Z1)
  have sz2 : g2.objs.size = s.heap.objs.size := by rw [s2.1, sp2.1, sz1]
  have H22 : ItK κ2 g2 (b + 1) l2 (k + 1) := hp2.at fun o e => s2.extBut _ _ (nn (by omega)) e
  have H12 : ItK κ1 g2 b l1 (k + 1) := H11.at fun o e => s2.extBut _ _ (nn (by omega)) (sp2.extBut _ _ (nn (by omega)) e)
  refine wpAny_bind (wpAny_letGo (wpAny_pure (wpAny_pure ?_)))
  refine wpAny_bind (wpAny_seqItems T2 rfl ?_)
  refine wpAny_bind (wpAny_newTuple ?_)
  have zlt : (b + 4) < g2.objs.size := Heap.lt_size Z2
  show wpAny _ _ (Builtin.SmallTypes.ownedTupleHandOut (.ref (b + 4)) (.ref g2.objs.size) >>= _) _ _ _
  refine wpAny_bind ?_
  unfold Builtin.SmallTypes.ownedTupleHandOut
  have z6 : IsZip (g2.push { cls := .type "tuple", data := .seq #[x1, x2] }) (b + 4) (b + 2) (b + 3) .ellipsis := Heap.get?_push_of_some _ Z2
  refine wpAny_bind (wpAny_setField_rec z6 (by simp) fun h₇ hz₇ hs₇ => ?_)
  replace hz₇ : IsZip h₇ (b + 4) (b + 2) (b + 3) (rawInt g2.objs.size) := hz₇
  refine wpAny_setField_rec hz₇ (by simp) fun h₈ hz₈ hs₈ => ?_
  replace hz₈ : IsZip h₈ (b + 4) (b + 2) (b + 3) (rawInt g2.objs.size) := hz₈
  have up : ∀ (c : Nat) o, c ≠ (b + 4) → g2.get? c = some o → h₈.get? c = some o := fun c o c1 e => hs₈.extBut _ _ c1 (hs₇.extBut _ _ c1 (Heap.get?_push_of_some _ e))
  have hT₈ : IsRow2 h₈ g2.objs.size x1 x2 := hs₈.extBut _ _ (Nat.ne_of_gt zlt) (hs₇.extBut _ _ (Nat.ne_of_gt zlt) (Heap.get?_push_size _ rfl))
  have hz8 : h₈.objs.size = g2.objs.size + 1 := by rw [hs₈.1, hs₇.1, Heap.size_push]
  have eTI : IsRow2 h₈ (b + 2) (.ref b) (.ref (b + 1)) := up _ _ (nn (by omega)) (up2 _ _ (nn (by omega)) (nn (by omega)) (nn (by omega)) (nn (by omega)) hTI)
  have eTO : IsRow2 h₈ (b + 3) x1 x2 := up _ _ (nn (by omega)) T2
  rw [sz2] at hz₈ hT₈ hz8
  refine wpAny_pure ⟨_, rfl, ?_⟩
  show Q (.ref g2.objs.size) _
  rw [sz2]
  exact hQ h₈ ⟨hz₈, eTI, ⟨_, _, eTO⟩, H12.at fun o e => up _ o (nn (by omega)) e, H22.at fun o e => up _ o (nn (by omega)) e, lt1, lt2⟩ hT₈ hz8 fun c o hc e => up c o (nn (by omega)) (up2 c o (nn (by omega)) (nn (by omega)) (nn (by omega)) (nn (by omega)) e)
theorem zip2_end {Q : Fin → Shared → Prop} (hh : A.handled = none) (D : Zs2 s.heap b l1 l2 κ1 κ2 .none k) (hl1 : SqK κ1 s.heap l1 xs1) (hl2 : SqK κ2 s.heap l2 xs2) (hend : xs1[k]? = none ∨ xs2[k]? = none)
    (hE : ∀ h' e, (∀ (c : Nat) o, (c < b ∨ b + 4 < c) → s.heap.get? c = some o → h'.get? c = some o) → (∃ o, h'.get? e = some o ∧ o.cls = .type "StopIteration") → E (.ref e) { s with heap := h' }) :
    wpAny (model prog w) A (Builtin.«zip.__next__» ⟨[.ref (b + 4)], []⟩) Q E s := by
  obtain ⟨hz, hTI, ⟨a1, a2, hTO⟩, h1, h2, lt1, lt2⟩ := D
  show wpAny _ _ (field (.ref (b + 4)) 2 >>= _) _ _ _
  refine wpAny_bind (wpAny_field hz rfl (x := .bool false) rfl ?_)
  show wpAny _ _ (field (.ref (b + 4)) 3 >>= _) _ _ _
  refine wpAny_bind (wpAny_field hz rfl (x := .ref (b + 2)) rfl ?_)
  refine wpAny_bind (wpAny_seqItems hTI rfl ?_)
  show wpAny _ _ (Builtin.SmallTypes.ownedTupleIsFree (.ref (b + 4)) >>= _) _ _ _
  refine wpAny_bind ?_
  unfold Builtin.SmallTypes.ownedTupleIsFree
  refine wpAny_bind (wpAny_field hz rfl (x := .none) rfl (wpAny_pure ?_))
  simp only [if_true]
  refine wpAny_bind (wpAny_rule ?_)
  refine wpAny_bind (wpAny_field hz rfl (x := .ref (b + 3)) rfl ?_)
  refine wpAny_bind (wpAny_setField_rec hz (by simp) fun g0 hz0 s0 => ?_)
  replace hz0 : IsZip g0 (b + 4) (b + 2) (b + 3) .ellipsis := hz0
  refine wpAny_bind ?_
  simp only [List.zipIdx_cons, List.zipIdx_nil, List.forIn_cons, List.forIn_nil]
  have T0 : IsRow2 g0 (b + 3) a1 a2 := s0.extBut _ _ (nn (by omega)) hTO
  have up0 : ∀ (c : Nat) o, c ≠ (b + 4) → s.heap.get? c = some o → g0.get? c = some o := fun c o hc e => s0.extBut _ _ hc e
  refine wpAny_bind (wpAny_bind (wpAny_onRaise ?_))
  show wpAny _ _ (Builtin.SmallTypes.nextOf (.ref b) >>= _) _ _ _
  cases hy : xs1[k]? with
  | none =>
    refine wpAny_bind (nextK_end hh (h1.at fun o e => up0 _ o (nn (by omega)) e) (hl1.at fun o e => up0 _ o (nn (by omega)) e) hy fun h₂ e hs₂ he => ?_)
    obtain ⟨oe, hoe, hce⟩ := he
    have hz₂ : IsZip h₂ (b + 4) (b + 2) (b + 3) .ellipsis := hs₂ _ _ (nn (by omega)) hz0
    have hez : e ≠ (b + 4) := fun x => by subst x; rw [hz₂] at hoe; cases hoe; simp at hce
    exact wpAny_setField_rec hz₂ (by simp) fun h₃ _ hs₃ => hE h₃ e (fun c o hc x => hs₃.extBut _ _ (nn (by omega)) (hs₂ _ _ (nn (by omega)) (up0 c o (nn (by omega)) x))) ⟨oe, hs₃.extBut _ _ hez hoe, hce⟩
  | some x1 =>
    have hend : xs2[k]? = none := hend.resolve_left (by rw [hy]; simp)
    refine wpAny_bind (nextK_item (h1.at fun o e => up0 _ o (nn (by omega)) e) (hl1.at fun o e => up0 _ o (nn (by omega)) e) hy fun p1 hp1 sp1 => wpAny_pure ?_)
    clear hy
    have U1 : IsRow2 p1 (b + 3) a1 a2 := sp1.extBut _ _ (nn (by omega)) T0
    refine wpAny_bind (wpAny_seqItems U1 rfl ?_)
    refine wpAny_bind (updRow2 U1 fun g1 T1 s1 => ?_)
    replace T1 : IsRow2 g1 (b + 3) x1 a2 := T1
    have up1 : ∀ (c : Nat) o, c ≠ (b + 4) → c ≠ (b + 3) → c ≠ b → s.heap.get? c = some o → g1.get? c = some o := fun c o q0 q1 q2 e => s1.extBut _ _ q1 (sp1.extBut _ _ q2 (up0 c o q0 e))
    have Z1 : IsZip g1 (b + 4) (b + 2) (b + 3) .ellipsis := s1.extBut _ _ (nn (by omega)) (sp1.extBut _ _ (nn (by omega)) hz0)
    refine wpAny_bind (wpAny_letGo (wpAny_pure ?_))
    refine wpAny_bind (wpAny_bind (wpAny_onRaise ?_))
    show wpAny _ _ (Builtin.SmallTypes.nextOf (.ref (b + 1)) >>= _) _ _ _
    have hy := hend
    refine wpAny_bind (nextK_end hh (h2.at fun o e => up1 _ o (nn (by omega)) (nn (by omega)) (nn (by omega)) e) (hl2.at fun o e => up1 _ o (nn (by omega)) (nn (by omega)) (nn (by omega)) e) hy fun h₂ e hs₂ he => ?_)
    obtain ⟨oe, hoe, hce⟩ := he
    have hz₂ : IsZip h₂ (b + 4) (b + 2) (b + 3) .ellipsis := hs₂ _ _ (nn (by omega)) Z1
    have hez : e ≠ (b + 4) := fun x => by subst x; rw [hz₂] at hoe; cases hoe; simp at hce
    exact wpAny_setField_rec hz₂ (by simp) fun h₃ _ hs₃ => hE h₃ e (fun c o hc x => hs₃.extBut _ _ (nn (by omega)) (hs₂ _ _ (nn (by omega)) (up1 c o (nn (by omega)) (nn (by omega)) (nn (by omega)) x))) ⟨oe, hs₃.extBut _ _ hez hoe, hce⟩
theorem pyNext_zip2_item {Q : Option Value → Shared → Prop} (D : Zs2 s.heap b l1 l2 κ1 κ2 .none k) (hl1 : SqK κ1 s.heap l1 xs1) (hl2 : SqK κ2 s.heap l2 xs2) (hx1 : xs1[k]? = some x1) (hx2 : xs2[k]? = some x2)
    (hQ : ∀ h', Zs2 h' b l1 l2 κ1 κ2 (rawInt s.heap.objs.size) (k + 1) → IsRow2 h' s.heap.objs.size x1 x2 → h'.objs.size = s.heap.objs.size + 1 →
      (∀ (c : Nat) o, (c < b ∨ b + 4 < c) → s.heap.get? c = some o → h'.get? c = some o) → Q (some (.ref s.heap.objs.size)) { s with heap := h' }) :
    wpAny (model prog w) A (pyNext (.ref (b + 4))) Q E s := by
  have hT : s.TypeIs (.ref (b + 4)) "zip" := ⟨_, D.hz, rfl⟩
  unfold pyNext
  exact wpAny_bind (wpAny_attempt (wpAny_callSpecial?_slot (name := Str.ofString "__next__") hT F.slot_zip_next
    (wpAny_call_entry F.slot_zip_next hT F.entry_zip_next
      (zip2_item D hl1 hl2 hx1 hx2 fun h' q1 q2 q3 q4 => wpAny_pure (hQ h' q1 q2 q3 q4)) (F.args_zip_next_1 _))))
theorem pyNext_zip2_end {Q : Option Value → Shared → Prop} (hh : A.handled = none) (D : Zs2 s.heap b l1 l2 κ1 κ2 .none k) (hl1 : SqK κ1 s.heap l1 xs1) (hl2 : SqK κ2 s.heap l2 xs2) (hend : xs1[k]? = none ∨ xs2[k]? = none)
    (hQ : ∀ h', (∀ (c : Nat) o, (c < b ∨ b + 4 < c) → s.heap.get? c = some o → h'.get? c = some o) → Q none { s with heap := h' }) : wpAny (model prog w) A (pyNext (.ref (b + 4))) Q E s := by
  have hT : s.TypeIs (.ref (b + 4)) "zip" := ⟨_, D.hz, rfl⟩
  unfold pyNext
  refine wpAny_bind (wpAny_attempt (wpAny_callSpecial?_slot (name := Str.ofString "__next__") hT F.slot_zip_next
    (wpAny_call_entry F.slot_zip_next hT F.entry_zip_next (zip2_end hh D hl1 hl2 hend fun h' e hk he => ?_) (F.args_zip_next_1 _))))
  obtain ⟨o, ho, hc⟩ := he
  refine wpAny_bind (wpAny_isInstance (T := "StopIteration") (b := true) ⟨o, ho, hc⟩ isSubtype_stop ?_)
  exact wpAny_pure (hQ _ hk)
end
abbrev zq2_1 (h : Heap) (l1 : Addr) (κ1 : Bool) : Heap := (h).push (itObj κ1 l1)
abbrev zq2_2 (h : Heap) (l1 l2 : Addr) (κ1 κ2 : Bool) : Heap := (zq2_1 h l1 κ1).push (itObj κ2 l2)
abbrev zq2_t (h : Heap) (l1 l2 : Addr) (κ1 κ2 : Bool) : Heap := (zq2_2 h l1 l2 κ1 κ2).push { cls := .type "tuple", data := .seq #[.ref h.objs.size, .ref (zq2_1 h l1 κ1).objs.size] }
abbrev zq2_o (h : Heap) (l1 l2 : Addr) (κ1 κ2 : Bool) : Heap := (zq2_t h l1 l2 κ1 κ2).push { cls := .type "tuple", data := .seq #[.none, .none] }
abbrev zq2_z (h : Heap) (l1 l2 : Addr) (κ1 κ2 : Bool) : Heap := (zq2_o h l1 l2 κ1 κ2).push { cls := .type "zip", data := .fields #[.none, .bool false, .bool false, .ref (zq2_2 h l1 l2 κ1 κ2).objs.size, .ref (zq2_t h l1 l2 κ1 κ2).objs.size] }
theorem meets_zip2_new (l1 l2 : Addr) (xs1 xs2 : Array Value) (κ1 κ2 : Bool) :
    Meets (Builtin.«zip.__new__» ⟨[.type "zip", .ref l1, .ref l2], []⟩) (fun _ R s => SqK κ1 s.heap l1 xs1 ∧ SqK κ2 s.heap l2 xs2 ∧
      R (.ok (.ret (.ref (zq2_o s.heap l1 l2 κ1 κ2).objs.size))) { s with heap := zq2_z s.heap l1 l2 κ1 κ2 }) :=
  .of_wp fun prog w A R s h => by
    obtain ⟨hp, g, d, tk, os⟩ := s; obtain ⟨hl1, hl2, h⟩ := h
    have hsub := sub_zip
    have hL1 : SqK κ1 (Shared.heap ⟨hp, g, d, tk, os⟩) l1 xs1 := hl1
    have hL2 : SqK κ2 (Shared.heap ⟨zq2_1 hp l1 κ1, g, d, tk, os⟩) l2 xs2 := hl2.at fun o e => Heap.get?_push_of_some _ e
    wp_walk using iterK hL1, iterK hL2
    exact ⟨_, rfl, h⟩
theorem call_zip2 {prog : Program} {w : World} {A : Around} {E : Value → Shared → Prop} {s : Shared} {l1 l2 : Addr} {xs1 xs2 : Array Value} {κ1 κ2 : Bool} {Q : Value → Shared → Prop} (hl1 : SqK κ1 s.heap l1 xs1) (hl2 : SqK κ2 s.heap l2 xs2)
    (h : ∀ h', Zs2 h' s.heap.objs.size l1 l2 κ1 κ2 .none 0 → h'.objs.size = s.heap.objs.size + 5 → (∀ (c : Nat) o, s.heap.get? c = some o → h'.get? c = some o) → Q (.ref (s.heap.objs.size + 4)) { s with heap := h' }) :
    wpAny (model prog w) A (call (.type "zip") [.ref l1, .ref l2]) Q E s := by
  refine callType_new F.called_zip (by decide) (F.typeCall_zip_2 _ _) (F.newCall_zip_2 _ _) (fun obj => F.args_object_init_3 obj _ _) F.entry_zip_new
    (meets_zip2_new l1 l2 xs1 xs2 κ1 κ2) ⟨hl1, hl2, ?_⟩
  have z1 : (zq2_1 s.heap l1 κ1).objs.size = s.heap.objs.size + 1 := by rw [Heap.size_push]
  have z2 : (zq2_2 s.heap l1 l2 κ1 κ2).objs.size = s.heap.objs.size + 2 := by rw [Heap.size_push, z1]
  have zt : (zq2_t s.heap l1 l2 κ1 κ2).objs.size = s.heap.objs.size + 3 := by rw [Heap.size_push, z2]
  have zo : (zq2_o s.heap l1 l2 κ1 κ2).objs.size = s.heap.objs.size + 4 := by rw [Heap.size_push, zt]
  have zz : (zq2_z s.heap l1 l2 κ1 κ2).objs.size = s.heap.objs.size + 5 := by rw [Heap.size_push, zo]
  have gz : (zq2_z s.heap l1 l2 κ1 κ2).get? (zq2_o s.heap l1 l2 κ1 κ2).objs.size = some _ := Heap.get?_push_size _ rfl
  have go : (zq2_z s.heap l1 l2 κ1 κ2).get? (zq2_t s.heap l1 l2 κ1 κ2).objs.size = some _ := Heap.get?_push_of_some _ (Heap.get?_push_size _ rfl)
  have gt : (zq2_z s.heap l1 l2 κ1 κ2).get? (zq2_2 s.heap l1 l2 κ1 κ2).objs.size = some _ := Heap.get?_push_of_some _ (Heap.get?_push_of_some _ (Heap.get?_push_size _ rfl))
  have g1 : (zq2_z s.heap l1 l2 κ1 κ2).get? s.heap.objs.size = some (itObj κ1 l1) := Heap.get?_push_of_some _ (Heap.get?_push_of_some _ (Heap.get?_push_of_some _ (Heap.get?_push_of_some _ (Heap.get?_push_size _ (itObj_ok _ _)))))
  have g2 : (zq2_z s.heap l1 l2 κ1 κ2).get? (zq2_1 s.heap l1 κ1).objs.size = some (itObj κ2 l2) := Heap.get?_push_of_some _ (Heap.get?_push_of_some _ (Heap.get?_push_of_some _ (Heap.get?_push_size _ (itObj_ok _ _))))
  show _ ∧ _
  rw [z2, zt, zo] at gz
  rw [zt] at go
  rw [z2] at gt
  rw [z1] at g2
  rw [z1] at gt
  rw [zo]
  exact ⟨⟨_, gz, rfl⟩, h _ ⟨gz, gt, ⟨_, _, go⟩, itK_new g1, itK_new g2, hl1.lt, hl2.lt⟩ zz fun c o x =>
    Heap.get?_push_of_some _ (Heap.get?_push_of_some _ (Heap.get?_push_of_some _ (Heap.get?_push_of_some _ (Heap.get?_push_of_some _ x))))⟩
/-- the sources as they stand at each turn, the items in new rows -/
def Itz2 (K : PySem.W.Frag) (l1 l2 : Addr) (κ1 κ2 : Bool) : It :=
  ⟨fun i H => ∃ (xs1 : List V) (xs2 : List V) (x1 : V) (x2 : V), SqV κ1 K H l1 xs1 ∧ SqV κ2 K H l2 xs2 ∧ xs1[i]? = some x1 ∧ xs2[i]? = some x2,
    fun i H v H' => ∃ T x1 x2, v = .ref T ∧ H T = none ∧ H' = upd H T (.tup [x1, x2]) ∧ (∀ xs, SqV κ1 K H l1 xs → xs[i]? = some x1) ∧ (∀ xs, SqV κ2 K H l2 xs → xs[i]? = some x2),
    fun i H => ∃ (xs1 : List V) (xs2 : List V), SqV κ1 K H l1 xs1 ∧ SqV κ2 K H l2 xs2 ∧ (xs1.length ≤ i ∨ xs2.length ≤ i)⟩
theorem turn_zip2 {P : Program} {w : World} {K : PySem.W.Frag} {elts : List Expr} {kk : Nat} {tpos : Pos} {b l1 l2 : Nat} {κ1 κ2 : Bool} :
    Turn P w K (.Tuple elts kk tpos) (Itz2 K l1 l2 κ1 κ2) [b, b + 1, b + 2, b + 3, b + 4] (b + 4) (fun i h => Zs2 h b l1 l2 κ1 κ2 .none i) where
  mem := by simp
  obj := fun i h st c hc => by
    obtain ⟨hz, hTI, ⟨a1, a2, hTO⟩, h1, h2, _, _⟩ := st
    have e' : c = b ∨ c = b + 1 ∨ c = b + 2 ∨ c = b + 3 ∨ c = b + 4 := by simpa using hc
    rcases e' with q | q | q | q | q
    · rw [q]; exact h1.obj
    · rw [q]; exact h2.obj
    · rw [q]; exact ⟨_, hTI, fun v q => nomatch q⟩
    · rw [q]; exact ⟨_, hTO, fun v q => nomatch q⟩
    · rw [q]; exact ⟨_, hz, fun v q => nomatch q⟩
  keep := fun i h h' st k => by
    obtain ⟨hz, hTI, ⟨a1, a2, hTO⟩, h1, h2, q1, q2⟩ := st
    exact ⟨k _ (by simp) _ hz, k _ (by simp) _ hTI, ⟨_, _, k _ (by simp) _ hTO⟩, h1.at fun o q => k _ (by simp) o q, h2.at fun o q => k _ (by simp) o q, q1, q2⟩
  item := by
    intro X hP hw hK hc i pins s σ H E I hf st hg
    subst hP hw hK
    obtain ⟨xs1, xs2, x1, x2, q1, q2, y1, y2⟩ := hg
    obtain ⟨its1, rv1, p1⟩ := sqV_seq I q1
    obtain ⟨u1, hu1, ru1⟩ := rv1.get y1
    obtain ⟨its2, rv2, p2⟩ := sqV_seq I q2
    obtain ⟨u2, hu2, ru2⟩ := rv2.get y2
    have hzl : (b + 4) < s.heap.objs.size := Heap.lt_size st.hz
    refine pyNext_zip2_item st p1 p2 (x1 := u1) (by simpa using hu1) (x2 := u2) (by simpa using hu2) fun h' z' hT hsz hk => ?_
    refine ⟨_, rfl, wpAny_letOwnedTupleGo_zip (s := { s with heap := h' }) z'.hz fun h'' z'' sb => ?_⟩
    have hT2 : h''.get? s.heap.objs.size = some { cls := .type "tuple", data := .seq #[u1, u2] } := (sb.2 _ (Nat.ne_of_gt hzl)).trans hT
    have new : ObjOk X.prog X.w (upd H s.heap.objs.size (.tup [x1, x2])) h'' s.heap.objs.size (.tup [x1, x2]) :=
      ⟨by show 2 ≤ sizeLine; decide, [u1, u2], .cons ru1 (.cons ru2 (.nil)), ⟨_, hT2, rfl, _, rfl⟩⟩
    have out : ∀ (c : Nat), c ∉ [b, b + 1, b + 2, b + 3, b + 4] → c < b ∨ b + 4 < c := fun c hc => by
      simp only [List.mem_cons, List.not_mem_nil, or_false, not_or] at hc
      omega
    have I1 : Inv X pins σ (upd H s.heap.objs.size (.tup [x1, x2])) { s with heap := h'' } :=
      I.turnedNew (t' := s.toks) (ch := [b, b + 1, b + 2, b + 3, b + 4]) (fun c o hb q => (sb.2 c (fun q' => hb (by simp [q']))).trans (hk c o (out c hb) q)) hf (Nat.le_refl _) new
    obtain ⟨_, eTI, ⟨a1, a2, eTO⟩, e1, e2, t1, t2⟩ := z'
    refine ⟨.ref s.heap.objs.size, _, I1, rfl, ⟨_, x1, x2, rfl, I.hok.fresh (Nat.le_refl _), rfl, fun l hl => by rw [sqV_inj I hl q1]; exact y1, fun l hl => by rw [sqV_inj I hl q2]; exact y2⟩, ⟨z'', ?_, ⟨a1, a2, ?_⟩, ?_, ?_, t1, t2⟩, fun c hcm => ?_⟩
    · exact (sb.2 _ (nn (by omega))).trans eTI
    · exact (sb.2 _ (nn (by omega))).trans eTO
    · exact e1.at fun o q => (sb.2 _ (nn (by omega))).trans q
    · exact e2.at fun o q => (sb.2 _ (nn (by omega))).trans q
    · have key : ∀ c : Nat, (c = b ∨ c = b + 1 ∨ c = b + 2 ∨ c = b + 3 ∨ c = b + 4) → c < s.heap.objs.size := fun c h => by
        have hzl' : (b + 4 : Nat) < s.heap.objs.size := hzl
        omega
      have hlt : c < s.heap.objs.size := key c (by simpa using hcm)
      rw [upd_ne (Nat.ne_of_lt hlt)]
      exact (hf c hcm).1
  done := by
    intro X hP hw hK hc i pins s σ H E I hf st hg
    subst hP hw hK
    obtain ⟨xs1, xs2, q1, q2, hend⟩ := hg
    obtain ⟨its1, rv1, p1⟩ := sqV_seq I q1
    have l1 := rv1.length
    obtain ⟨its2, rv2, p2⟩ := sqV_seq I q2
    have l2 := rv2.length
    have he : its1.toArray[i]? = none ∨ its2.toArray[i]? = none := by
      rcases hend with q | q
      · exact .inl (by simp; omega)
      · exact .inr (by simp; omega)
    have out : ∀ (c : Nat), c ∉ [b, b + 1, b + 2, b + 3, b + 4] → c < b ∨ b + 4 < c := fun c hc => by
      simp only [List.mem_cons, List.not_mem_nil, or_false, not_or] at hc
      omega
    exact pyNext_zip2_end (I.ok.hd hc) st p1 p2 he fun h' hk => ⟨rfl, I.turnedL (t' := s.toks) (ch := [b, b + 1, b + 2, b + 3, b + 4]) (fun c o hb q => hk c o (out c hb) q) hf⟩
  self := fun A i s Q E st h => wpAny_pyIter_zip st.hz h
def iZip2 (K : PySem.W.Frag) (ta : TA) : TI := fun σ H R => ta σ H fun vs H1 => ∃ l1 l2, ∃ κ1 κ2 : Bool, ∃ xs1 xs2 : List V, vs = [.ref l1, .ref l2] ∧ SqV κ1 K H1 l1 xs1 ∧ SqV κ2 K H1 l2 xs2 ∧ R (Itz2 K l1 l2 κ1 κ2) H1
theorem pi_zip2 {X : Cx} {e1 e2 : Expr} {ta : TA} {p pos tpos : Pos} {elts : List Expr} {kk : Nat} (hg : Gl X "zip") (hm : X.mg "zip" = none) (ha : PA X [e1, e2] ta)
    (hs : starEach [e1, e2] X.env = (false, eval e1 X.env) :: starEach [e2] X.env := by rfl) (hpl : (backTo pos (starEach [e2] X.env)).any (·.1) = false := by rfl) :
    PI X (.Tuple elts kk tpos) (.Call (.Name "zip" p) [e1, e2] [] pos) (iZip2 X.K ta) := by
  refine ⟨fun pins s σ H R I h => ?_⟩
  refine Call_ (ld_blt I hg hm PyProof.Rows.boot_zip (PyProof.Rows.callWith_type1 (thn (ha.run pos pins s σ H _ I h) fun us s1 ⟨vs, H1, I1, r1, w1⟩ => ?_) hs hpl))
  obtain ⟨l1, l2, κ1, κ2, xs1, xs2, ex, q1, q2, q⟩ := w1
  subst ex
  obtain ⟨u1, u2, rfl, r1, r2⟩ := vals_2 r1
  cases r1
  cases r2
  have fresh : ∀ c, c ∈ [s1.heap.objs.size, s1.heap.objs.size + 1, s1.heap.objs.size + 2, s1.heap.objs.size + 3, s1.heap.objs.size + 4] → FpOk X pins H1 c := fun c hcm => by
    have hle : s1.heap.objs.size ≤ c := by
      simp only [List.mem_cons, List.not_mem_nil, or_false] at hcm
      omega
    exact I1.fpOk hle (I1.hok.fresh hle)
  obtain ⟨its1, rv1, p1⟩ := sqV_seq I1 q1
  obtain ⟨its2, rv2, p2⟩ := sqV_seq I1 q2
  refine call_zip2 p1 p2 fun h' hz hsz hk => wpAny_pyIter_zip hz.hz ?_
  have I2 : Inv X pins σ H1 { s1 with heap := h' } := I1.kept (t' := s1.toks) hk
  exact ⟨s1.heap.objs.size + 4, _, _, _, H1, rfl, I2, turn_zip2, hz, fresh, q⟩
theorem walk_zip2 {K : PySem.W.Frag} {l1 l2 : Addr} {κ1 κ2 : Bool} {xs1 xs2 : List V} {n : Nat} (hn : n = min xs1.length xs2.length) : Walk (Itz2 K l1 l2 κ1 κ2) n (fun H => SqV κ1 K H l1 xs1 ∧ SqV κ2 K H l2 xs2)
    (fun i H v H' => ∃ T x1 x2, v = .ref T ∧ H T = none ∧ H' = upd H T (.tup [x1, x2]) ∧ xs1[i]? = some x1 ∧ xs2[i]? = some x2) := by
  subst hn
  refine ⟨fun i _ hi q => ?_, fun _ q => ⟨xs1, xs2, q.1, q.2, by omega⟩, fun i H v H' _ q y => ?_⟩
  · obtain ⟨q1, q2⟩ := q
    have t1 : i < xs1.length := by omega
    have t2 : i < xs2.length := by omega
    exact ⟨xs1, xs2, xs1[i], xs2[i], q1, q2, by simp [t1], by simp [t2]⟩
  · obtain ⟨T, x1, x2, e1, e2, e3, f1, f2⟩ := y
    obtain ⟨q1, q2⟩ := q
    exact ⟨T, x1, x2, e1, e2, e3, f1 xs1 q1, f2 xs2 q2⟩
abbrev IsRow3 (h : Heap) (T : Addr) (a1 a2 a3 : Value) : Prop := h.get? T = some { cls := .type "tuple", data := .seq #[a1, a2, a3] }
theorem updRow3 {prog : Program} {w : World} {A : Around} {E : Value → Shared → Prop} {s : Shared} {T : Addr} {a1 a2 a3 x : Value} {k : Nat} {Q : Unit → Shared → Prop} (hT : IsRow3 s.heap T a1 a2 a3)
    (h : ∀ h', h'.get? T = some { cls := .type "tuple", data := .seq ((#[a1, a2, a3] : Array Value).setIfInBounds k x) } → Heap.SameBut T s.heap h' → Q () { s with heap := h' }) :
    wpAny (model prog w) A (updateSeq T (·.setIfInBounds k x)) Q E s := by
  refine wpAny_updateSeq hT rfl (h _ ?_ (Heap.SameBut.update ..))
  rw [Heap.get?_update_self _ hT rfl]
  simp [Obj.mapSeq]
/-- the zip object and its parts, at b and behind; the sources below b -/
structure Zs3 (h : Heap) (b l1 l2 l3 : Nat) (κ1 κ2 κ3 : Bool) (f0 : Value) (k : Nat) : Prop where
  hz : IsZip h (b + 5) (b + 3) (b + 4) f0
  hTI : IsRow3 h (b + 3) (.ref b) (.ref (b + 1)) (.ref (b + 2))
  hTO : ∃ a1 a2 a3, IsRow3 h (b + 4) a1 a2 a3
  h1 : ItK κ1 h b l1 k
  h2 : ItK κ2 h (b + 1) l2 k
  h3 : ItK κ3 h (b + 2) l3 k
  lt1 : l1 < b
  lt2 : l2 < b
  lt3 : l3 < b
section
variable {prog : Program} {w : World} {A : Around} {E : Value → Shared → Prop} {s : Shared} {b l1 l2 l3 : Nat} {κ1 κ2 κ3 : Bool} {k : Nat} {xs1 xs2 xs3 : Array Value} {x1 x2 x3 : Value}
theorem zip3_item {Q : Value → Shared → Prop} (D : Zs3 s.heap b l1 l2 l3 κ1 κ2 κ3 .none k) (hl1 : SqK κ1 s.heap l1 xs1) (hl2 : SqK κ2 s.heap l2 xs2) (hl3 : SqK κ3 s.heap l3 xs3) (hx1 : xs1[k]? = some x1) (hx2 : xs2[k]? = some x2) (hx3 : xs3[k]? = some x3)
    (hQ : ∀ h', Zs3 h' b l1 l2 l3 κ1 κ2 κ3 (rawInt s.heap.objs.size) (k + 1) → IsRow3 h' s.heap.objs.size x1 x2 x3 → h'.objs.size = s.heap.objs.size + 1 →
      (∀ (c : Nat) o, (c < b ∨ b + 5 < c) → s.heap.get? c = some o → h'.get? c = some o) → Q (.ref s.heap.objs.size) { s with heap := h' }) :
    wpAny (model prog w) A (Builtin.«zip.__next__» ⟨[.ref (b + 5)], []⟩) (fun fin s' => ∃ v, fin = .done (.ret v) ∧ Q v s') E s := by
  obtain ⟨hz, hTI, ⟨a1, a2, a3, hTO⟩, h1, h2, h3, lt1, lt2, lt3⟩ := D
  show wpAny _ _ (field (.ref (b + 5)) 2 >>= _) _ _ _
  refine wpAny_bind (wpAny_field hz rfl (x := .bool false) rfl ?_)
  show wpAny _ _ (field (.ref (b + 5)) 3 >>= _) _ _ _
  refine wpAny_bind (wpAny_field hz rfl (x := .ref (b + 3)) rfl ?_)
  refine wpAny_bind (wpAny_seqItems hTI rfl ?_)
  show wpAny _ _ (Builtin.SmallTypes.ownedTupleIsFree (.ref (b + 5)) >>= _) _ _ _
  refine wpAny_bind ?_
  unfold Builtin.SmallTypes.ownedTupleIsFree
  refine wpAny_bind (wpAny_field hz rfl (x := .none) rfl (wpAny_pure ?_))
  simp only [if_true]
  refine wpAny_bind (wpAny_rule ?_)
  refine wpAny_bind (wpAny_field hz rfl (x := .ref (b + 4)) rfl ?_)
  refine wpAny_bind (wpAny_setField_rec hz (by simp) fun g0 hz0 s0 => ?_)
  replace hz0 : IsZip g0 (b + 5) (b + 3) (b + 4) .ellipsis := hz0
  refine wpAny_bind ?_
  simp only [List.zipIdx_cons, List.zipIdx_nil, List.forIn_cons, List.forIn_nil]
  have T0 : IsRow3 g0 (b + 4) a1 a2 a3 := s0.extBut _ _ (nn (by omega)) hTO
  have up0 : ∀ (c : Nat) o, c ≠ (b + 5) → s.heap.get? c = some o → g0.get? c = some o := fun c o hc e => s0.extBut _ _ hc e
  refine wpAny_bind (wpAny_bind (wpAny_onRaise ?_))
  show wpAny _ _ (Builtin.SmallTypes.nextOf (.ref b) >>= _) _ _ _
  refine wpAny_bind (nextK_item (h1.at fun o e => up0 _ o (nn (by omega)) e) (hl1.at fun o e => up0 _ o (nn (by omega)) e) hx1 fun p1 hp1 sp1 => wpAny_pure ?_)
  have U1 : IsRow3 p1 (b + 4) a1 a2 a3 := sp1.extBut _ _ (nn (by omega)) T0
  refine wpAny_bind (wpAny_seqItems U1 rfl ?_)
  refine wpAny_bind (updRow3 U1 fun g1 T1 s1 => ?_)
  replace T1 : IsRow3 g1 (b + 4) x1 a2 a3 := T1
  have up1 : ∀ (c : Nat) o, c ≠ (b + 5) → c ≠ (b + 4) → c ≠ b → s.heap.get? c = some o → g1.get? c = some o := fun c o q0 q1 q2 e => s1.extBut _ _ q1 (sp1.extBut _ _ q2 (up0 c o q0 e))
  have Z1 : IsZip g1 (b + 5) (b + 3) (b + 4) .ellipsis := s1.extBut _ _ (nn (by omega)) (sp1.extBut _ _ (nn (by omega)) hz0)
  have sz1 : g1.objs.size = s.heap.objs.size := by rw [s1.1, sp1.1, s0.1]
  have H11 : ItK κ1 g1 b l1 (k + 1) := hp1.at fun o e => s1.extBut _ _ (nn (by omega)) e
  refine wpAny_bind (wpAny_letGo (wpAny_pure ?_))
  refine wpAny_bind (wpAny_bind (wpAny_onRaise ?_))
  show wpAny _ _ (Builtin.SmallTypes.nextOf (.ref (b + 1)) >>= _) _ _ _
  refine wpAny_bind (nextK_item (h2.at fun o e => up1 _ o (nn (by omega)) (nn (by omega)) (nn (by omega)) e) (hl2.at fun o e => up1 _ o (nn (by omega)) (nn (by omega)) (nn (by omega)) e) hx2 fun p2 hp2 sp2 => wpAny_pure ?_)
  have U2 : IsRow3 p2 (b + 4) x1 a2 a3 := sp2.extBut _ _ (nn (by omega)) T1
  refine wpAny_bind (wpAny_seqItems U2 rfl ?_)
  refine wpAny_bind (updRow3 U2 fun g2 T2 s2 => ?_)
  replace T2 : IsRow3 g2 (b + 4) x1 x2 a3 := T2
  have up2 : ∀ (c : Nat) o, c ≠ (b + 5) → c ≠ (b + 4) → c ≠ b → c ≠ (b + 1) → s.heap.get? c = some o → g2.get? c = some o := fun c o q0 q1 q2 q3 e => s2.extBut _ _ q1 (sp2.extBut _ _ q3 (up1 c o q0 q1 q2 e))
  have Z2 : IsZip g2 (b + 5) (b + 3) (b + 4) .ellipsis := s2.extBut _ _ (nn (by omega)) (sp2.extBut _ _ (nn (by omega)) Z1)
  have sz2 : g2.objs.size = s.heap.objs.size := by rw [s2.1, sp2.1, sz1]
  have H22 : ItK κ2 g2 (b + 1) l2 (k + 1) := hp2.at fun o e => s2.extBut _ _ (nn (by omega)) e
  have H12 : ItK κ1 g2 b l1 (k + 1) := H11.at fun o e => s2.extBut _ _ (nn (by omega)) (sp2.extBut _ _ (nn (by omega)) e)
  refine wpAny_bind (wpAny_letGo (wpAny_pure ?_))
  refine wpAny_bind (wpAny_bind (wpAny_onRaise ?_))
  show wpAny _ _ (Builtin.SmallTypes.nextOf (.ref (b + 2)) >>= _) _ _ _
  refine wpAny_bind (nextK_item (h3.at fun o e => up2 _ o (nn (by omega)) (nn (by omega)) (nn (by omega)) (nn (by omega)) e) (hl3.at fun o e => up2 _ o (nn (by omega)) (nn (by omega)) (nn (by omega)) (nn (by omega)) e) hx3 fun p3 hp3 sp3 => wpAny_pure ?_)
  have U3 : IsRow3 p3 (b + 4) x1 x2 a3 := sp3.extBut _ _ (nn (by omega)) T2
  refine wpAny_bind (wpAny_seqItems U3 rfl ?_)
  refine wpAny_bind (updRow3 U3 fun g3 T3 s3 => ?_)
  replace T3 : IsRow3 g3 (b + 4) x1 x2 x3 := T3
  have up3 : ∀ (c : Nat) o, c ≠ (b + 5) → c ≠ (b + 4) → c ≠ b → c ≠ (b + 1) → c ≠ (b + 2) → s.heap.get? c = some o → g3.get? c = some o := fun c o q0 q1 q2 q3 q4 e => s3.extBut _ _ q1 (sp3.extBut _ _ q4 (up2 c o q0 q1 q2 q3 e))
  have Z3 : IsZip g3 (b + 5) (b + 3) (b + 4) .ellipsis := s3.extBut _ _ (nn (by omega)) (sp3.extBut _ _ (nn (by omega)) Z2)
  have sz3 : g3.objs.size = s.heap.objs.size := by rw [s3.1, sp3.1, sz2]
  have H33 : ItK κ3 g3 (b + 2) l3 (k + 1) := hp3.at fun o e => s3.extBut _ _ (nn (by omega)) e
  have H13 : ItK κ1 g3 b l1 (k + 1) := H12.at fun o e => s3.extBut _ _ (nn (by omega)) (sp3.extBut _ _ (nn (by omega)) e)
  have H23 : ItK κ2 g3 (b + 1) l2 (k + 1) := H22.at fun o e => s3.extBut _ _ (nn (by omega)) (sp3.extBut _ _ (nn (by omega)) e)
  refine wpAny_bind (wpAny_letGo (wpAny_pure (wpAny_pure ?_)))
  refine wpAny_bind (wpAny_seqItems T3 rfl ?_)
  refine wpAny_bind (wpAny_newTuple ?_)
  have zlt : (b + 5) < g3.objs.size := Heap.lt_size Z3
  show wpAny _ _ (Builtin.SmallTypes.ownedTupleHandOut (.ref (b + 5)) (.ref g3.objs.size) >>= _) _ _ _
  refine wpAny_bind ?_
  unfold Builtin.SmallTypes.ownedTupleHandOut
  have z6 : IsZip (g3.push { cls := .type "tuple", data := .seq #[x1, x2, x3] }) (b + 5) (b + 3) (b + 4) .ellipsis := Heap.get?_push_of_some _ Z3
  refine wpAny_bind (wpAny_setField_rec z6 (by simp) fun h₇ hz₇ hs₇ => ?_)
  replace hz₇ : IsZip h₇ (b + 5) (b + 3) (b + 4) (rawInt g3.objs.size) := hz₇
  refine wpAny_setField_rec hz₇ (by simp) fun h₈ hz₈ hs₈ => ?_
  replace hz₈ : IsZip h₈ (b + 5) (b + 3) (b + 4) (rawInt g3.objs.size) := hz₈
  have up : ∀ (c : Nat) o, c ≠ (b + 5) → g3.get? c = some o → h₈.get? c = some o := fun c o c1 e => hs₈.extBut _ _ c1 (hs₇.extBut _ _ c1 (Heap.get?_push_of_some _ e))
  have hT₈ : IsRow3 h₈ g3.objs.size x1 x2 x3 := hs₈.extBut _ _ (Nat.ne_of_gt zlt) (hs₇.extBut _ _ (Nat.ne_of_gt zlt) (Heap.get?_push_size _ rfl))
  have hz8 : h₈.objs.size = g3.objs.size + 1 := by rw [hs₈.1, hs₇.1, Heap.size_push]
  have eTI : IsRow3 h₈ (b + 3) (.ref b) (.ref (b + 1)) (.ref (b + 2)) := up _ _ (nn (by omega)) (up3 _ _ (nn (by omega)) (nn (by omega)) (nn (by omega)) (nn (by omega)) (nn (by omega)) hTI)
  have eTO : IsRow3 h₈ (b + 4) x1 x2 x3 := up _ _ (nn (by omega)) T3
  rw [sz3] at hz₈ hT₈ hz8
  refine wpAny_pure ⟨_, rfl, ?_⟩
  show Q (.ref g3.objs.size) _
  rw [sz3]
  exact hQ h₈ ⟨hz₈, eTI, ⟨_, _, _, eTO⟩, H13.at fun o e => up _ o (nn (by omega)) e, H23.at fun o e => up _ o (nn (by omega)) e, H33.at fun o e => up _ o (nn (by omega)) e, lt1, lt2, lt3⟩ hT₈ hz8 fun c o hc e => up c o (nn (by omega)) (up3 c o (nn (by omega)) (nn (by omega)) (nn (by omega)) (nn (by omega)) (nn (by omega)) e)
theorem zip3_end {Q : Fin → Shared → Prop} (hh : A.handled = none) (D : Zs3 s.heap b l1 l2 l3 κ1 κ2 κ3 .none k) (hl1 : SqK κ1 s.heap l1 xs1) (hl2 : SqK κ2 s.heap l2 xs2) (hl3 : SqK κ3 s.heap l3 xs3) (hend : xs1[k]? = none ∨ xs2[k]? = none ∨ xs3[k]? = none)
    (hE : ∀ h' e, (∀ (c : Nat) o, (c < b ∨ b + 5 < c) → s.heap.get? c = some o → h'.get? c = some o) → (∃ o, h'.get? e = some o ∧ o.cls = .type "StopIteration") → E (.ref e) { s with heap := h' }) :
    wpAny (model prog w) A (Builtin.«zip.__next__» ⟨[.ref (b + 5)], []⟩) Q E s := by
  obtain ⟨hz, hTI, ⟨a1, a2, a3, hTO⟩, h1, h2, h3, lt1, lt2, lt3⟩ := D
  show wpAny _ _ (field (.ref (b + 5)) 2 >>= _) _ _ _
  refine wpAny_bind (wpAny_field hz rfl (x := .bool false) rfl ?_)
  show wpAny _ _ (field (.ref (b + 5)) 3 >>= _) _ _ _
  refine wpAny_bind (wpAny_field hz rfl (x := .ref (b + 3)) rfl ?_)
  refine wpAny_bind (wpAny_seqItems hTI rfl ?_)
  show wpAny _ _ (Builtin.SmallTypes.ownedTupleIsFree (.ref (b + 5)) >>= _) _ _ _
  refine wpAny_bind ?_
  unfold Builtin.SmallTypes.ownedTupleIsFree
  refine wpAny_bind (wpAny_field hz rfl (x := .none) rfl (wpAny_pure ?_))
  simp only [if_true]
  refine wpAny_bind (wpAny_rule ?_)
  refine wpAny_bind (wpAny_field hz rfl (x := .ref (b + 4)) rfl ?_)
  refine wpAny_bind (wpAny_setField_rec hz (by simp) fun g0 hz0 s0 => ?_)
  replace hz0 : IsZip g0 (b + 5) (b + 3) (b + 4) .ellipsis := hz0
  refine wpAny_bind ?_
  simp only [List.zipIdx_cons, List.zipIdx_nil, List.forIn_cons, List.forIn_nil]
  have T0 : IsRow3 g0 (b + 4) a1 a2 a3 := s0.extBut _ _ (nn (by omega)) hTO
  have up0 : ∀ (c : Nat) o, c ≠ (b + 5) → s.heap.get? c = some o → g0.get? c = some o := fun c o hc e => s0.extBut _ _ hc e
  refine wpAny_bind (wpAny_bind (wpAny_onRaise ?_))
  show wpAny _ _ (Builtin.SmallTypes.nextOf (.ref b) >>= _) _ _ _
  cases hy : xs1[k]? with
  | none =>
    refine wpAny_bind (nextK_end hh (h1.at fun o e => up0 _ o (nn (by omega)) e) (hl1.at fun o e => up0 _ o (nn (by omega)) e) hy fun h₂ e hs₂ he => ?_)
    obtain ⟨oe, hoe, hce⟩ := he
    have hz₂ : IsZip h₂ (b + 5) (b + 3) (b + 4) .ellipsis := hs₂ _ _ (nn (by omega)) hz0
    have hez : e ≠ (b + 5) := fun x => by subst x; rw [hz₂] at hoe; cases hoe; simp at hce
    exact wpAny_setField_rec hz₂ (by simp) fun h₃ _ hs₃ => hE h₃ e (fun c o hc x => hs₃.extBut _ _ (nn (by omega)) (hs₂ _ _ (nn (by omega)) (up0 c o (nn (by omega)) x))) ⟨oe, hs₃.extBut _ _ hez hoe, hce⟩
  | some x1 =>
    have hend : xs2[k]? = none ∨ xs3[k]? = none := hend.resolve_left (by rw [hy]; simp)
    refine wpAny_bind (nextK_item (h1.at fun o e => up0 _ o (nn (by omega)) e) (hl1.at fun o e => up0 _ o (nn (by omega)) e) hy fun p1 hp1 sp1 => wpAny_pure ?_)
    clear hy
    have U1 : IsRow3 p1 (b + 4) a1 a2 a3 := sp1.extBut _ _ (nn (by omega)) T0
    refine wpAny_bind (wpAny_seqItems U1 rfl ?_)
    refine wpAny_bind (updRow3 U1 fun g1 T1 s1 => ?_)
    replace T1 : IsRow3 g1 (b + 4) x1 a2 a3 := T1
    have up1 : ∀ (c : Nat) o, c ≠ (b + 5) → c ≠ (b + 4) → c ≠ b → s.heap.get? c = some o → g1.get? c = some o := fun c o q0 q1 q2 e => s1.extBut _ _ q1 (sp1.extBut _ _ q2 (up0 c o q0 e))
    have Z1 : IsZip g1 (b + 5) (b + 3) (b + 4) .ellipsis := s1.extBut _ _ (nn (by omega)) (sp1.extBut _ _ (nn (by omega)) hz0)
    refine wpAny_bind (wpAny_letGo (wpAny_pure ?_))
    refine wpAny_bind (wpAny_bind (wpAny_onRaise ?_))
    show wpAny _ _ (Builtin.SmallTypes.nextOf (.ref (b + 1)) >>= _) _ _ _
    cases hy : xs2[k]? with
    | none =>
      refine wpAny_bind (nextK_end hh (h2.at fun o e => up1 _ o (nn (by omega)) (nn (by omega)) (nn (by omega)) e) (hl2.at fun o e => up1 _ o (nn (by omega)) (nn (by omega)) (nn (by omega)) e) hy fun h₂ e hs₂ he => ?_)
      obtain ⟨oe, hoe, hce⟩ := he
      have hz₂ : IsZip h₂ (b + 5) (b + 3) (b + 4) .ellipsis := hs₂ _ _ (nn (by omega)) Z1
      have hez : e ≠ (b + 5) := fun x => by subst x; rw [hz₂] at hoe; cases hoe; simp at hce
      exact wpAny_setField_rec hz₂ (by simp) fun h₃ _ hs₃ => hE h₃ e (fun c o hc x => hs₃.extBut _ _ (nn (by omega)) (hs₂ _ _ (nn (by omega)) (up1 c o (nn (by omega)) (nn (by omega)) (nn (by omega)) x))) ⟨oe, hs₃.extBut _ _ hez hoe, hce⟩
    | some x2 =>
      have hend : xs3[k]? = none := hend.resolve_left (by rw [hy]; simp)
      refine wpAny_bind (nextK_item (h2.at fun o e => up1 _ o (nn (by omega)) (nn (by omega)) (nn (by omega)) e) (hl2.at fun o e => up1 _ o (nn (by omega)) (nn (by omega)) (nn (by omega)) e) hy fun p2 hp2 sp2 => wpAny_pure ?_)
      clear hy
      have U2 : IsRow3 p2 (b + 4) x1 a2 a3 := sp2.extBut _ _ (nn (by omega)) T1
      refine wpAny_bind (wpAny_seqItems U2 rfl ?_)
      refine wpAny_bind (updRow3 U2 fun g2 T2 s2 => ?_)
      replace T2 : IsRow3 g2 (b + 4) x1 x2 a3 := T2
      have up2 : ∀ (c : Nat) o, c ≠ (b + 5) → c ≠ (b + 4) → c ≠ b → c ≠ (b + 1) → s.heap.get? c = some o → g2.get? c = some o := fun c o q0 q1 q2 q3 e => s2.extBut _ _ q1 (sp2.extBut _ _ q3 (up1 c o q0 q1 q2 e))
      have Z2 : IsZip g2 (b + 5) (b + 3) (b + 4) .ellipsis := s2.extBut _ _ (nn (by omega)) (sp2.extBut _ _ (nn (by omega)) Z1)
      refine wpAny_bind (wpAny_letGo (wpAny_pure ?_))
      refine wpAny_bind (wpAny_bind (wpAny_onRaise ?_))
      show wpAny _ _ (Builtin.SmallTypes.nextOf (.ref (b + 2)) >>= _) _ _ _
      have hy := hend
      refine wpAny_bind (nextK_end hh (h3.at fun o e => up2 _ o (nn (by omega)) (nn (by omega)) (nn (by omega)) (nn (by omega)) e) (hl3.at fun o e => up2 _ o (nn (by omega)) (nn (by omega)) (nn (by omega)) (nn (by omega)) e) hy fun h₂ e hs₂ he => ?_)
      obtain ⟨oe, hoe, hce⟩ := he
      have hz₂ : IsZip h₂ (b + 5) (b + 3) (b + 4) .ellipsis := hs₂ _ _ (nn (by omega)) Z2
      have hez : e ≠ (b + 5) := fun x => by subst x; rw [hz₂] at hoe; cases hoe; simp at hce
      exact wpAny_setField_rec hz₂ (by simp) fun h₃ _ hs₃ => hE h₃ e (fun c o hc x => hs₃.extBut _ _ (nn (by omega)) (hs₂ _ _ (nn (by omega)) (up2 c o (nn (by omega)) (nn (by omega)) (nn (by omega)) (nn (by omega)) x))) ⟨oe, hs₃.extBut _ _ hez hoe, hce⟩
theorem pyNext_zip3_item {Q : Option Value → Shared → Prop} (D : Zs3 s.heap b l1 l2 l3 κ1 κ2 κ3 .none k) (hl1 : SqK κ1 s.heap l1 xs1) (hl2 : SqK κ2 s.heap l2 xs2) (hl3 : SqK κ3 s.heap l3 xs3) (hx1 : xs1[k]? = some x1) (hx2 : xs2[k]? = some x2) (hx3 : xs3[k]? = some x3)
    (hQ : ∀ h', Zs3 h' b l1 l2 l3 κ1 κ2 κ3 (rawInt s.heap.objs.size) (k + 1) → IsRow3 h' s.heap.objs.size x1 x2 x3 → h'.objs.size = s.heap.objs.size + 1 →
      (∀ (c : Nat) o, (c < b ∨ b + 5 < c) → s.heap.get? c = some o → h'.get? c = some o) → Q (some (.ref s.heap.objs.size)) { s with heap := h' }) :
    wpAny (model prog w) A (pyNext (.ref (b + 5))) Q E s := by
  have hT : s.TypeIs (.ref (b + 5)) "zip" := ⟨_, D.hz, rfl⟩
  unfold pyNext
  exact wpAny_bind (wpAny_attempt (wpAny_callSpecial?_slot (name := Str.ofString "__next__") hT F.slot_zip_next
    (wpAny_call_entry F.slot_zip_next hT F.entry_zip_next
      (zip3_item D hl1 hl2 hl3 hx1 hx2 hx3 fun h' q1 q2 q3 q4 => wpAny_pure (hQ h' q1 q2 q3 q4)) (F.args_zip_next_1 _))))
theorem pyNext_zip3_end {Q : Option Value → Shared → Prop} (hh : A.handled = none) (D : Zs3 s.heap b l1 l2 l3 κ1 κ2 κ3 .none k) (hl1 : SqK κ1 s.heap l1 xs1) (hl2 : SqK κ2 s.heap l2 xs2) (hl3 : SqK κ3 s.heap l3 xs3) (hend : xs1[k]? = none ∨ xs2[k]? = none ∨ xs3[k]? = none)
    (hQ : ∀ h', (∀ (c : Nat) o, (c < b ∨ b + 5 < c) → s.heap.get? c = some o → h'.get? c = some o) → Q none { s with heap := h' }) : wpAny (model prog w) A (pyNext (.ref (b + 5))) Q E s := by
  have hT : s.TypeIs (.ref (b + 5)) "zip" := ⟨_, D.hz, rfl⟩
  unfold pyNext
  refine wpAny_bind (wpAny_attempt (wpAny_callSpecial?_slot (name := Str.ofString "__next__") hT F.slot_zip_next
    (wpAny_call_entry F.slot_zip_next hT F.entry_zip_next (zip3_end hh D hl1 hl2 hl3 hend fun h' e hk he => ?_) (F.args_zip_next_1 _))))
  obtain ⟨o, ho, hc⟩ := he
  refine wpAny_bind (wpAny_isInstance (T := "StopIteration") (b := true) ⟨o, ho, hc⟩ isSubtype_stop ?_)
  exact wpAny_pure (hQ _ hk)
end
abbrev zq3_1 (h : Heap) (l1 : Addr) (κ1 : Bool) : Heap := (h).push (itObj κ1 l1)
abbrev zq3_2 (h : Heap) (l1 l2 : Addr) (κ1 κ2 : Bool) : Heap := (zq3_1 h l1 κ1).push (itObj κ2 l2)
abbrev zq3_3 (h : Heap) (l1 l2 l3 : Addr) (κ1 κ2 κ3 : Bool) : Heap := (zq3_2 h l1 l2 κ1 κ2).push (itObj κ3 l3)
abbrev zq3_t (h : Heap) (l1 l2 l3 : Addr) (κ1 κ2 κ3 : Bool) : Heap := (zq3_3 h l1 l2 l3 κ1 κ2 κ3).push { cls := .type "tuple", data := .seq #[.ref h.objs.size, .ref (zq3_1 h l1 κ1).objs.size, .ref (zq3_2 h l1 l2 κ1 κ2).objs.size] }
abbrev zq3_o (h : Heap) (l1 l2 l3 : Addr) (κ1 κ2 κ3 : Bool) : Heap := (zq3_t h l1 l2 l3 κ1 κ2 κ3).push { cls := .type "tuple", data := .seq #[.none, .none, .none] }
abbrev zq3_z (h : Heap) (l1 l2 l3 : Addr) (κ1 κ2 κ3 : Bool) : Heap := (zq3_o h l1 l2 l3 κ1 κ2 κ3).push { cls := .type "zip", data := .fields #[.none, .bool false, .bool false, .ref (zq3_3 h l1 l2 l3 κ1 κ2 κ3).objs.size, .ref (zq3_t h l1 l2 l3 κ1 κ2 κ3).objs.size] }
theorem meets_zip3_new (l1 l2 l3 : Addr) (xs1 xs2 xs3 : Array Value) (κ1 κ2 κ3 : Bool) :
    Meets (Builtin.«zip.__new__» ⟨[.type "zip", .ref l1, .ref l2, .ref l3], []⟩) (fun _ R s => SqK κ1 s.heap l1 xs1 ∧ SqK κ2 s.heap l2 xs2 ∧ SqK κ3 s.heap l3 xs3 ∧
      R (.ok (.ret (.ref (zq3_o s.heap l1 l2 l3 κ1 κ2 κ3).objs.size))) { s with heap := zq3_z s.heap l1 l2 l3 κ1 κ2 κ3 }) :=
  .of_wp fun prog w A R s h => by
    obtain ⟨hp, g, d, tk, os⟩ := s; obtain ⟨hl1, hl2, hl3, h⟩ := h
    have hsub := sub_zip
    have hL1 : SqK κ1 (Shared.heap ⟨hp, g, d, tk, os⟩) l1 xs1 := hl1
    have hL2 : SqK κ2 (Shared.heap ⟨zq3_1 hp l1 κ1, g, d, tk, os⟩) l2 xs2 := hl2.at fun o e => Heap.get?_push_of_some _ e
    have hL3 : SqK κ3 (Shared.heap ⟨zq3_2 hp l1 l2 κ1 κ2, g, d, tk, os⟩) l3 xs3 := hl3.at fun o e => Heap.get?_push_of_some _ (Heap.get?_push_of_some _ e)
    wp_walk using iterK hL1, iterK hL2, iterK hL3
    exact ⟨_, rfl, h⟩
theorem typeCall_zip_3 (a b c : Value) : checkTypeCall "zip" ⟨[a, b, c], []⟩ = pure () := by kernel_rfl
theorem newCall_zip_3 (a b c : Value) : checkBuiltinCall "zip.__new__" ⟨[.type "zip", a, b, c], []⟩ = pure () := by kernel_rfl
theorem args_object_init_4 (o a b c : Value) : argsOk "object.__init__" ⟨[o, a, b, c], []⟩ := by
  unfold argsOk; rw [signature?_of (id := "object.__init__") (n := ['_', '_', 't', 'i', 'n', 'i', '_', '_']) (o := ['t', 'c', 'e', 'j', 'b', 'o']) (by kernel_rfl) F.owner_object]; kernel_rfl
theorem call_zip3 {prog : Program} {w : World} {A : Around} {E : Value → Shared → Prop} {s : Shared} {l1 l2 l3 : Addr} {xs1 xs2 xs3 : Array Value} {κ1 κ2 κ3 : Bool} {Q : Value → Shared → Prop} (hl1 : SqK κ1 s.heap l1 xs1) (hl2 : SqK κ2 s.heap l2 xs2) (hl3 : SqK κ3 s.heap l3 xs3)
    (h : ∀ h', Zs3 h' s.heap.objs.size l1 l2 l3 κ1 κ2 κ3 .none 0 → h'.objs.size = s.heap.objs.size + 6 → (∀ (c : Nat) o, s.heap.get? c = some o → h'.get? c = some o) → Q (.ref (s.heap.objs.size + 5)) { s with heap := h' }) :
    wpAny (model prog w) A (call (.type "zip") [.ref l1, .ref l2, .ref l3]) Q E s := by
  refine callType_new F.called_zip (by decide) (typeCall_zip_3 _ _ _) (newCall_zip_3 _ _ _) (fun obj => args_object_init_4 obj _ _ _) F.entry_zip_new
    (meets_zip3_new l1 l2 l3 xs1 xs2 xs3 κ1 κ2 κ3) ⟨hl1, hl2, hl3, ?_⟩
  have z1 : (zq3_1 s.heap l1 κ1).objs.size = s.heap.objs.size + 1 := by rw [Heap.size_push]
  have z2 : (zq3_2 s.heap l1 l2 κ1 κ2).objs.size = s.heap.objs.size + 2 := by rw [Heap.size_push, z1]
  have z3 : (zq3_3 s.heap l1 l2 l3 κ1 κ2 κ3).objs.size = s.heap.objs.size + 3 := by rw [Heap.size_push, z2]
  have zt : (zq3_t s.heap l1 l2 l3 κ1 κ2 κ3).objs.size = s.heap.objs.size + 4 := by rw [Heap.size_push, z3]
  have zo : (zq3_o s.heap l1 l2 l3 κ1 κ2 κ3).objs.size = s.heap.objs.size + 5 := by rw [Heap.size_push, zt]
  have zz : (zq3_z s.heap l1 l2 l3 κ1 κ2 κ3).objs.size = s.heap.objs.size + 6 := by rw [Heap.size_push, zo]
  have gz : (zq3_z s.heap l1 l2 l3 κ1 κ2 κ3).get? (zq3_o s.heap l1 l2 l3 κ1 κ2 κ3).objs.size = some _ := Heap.get?_push_size _ rfl
  have go : (zq3_z s.heap l1 l2 l3 κ1 κ2 κ3).get? (zq3_t s.heap l1 l2 l3 κ1 κ2 κ3).objs.size = some _ := Heap.get?_push_of_some _ (Heap.get?_push_size _ rfl)
  have gt : (zq3_z s.heap l1 l2 l3 κ1 κ2 κ3).get? (zq3_3 s.heap l1 l2 l3 κ1 κ2 κ3).objs.size = some _ := Heap.get?_push_of_some _ (Heap.get?_push_of_some _ (Heap.get?_push_size _ rfl))
  have g1 : (zq3_z s.heap l1 l2 l3 κ1 κ2 κ3).get? s.heap.objs.size = some (itObj κ1 l1) := Heap.get?_push_of_some _ (Heap.get?_push_of_some _ (Heap.get?_push_of_some _ (Heap.get?_push_of_some _ (Heap.get?_push_of_some _ (Heap.get?_push_size _ (itObj_ok _ _))))))
  have g2 : (zq3_z s.heap l1 l2 l3 κ1 κ2 κ3).get? (zq3_1 s.heap l1 κ1).objs.size = some (itObj κ2 l2) := Heap.get?_push_of_some _ (Heap.get?_push_of_some _ (Heap.get?_push_of_some _ (Heap.get?_push_of_some _ (Heap.get?_push_size _ (itObj_ok _ _)))))
  have g3 : (zq3_z s.heap l1 l2 l3 κ1 κ2 κ3).get? (zq3_2 s.heap l1 l2 κ1 κ2).objs.size = some (itObj κ3 l3) := Heap.get?_push_of_some _ (Heap.get?_push_of_some _ (Heap.get?_push_of_some _ (Heap.get?_push_size _ (itObj_ok _ _))))
  show _ ∧ _
  rw [z3, zt, zo] at gz
  rw [zt] at go
  rw [z3] at gt
  rw [z1] at g2
  rw [z2] at g3
  rw [z1, z2] at gt
  rw [zo]
  exact ⟨⟨_, gz, rfl⟩, h _ ⟨gz, gt, ⟨_, _, _, go⟩, itK_new g1, itK_new g2, itK_new g3, hl1.lt, hl2.lt, hl3.lt⟩ zz fun c o x =>
    Heap.get?_push_of_some _ (Heap.get?_push_of_some _ (Heap.get?_push_of_some _ (Heap.get?_push_of_some _ (Heap.get?_push_of_some _ (Heap.get?_push_of_some _ x)))))⟩
/-- the sources as they stand at each turn, the items in new rows -/
def Itz3 (K : PySem.W.Frag) (l1 l2 l3 : Addr) (κ1 κ2 κ3 : Bool) : It :=
  ⟨fun i H => ∃ (xs1 : List V) (xs2 : List V) (xs3 : List V) (x1 : V) (x2 : V) (x3 : V), SqV κ1 K H l1 xs1 ∧ SqV κ2 K H l2 xs2 ∧ SqV κ3 K H l3 xs3 ∧ xs1[i]? = some x1 ∧ xs2[i]? = some x2 ∧ xs3[i]? = some x3,
    fun i H v H' => ∃ T x1 x2 x3, v = .ref T ∧ H T = none ∧ H' = upd H T (.tup [x1, x2, x3]) ∧ (∀ xs, SqV κ1 K H l1 xs → xs[i]? = some x1) ∧ (∀ xs, SqV κ2 K H l2 xs → xs[i]? = some x2) ∧ (∀ xs, SqV κ3 K H l3 xs → xs[i]? = some x3),
    fun i H => ∃ (xs1 : List V) (xs2 : List V) (xs3 : List V), SqV κ1 K H l1 xs1 ∧ SqV κ2 K H l2 xs2 ∧ SqV κ3 K H l3 xs3 ∧ (xs1.length ≤ i ∨ xs2.length ≤ i ∨ xs3.length ≤ i)⟩
theorem turn_zip3 {P : Program} {w : World} {K : PySem.W.Frag} {elts : List Expr} {kk : Nat} {tpos : Pos} {b l1 l2 l3 : Nat} {κ1 κ2 κ3 : Bool} :
    Turn P w K (.Tuple elts kk tpos) (Itz3 K l1 l2 l3 κ1 κ2 κ3) [b, b + 1, b + 2, b + 3, b + 4, b + 5] (b + 5) (fun i h => Zs3 h b l1 l2 l3 κ1 κ2 κ3 .none i) where
  mem := by simp
  obj := fun i h st c hc => by
    obtain ⟨hz, hTI, ⟨a1, a2, a3, hTO⟩, h1, h2, h3, _, _, _⟩ := st
    have e' : c = b ∨ c = b + 1 ∨ c = b + 2 ∨ c = b + 3 ∨ c = b + 4 ∨ c = b + 5 := by simpa using hc
    rcases e' with q | q | q | q | q | q
    · rw [q]; exact h1.obj
    · rw [q]; exact h2.obj
    · rw [q]; exact h3.obj
    · rw [q]; exact ⟨_, hTI, fun v q => nomatch q⟩
    · rw [q]; exact ⟨_, hTO, fun v q => nomatch q⟩
    · rw [q]; exact ⟨_, hz, fun v q => nomatch q⟩
  keep := fun i h h' st k => by
    obtain ⟨hz, hTI, ⟨a1, a2, a3, hTO⟩, h1, h2, h3, q1, q2, q3⟩ := st
    exact ⟨k _ (by simp) _ hz, k _ (by simp) _ hTI, ⟨_, _, _, k _ (by simp) _ hTO⟩, h1.at fun o q => k _ (by simp) o q, h2.at fun o q => k _ (by simp) o q, h3.at fun o q => k _ (by simp) o q, q1, q2, q3⟩
  item := by
    intro X hP hw hK hc i pins s σ H E I hf st hg
    subst hP hw hK
    obtain ⟨xs1, xs2, xs3, x1, x2, x3, q1, q2, q3, y1, y2, y3⟩ := hg
    obtain ⟨its1, rv1, p1⟩ := sqV_seq I q1
    obtain ⟨u1, hu1, ru1⟩ := rv1.get y1
    obtain ⟨its2, rv2, p2⟩ := sqV_seq I q2
    obtain ⟨u2, hu2, ru2⟩ := rv2.get y2
    obtain ⟨its3, rv3, p3⟩ := sqV_seq I q3
    obtain ⟨u3, hu3, ru3⟩ := rv3.get y3
    have hzl : (b + 5) < s.heap.objs.size := Heap.lt_size st.hz
    refine pyNext_zip3_item st p1 p2 p3 (x1 := u1) (by simpa using hu1) (x2 := u2) (by simpa using hu2) (x3 := u3) (by simpa using hu3) fun h' z' hT hsz hk => ?_
    refine ⟨_, rfl, wpAny_letOwnedTupleGo_zip (s := { s with heap := h' }) z'.hz fun h'' z'' sb => ?_⟩
    have hT2 : h''.get? s.heap.objs.size = some { cls := .type "tuple", data := .seq #[u1, u2, u3] } := (sb.2 _ (Nat.ne_of_gt hzl)).trans hT
    have new : ObjOk X.prog X.w (upd H s.heap.objs.size (.tup [x1, x2, x3])) h'' s.heap.objs.size (.tup [x1, x2, x3]) :=
      ⟨by show 3 ≤ sizeLine; decide, [u1, u2, u3], .cons ru1 (.cons ru2 (.cons ru3 (.nil))), ⟨_, hT2, rfl, _, rfl⟩⟩
    have out : ∀ (c : Nat), c ∉ [b, b + 1, b + 2, b + 3, b + 4, b + 5] → c < b ∨ b + 5 < c := fun c hc => by
      simp only [List.mem_cons, List.not_mem_nil, or_false, not_or] at hc
      omega
    have I1 : Inv X pins σ (upd H s.heap.objs.size (.tup [x1, x2, x3])) { s with heap := h'' } :=
      I.turnedNew (t' := s.toks) (ch := [b, b + 1, b + 2, b + 3, b + 4, b + 5]) (fun c o hb q => (sb.2 c (fun q' => hb (by simp [q']))).trans (hk c o (out c hb) q)) hf (Nat.le_refl _) new
    obtain ⟨_, eTI, ⟨a1, a2, a3, eTO⟩, e1, e2, e3, t1, t2, t3⟩ := z'
    refine ⟨.ref s.heap.objs.size, _, I1, rfl, ⟨_, x1, x2, x3, rfl, I.hok.fresh (Nat.le_refl _), rfl, fun l hl => by rw [sqV_inj I hl q1]; exact y1, fun l hl => by rw [sqV_inj I hl q2]; exact y2, fun l hl => by rw [sqV_inj I hl q3]; exact y3⟩, ⟨z'', ?_, ⟨a1, a2, a3, ?_⟩, ?_, ?_, ?_, t1, t2, t3⟩, fun c hcm => ?_⟩
    · exact (sb.2 _ (nn (by omega))).trans eTI
    · exact (sb.2 _ (nn (by omega))).trans eTO
    · exact e1.at fun o q => (sb.2 _ (nn (by omega))).trans q
    · exact e2.at fun o q => (sb.2 _ (nn (by omega))).trans q
    · exact e3.at fun o q => (sb.2 _ (nn (by omega))).trans q
    · have key : ∀ c : Nat, (c = b ∨ c = b + 1 ∨ c = b + 2 ∨ c = b + 3 ∨ c = b + 4 ∨ c = b + 5) → c < s.heap.objs.size := fun c h => by
        have hzl' : (b + 5 : Nat) < s.heap.objs.size := hzl
        omega
      have hlt : c < s.heap.objs.size := key c (by simpa using hcm)
      rw [upd_ne (Nat.ne_of_lt hlt)]
      exact (hf c hcm).1
  done := by
    intro X hP hw hK hc i pins s σ H E I hf st hg
    subst hP hw hK
    obtain ⟨xs1, xs2, xs3, q1, q2, q3, hend⟩ := hg
    obtain ⟨its1, rv1, p1⟩ := sqV_seq I q1
    have l1 := rv1.length
    obtain ⟨its2, rv2, p2⟩ := sqV_seq I q2
    have l2 := rv2.length
    obtain ⟨its3, rv3, p3⟩ := sqV_seq I q3
    have l3 := rv3.length
    have he : its1.toArray[i]? = none ∨ its2.toArray[i]? = none ∨ its3.toArray[i]? = none := by
      rcases hend with q | q | q
      · exact .inl (by simp; omega)
      · exact .inr (.inl (by simp; omega))
      · exact .inr (.inr (by simp; omega))
    have out : ∀ (c : Nat), c ∉ [b, b + 1, b + 2, b + 3, b + 4, b + 5] → c < b ∨ b + 5 < c := fun c hc => by
      simp only [List.mem_cons, List.not_mem_nil, or_false, not_or] at hc
      omega
    exact pyNext_zip3_end (I.ok.hd hc) st p1 p2 p3 he fun h' hk => ⟨rfl, I.turnedL (t' := s.toks) (ch := [b, b + 1, b + 2, b + 3, b + 4, b + 5]) (fun c o hb q => hk c o (out c hb) q) hf⟩
  self := fun A i s Q E st h => wpAny_pyIter_zip st.hz h
def iZip3 (K : PySem.W.Frag) (ta : TA) : TI := fun σ H R => ta σ H fun vs H1 => ∃ l1 l2 l3, ∃ κ1 κ2 κ3 : Bool, ∃ xs1 xs2 xs3 : List V, vs = [.ref l1, .ref l2, .ref l3] ∧ SqV κ1 K H1 l1 xs1 ∧ SqV κ2 K H1 l2 xs2 ∧ SqV κ3 K H1 l3 xs3 ∧ R (Itz3 K l1 l2 l3 κ1 κ2 κ3) H1
theorem pi_zip3 {X : Cx} {e1 e2 e3 : Expr} {ta : TA} {p pos tpos : Pos} {elts : List Expr} {kk : Nat} (hg : Gl X "zip") (hm : X.mg "zip" = none) (ha : PA X [e1, e2, e3] ta)
    (hs : starEach [e1, e2, e3] X.env = (false, eval e1 X.env) :: starEach [e2, e3] X.env := by rfl) (hpl : (backTo pos (starEach [e2, e3] X.env)).any (·.1) = false := by rfl) :
    PI X (.Tuple elts kk tpos) (.Call (.Name "zip" p) [e1, e2, e3] [] pos) (iZip3 X.K ta) := by
  refine ⟨fun pins s σ H R I h => ?_⟩
  refine Call_ (ld_blt I hg hm PyProof.Rows.boot_zip (PyProof.Rows.callWith_type1 (thn (ha.run pos pins s σ H _ I h) fun us s1 ⟨vs, H1, I1, r1, w1⟩ => ?_) hs hpl))
  obtain ⟨l1, l2, l3, κ1, κ2, κ3, xs1, xs2, xs3, ex, q1, q2, q3, q⟩ := w1
  subst ex
  obtain ⟨u1, u2, u3, rfl, r1, r2, r3⟩ := vals_3 r1
  cases r1
  cases r2
  cases r3
  have fresh : ∀ c, c ∈ [s1.heap.objs.size, s1.heap.objs.size + 1, s1.heap.objs.size + 2, s1.heap.objs.size + 3, s1.heap.objs.size + 4, s1.heap.objs.size + 5] → FpOk X pins H1 c := fun c hcm => by
    have hle : s1.heap.objs.size ≤ c := by
      simp only [List.mem_cons, List.not_mem_nil, or_false] at hcm
      omega
    exact I1.fpOk hle (I1.hok.fresh hle)
  obtain ⟨its1, rv1, p1⟩ := sqV_seq I1 q1
  obtain ⟨its2, rv2, p2⟩ := sqV_seq I1 q2
  obtain ⟨its3, rv3, p3⟩ := sqV_seq I1 q3
  refine call_zip3 p1 p2 p3 fun h' hz hsz hk => wpAny_pyIter_zip hz.hz ?_
  have I2 : Inv X pins σ H1 { s1 with heap := h' } := I1.kept (t' := s1.toks) hk
  exact ⟨s1.heap.objs.size + 5, _, _, _, H1, rfl, I2, turn_zip3, hz, fresh, q⟩
theorem walk_zip3 {K : PySem.W.Frag} {l1 l2 l3 : Addr} {κ1 κ2 κ3 : Bool} {xs1 xs2 xs3 : List V} {n : Nat} (hn : n = min xs1.length (min xs2.length xs3.length)) : Walk (Itz3 K l1 l2 l3 κ1 κ2 κ3) n (fun H => SqV κ1 K H l1 xs1 ∧ SqV κ2 K H l2 xs2 ∧ SqV κ3 K H l3 xs3)
    (fun i H v H' => ∃ T x1 x2 x3, v = .ref T ∧ H T = none ∧ H' = upd H T (.tup [x1, x2, x3]) ∧ xs1[i]? = some x1 ∧ xs2[i]? = some x2 ∧ xs3[i]? = some x3) := by
  subst hn
  refine ⟨fun i _ hi q => ?_, fun _ q => ⟨xs1, xs2, xs3, q.1, q.2.1, q.2.2, by omega⟩, fun i H v H' _ q y => ?_⟩
  · obtain ⟨q1, q2, q3⟩ := q
    have t1 : i < xs1.length := by omega
    have t2 : i < xs2.length := by omega
    have t3 : i < xs3.length := by omega
    exact ⟨xs1, xs2, xs3, xs1[i], xs2[i], xs3[i], q1, q2, q3, by simp [t1], by simp [t2], by simp [t3]⟩
  · obtain ⟨T, x1, x2, x3, e1, e2, e3, f1, f2, f3⟩ := y
    obtain ⟨q1, q2, q3⟩ := q
    exact ⟨T, x1, x2, x3, e1, e2, e3, f1 xs1 q1, f2 xs2 q2, f3 xs3 q3⟩
end ZP
set_option Elab.async false
set_option linter.all false
set_option maxRecDepth 100000
set_option maxHeartbeats 2000000
/-! List comprehensions of three clauses. -/
namespace L3
open PySem PySem.Spec PyProof.Rows L2
section
variable {prog : Program} {w : World} {A : Around} {R : Result → Shared → Prop} {s : Shared} {elt t0 i1 : Expr} {gens : List Comprehension} {scope : Scope} {pos : Pos} {ifs0 : List Expr} {p0 : Pos} {k : Nat} {it acc : Value} {env : Env}
/-- the turn of a clause that has another one behind it -/
def OutT (e : Expr) (k : Nat) (t0 : Expr) (p0 : Pos) (ifs0 : List Expr) (i1 : Expr) (it acc : Value) (env : Env) : Prop := compTurn e k it acc env = (do
      standAt p0
      match ← pyNext it with
      | none => pure (.done .next)
      | some v =>
        letOwnedTupleGo t0 it v
        assign t0 env v
        let mut ok := true
        for c in ifs0 do
          if ok then ok ← isTrue c env (eval c env)
        if ok then
          let x ← eval i1 env
          standAt i1.pos
          let x ← foldedSetIterable i1 env x
          let _ ← runOwn (.compStart e (k + 1) (← holding [x] (pyIter x)) acc env) env
        again (.compLoop e k it acc env))
/-- the turn of the last clause -/
def InT (e : Expr) (k : Nat) (elt t1 : Expr) (p1 : Pos) (ifs1 : List Expr) (it acc : Value) (env : Env) : Prop := compTurn e k it acc env = (do
      standAt p1
      match ← pyNext it with
      | none => pure (.done .next)
      | some v =>
        letOwnedTupleGo t1 it v
        assign t1 env v
        let mut ok := true
        for c in ifs1 do
          if ok then ok ← isTrue c env (eval c env)
        if ok then
          (do let _ ← call (.builtin "list.append") [acc, ← eval elt env])
        again (.compLoop e k it acc env))
theorem loop_out (hT : OutT (.ListComp elt gens scope pos) k t0 p0 ifs0 i1 it acc env) (hs : ∀ x, foldedSetIterable i1 env x = pure x) (I : Nat → Shared → Prop)
    (turn : ∀ n s, I n s → wpAny (model prog w) A (pyNext it) (fun r s₁ => match r with
      | none => R (.ok .next) s₁
      | some v => wpAny (model prog w) A (letOwnedTupleGo t0 it v) (fun _ s₁' => wpAny (model prog w) A (assign t0 env v) (fun _ s₂ =>
          wpAny (model prog w) A (forIn ifs0 true fun c r => if r = true then do let ok ← isTrue c env (eval c env); pure (ForInStep.yield ok) else pure (ForInStep.yield r)) (fun ok s₃ =>
            if ok = true then wpAny (model prog w) A (eval i1 env) (fun x s₄ => wpAny (model prog w) A (pyIter x) (fun it1 s₅ =>
              codeAny (model prog w) A (.compStart (.ListComp elt gens scope pos) (k + 1) it1 acc env) (fun r s' => match r with
                | .ok _ => ∃ m, m < n ∧ I m s'
                | .error _ => False) s₅) (notedBy (model prog w) A env fun e s' => R (.error e) s') s₄) (notedBy (model prog w) A env fun e s' => R (.error e) s') s₃
            else ∃ m, m < n ∧ I m s₃) (notedBy (model prog w) A env fun e s' => R (.error e) s') s₂) (notedBy (model prog w) A env fun e s' => R (.error e) s') s₁') (notedBy (model prog w) A env fun e s' => R (.error e) s') s₁) (notedBy (model prog w) A env fun e s' => R (.error e) s') s)
    (n : Nat) (h : I n s) :
    codeAny (model prog w) A (.compLoop (.ListComp elt gens scope pos) k it acc env) R s := by
  refine codeAny_loop rfl I (fun n s hI => ?_) n h
  show wpAny _ A ((compTurn (.ListComp elt gens scope pos) k it acc env).onRaise (fun x => do noteFrame x env; theTreesLotGoes x)) _ _ s
  refine wpAny_noted ?_
  rw [hT]
  refine wpAny_bind (wpAny_standAt (wpAny_bind (wpAny_mono (turn n s hI) (fun r s₁ h₁ => ?_) fun _ _ h' => h')))
  cases r with
  | none => exact wpAny_pure h₁
  | some v =>
    refine wpAny_bind (wpAny_mono h₁ (fun _ s₁' h₁' => ?_) fun _ _ h' => h')
    refine wpAny_bind (wpAny_mono h₁' (fun _ s₂ h₂ => wpAny_bind (wpAny_mono h₂ (fun ok s₃ h₃ => ?_) fun _ _ h' => h')) fun _ _ h' => h')
    cases ok with
    | false => exact wpAny_pure ⟨rfl, h₃⟩
    | true =>
      refine wpAny_bind (wpAny_mono h₃ (fun x s₄ h₄ => ?_) fun _ _ h' => h')
      refine wpAny_bind (wpAny_standAt (wpAny_bind (wpAny_of_eq (hs x) (wpAny_bind (wpAny_holding (wpAny_mono h₄ (fun it1 s₅ h₅ => ?_) fun _ _ h' => h'))))))
      refine wpAny_bind (wpAny_runOwn ?_)
      rw [Around.mark_none]
      refine codeAny_mono h₅ fun r s' hr => ?_
      cases r with
      | ok f =>
        first
          | exact wpAny_pure ⟨rfl, hr⟩
          | exact wpAny_bind (wpAny_pure (wpAny_pure ⟨rfl, hr⟩))
      | error e => exact hr.elim
theorem loop_in {t1 : Expr} {p1 : Pos} {ifs1 : List Expr} (hT : InT (.ListComp elt gens scope pos) k elt t1 p1 ifs1 it acc env) (I : Nat → Shared → Prop)
    (turn : ∀ n s, I n s → wpAny (model prog w) A (pyNext it) (fun r s₁ => match r with
      | none => R (.ok .next) s₁
      | some v => wpAny (model prog w) A (letOwnedTupleGo t1 it v) (fun _ s₁' => wpAny (model prog w) A (assign t1 env v) (fun _ s₂ =>
          wpAny (model prog w) A (forIn ifs1 true fun c r => if r = true then do let ok ← isTrue c env (eval c env); pure (ForInStep.yield ok) else pure (ForInStep.yield r)) (fun ok s₃ =>
            if ok = true then wpAny (model prog w) A (eval elt env) (fun x s₄ =>
              wpAny (model prog w) A (call (.builtin "list.append") [acc, x]) (fun _ s₅ => ∃ m, m < n ∧ I m s₅) (notedBy (model prog w) A env fun e s' => R (.error e) s') s₄) (notedBy (model prog w) A env fun e s' => R (.error e) s') s₃
            else ∃ m, m < n ∧ I m s₃) (notedBy (model prog w) A env fun e s' => R (.error e) s') s₂) (notedBy (model prog w) A env fun e s' => R (.error e) s') s₁') (notedBy (model prog w) A env fun e s' => R (.error e) s') s₁) (notedBy (model prog w) A env fun e s' => R (.error e) s') s)
    (n : Nat) (h : I n s) :
    codeAny (model prog w) A (.compLoop (.ListComp elt gens scope pos) k it acc env) R s := by
  refine codeAny_loop rfl I (fun n s hI => ?_) n h
  show wpAny _ A ((compTurn (.ListComp elt gens scope pos) k it acc env).onRaise (fun x => do noteFrame x env; theTreesLotGoes x)) _ _ s
  refine wpAny_noted ?_
  rw [hT]
  refine wpAny_bind (wpAny_standAt (wpAny_bind (wpAny_mono (turn n s hI) (fun r s₁ h₁ => ?_) fun _ _ h' => h')))
  cases r with
  | none => exact wpAny_pure h₁
  | some v =>
    refine wpAny_bind (wpAny_mono h₁ (fun _ s₁' h₁' => ?_) fun _ _ h' => h')
    refine wpAny_bind (wpAny_mono h₁' (fun _ s₂ h₂ => wpAny_bind (wpAny_mono h₂ (fun ok s₃ h₃ => ?_) fun _ _ h' => h')) fun _ _ h' => h')
    cases ok with
    | false => exact wpAny_pure ⟨rfl, h₃⟩
    | true =>
      exact wpAny_bind (wpAny_bind (wpAny_mono h₃ (fun x s₄ h₄ => wpAny_bind (wpAny_mono h₄ (fun _ s₅ h₅ => wpAny_pure (wpAny_pure ⟨rfl, h₅⟩)) fun _ _ h' => h')) fun _ _ h' => h'))
theorem start_ok {c : Comprehension} (hc : (clausesOf (.ListComp elt gens scope pos))[k]? = some c) (ha : c.is_async = 0) (h0 : codeAny (model prog w) A (.compLoop (.ListComp elt gens scope pos) k it acc env) R s)
    (h : wpAny (model prog w) A (pyIter it) (fun it' s' => codeAny (model prog w) A (.compLoop (.ListComp elt gens scope pos) k it' acc env) R s')
      (notedBy (model prog w) A env fun x s' => R (.error x) s') s) :
    codeAny (model prog w) A (.compStart (.ListComp elt gens scope pos) k it acc env) R s := by
  refine codeAny_of_tree ?_
  show wpAny _ _ ((compStart (.ListComp elt gens scope pos) k it acc env).onRaise (fun x => do noteFrame x env; standAt theWindowsPlace)) _ _ s
  refine wpAny_notedAt ?_
  unfold compStart
  rw [hc]
  simp only [Option.elim, ha, bne_self_eq_false, Bool.false_eq_true, if_false]
  show wpAny _ _ (ask >>= _) _ _ s
  refine wpAny_bind (wpAny_askSetting (wpAny_ite ?_))
  split
  · first
      | exact wpAny_bind (wpAny_pure (wpAny_pure (And.intro rfl h0)))
      | exact wpAny_pure (And.intro rfl h0)
  · first
      | exact wpAny_bind (wpAny_rule (wpAny_bind (wpAny_standAt (wpAny_bind (wpAny_mono h (fun it' s' h' => wpAny_pure (And.intro rfl h')) fun _ _ x => x)))))
      | (refine wpAny_bind (wpAny_rule ?_); show wpAny _ _ (standAt _ >>= _) _ _ s; exact wpAny_bind (wpAny_standAt (wpAny_bind (wpAny_mono h (fun it' s' h' => wpAny_pure (And.intro rfl h')) fun _ _ x => x))))
end
abbrev TB' := L2.St → Hp → (Hp → Prop) → Prop
def bEl (te : TE) (D : Addr) : TB' := fun σ H Nx => te σ H fun y H7 => ∃ acc, H7 D = some (.lst acc) ∧ acc.length < sizeLine ∧ Nx (upd H7 D (.lst (acc ++ [y])))
def lvl (J : It) (g : TG) (tt : TT) (vs : List Nat) (B : TB') (σ : L2.St) (H1 : Hp) (Nx : Hp → Prop) : Prop :=
  ∃ W : Nat → Nat → Hp → Prop, (∃ m, W 0 m H1) ∧ ∀ i m H, W i m H →
    (J.stop i H ∧ Nx H) ∨ (J.go i H ∧ ∃ Nx1 : Hp → Prop, (∀ H', Nx1 H' → ∃ m', m' < m ∧ W (i + 1) m' H') ∧ ∀ x H', J.yld i H x H' → g x (L2.wipe σ vs) H' fun σ2 H2 => L2.wipe σ2 vs = L2.wipe σ vs ∧ tt σ2 H2 fun b H3 =>
      if b = true then B σ2 H3 Nx1 else Nx1 H3)
def bCl (wi : TI) (g : TG) (tt : TT) (vs : List Nat) (B : TB') : TB' := fun σ H Nx => wi σ H fun J H1 => lvl J g tt vs B σ H1 Nx
section
variable {X : Cx} {elt tg tg1 iter1 : Expr} {gens : List Comprehension} {scope : Scope} {pos : Pos} {ifs : List Expr} {k : Nat} {D : Addr} {p0 : Pos} {g g1 : TG} {tt tt1 : TT} {te : TE} {vs vs1 : List Nat} {B : TB'} {wi1 : TI}
/-- a clause's loop within a block -/
def LR (X : Cx) (elt : Expr) (gens : List Comprehension) (scope : Scope) (pos : Pos) (k : Nat) (D : Addr) (tg : Expr) (g : TG) (tt : TT) (vs : List Nat) (B : TB') : Prop :=
  ∀ (pins : List (Addr × Obj)) (σ : L2.St) (H : Hp) (s : Shared) (J : It) (it : Addr) (fp : List Addr) (tn : Nat → Heap → Prop) (Nx : Hp → Prop), Inv X pins σ H s → Turn X.prog X.w X.K tg J fp it tn → tn 0 s.heap → (∀ b ∈ fp, FpOk X pins H b) → lvl J g tt vs B σ H Nx →
    codeAny (model X.prog X.w) X.A (.compLoop (.ListComp elt gens scope pos) k (.ref it) (.ref D) X.env) (fun r s' => match r with
      | .ok _ => ∃ H', Inv X pins (L2.wipe σ vs) H' s' ∧ Nx H'
      | .error _ => False) s
theorem wipe2 (σ : L2.St) (vs : List Nat) : ∀ (j : Nat) v, (L2.wipe σ vs)[j]? = some (some v) → σ[j]? = some (some v) := fun j v e => (wipe_some e).1
theorem lr_last (hc : X.calm = true) (hT : ∀ it acc, InT (.ListComp elt gens scope pos) k elt tg p0 ifs it acc X.env) (pg : PG X tg g) (pt : PTs X ifs tt) (pe : PE X elt te) (hxe : X.xe = fun _ _ => False) : LR X elt gens scope pos k D tg g tt vs (bEl te D) := by
  intro pins σ H s J it fp tn Nx I T st f h
  obtain ⟨W, ⟨m0, w0⟩, turn⟩ := h
  refine loop_in (hT _ _) (fun n s' => ∃ i H', Inv X pins (L2.wipe σ vs) H' s' ∧ tn i s'.heap ∧ (∀ b ∈ fp, H' b = none) ∧ W i n H') ?_ m0 ⟨0, H, I.weak (wipe_length _ _) (wipe2 σ vs), st, fun b hb => (f b hb).1, w0⟩
  have stat : ∀ {H' : Hp}, (∀ b ∈ fp, H' b = none) → ∀ b ∈ fp, FpOk X pins H' b := fun hn b hb => ⟨hn b hb, (f b hb).2⟩
  rintro n s5 ⟨i, H5, I5, st5, n5, w5⟩
  rcases turn i n H5 w5 with ⟨stop, qq⟩ | ⟨go, Nx1, hNx, step⟩
  · refine thnF (T.done X rfl rfl rfl hc i pins s5 _ H5 (fun _ _ => False) I5 (stat n5) st5 stop) fun r s6 ⟨hr, I6⟩ => ?_
    subst hr
    exact ⟨H5, I6, qq⟩
  · refine thnF (T.item X rfl rfl rfl hc i pins s5 _ H5 (fun _ _ => False) I5 (stat n5) st5 go) fun r s6 ⟨u, hr, h6⟩ => ?_
    subst hr
    refine thnF h6 fun _ s7 ⟨x, H7, I7, r7, y7, st7, n7⟩ => ?_
    have I7' := I7.pinned (stat n7) (T.obj _ _ st7)
    have x0 : ∀ {Y : Cx} {α : Type} {t : Sem α} {Q : α → Shared → Prop} {s : Shared}, wpAny (model X.prog X.w) X.A t Q X.xe s → wpAny (model X.prog X.w) X.A t Q (fun _ _ => False) s := fun {Y α t Q s} h => by rw [hxe] at h; exact h
    refine thnF (x0 (Y := X) (pg.run _ s7 _ H7 x u _ I7' r7 (step x H7 y7))) fun _ s8 ⟨σ8, H8, I8, hw8, q8⟩ => ?_
    refine thnF (x0 (Y := X) (pt.run _ s8 σ8 H8 _ I8 q8)) fun b s9 ⟨H9, I9, q9⟩ => ?_
    have fin : ∀ {s' : Shared} {H' : Hp}, Inv X (pins ++ pinsAt fp s7.heap) σ8 H' s' → Nx1 H' → ∃ m, m < n ∧ ∃ i H', Inv X pins (L2.wipe σ vs) H' s' ∧ tn i s'.heap ∧ (∀ b ∈ fp, H' b = none) ∧ W i m H' := fun {s' H'} I' nx => by
      obtain ⟨m', hm, w'⟩ := hNx H' nx
      have pin' : ∀ b ∈ fp, ∀ o, s7.heap.get? b = some o → s'.heap.get? b = some o ∧ H' b = none := fun b hb o e =>
        let z := I'.pin (b, o) (List.mem_append_right _ (List.mem_append_right _ (mem_pinsAt hb e)))
        ⟨z.1, z.2.1⟩
      refine ⟨m', hm, i + 1, H', I'.unpinned.weak (by rw [← hw8, wipe_length]) (fun j v e => by rw [← hw8] at e; exact (wipe_some e).1), T.keep _ _ _ st7 fun b hb o e => (pin' b hb o e).1, fun b hb => ?_, w'⟩
      obtain ⟨o, e, _⟩ := T.obj _ _ st7 b hb
      exact (pin' b hb o e).2
    cases b with
    | false =>
      simp only [Bool.false_eq_true, if_false] at q9 ⊢
      exact fin I9 q9
    | true =>
      simp only [if_true] at q9 ⊢
      refine thnF (x0 (Y := X) (pe.run _ s9 σ8 H9 _ I9 q9)) fun z s17 ⟨yv, H17, I17, r17, acc, hD17, hz17, nx⟩ => ?_
      exact app_ok (X := X) I17 hD17 hz17 r17 fun s18 I18 => fin I18 nx
theorem lr_mid {c1 : Comprehension} (hc : X.calm = true) (hT : ∀ it acc, OutT (.ListComp elt gens scope pos) k tg p0 ifs iter1 it acc X.env) (hs : ∀ x, foldedSetIterable iter1 X.env x = pure x) (hcl : (clausesOf (.ListComp elt gens scope pos))[k + 1]? = some c1) (hca : c1.is_async = 0) (pg : PG X tg g) (pt : PTs X ifs tt) (pi : PI X tg1 iter1 wi1)
    (hin : LR X elt gens scope pos (k + 1) D tg1 g1 tt1 vs1 B) (hv : ∀ i ∈ vs1, i ∈ vs) (hxe : X.xe = fun _ _ => False) : LR X elt gens scope pos k D tg g tt vs (bCl wi1 g1 tt1 vs1 B) := by
  intro pins σ H s J it fp tn Nx I T st f h
  obtain ⟨W, ⟨m0, w0⟩, turn⟩ := h
  refine loop_out (hT _ _) hs (fun n s' => ∃ i H', Inv X pins (L2.wipe σ vs) H' s' ∧ tn i s'.heap ∧ (∀ b ∈ fp, H' b = none) ∧ W i n H') ?_ m0 ⟨0, H, I.weak (wipe_length _ _) (wipe2 σ vs), st, fun b hb => (f b hb).1, w0⟩
  have stat : ∀ {H' : Hp}, (∀ b ∈ fp, H' b = none) → ∀ b ∈ fp, FpOk X pins H' b := fun hn b hb => ⟨hn b hb, (f b hb).2⟩
  rintro n s5 ⟨i, H5, I5, st5, n5, w5⟩
  rcases turn i n H5 w5 with ⟨stop, qq⟩ | ⟨go, Nx1, hNx, step⟩
  · refine thnF (T.done X rfl rfl rfl hc i pins s5 _ H5 (fun _ _ => False) I5 (stat n5) st5 stop) fun r s6 ⟨hr, I6⟩ => ?_
    subst hr
    exact ⟨H5, I6, qq⟩
  · refine thnF (T.item X rfl rfl rfl hc i pins s5 _ H5 (fun _ _ => False) I5 (stat n5) st5 go) fun r s6 ⟨u, hr, h6⟩ => ?_
    subst hr
    refine thnF h6 fun _ s7 ⟨x, H7, I7, r7, y7, st7, n7⟩ => ?_
    have I7' := I7.pinned (stat n7) (T.obj _ _ st7)
    have x0 : ∀ {Y : Cx} {α : Type} {t : Sem α} {Q : α → Shared → Prop} {s : Shared}, wpAny (model X.prog X.w) X.A t Q X.xe s → wpAny (model X.prog X.w) X.A t Q (fun _ _ => False) s := fun {Y α t Q s} h => by rw [hxe] at h; exact h
    refine thnF (x0 (Y := X) (pg.run _ s7 _ H7 x u _ I7' r7 (step x H7 y7))) fun _ s8 ⟨σ8, H8, I8, hw8, q8⟩ => ?_
    refine thnF (x0 (Y := X) (pt.run _ s8 σ8 H8 _ I8 q8)) fun b s9 ⟨H9, I9, q9⟩ => ?_
    have fin : ∀ {σ9 : L2.St} {s' : Shared} {H' : Hp}, Inv X (pins ++ pinsAt fp s7.heap) σ9 H' s' → (L2.wipe σ vs).length = σ9.length → (∀ (j : Nat) v, (L2.wipe σ vs)[j]? = some (some v) → σ9[j]? = some (some v)) → Nx1 H' → ∃ m, m < n ∧ ∃ i H', Inv X pins (L2.wipe σ vs) H' s' ∧ tn i s'.heap ∧ (∀ b ∈ fp, H' b = none) ∧ W i m H' := fun {σ9 s' H'} I' hl hk nx => by
      obtain ⟨m', hm, w'⟩ := hNx H' nx
      have pin' : ∀ b ∈ fp, ∀ o, s7.heap.get? b = some o → s'.heap.get? b = some o ∧ H' b = none := fun b hb o e =>
        let z := I'.pin (b, o) (List.mem_append_right _ (List.mem_append_right _ (mem_pinsAt hb e)))
        ⟨z.1, z.2.1⟩
      refine ⟨m', hm, i + 1, H', I'.unpinned.weak hl hk, T.keep _ _ _ st7 fun b hb o e => (pin' b hb o e).1, fun b hb => ?_, w'⟩
      obtain ⟨o, e, _⟩ := T.obj _ _ st7 b hb
      exact (pin' b hb o e).2
    have hl8 : (L2.wipe σ vs).length = σ8.length := by rw [← hw8, wipe_length]
    have hk8 : ∀ (j : Nat) v, (L2.wipe σ vs)[j]? = some (some v) → σ8[j]? = some (some v) := fun j v e => by
      rw [← hw8] at e
      exact (wipe_some e).1
    have hk9 : ∀ (j : Nat) v, (L2.wipe σ vs)[j]? = some (some v) → (L2.wipe σ8 vs1)[j]? = some (some v) := fun j v e => by
      rw [← hw8] at e
      obtain ⟨e1, e2⟩ := wipe_some e
      rw [wipe_out fun z => e2 (hv j z)]
      exact e1
    cases b with
    | false =>
      simp only [Bool.false_eq_true, if_false] at q9 ⊢
      exact fin I9 hl8 hk8 q9
    | true =>
      simp only [if_true] at q9 ⊢
      have pir := pi.run _ s9 σ8 H9 _ I9 q9
      rw [hxe] at pir
      refine thnF pir fun xv s10 hx => thnF hx fun itv s11 h11 => ?_
      obtain ⟨it1, fp1, tn1, J1, H11, e1, I11, T1, st11, f11, lv⟩ := h11
      subst e1
      have run := hin _ σ8 H11 s11 J1 it1 fp1 tn1 Nx1 I11 T1 st11 f11 lv
      have loop1 := codeAny_mono run (R' := fun r s' => match r with
              | .ok _ => ∃ m, m < n ∧ ∃ i H', Inv X pins (L2.wipe σ vs) H' s' ∧ tn i s'.heap ∧ (∀ b ∈ fp, H' b = none) ∧ W i m H'
              | .error _ => False) fun r s' hr => by
        cases r with
        | ok _ =>
          obtain ⟨H', I', nx⟩ := hr
          exact fin I' (hl8.trans (wipe_length σ8 vs1).symm) hk9 nx
        | error _ => exact hr
      exact start_ok hcl hca loop1 (T1.self X.A 0 _ _ _ st11 loop1)
end
section
variable {X : Cx}
def tLc3 (wi : TI) (g : TG) (tt : TT) (wi1 : TI) (g1 : TG) (tt1 : TT) (wi2 : TI) (g2 : TG) (tt2 : TT) (te : TE) (vs vs1 vs2 : List Nat) : TE := fun σ H Q => wi σ H fun J H1 => ∀ D, H1 D = none → lvl J g tt vs (bCl wi1 g1 tt1 vs1 (bCl wi2 g2 tt2 vs2 (bEl te D))) σ (upd H1 D (.lst [])) fun H => Q (.ref D) H
theorem lc3_core {pins : List (Addr × Obj)} {s : Shared} {σ : L2.St} {H : Hp} {Q : VK} {elt tg iter tg1 iter1 tg2 iter2 : Expr} {ifs ifs1 ifs2 : List Expr} {scope : Scope} {own : List (Str × Nat)} {vs1 vs2 : List Nat} {pos pos' : Pos} {wi wi1 wi2 : TI} {g g1 g2 : TG} {tt tt1 tt2 : TT} {te : TE} {use : Option (Value → Sem Unit)} {Qf : Value → Shared → Prop}
    (hc : X.calm = true) (hN : X.N.Nodup) (I : L2.Inv X pins σ H s) (hi : PI X tg iter wi) (ok : BlkOk X.N X.env.scope scope own) (hv : ∀ i ∈ vs1, i ∈ own.map (·.2)) (hv2 : ∀ i ∈ vs2, i ∈ vs1)
    (hg : ∀ (s : Shared) (H : Hp) (C : Addr) (cl : List (Str × Addr)) (fp : List Addr), PG (X.blk s H scope (compEnvC scope cl C X.env) fp) tg g) (ht : ∀ (s : Shared) (H : Hp) (C : Addr) (cl : List (Str × Addr)) (fp : List Addr), PTs (X.blk s H scope (compEnvC scope cl C X.env) fp) ifs tt)
    (he : ∀ (s : Shared) (H : Hp) (C : Addr) (cl : List (Str × Addr)) (fp : List Addr), PE (X.blk s H scope (compEnvC scope cl C X.env) fp) elt te) (hs : ∀ x, foldedSetIterable iter X.env x = pure x)
    (hi1 : ∀ (s : Shared) (H : Hp) (C : Addr) (cl : List (Str × Addr)) (fp : List Addr), PI (X.blk s H scope (compEnvC scope cl C X.env) fp) tg1 iter1 wi1) (hi2 : ∀ (s : Shared) (H : Hp) (C : Addr) (cl : List (Str × Addr)) (fp : List Addr), PI (X.blk s H scope (compEnvC scope cl C X.env) fp) tg2 iter2 wi2)
    (hg1 : ∀ (s : Shared) (H : Hp) (C : Addr) (cl : List (Str × Addr)) (fp : List Addr), PG (X.blk s H scope (compEnvC scope cl C X.env) fp) tg1 g1) (hg2 : ∀ (s : Shared) (H : Hp) (C : Addr) (cl : List (Str × Addr)) (fp : List Addr), PG (X.blk s H scope (compEnvC scope cl C X.env) fp) tg2 g2)
    (ht1 : ∀ (s : Shared) (H : Hp) (C : Addr) (cl : List (Str × Addr)) (fp : List Addr), PTs (X.blk s H scope (compEnvC scope cl C X.env) fp) ifs1 tt1) (ht2 : ∀ (s : Shared) (H : Hp) (C : Addr) (cl : List (Str × Addr)) (fp : List Addr), PTs (X.blk s H scope (compEnvC scope cl C X.env) fp) ifs2 tt2)
    (hs1 : ∀ env x, foldedSetIterable iter1 env x = pure x) (hs2 : ∀ env x, foldedSetIterable iter2 env x = pure x)
    (h : tLc3 wi g tt wi1 g1 tt1 wi2 g2 tt2 te (own.map (·.2)) vs1 vs2 σ H Q)
    (hRR : ∀ D C s' m H', L2.Inv X pins σ H' s' → Q (.ref D) H' → s'.heap.Ns C m → FpOk X pins H' C → compPost (model X.prog X.w) X.A X.xe use Qf (.ref D) C (.ok .next) s') :
    wpAny (model X.prog X.w) X.A (comprehension (.ListComp elt [⟨tg, iter, ifs, 0⟩, ⟨tg1, iter1, ifs1, 0⟩, ⟨tg2, iter2, ifs2, 0⟩] scope pos) scope X.env pos' (newList []) false (eval iter X.env) use) Qf X.xe s := by
  have hfree : ∀ y ∈ scope.names, y.2 = .free → ∃ c, X.env.cells.lookup y.1 = some c := fun y hy e => by
    rcases ok.free y hy e with k | k
    · exact I.ok.has _ (.inl k)
    · exact I.ok.has _ (.inr k)
  refine wpAny_comprehension_free (use := use) rfl hs (closure_ok hfree) ok.kind (fun y hy e => by rw [ok.uniq y hy, e])
    (thn (hi.run pins s σ H _ I h) fun xv s1 hx => thn hx fun itv s2 h2 => ?_)
  obtain ⟨it, fp, tn, J, H2, e, I2, T, st2, f2, q⟩ := h2
  subst e
  refine wpAny_newObj_type (newEnv_comp ?_) (by show 0 ≤ sizeLine; decide)
  generalize hD : s2.heap.objs.size = D
  have hDn : H2 D = none := I2.hok.fresh (Nat.le_of_eq hD)
  obtain ⟨W, ⟨m0, w0⟩, turn⟩ := q D hDn
  -- the new list
  generalize hs3 : ({ s2 with heap := s2.heap.push { cls := .type "list", data := .seq ([] : List Value).toArray } } : Shared) = s3
  have I3 : L2.Inv X pins σ (upd H2 D (.lst [])) s3 := by
    rw [← hs3]
    refine I2.laid (t' := s2.toks) (fun b o e => Heap.get?_push_of_some _ e) (Nat.le_of_eq hD) ⟨Nat.zero_le _, [], 0, .nil, ?_⟩
    rw [← hD]
    exact Heap.get?_push_size _ rfl
  have h3 : s3.heap = s2.heap.push { cls := .type "list", data := .seq ([] : List Value).toArray } := by rw [← hs3]
  have sz : ∀ b ∈ fp, b < s2.heap.objs.size := fun b hb => by
    obtain ⟨o, e, _⟩ := T.obj _ _ st2 b hb
    exact Heap.lt_size e
  have f3 : ∀ b ∈ fp, FpOk X pins (upd H2 D (.lst [])) b ∧ b < s3.heap.objs.size := fun b hb => by
    have hlt := sz b hb
    refine ⟨⟨?_, (f2 b hb).2⟩, by rw [h3, Heap.size_push]; exact Nat.lt_succ_of_lt hlt⟩
    rw [upd_ne (by rw [← hD]; exact Nat.ne_of_lt hlt)]
    exact (f2 b hb).1
  have st3 : tn 0 s3.heap := T.keep _ _ _ st2 fun b _ o e => by rw [h3]; exact Heap.get?_push_of_some _ e
  have I4 := block_start I3 ok hN f3
  have pg := hg s3 (upd H2 D (.lst [])) s3.heap.objs.size (cellsFrom (s3.heap.objs.size + 1) scope.names (cloFrom X.env.cells scope.names [])) fp
  have pt := ht s3 (upd H2 D (.lst [])) s3.heap.objs.size (cellsFrom (s3.heap.objs.size + 1) scope.names (cloFrom X.env.cells scope.names [])) fp
  have pe := he s3 (upd H2 D (.lst [])) s3.heap.objs.size (cellsFrom (s3.heap.objs.size + 1) scope.names (cloFrom X.env.cells scope.names [])) fp
  have pi1 := hi1 s3 (upd H2 D (.lst [])) s3.heap.objs.size (cellsFrom (s3.heap.objs.size + 1) scope.names (cloFrom X.env.cells scope.names [])) fp
  have pi2 := hi2 s3 (upd H2 D (.lst [])) s3.heap.objs.size (cellsFrom (s3.heap.objs.size + 1) scope.names (cloFrom X.env.cells scope.names [])) fp
  have pg1 := hg1 s3 (upd H2 D (.lst [])) s3.heap.objs.size (cellsFrom (s3.heap.objs.size + 1) scope.names (cloFrom X.env.cells scope.names [])) fp
  have pg2 := hg2 s3 (upd H2 D (.lst [])) s3.heap.objs.size (cellsFrom (s3.heap.objs.size + 1) scope.names (cloFrom X.env.cells scope.names [])) fp
  have pt1 := ht1 s3 (upd H2 D (.lst [])) s3.heap.objs.size (cellsFrom (s3.heap.objs.size + 1) scope.names (cloFrom X.env.cells scope.names [])) fp
  have pt2 := ht2 s3 (upd H2 D (.lst [])) s3.heap.objs.size (cellsFrom (s3.heap.objs.size + 1) scope.names (cloFrom X.env.cells scope.names [])) fp
  show codeAny _ _ (.compStart (.ListComp elt [⟨tg, iter, ifs, 0⟩, ⟨tg1, iter1, ifs1, 0⟩, ⟨tg2, iter2, ifs2, 0⟩] scope pos) 0 (.ref it) (.ref D) (compEnvC scope (cellsFrom (s3.heap.objs.size + 1) scope.names (cloFrom X.env.cells scope.names [])) s3.heap.objs.size X.env)) (compPost (model X.prog X.w) X.A X.xe use Qf (.ref D) s3.heap.objs.size) { s3 with heap := pushCells (s3.heap.push { cls := .type "dict", data := .dict #[] }) scope.names }
  have nfp : ∀ b ∈ fp, (upd H2 D (.lst [])) b = none := fun b hb => (f3 b hb).1.1
  generalize hce : compEnvC scope (cellsFrom (s3.heap.objs.size + 1) scope.names (cloFrom X.env.cells scope.names [])) s3.heap.objs.size X.env = ce at I4 pg pt pe pi1 pg1 pt1 pi2 pg2 pt2 ⊢
  have cL : ce.locals = s3.heap.objs.size := by subst hce; rfl
  generalize hH3 : upd H2 D (.lst []) = H3 at I3 I4 pg pt pe pi1 pg1 pt1 pi2 pg2 pt2 w0 nfp f3
  generalize hs4 : ({ s3 with heap := pushCells (s3.heap.push { cls := .type "dict", data := .dict #[] }) scope.names } : Shared) = s4 at I4 ⊢
  have st4 : tn 0 s4.heap := T.keep _ _ _ st3 fun b _ o e => by rw [← hs4]; exact pushCells_keeps _ _ _ _ (Heap.get?_push_of_some _ e)
  have stat : ∀ {σ' : L2.St} {H' : Hp} {s' : Shared}, L2.Inv (X.blk s3 H3 scope ce fp) [] σ' H' s' → (∀ b ∈ fp, H' b = none) → ∀ b ∈ fp, FpOk (X.blk s3 H3 scope ce fp) [] H' b := fun {σ' H' s'} I' hn b hb =>
    ⟨hn b hb, (I'.ok.exf b hb).1, I'.ok.exfs b hb, .inl hb, fun x c e => (I'.ok.exf b hb).2 x c e, fun p hp => absurd (show p ∈ ([] : List (Addr × Obj)) ++ [] from hp) (by simp)⟩
  have loop : codeAny (model X.prog X.w) X.A (.compLoop (.ListComp elt [⟨tg, iter, ifs, 0⟩, ⟨tg1, iter1, ifs1, 0⟩, ⟨tg2, iter2, ifs2, 0⟩] scope pos) 0 (.ref it) (.ref D) ce) (compPost (model X.prog X.w) X.A X.xe use Qf (.ref D) s3.heap.objs.size) s4 := by
    refine loop_out (p0 := iter.pos) (by rfl) (hs1 ce) (fun n s' => ∃ i H', L2.Inv (X.blk s3 H3 scope ce fp) [] (wipe σ (own.map (·.2))) H' s' ∧ tn i s'.heap ∧ (∀ b ∈ fp, H' b = none) ∧ W i n H') ?_ m0 ⟨0, H3, I4, st4, nfp, w0⟩
    rintro n s5 ⟨i, H5, I5, st5, n5, w5⟩
    rcases turn i n H5 w5 with ⟨stop, qq⟩ | ⟨go, Nx, hNx, step⟩
    · have td := T.done (X.blk s3 H3 scope ce fp) rfl rfl rfl hc i [] s5 _ H5 (fun _ _ => False) I5 (stat I5 n5) st5 stop
      refine thnF td fun r s6 ⟨hr, I6⟩ => ?_
      subst hr
      -- back in the def's context
      have I7 : L2.Inv X pins σ H5 s6 := I3.call' (ch := fp) I6.os I6.base I6.hok I6.bare fun b hb => ⟨(f3 b hb).1.2.2.2.1, (f3 b hb).1.2.1, (f3 b hb).1.2.2.2.2.1, (f3 b hb).1.2.2.2.2.2⟩
      have nC : H5 s3.heap.objs.size = none := by
        have z : H5 ce.locals = none := I6.free
        rw [cL] at z
        exact z
      obtain ⟨m, hn, _⟩ := I6.loc
      have hn : s6.heap.Ns ce.locals m := hn
      rw [cL] at hn
      exact hRR D s3.heap.objs.size s6 m H5 I7 qq hn (I3.fpOk (Nat.le_refl _) nC)
    · have ti := T.item (X.blk s3 H3 scope ce fp) rfl rfl rfl hc i [] s5 _ H5 (fun _ _ => False) I5 (stat I5 n5) st5 go
      refine thnF ti fun r s6 ⟨u, hr, h6⟩ => ?_
      subst hr
      refine thnF h6 fun _ s7 ⟨x, H7, I7, r7, y7, st7, n7⟩ => ?_
      have I7' := I7.pinned (stat I7 n7) (T.obj _ _ st7)
      refine thnF (pg.run _ s7 _ H7 x u _ I7' r7 (step x H7 y7)) fun _ s8 ⟨σ8, H8, I8, hw8, q8⟩ => ?_
      refine thnF (pt.run _ s8 σ8 H8 _ I8 q8) fun b s9 ⟨H9, I9, q9⟩ => ?_
      -- the turn's end, from any slots that know what the block knew at its start
      have fin : ∀ {σ9 : L2.St} {s' : Shared} {H' : Hp}, L2.Inv (X.blk s3 H3 scope ce fp) ([] ++ pinsAt fp s7.heap) σ9 H' s' → (wipe σ (own.map (·.2))).length = σ9.length → (∀ (j : Nat) v, (wipe σ (own.map (·.2)))[j]? = some (some v) → σ9[j]? = some (some v)) → Nx H' →
          ∃ m, m < n ∧ ∃ i H', L2.Inv (X.blk s3 H3 scope ce fp) [] (wipe σ (own.map (·.2))) H' s' ∧ tn i s'.heap ∧ (∀ b ∈ fp, H' b = none) ∧ W i m H' := fun {σ9 s' H'} I' hl hk nx => by
        obtain ⟨m', hm, w'⟩ := hNx H' nx
        have pin' : ∀ b ∈ fp, ∀ o, s7.heap.get? b = some o → s'.heap.get? b = some o ∧ H' b = none := fun b hb o e =>
          let z := I'.pin (b, o) (List.mem_append_right _ (List.mem_append_right _ (mem_pinsAt hb e)))
          ⟨z.1, z.2.1⟩
        refine ⟨m', hm, i + 1, H', (I'.unpinned (pins := [])).weak hl hk, T.keep _ _ _ st7 fun b hb o e => (pin' b hb o e).1, fun b hb => ?_, w'⟩
        obtain ⟨o, e, _⟩ := T.obj _ _ st7 b hb
        exact (pin' b hb o e).2
      have hl8 : (wipe σ (own.map (·.2))).length = σ8.length := by rw [← hw8, wipe_length]
      have hk8 : ∀ (j : Nat) v, (wipe σ (own.map (·.2)))[j]? = some (some v) → σ8[j]? = some (some v) := fun j v e => by
        rw [← hw8] at e
        exact (wipe_some e).1
      have hk9 : ∀ (j : Nat) v, (wipe σ (own.map (·.2)))[j]? = some (some v) → (wipe σ8 vs1)[j]? = some (some v) := fun j v e => by
        rw [← hw8] at e
        obtain ⟨e1, e2⟩ := wipe_some e
        rw [wipe_out fun z => e2 (hv j z)]
        exact e1
      cases b with
      | false =>
        simp only [Bool.false_eq_true, if_false] at q9 ⊢
        exact fin I9 hl8 hk8 q9
      | true =>
        simp only [if_true] at q9 ⊢
        refine thnF (pi1.run _ s9 σ8 H9 _ I9 q9) fun xv s10 hx => thnF hx fun itv s11 h11 => ?_
        obtain ⟨it1, fp1, tn1, J1, H11, e1, I11, T1, st11, f11, lv⟩ := h11
        subst e1
        have l2 : LR (X.blk s3 H3 scope ce fp) elt [⟨tg, iter, ifs, 0⟩, ⟨tg1, iter1, ifs1, 0⟩, ⟨tg2, iter2, ifs2, 0⟩] scope pos 2 D tg2 g2 tt2 vs2 (bEl te D) := lr_last (p0 := iter2.pos) hc (fun _ _ => by rfl) pg2 pt2 pe rfl
        have l1 : LR (X.blk s3 H3 scope ce fp) elt [⟨tg, iter, ifs, 0⟩, ⟨tg1, iter1, ifs1, 0⟩, ⟨tg2, iter2, ifs2, 0⟩] scope pos 1 D tg1 g1 tt1 vs1 (bCl wi2 g2 tt2 vs2 (bEl te D)) := lr_mid (p0 := iter1.pos) hc (fun _ _ => by rfl) (hs2 ce) (c1 := ⟨tg2, iter2, ifs2, 0⟩) rfl rfl pg1 pt1 pi2 l2 hv2 rfl
        have run := l1 _ σ8 H11 s11 J1 it1 fp1 tn1 Nx I11 T1 st11 f11 lv
        have loop1 : codeAny (model X.prog X.w) X.A (.compLoop (.ListComp elt [⟨tg, iter, ifs, 0⟩, ⟨tg1, iter1, ifs1, 0⟩, ⟨tg2, iter2, ifs2, 0⟩] scope pos) 1 (.ref it1) (.ref D) ce)
            (fun r s' => match r with
              | .ok _ => ∃ m, m < n ∧ ∃ i H', L2.Inv (X.blk s3 H3 scope ce fp) [] (wipe σ (own.map (·.2))) H' s' ∧ tn i s'.heap ∧ (∀ b ∈ fp, H' b = none) ∧ W i m H'
              | .error _ => False) s11 := codeAny_mono run fun r s' hr => by
          cases r with
          | ok _ =>
            obtain ⟨H', I', nx⟩ := hr
            exact fin I' (hl8.trans (wipe_length σ8 vs1).symm) hk9 nx
          | error _ => exact hr
        exact start_ok (c := ⟨tg1, iter1, ifs1, 0⟩) rfl rfl loop1 (T1.self X.A 0 _ _ _ st11 loop1)
  exact codeAny_compStart_list loop (T.self X.A 0 _ _ _ st4 loop)
/-- as a value -/
theorem pe_lc3 {elt tg iter tg1 iter1 tg2 iter2 : Expr} {ifs ifs1 ifs2 : List Expr} {scope : Scope} {own : List (Str × Nat)} {vs1 vs2 : List Nat} {pos : Pos} {wi wi1 wi2 : TI} {g g1 g2 : TG} {tt tt1 tt2 : TT} {te : TE} (hc : X.calm = true) (hN : X.N.Nodup) (hi : PI X tg iter wi) (ok : BlkOk X.N X.env.scope scope own) (hv : ∀ i ∈ vs1, i ∈ own.map (·.2)) (hv2 : ∀ i ∈ vs2, i ∈ vs1)
    (hg : ∀ (s : Shared) (H : Hp) (C : Addr) (cl : List (Str × Addr)) (fp : List Addr), PG (X.blk s H scope (compEnvC scope cl C X.env) fp) tg g) (ht : ∀ (s : Shared) (H : Hp) (C : Addr) (cl : List (Str × Addr)) (fp : List Addr), PTs (X.blk s H scope (compEnvC scope cl C X.env) fp) ifs tt)
    (hi1 : ∀ (s : Shared) (H : Hp) (C : Addr) (cl : List (Str × Addr)) (fp : List Addr), PI (X.blk s H scope (compEnvC scope cl C X.env) fp) tg1 iter1 wi1) (hi2 : ∀ (s : Shared) (H : Hp) (C : Addr) (cl : List (Str × Addr)) (fp : List Addr), PI (X.blk s H scope (compEnvC scope cl C X.env) fp) tg2 iter2 wi2)
    (hg1 : ∀ (s : Shared) (H : Hp) (C : Addr) (cl : List (Str × Addr)) (fp : List Addr), PG (X.blk s H scope (compEnvC scope cl C X.env) fp) tg1 g1) (hg2 : ∀ (s : Shared) (H : Hp) (C : Addr) (cl : List (Str × Addr)) (fp : List Addr), PG (X.blk s H scope (compEnvC scope cl C X.env) fp) tg2 g2) (ht1 : ∀ (s : Shared) (H : Hp) (C : Addr) (cl : List (Str × Addr)) (fp : List Addr), PTs (X.blk s H scope (compEnvC scope cl C X.env) fp) ifs1 tt1) (ht2 : ∀ (s : Shared) (H : Hp) (C : Addr) (cl : List (Str × Addr)) (fp : List Addr), PTs (X.blk s H scope (compEnvC scope cl C X.env) fp) ifs2 tt2)
    (he : ∀ (s : Shared) (H : Hp) (C : Addr) (cl : List (Str × Addr)) (fp : List Addr), PE (X.blk s H scope (compEnvC scope cl C X.env) fp) elt te) (hs : ∀ x, foldedSetIterable iter X.env x = pure x := by intro _; rfl) (hs1 : ∀ env x, foldedSetIterable iter1 env x = pure x := by intro _ _; rfl) (hs2 : ∀ env x, foldedSetIterable iter2 env x = pure x := by intro _ _; rfl) :
    PE X (.ListComp elt [⟨tg, iter, ifs, 0⟩, ⟨tg1, iter1, ifs1, 0⟩, ⟨tg2, iter2, ifs2, 0⟩] scope pos) (tLc3 wi g tt wi1 g1 tt1 wi2 g2 tt2 te (own.map (·.2)) vs1 vs2) := by
  refine ⟨fun pins s σ H Q I h => ?_⟩
  rw [eval_ListComp]
  refine lc3_core hc hN I hi ok hv hv2 hg ht he hs hi1 hi2 hg1 hg2 ht1 ht2 hs1 hs2 h fun D C s' m H' I' q hn f => ⟨m, hn, fun h'' sb => ?_⟩
  obtain ⟨f0, f1, f2, f3, f4, f5⟩ := f
  exact ⟨.ref D, H', I'.turned (t' := s'.toks) (fun b o hb e => (sb.2 b hb).trans e) f0 f1 f3 f4 f5, rfl, q⟩
theorem ps_setLc3 {i : Nat} {y : Str} {py : Pos} {elt tg iter tg1 iter1 tg2 iter2 : Expr} {ifs ifs1 ifs2 : List Expr} {scope : Scope} {own : List (Str × Nat)} {vs1 vs2 : List Nat} {pos spos : Pos} {wi wi1 wi2 : TI} {g g1 g2 : TG} {tt tt1 tt2 : TT} {te : TE} (hc : X.calm = true) (hN : X.N.Nodup) (hy : X.N[i]? = some y) (hyl : X.env.scope.names.lookup y = some .local)
    (hsw : swapsWith (.ListComp elt [⟨tg, iter, ifs, 0⟩, ⟨tg1, iter1, ifs1, 0⟩, ⟨tg2, iter2, ifs2, 0⟩] scope pos) (some (.Name y py)) spos.line X.env = pure true) (hi : PI X tg iter wi) (ok : BlkOk X.N X.env.scope scope own) (hv : ∀ i ∈ vs1, i ∈ own.map (·.2)) (hv2 : ∀ i ∈ vs2, i ∈ vs1)
    (hg : ∀ (s : Shared) (H : Hp) (C : Addr) (cl : List (Str × Addr)) (fp : List Addr), PG (X.blk s H scope (compEnvC scope cl C X.env) fp) tg g) (ht : ∀ (s : Shared) (H : Hp) (C : Addr) (cl : List (Str × Addr)) (fp : List Addr), PTs (X.blk s H scope (compEnvC scope cl C X.env) fp) ifs tt)
    (hi1 : ∀ (s : Shared) (H : Hp) (C : Addr) (cl : List (Str × Addr)) (fp : List Addr), PI (X.blk s H scope (compEnvC scope cl C X.env) fp) tg1 iter1 wi1) (hi2 : ∀ (s : Shared) (H : Hp) (C : Addr) (cl : List (Str × Addr)) (fp : List Addr), PI (X.blk s H scope (compEnvC scope cl C X.env) fp) tg2 iter2 wi2)
    (hg1 : ∀ (s : Shared) (H : Hp) (C : Addr) (cl : List (Str × Addr)) (fp : List Addr), PG (X.blk s H scope (compEnvC scope cl C X.env) fp) tg1 g1) (hg2 : ∀ (s : Shared) (H : Hp) (C : Addr) (cl : List (Str × Addr)) (fp : List Addr), PG (X.blk s H scope (compEnvC scope cl C X.env) fp) tg2 g2) (ht1 : ∀ (s : Shared) (H : Hp) (C : Addr) (cl : List (Str × Addr)) (fp : List Addr), PTs (X.blk s H scope (compEnvC scope cl C X.env) fp) ifs1 tt1) (ht2 : ∀ (s : Shared) (H : Hp) (C : Addr) (cl : List (Str × Addr)) (fp : List Addr), PTs (X.blk s H scope (compEnvC scope cl C X.env) fp) ifs2 tt2)
    (he : ∀ (s : Shared) (H : Hp) (C : Addr) (cl : List (Str × Addr)) (fp : List Addr), PE (X.blk s H scope (compEnvC scope cl C X.env) fp) elt te) (hs : ∀ x, foldedSetIterable iter X.env x = pure x := by intro _; rfl) (hs1 : ∀ env x, foldedSetIterable iter1 env x = pure x := by intro _ _; rfl) (hs2 : ∀ env x, foldedSetIterable iter2 env x = pure x := by intro _ _; rfl) :
    PS X (.Assign [.Name y py] (.ListComp elt [⟨tg, iter, ifs, 0⟩, ⟨tg1, iter1, ifs1, 0⟩, ⟨tg2, iter2, ifs2, 0⟩] scope pos) spos) (tAsg (tLc3 wi g tt wi1 g1 tt1 wi2 g2 tt2 te (own.map (·.2)) vs1 vs2) (gName i)) := by
  refine ⟨fun pins s σ H D I h => ?_⟩
  rw [exec_Assign_Name_used _ _ _ _ hsw]
  refine wpAny_bind (wpAny_standAt (wpAny_bind ?_))
  show wpAny _ X.A (do let _ ← comprehension (.ListComp elt [⟨tg, iter, ifs, 0⟩, ⟨tg1, iter1, ifs1, 0⟩, ⟨tg2, iter2, ifs2, 0⟩] scope pos) scope X.env (firstIterPos [⟨tg, iter, ifs, 0⟩, ⟨tg1, iter1, ifs1, 0⟩, ⟨tg2, iter2, ifs2, 0⟩] pos) (newList []) false (eval iter X.env) (some (assign (.Name y py) X.env))) _ _ s
  have h : tLc3 wi g tt wi1 g1 tt1 wi2 g2 tt2 te (own.map (·.2)) vs1 vs2 σ H (fun x H1 => gName i x σ H1 D.nx) := h
  refine wpAny_bind (thn (lc3_core (Qf := fun _ s' => SP X pins D .next s') hc hN I hi ok hv hv2 hg ht he hs hi1 hi2 hg1 hg2 ht1 ht2 hs1 hs2 h fun L C s' m H' I' q hn f => ?_) fun _ s' hq => wpAny_pure (wpAny_pure hq))
  show wpAny _ _ (assign (.Name y py) X.env (.ref L)) _ _ _
  refine wpAny_assign_Name (store_ok2 (v := V.ref L) I' hN hy (.inl hyl) rfl (fun s2 I2 ⟨a, sb, ha⟩ => ?_) (.inr hyl))
  obtain ⟨f0, f1, f2, f3, f4, f5⟩ := f
  have haC : C ≠ a := by
    rcases ha with z | z
    · rw [z]; exact f1
    · exact fun e => f4 y a z e.symm
  refine ⟨m, hn.sameBut sb haC, fun h3 sb3 => ?_⟩
  exact ⟨_, H', I2.turned (t' := s2.toks) (fun b o hb e => (sb3.2 b hb).trans e) f0 f1 f3 f4 f5, q⟩
end
end L3
set_option Elab.async false
set_option linter.all false
set_option maxRecDepth 100000
/-! A mirror of the text in plain data: states. -/
namespace MI
open PySem PySem.Spec PyProof.Rows L2 Evl TB DL
/-- an error as data: its class, its fields -/
structure Xc where
  nm : Str
  fs : List (Str × PyData)
/-- what is computed: from what is wished of a value, and of an error -/
abbrev C (α : Type) := (α → Prop) → (Xc → Prop) → Prop
/-- what a name holds: data, a list of one's own that may still change, the deck -/
inductive ML where
  | dat (e : PyData)
  | own (ds : List PyData)
  | dck
  | rng (lo hi : Int)
abbrev ME := List (Option ML)
/-- where one stands: what must stand, the deck's own address, the errors' classes, what is wished of an error -/
structure Ct where
  W : Wd
  dk : V
  tab : Str → Option Addr
  Z : WX
def dn (dk : V) : Option ML → Option Sl
  | some (.dat e) => some (.dat e)
  | some .dck => some (.raw dk)
  | some (.rng lo hi) => some (.rng lo hi)
  | _ => none
def own1 : Option ML → Option V → List (Addr × List PyData)
  | some (.own ds), some (.ref a) => [(a, ds)]
  | _, _ => []
def owns : ME → L2.St → List (Addr × List PyData)
  | o :: r, s :: σ => own1 o s ++ owns r σ
  | _, _ => []
def Fit (r : ME) (σ : L2.St) : Prop := ∀ (i : Nat) ds, r[i]? = some (some (.own ds)) → ∃ a, σ[i]? = some (some (V.ref a))
structure MSt (c : Ct) (H0 : Hp) (r : ME) (τ : List (V × PyData)) (l : List (Addr × List PyData)) (σ : L2.St) (H : Hp) : Prop where
  fit : Fit r σ
  st : DL.St c.W H0 (r.map (dn c.dk)) τ (owns r σ ++ l) σ H
/-! ### the lists of one's own, by the slots -/
theorem own1_none {o : Option V} : own1 none o = [] := by cases o <;> rfl
theorem owns_set_none {v : Option V} : ∀ (r : ME) (σ : L2.St) (i : Nat), owns (r.set i none) (σ.set i v) = owns (r.set i none) σ
  | [], σ, i => by cases σ <;> rfl
  | o :: r, [], i => by cases i <;> rfl
  | o :: r, s :: σ, 0 => by
    show own1 none v ++ owns r σ = own1 none s ++ owns r σ
    rw [own1_none, own1_none]
  | o :: r, s :: σ, i + 1 => by
    show own1 o s ++ owns (r.set i none) (σ.set i v) = own1 o s ++ owns (r.set i none) σ
    rw [owns_set_none r σ i]
theorem owns_sub : ∀ (r : ME) (σ : L2.St) (i : Nat), (owns (r.set i none) σ).Sublist (owns r σ)
  | [], σ, i => by exact List.Sublist.refl _
  | o :: r, [], i => by cases i <;> exact List.Sublist.refl _
  | o :: r, s :: σ, 0 => by
    show (own1 none s ++ owns r σ).Sublist (own1 o s ++ owns r σ)
    rw [own1_none]
    exact List.sublist_append_right _ _
  | o :: r, s :: σ, i + 1 => (List.Sublist.refl _).append (owns_sub r σ i)
/-- what is set to a thing that is no own list -/
theorem owns_set {x : Option ML} (hx : ∀ s, own1 x s = []) : ∀ (r : ME) (σ : L2.St) (i : Nat), owns (r.set i x) σ = owns (r.set i none) σ
  | [], σ, i => by cases σ <;> rfl
  | o :: r, [], i => by cases i <;> rfl
  | o :: r, s :: σ, 0 => by
    show own1 x s ++ owns r σ = own1 none s ++ owns r σ
    rw [hx, own1_none]
  | o :: r, s :: σ, i + 1 => by
    show own1 o s ++ owns (r.set i x) σ = own1 o s ++ owns (r.set i none) σ
    rw [owns_set hx r σ i]
theorem owns_own {a : Addr} {ds : List PyData} : ∀ (r : ME) (σ : L2.St) (i : Nat), i < r.length → σ[i]? = some (some (V.ref a)) → (owns (r.set i (some (.own ds))) σ).Perm ((a, ds) :: owns (r.set i none) σ)
  | [], σ, i, h, _ => by simp at h
  | o :: r, [], i, _, h => by simp at h
  | o :: r, s :: σ, 0, _, h => by
    have h' : some s = some (some (V.ref a)) := h
    cases h'
    show (own1 (some (.own ds)) (some (V.ref a)) ++ owns r σ).Perm ((a, ds) :: (own1 none (some (V.ref a)) ++ owns r σ))
    rw [own1_none]
    exact List.Perm.refl _
  | o :: r, s :: σ, i + 1, hi, h => by
    have ih := owns_own (ds := ds) r σ i (by simpa using hi) (by simpa using h)
    show (own1 o s ++ owns (r.set i (some (.own ds))) σ).Perm ((a, ds) :: (own1 o s ++ owns (r.set i none) σ))
    exact (List.Perm.append_left _ ih).trans List.perm_middle
theorem set_self {α : Type} : ∀ {l : List α} {i : Nat} {x : α}, l[i]? = some x → l.set i x = l
  | [], _, _, h => by simp at h
  | y :: l, 0, x, h => by simp at h; rw [h]; rfl
  | y :: l, i + 1, x, h => by
    show y :: l.set i x = y :: l
    rw [set_self (by simpa using h)]
theorem owns_at {a : Addr} {ds : List PyData} {r : ME} {σ : L2.St} {i : Nat} (h1 : r[i]? = some (some (.own ds))) (h2 : σ[i]? = some (some (V.ref a))) : (owns r σ).Perm ((a, ds) :: owns (r.set i none) σ) := by
  have := owns_own (ds := ds) r σ i (List.getElem?_eq_some_iff.mp h1).1 h2
  rwa [set_self h1] at this
theorem rg_zip {N : Addr → Prop} {H : Hp} : ∀ {xs : List V} {ds : List PyData}, RgAll N H xs ds → ∀ q ∈ xs.zip ds, Rg N H q.1 q.2
  | _, _, .nil, q, hq => by simp at hq
  | _, _, .cons q1 q2, q, hq => by
    rw [List.zip_cons_cons, List.mem_cons] at hq
    rcases hq with rfl | hq
    · exact q1
    · exact rg_zip q2 q hq
section
variable {c : Ct} {W : Wd} {H0 H H' : Hp} {ρ : List (Option Sl)} {r : ME} {τ τ' : List (V × PyData)} {l l' : List (Addr × List PyData)} {σ : L2.St}
theorem st_sub (S : DL.St W H0 ρ τ l σ H) (h : l'.Sublist l) : DL.St W H0 ρ τ l' σ H := by
  obtain ⟨N, n1, n2, n3, n4, n5, n6⟩ := S.ex
  exact ⟨S.inv, S.off, N, n1, n2, n3, n4, n5, (h.map _).nodup n6.1, fun p hp => n6.2 p (h.subset hp)⟩
theorem st_perm (S : DL.St W H0 ρ τ l σ H) (h : l.Perm l') : DL.St W H0 ρ τ l' σ H := by
  obtain ⟨N, n1, n2, n3, n4, n5, n6⟩ := S.ex
  exact ⟨S.inv, S.off, N, n1, n2, n3, n4, n5, (h.map _).nodup_iff.mp n6.1, fun p hp => n6.2 p (h.mem_iff.mpr hp)⟩
/-- a new list of one's own, filled with the last values -/
theorem st_newL {p : Addr} {vs : List V} {es : List PyData} (S : DL.St W H0 ρ (vs.zip es ++ τ) l σ H) (hle : vs.length = es.length) (hp : H p = none) : DL.St W H0 ρ τ ((p, es) :: l) σ (upd H p (.lst vs)) := by
  obtain ⟨N, n1, n2, n3, n4, n5, n6⟩ := S.ex
  have x : Ex H (upd H p (.lst vs)) := Ex.new hp
  have hNp : ¬ N p := n3.new hp
  have rv : RgAll N H vs es := zip_all hle fun q hq => n5 q (List.mem_append_left _ hq)
  refine ⟨W.stab H _ S.inv fun a na => ?_, fun a o e n => x _ _ (S.off a o e n), fun a => N a ∨ a = p, fun a h => .inl (n1 a h), fun a h n => ?_, fun a h => ?_, ⟨n4.1, fun i s h => ?_⟩, fun q hq => ((n5 q (List.mem_append_right _ hq)).fresh hp).ex x, ?_, fun q hq => ?_⟩
  · rw [upd_ne (fun z => by rw [z] at na; exact hNp (n1 p na))]
  · rcases h with h | h
    · exact n2 a h n
    · subst h
      cases e : H0 a with
      | none => rfl
      | some o => rw [S.off a o e n] at hp; cases hp
  · rcases h with h | h
    · exact n3.ex x a h
    · rw [h, upd_same]; simp
  · obtain ⟨o, h1, h2⟩ := n4.2 i s h
    refine ⟨o, h1, ?_⟩
    cases s with
    | dat e => obtain ⟨v, q1, q2⟩ := h2; exact ⟨v, q1, (q2.fresh hp).ex x⟩
    | raw v => exact h2
    | rng lo hi => obtain ⟨y, q1, q2, q3⟩ := h2; exact ⟨y, q1, x _ _ q2, fun z => z.elim q3 fun e => by rw [e, hp] at q2; cases q2⟩
  · rw [List.map_cons, List.nodup_cons]
    refine ⟨fun hm => ?_, n6.1⟩
    obtain ⟨q, hq, e⟩ := List.mem_map.mp hm
    have := (n6.2 q hq).1
    rw [e] at this
    exact hNp this
  · rcases List.mem_cons.mp hq with rfl | hq
    · exact ⟨.inr rfl, fun q => hNp (n1 p q), vs, upd_same, (rv.fresh hp).ex x⟩
    · obtain ⟨a1, a2, xs, a3, a4⟩ := n6.2 q hq
      exact ⟨.inl a1, a2, xs, x _ _ a3, (a4.fresh hp).ex x⟩
/-- a list of one's own gets other items, the last values among them or its own ones -/
theorem st_mut {p : Addr} {ds es : List PyData} {ys : List V} (S : DL.St W H0 ρ τ ((p, ds) :: l) σ H)
    (h : ∀ N xs, H p = some (.lst xs) → RgAll N H xs ds → (∀ q ∈ τ, Rg N H q.1 q.2) → RgAll N H ys es) : DL.St W H0 ρ τ ((p, es) :: l) σ (L2.upd H p (.lst ys)) := by
  obtain ⟨N, n1, n2, n3, n4, n5, n6⟩ := S.ex
  obtain ⟨b1, b2, xs, b3, b4⟩ := n6.2 _ List.mem_cons_self
  refine ⟨W.stab H _ S.inv fun a na => ?_, fun a o e n => ?_, N, n1, n2, fun a h => ?_, ⟨n4.1, fun i s h => ?_⟩, fun q hq => (n5 q hq).upd b1, n6.1, fun q hq => ?_⟩
  · rw [upd_ne (fun z => by rw [z] at na; exact b2 na)]
  · rw [upd_ne (fun z => ?_)]
    · exact S.off a o e n
    · have := n2 p b1 b2
      rw [z, this] at e; cases e
  · by_cases z : a = p
    · rw [z, upd_same]; simp
    · rw [upd_ne z]; exact n3 a h
  · obtain ⟨o, h1, h2⟩ := n4.2 i s h
    refine ⟨o, h1, ?_⟩
    cases s with
    | dat e => obtain ⟨v, q1, q2⟩ := h2; exact ⟨v, q1, q2.upd b1⟩
    | raw v => exact h2
    | rng lo hi => obtain ⟨y, q1, q2, q3⟩ := h2; exact ⟨y, q1, by rw [upd_ne (fun e => q3 (by rw [e]; exact b1))]; exact q2, q3⟩
  · rcases List.mem_cons.mp hq with rfl | hq
    · exact ⟨b1, b2, _, upd_same, (h N xs b3 b4 n5).upd b1⟩
    · obtain ⟨a1, a2, ys, a3, a4⟩ := n6.2 q (List.mem_cons_of_mem _ hq)
      have nd := n6.1
      rw [List.map_cons, List.nodup_cons] at nd
      have hne : q.1 ≠ p := fun z => nd.1 (List.mem_map.mpr ⟨q, hq, z⟩)
      exact ⟨a1, a2, ys, by rw [upd_ne hne]; exact a3, a4.upd b1⟩
/-- a look at a list of one's own -/
theorem st_look {p : Addr} {ds : List PyData} (S : DL.St W H0 ρ τ ((p, ds) :: l) σ H) : ∃ xs, H p = some (.lst xs) ∧ xs.length = ds.length ∧
    (∀ (i : Nat) x, xs[i]? = some x → ∃ d, ds[i]? = some d ∧ DL.St W H0 ρ ((x, d) :: τ) ((p, ds) :: l) σ H) ∧ DL.St W H0 ρ (xs.zip ds ++ τ) ((p, ds) :: l) σ H := by
  obtain ⟨N, n1, n2, n3, n4, n5, n6⟩ := S.ex
  obtain ⟨b1, b2, xs, b3, b4⟩ := n6.2 _ List.mem_cons_self
  refine ⟨xs, b3, b4.len, fun i x hx => ?_, S.inv, S.off, N, n1, n2, n3, n4, fun q hq => ?_, n6⟩
  · obtain ⟨d, h1, h2⟩ := b4.get hx
    exact ⟨d, h1, S.inv, S.off, N, n1, n2, n3, n4, fun q hq => by
      rcases List.mem_cons.mp hq with rfl | hq
      · exact h2
      · exact n5 q hq, n6⟩
  · rcases List.mem_append.mp hq with hq | hq
    · exact rg_zip b4 q hq
    · exact n5 q hq
/-! ### the mirror's states -/
theorem dn_set (r : ME) (i : Nat) (x : Option ML) : (r.set i x).map (dn c.dk) = (r.map (dn c.dk)).set i (dn c.dk x) := List.map_set
theorem MSt.mono (S : MSt c H0 r τ l σ H) (h : ∀ p ∈ τ', p ∈ τ) : MSt c H0 r τ' l σ H := ⟨S.fit, S.st.mono h⟩
theorem MSt.pop {p : V × PyData} (S : MSt c H0 r (p :: τ) l σ H) : MSt c H0 r τ l σ H := S.mono fun _ h => List.mem_cons_of_mem _ h
theorem MSt.len (S : MSt c H0 r τ l σ H) : r.length = σ.length := by have := S.st.len; rwa [List.length_map] at this
theorem dn_at {i : Nat} {x : Option ML} (h : r[i]? = some x) : (r.map (dn c.dk))[i]? = some (dn c.dk x) := by rw [List.getElem?_map, h]; rfl
theorem MSt.dat {i : Nat} {e : PyData} (S : MSt c H0 r τ l σ H) (h : r[i]? = some (some (.dat e))) : ∃ v, σ[i]? = some (some v) ∧ MSt c H0 r ((v, e) :: τ) l σ H := by
  obtain ⟨v, h1, h2⟩ := S.st.dat (dn_at h)
  exact ⟨v, h1, S.fit, h2⟩
theorem MSt.raw {i : Nat} (S : MSt c H0 r τ l σ H) (h : r[i]? = some (some .dck)) : σ[i]? = some (some c.dk) := S.st.raw (dn_at h)
theorem fit_set {x : Option ML} {v : Option V} (h : Fit r σ) (i : Nat) (hl : r.length = σ.length) (hx : ∀ ds, x = some (.own ds) → ∃ a, v = some (V.ref a)) : Fit (r.set i x) (σ.set i v) := fun j ds hj => by
  by_cases e : i = j
  · subst e
    have il := (List.getElem?_eq_some_iff.mp hj).1
    rw [List.length_set] at il
    rw [List.getElem?_set_self il] at hj
    obtain ⟨a, ha⟩ := hx ds (Option.some.inj hj)
    exact ⟨a, by rw [List.getElem?_set_self (by omega), ha]⟩
  · rw [List.getElem?_set_ne e] at hj ⊢
    exact h j ds hj
theorem MSt.setD {v : V} {e : PyData} {i : Nat} (S : MSt c H0 r ((v, e) :: τ) l σ H) : MSt c H0 (r.set i (some (.dat e))) τ l (σ.set i (some v)) H := by
  refine ⟨fit_set S.fit i S.len fun ds h => (nomatch h), ?_⟩
  rw [dn_set, owns_set (fun s => by cases s <;> rfl), owns_set_none]
  exact (st_sub S.st ((owns_sub r σ i).append (List.Sublist.refl _))).set
theorem MSt.clr {o : Option V} {i : Nat} (S : MSt c H0 r τ l σ H) : MSt c H0 (r.set i none) τ l (σ.set i o) H := by
  refine ⟨fit_set S.fit i S.len fun ds h => (nomatch h), ?_⟩
  rw [dn_set, owns_set_none]
  exact (st_sub S.st ((owns_sub r σ i).append (List.Sublist.refl _))).clr
/-- a list of one's own goes to a slot -/
theorem MSt.setO {p : Addr} {ds : List PyData} {i : Nat} (S : MSt c H0 r τ ((p, ds) :: l) σ H) (hi : i < r.length) : MSt c H0 (r.set i (some (.own ds))) τ l (σ.set i (some (.ref p))) H := by
  have hl := S.len
  refine ⟨fit_set S.fit i hl fun ds h => ⟨p, rfl⟩, ?_⟩
  have h1 : (σ.set i (some (V.ref p)))[i]? = some (some (V.ref p)) := List.getElem?_set_self (by omega)
  have pm := owns_own (ds := ds) r (σ.set i (some (V.ref p))) i hi h1
  rw [owns_set_none] at pm
  rw [dn_set]
  have a := st_sub S.st ((owns_sub r σ i).append (List.Sublist.refl ((p, ds) :: l)))
  have b := st_perm a (l' := (p, ds) :: owns (r.set i none) σ ++ l) List.perm_middle
  exact (st_perm b (List.Perm.append_right l pm.symm)).clr
/-- the own list of a slot, at the front -/
theorem MSt.front {i : Nat} {ds : List PyData} (S : MSt c H0 r τ l σ H) (h : r[i]? = some (some (.own ds))) : ∃ a, σ[i]? = some (some (.ref a)) ∧ DL.St c.W H0 (r.map (dn c.dk)) τ ((a, ds) :: (owns (r.set i none) σ ++ l)) σ H := by
  obtain ⟨a, ha⟩ := S.fit i ds h
  exact ⟨a, ha, st_perm S.st (List.Perm.append_right l (owns_at h ha))⟩
/-- back from the front, with other items -/
theorem MSt.back {i : Nat} {ds es : List PyData} {a : Addr} (S : MSt c H0 r τ' l' σ H') (h : r[i]? = some (some (.own ds))) (ha : σ[i]? = some (some (.ref a))) (T : DL.St c.W H0 (r.map (dn c.dk)) τ ((a, es) :: (owns (r.set i none) σ ++ l)) σ H) : MSt c H0 (r.set i (some (.own es))) τ l σ H := by
  have il := (List.getElem?_eq_some_iff.mp h).1
  refine ⟨?_, ?_⟩
  · have := fit_set (x := some (.own es)) (v := some (V.ref a)) S.fit i S.len fun _ _ => ⟨a, rfl⟩
    rwa [set_self ha] at this
  · rw [dn_set]
    have e : (r.map (dn c.dk)).set i (dn c.dk (some (.own es))) = r.map (dn c.dk) := set_self (show (r.map (dn c.dk))[i]? = some none from dn_at h)
    rw [e]
    exact st_perm T (List.Perm.append_right l (owns_own r σ i il ha).symm)
/-- a list of one's own is data from now on -/
theorem MSt.frz {i : Nat} {ds : List PyData} (S : MSt c H0 r τ l σ H) (h : r[i]? = some (some (.own ds))) : MSt c H0 (r.set i (some (.dat (.list ds)))) τ l σ H := by
  obtain ⟨a, ha, T⟩ := S.front h
  have T1 := T.frz.set (i := i)
  rw [set_self ha] at T1
  refine ⟨?_, ?_⟩
  · have := fit_set (x := some (.dat (.list ds))) (v := some (V.ref a)) S.fit i S.len fun _ h => (nomatch h)
    rwa [set_self ha] at this
  · rw [dn_set, owns_set (fun s => by cases s <;> rfl)]
    exact T1
/-- the state at another heap, with values that were made -/
theorem MSt.ext (S : MSt c H0 r τ l σ H) : ∃ N : Addr → Prop, NOk N H ∧ (∀ p ∈ τ, Rg N H p.1 p.2) ∧ ∀ H' (τ' : List (V × PyData)), Ex H H' → (∀ p ∈ τ', Rg N H' p.1 p.2) → MSt c H0 r τ' l σ H' := by
  obtain ⟨N, n3, n5, n4, q⟩ := S.st.ext
  exact ⟨N, n3, n5, fun H' τ' x h => ⟨S.fit, q H' τ' x h⟩⟩
/-- one value more -/
theorem MSt.push {N : Addr → Prop} {v : V} {e : PyData} (q : ∀ H' (τ' : List (V × PyData)), Ex H H' → (∀ p ∈ τ', Rg N H' p.1 p.2) → MSt c H0 r τ' l σ H') (n5 : ∀ p ∈ τ, Rg N H p.1 p.2) (x : Ex H H') (h : Rg N H' v e) : MSt c H0 r ((v, e) :: τ) l σ H' :=
  q H' _ x fun p hp => by
    rcases List.mem_cons.mp hp with rfl | hp
    · exact h
    · exact (n5 p hp).ex x
end
end MI
set_option Elab.async false
set_option linter.all false
set_option maxRecDepth 100000
/-! A mirror of the text in plain data: expressions. -/
namespace MI
open PySem PySem.Spec PyProof.Rows L2 Evl TB DL
abbrev DE := ME → C PyData
abbrev DA := ME → C (List PyData)
abbrev DT := ME → C Bool
abbrev DO := ME → C (Option Int)
abbrev DG := PyData → ME → C ME
abbrev DI := ME → C (List PyData)
def lk : ME → Nat → Option ML
  | [], _ => none
  | o :: _, 0 => o
  | _ :: r, i + 1 => lk r i
theorem lk_some : ∀ {r : ME} {i : Nat} {x : ML}, lk r i = some x → r[i]? = some (some x)
  | [], _, _, h => by cases h
  | o :: r, 0, x, h => by rw [show o = some x from h]; rfl
  | o :: r, i + 1, x, h => by
    rw [List.getElem?_cons_succ]
    exact lk_some (r := r) h
/-- an error as it stands in the heap -/
def XAt (tab : Str → Option Addr) (x : Xc) (u : Value) (d : Option Addr) (vs : List V) (H : Hp) : Prop :=
  ∃ C da, tab x.nm = some C ∧ u = .ref C ∧ d = some da ∧ H da = some (.xd ((x.fs.map (·.1)).zip vs)) ∧ vs.length = x.fs.length
/-- where an error goes -/
def XOut (c : Ct) (H0 : Hp) (r : ME) (τ : List (V × PyData)) (l : List (Addr × List PyData)) (σ : L2.St) (X : Xc → Prop) : Prop :=
  ∀ x u d vs H', XAt c.tab x u d vs H' → MSt c H0 r (vs.zip (x.fs.map (·.2)) ++ τ) l σ H' → X x → c.Z u d σ H'
section
variable {c : Ct} {H0 H H' : Hp} {r : ME} {τ τ' : List (V × PyData)} {l l' : List (Addr × List PyData)} {σ : L2.St} {X : Xc → Prop}
theorem XOut.sub (h : XOut c H0 r τ l σ X) (hs : ∀ p ∈ τ, p ∈ τ') : XOut c H0 r τ' l σ X := fun x u d vs H' a S q => h x u d vs H' a (S.mono fun p hp => by
  rcases List.mem_append.mp hp with hp | hp
  · exact List.mem_append_left _ hp
  · exact List.mem_append_right _ (hs p hp)) q
theorem XOut.more {p : V × PyData} (h : XOut c H0 r τ l σ X) : XOut c H0 r (p :: τ) l σ X := h.sub fun _ hp => List.mem_cons_of_mem _ hp
theorem XOut.no : XOut c H0 r τ l σ (fun _ => False) := fun _ _ _ _ _ _ _ h => h.elim
end
/-! ### what it is that a reading does what the mirror does -/
def SE (c : Ct) (te : TE) (m : DE) : Prop := ∀ H0 r τ l σ H, MSt c H0 r τ l σ H → ∀ (P : PyData → Prop) (X : Xc → Prop), m r P X → XOut c H0 r τ l σ X → ∀ Q : VK, (∀ v e H', MSt c H0 r ((v, e) :: τ) l σ H' → P e → Q v H') → te σ H Q
def SA (c : Ct) (ta : TA) (m : DA) : Prop := ∀ H0 r τ l σ H, MSt c H0 r τ l σ H → ∀ (P : List PyData → Prop) (X : Xc → Prop), m r P X → XOut c H0 r τ l σ X → ∀ Q : List V → Hp → Prop, (∀ vs es H', MSt c H0 r (vs.zip es ++ τ) l σ H' → vs.length = es.length → P es → Q vs H') → ta σ H Q
def ST (c : Ct) (tt : TT) (m : DT) : Prop := ∀ H0 r τ l σ H, MSt c H0 r τ l σ H → ∀ (P : Bool → Prop) (X : Xc → Prop), m r P X → XOut c H0 r τ l σ X → ∀ Q : Bool → Hp → Prop, (∀ b H', MSt c H0 r τ l σ H' → P b → Q b H') → tt σ H Q
def SO (c : Ct) (tt : TO) (m : DO) : Prop := ∀ H0 r τ l σ H, MSt c H0 r τ l σ H → ∀ (P : Option Int → Prop) (X : Xc → Prop), m r P X → XOut c H0 r τ l σ X → ∀ Q : Option Int → Hp → Prop, (∀ b H', MSt c H0 r τ l σ H' → P b → Q b H') → tt σ H Q
def SG (c : Ct) (g : TG) (m : DG) : Prop := ∀ H0 r τ l σ H v e, MSt c H0 r ((v, e) :: τ) l σ H → ∀ (P : ME → Prop), m e r P (fun _ => False) → ∀ Q : L2.St → Hp → Prop, (∀ r' σ' H', MSt c H0 r' τ l σ' H' → P r' → Q σ' H') → g v σ H Q
def SGs (c : Ct) (g : TGs) (m : List PyData → ME → C ME) : Prop := ∀ H0 r τ l σ H vs es, MSt c H0 r (vs.zip es ++ τ) l σ H → vs.length = es.length → ∀ (P : ME → Prop), m es r P (fun _ => False) → ∀ Q : L2.St → Hp → Prop, (∀ r' σ' H', MSt c H0 r' τ l σ' H' → P r' → Q σ' H') → g vs σ H Q
/-- an operation on values, a function on data -/
def OpS (rd : R2) (f : PyData → PyData → C PyData) : Prop := ∀ e1 e2 P X, f e1 e2 P X → OpD rd e1 e2 P
def CaS (rd : List V → Hp → VK → Prop) (f : List PyData → C PyData) : Prop := ∀ es P X, f es P X → CaD rd es P
def UnS (rd : V → Hp → VK → Prop) (f : PyData → C PyData) : Prop := ∀ e P X, f e P X → ∀ N H v, NOk N H → Rg N H v e → Res N H P (rd v H)
def SlS (rd : V → Option Int → Option Int → Hp → VK → Prop) (f : PyData → Option Int → Option Int → C PyData) : Prop := ∀ e lo hi P X, f e lo hi P X → ∀ N H v, NOk N H → Rg N H v e → Res N H P (rd v lo hi H)
def MtS (K : PySem.W.Frag) (T : String) (rd : V → List V → Hp → VK → Prop) (f : PyData → List PyData → C PyData) : Prop :=
  ∀ e, (∀ es P X, f e es P X → ∀ N H v vs, NOk N H → Rg N H v e → RgAll N H vs es → Res N H P (rd v vs H))
/-! ### the mirror of expressions -/
def mVar (i : Nat) : DE := fun r P _ => match lk r i with
  | some (.dat e) => P e
  | _ => False
def mC (e : PyData) : DE := fun _ P _ => P e
def mOp (f : PyData → PyData → C PyData) (a b : DE) : DE := fun r P X => a r (fun x => b r (fun y => f x y P X) X) X
def mUn (f : PyData → C PyData) (a : DE) : DE := fun r P X => a r (fun x => f x P X) X
def mNot (a : DE) : DE := fun r P X => a r (fun x => match x with
  | .bool b => P (.bool !b)
  | _ => False) X
def mAnd (a b : DE) : DE := fun r P X => a r (fun x => match x with
  | .bool true => b r P X
  | .bool false => P (.bool false)
  | _ => False) X
def mOr (a b : DE) : DE := fun r P X => a r (fun x => match x with
  | .bool true => P (.bool true)
  | .bool false => b r P X
  | _ => False) X
def mIf (t : DT) (a b : DE) : DE := fun r P X => t r (fun x => match x with
  | true => a r P X
  | false => b r P X) X
def mTup (a : DA) : DE := fun r P X => a r (fun es => es.length ≤ 100000 ∧ P (.tuple es)) X
def mLst (a : DA) : DE := fun r P X => a r (fun es => es.length ≤ 100000 ∧ P (.list es)) X
def mCB (f : List PyData → C PyData) (a : DA) : DE := fun r P X => a r (fun es => f es P X) X
def mCall (f : List PyData → C PyData) (a : DA) : DE := fun r P X => a r (fun es => f es P fun _ => False) X
def mCallW (i : Nat) (f : List PyData → C PyData) (a : DA) : DE := fun r P X => match lk r i with
  | some .dck => a r (fun es => f es P fun _ => False) X
  | _ => False
def mChain (f g : PyData → PyData → C PyData) (a b d : DE) : DE := fun r P X => a r (fun x => b r (fun y => f x y (fun z => match z with
  | .bool true => d r (fun w => g y w P X) X
  | .bool false => P (.bool false)
  | _ => False) X) X) X
def mSl (f : PyData → Option Int → Option Int → C PyData) (a : DE) (lo hi : DO) : DE := fun r P X => a r (fun x => lo r (fun i => hi r (fun j => f x i j P X) X) X) X
def mMt (f : PyData → List PyData → C PyData) (a : DE) (b : DA) : DE := fun r P X => a r (fun x => b r (fun es => f x es P X) X) X
def aNil : DA := fun _ P _ => P []
def aCons (a : DE) (b : DA) : DA := fun r P X => a r (fun x => b r (fun es => P (x :: es)) X) X
def oNone : DO := fun _ P _ => P none
def oSome (a : DE) : DO := fun r P X => a r (fun x => match x with
  | .int i => P (some i)
  | _ => False) X
def tT (a : DE) : DT := fun r P X => a r (fun x => match x with
  | .bool b => P b
  | _ => False) X
def tNo (a : DT) : DT := fun r P X => a r (fun b => P !b) X
def tAn (a b : DT) : DT := fun r P X => a r (fun x => match x with
  | true => b r P X
  | false => P false) X
def tOo (a b : DT) : DT := fun r P X => a r (fun x => match x with
  | true => P true
  | false => b r P X) X
def tOk : DT := fun _ P _ => P true
def gNm (i : Nat) : DG := fun e r P _ => P (r.set i (some (.dat e)))
def gs0 : List PyData → ME → C ME := fun es r P _ => match es with
  | [] => P r
  | _ => False
def gs1 (g : DG) (gs : List PyData → ME → C ME) : List PyData → ME → C ME := fun es r P X => match es with
  | e :: es => g e r (fun r' => gs es r' P X) X
  | [] => False
def gTp (n : Nat) (gs : List PyData → ME → C ME) : DG := fun e r P X => match e with
  | .tuple es => es.length = n ∧ gs es r P X
  | _ => False
section
variable {c : Ct} {K : PySem.W.Frag} {te ta tb td : TE} {tas : TA} {m ma mb md : DE} {mas : DA} {tt tu : TT} {mt mu : DT} {tl th : TO} {ml mh : DO}
theorem se_var (i : Nat) : SE c (tVar i) (mVar i) := fun H0 r τ l σ H S P X h hX Q k => by
  unfold mVar at h
  split at h
  · rename_i e he
    obtain ⟨v, h1, S'⟩ := S.dat (lk_some he)
    exact ⟨v, h1, k v e H S' h⟩
  · exact h.elim
theorem se_const {v : V} {e : PyData} (hr : ∀ N H, Rg N H v e) : SE c (tC v) (mC e) := fun H0 r τ l σ H S P X h hX Q k => by
  obtain ⟨N, n3, n5, q⟩ := S.ext
  exact k v e H (MSt.push q n5 ex_refl (hr _ _)) h
theorem se_int (i : Int) : SE c (tC (.int i)) (mC (.int i)) := se_const fun _ _ => .int i
theorem se_str (x : Str) : SE c (tC (.str x)) (mC (.str x)) := se_const fun _ _ => .str x
theorem se_bl (b : Bool) : SE c (tC (.bl b)) (mC (.bool b)) := se_const fun _ _ => .bl b
theorem se_non : SE c (tC .non) (mC .none) := se_const fun _ _ => .non
theorem se_op {rd : R2} {f : PyData → PyData → C PyData} (hr : OpS rd f) (ha : SE c ta ma) (hb : SE c tb mb) : SE c (tOp rd ta tb) (mOp f ma mb) := fun H0 r τ l σ H S P X h hX Q k =>
  ha H0 r τ l σ H S _ X h hX _ fun v1 e1 H1 S1 p1 => hb H0 r _ l σ H1 S1 _ X p1 hX.more _ fun v2 e2 H2 S2 p2 => by
    obtain ⟨N, n3, n5, q⟩ := S2.ext
    refine hr e1 e2 P X p2 N H2 v1 v2 n3 (n5 _ (List.mem_cons_of_mem _ List.mem_cons_self)) (n5 _ List.mem_cons_self) Q fun v e H' x rg p => k v e H' ?_ p
    exact (MSt.push q n5 x rg).mono fun p hp => by
      rcases List.mem_cons.mp hp with rfl | hp
      · exact List.mem_cons_self
      · exact List.mem_cons_of_mem _ (List.mem_cons_of_mem _ (List.mem_cons_of_mem _ hp))
theorem se_un {rd : V → Hp → VK → Prop} {f : PyData → C PyData} (hr : UnS rd f) (ha : SE c ta ma) : SE c (tUn rd ta) (mUn f ma) := fun H0 r τ l σ H S P X h hX Q k =>
  ha H0 r τ l σ H S _ X h hX _ fun v1 e1 H1 S1 p1 => by
    obtain ⟨N, n3, n5, q⟩ := S1.ext
    refine hr e1 P X p1 N H1 v1 n3 (n5 _ List.mem_cons_self) Q fun v e H' x rg p => k v e H' ?_ p
    exact (MSt.push q n5 x rg).mono fun p hp => by
      rcases List.mem_cons.mp hp with rfl | hp
      · exact List.mem_cons_self
      · exact List.mem_cons_of_mem _ (List.mem_cons_of_mem _ hp)
/-- a value that is a truth value -/
theorem MSt.bl {H0 : Hp} {r : ME} {τ : List (V × PyData)} {l : List (Addr × List PyData)} {σ : L2.St} {H : Hp} {v : V} {b : Bool} (S : MSt c H0 r ((v, .bool b) :: τ) l σ H) : v = .bl b := by
  obtain ⟨N, n3, n5, q⟩ := S.ext
  have := n5 _ List.mem_cons_self
  cases this
  rfl
theorem MSt.it {H0 : Hp} {r : ME} {τ : List (V × PyData)} {l : List (Addr × List PyData)} {σ : L2.St} {H : Hp} {v : V} {b : Int} (S : MSt c H0 r ((v, .int b) :: τ) l σ H) : v = .int b := by
  obtain ⟨N, n3, n5, q⟩ := S.ext
  have := n5 _ List.mem_cons_self
  cases this
  rfl
theorem MSt.sc {H0 : Hp} {r : ME} {τ : List (V × PyData)} {l : List (Addr × List PyData)} {σ : L2.St} {H : Hp} {v : V} {e : PyData} (S : MSt c H0 r τ l σ H) (hr : ∀ N, Rg N H v e) : MSt c H0 r ((v, e) :: τ) l σ H := by
  obtain ⟨N, n3, n5, q⟩ := S.ext
  exact MSt.push q n5 ex_refl (hr _)
theorem se_not (ha : SE c ta ma) : SE c (tNotV ta) (mNot ma) := fun H0 r τ l σ H S P X h hX Q k =>
  ha H0 r τ l σ H S _ X h hX _ fun v1 e1 H1 S1 p1 => by
    try dsimp only at p1
    split at p1
    · have := S1.bl
      subst this
      exact ⟨_, rfl, k _ _ H1 (S1.pop.sc fun _ => .bl _) p1⟩
    · exact p1.elim
theorem se_and (ha : SE c ta ma) (hb : SE c tb mb) : SE c (tAndV ta tb) (mAnd ma mb) := fun H0 r τ l σ H S P X h hX Q k =>
  ha H0 r τ l σ H S _ X h hX _ fun v1 e1 H1 S1 p1 => by
    try dsimp only at p1
    split at p1
    · have := S1.bl
      subst this
      exact ⟨true, rfl, (if_pos rfl).mpr (hb H0 r τ l σ H1 S1.pop P X p1 hX Q k)⟩
    · have := S1.bl
      subst this
      exact ⟨false, rfl, (if_neg Bool.false_ne_true).mpr (k _ _ H1 S1 p1)⟩
    · exact p1.elim
theorem se_or (ha : SE c ta ma) (hb : SE c tb mb) : SE c (tOrV ta tb) (mOr ma mb) := fun H0 r τ l σ H S P X h hX Q k =>
  ha H0 r τ l σ H S _ X h hX _ fun v1 e1 H1 S1 p1 => by
    try dsimp only at p1
    split at p1
    · have := S1.bl
      subst this
      exact ⟨true, rfl, (if_pos rfl).mpr (k _ _ H1 S1 p1)⟩
    · have := S1.bl
      subst this
      exact ⟨false, rfl, (if_neg Bool.false_ne_true).mpr (hb H0 r τ l σ H1 S1.pop P X p1 hX Q k)⟩
    · exact p1.elim
theorem se_if (h : ST c tt mt) (ha : SE c ta ma) (hb : SE c tb mb) : SE c (tIf tt ta tb) (mIf mt ma mb) := fun H0 r τ l σ H S P X h' hX Q k =>
  h H0 r τ l σ H S _ X h' hX _ fun b H1 S1 p1 => by
    cases b with
    | true => exact (if_pos rfl).mpr (ha H0 r τ l σ H1 S1 P X p1 hX Q k)
    | false => exact (if_neg Bool.false_ne_true).mpr (hb H0 r τ l σ H1 S1 P X p1 hX Q k)
theorem sa_nil : SA c tNil aNil := fun H0 r τ l σ H S P X h hX Q k => k [] [] H S rfl h
theorem sa_cons (ha : SE c ta ma) (hb : SA c tas mas) : SA c (tCons ta tas) (aCons ma mas) := fun H0 r τ l σ H S P X h hX Q k =>
  ha H0 r τ l σ H S _ X h hX _ fun v e H1 S1 p1 => hb H0 r _ l σ H1 S1 _ X p1 hX.more _ fun vs es H2 S2 le p2 => k (v :: vs) (e :: es) H2 (S2.mono fun p hp => by
    simp only [List.zip_cons_cons, List.cons_append, List.mem_cons, List.mem_append] at hp ⊢
    rcases hp with hp | hp | hp
    · exact .inr (.inl hp)
    · exact .inl hp
    · exact .inr (.inr hp)) (congrArg (· + 1) le) p2
theorem se_cb {rd : List V → Hp → VK → Prop} {f : List PyData → C PyData} (hr : CaS rd f) (ha : SA c tas mas) : SE c (tCB rd tas) (mCB f mas) := fun H0 r τ l σ H S P X h hX Q k =>
  ha H0 r τ l σ H S _ X h hX _ fun vs es H1 S1 le p1 => by
    obtain ⟨N, n3, n5, q⟩ := S1.ext
    refine hr es P X p1 N H1 vs n3 (zip_all le fun p hp => n5 p (List.mem_append_left _ hp)) Q fun v e H' x rg p => k v e H' ?_ p
    exact (MSt.push q n5 x rg).mono fun p hp => by
      rcases List.mem_cons.mp hp with rfl | hp
      · exact List.mem_cons_self
      · exact List.mem_cons_of_mem _ (List.mem_append_right _ hp)
theorem se_tup (ha : SA c tas mas) : SE c (tTup tas) (mTup mas) := fun H0 r τ l σ H S P X h hX Q k =>
  ha H0 r τ l σ H S _ X h hX _ fun vs es H1 S1 le p1 => ⟨size_small (by rw [le]; exact p1.1), fun p hp => by
    obtain ⟨N, n3, n5, q⟩ := S1.ext
    have rg : Rg N (upd H1 p (.tup vs)) (.ref p) (.tuple es) := .tup upd_same (n3.new hp) ((zip_all le fun p hp => n5 p (List.mem_append_left _ hp)).ex (Ex.new hp))
    refine k (.ref p) (.tuple es) _ ((MSt.push q n5 (Ex.new hp) rg).mono fun p hp => ?_) p1.2
    rcases List.mem_cons.mp hp with rfl | hp
    · exact List.mem_cons_self
    · exact List.mem_cons_of_mem _ (List.mem_append_right _ hp)⟩
theorem se_lst (ha : SA c tas mas) : SE c (tLst tas) (mLst mas) := fun H0 r τ l σ H S P X h hX Q k =>
  ha H0 r τ l σ H S _ X h hX _ fun vs es H1 S1 le p1 => ⟨size_small (by rw [le]; exact p1.1), fun p hp => by
    obtain ⟨N, n3, n5, q⟩ := S1.ext
    have rg : Rg N (upd H1 p (.lst vs)) (.ref p) (.list es) := .lst upd_same (n3.new hp) ((zip_all le fun p hp => n5 p (List.mem_append_left _ hp)).ex (Ex.new hp))
    refine k (.ref p) (.list es) _ ((MSt.push q n5 (Ex.new hp) rg).mono fun p hp => ?_) p1.2
    rcases List.mem_cons.mp hp with rfl | hp
    · exact List.mem_cons_self
    · exact List.mem_cons_of_mem _ (List.mem_append_right _ hp)⟩
theorem se_chain {rd rd' : R2} {f g : PyData → PyData → C PyData} (hr : OpS rd f) (hr' : OpS rd' g) (ha : SE c ta ma) (hb : SE c tb mb) (hd : SE c td md) : SE c (tChain rd rd' ta tb td) (mChain f g ma mb md) := fun H0 r τ l σ H S P X h hX Q k =>
  ha H0 r τ l σ H S _ X h hX _ fun v1 e1 H1 S1 p1 => hb H0 r _ l σ H1 S1 _ X p1 hX.more _ fun v2 e2 H2 S2 p2 => by
    obtain ⟨N, n3, n5, q⟩ := S2.ext
    refine hr e1 e2 _ X p2 N H2 v1 v2 n3 (n5 _ (List.mem_cons_of_mem _ List.mem_cons_self)) (n5 _ List.mem_cons_self) _ fun v e H' x rg p => ?_
    have S3 : MSt c H0 r ((v, e) :: (v2, e2) :: (v1, e1) :: τ) l σ H' := MSt.push q n5 x rg
    try dsimp only at p
    split at p
    · have := S3.bl
      subst this
      refine ⟨true, rfl, (if_pos rfl).mpr (hd H0 r _ l σ H' S3.pop _ X p hX.more.more _ fun w e3 H3 S4 p4 => ?_)⟩
      obtain ⟨N4, m3, m5, q4⟩ := S4.ext
      refine hr' e2 e3 P X p4 N4 H3 v2 w m3 (m5 _ (List.mem_cons_of_mem _ List.mem_cons_self)) (m5 _ List.mem_cons_self) Q fun v e H' x rg p => k v e H' ?_ p
      exact (MSt.push q4 m5 x rg).mono fun p hp => by
        rcases List.mem_cons.mp hp with rfl | hp
        · exact List.mem_cons_self
        · exact List.mem_cons_of_mem _ (List.mem_cons_of_mem _ (List.mem_cons_of_mem _ (List.mem_cons_of_mem _ hp)))
    · have := S3.bl
      subst this
      exact ⟨false, rfl, (if_neg Bool.false_ne_true).mpr (k _ _ H' (S3.pop.pop.pop.sc fun _ => .bl _) p)⟩
    · exact p.elim
theorem so_none : SO c tNoPart oNone := fun H0 r τ l σ H S P X h hX Q k => k none H S h
theorem so_some (ha : SE c ta ma) : SO c (tPart ta) (oSome ma) := fun H0 r τ l σ H S P X h hX Q k =>
  ha H0 r τ l σ H S _ X h hX _ fun v e H1 S1 p1 => by
    try dsimp only at p1
    split at p1
    · have := S1.it
      subst this
      exact ⟨_, rfl, k _ H1 S1.pop p1⟩
    · exact p1.elim
theorem se_sl {rd : V → Option Int → Option Int → Hp → VK → Prop} {f : PyData → Option Int → Option Int → C PyData} (hr : SlS rd f) (ha : SE c ta ma) (hl : SO c tl ml) (hh : SO c th mh) : SE c (L2.tSl rd ta tl th) (mSl f ma ml mh) := fun H0 r τ l σ H S P X h hX Q k =>
  ha H0 r τ l σ H S _ X h hX _ fun v1 e1 H1 S1 p1 => hl H0 r _ l σ H1 S1 _ X p1 hX.more _ fun i H2 S2 p2 => hh H0 r _ l σ H2 S2 _ X p2 hX.more _ fun j H3 S3 p3 => by
    obtain ⟨N, n3, n5, q⟩ := S3.ext
    refine hr e1 i j P X p3 N H3 v1 n3 (n5 _ List.mem_cons_self) Q fun v e H' x rg p => k v e H' ?_ p
    exact (MSt.push q n5 x rg).mono fun p hp => by
      rcases List.mem_cons.mp hp with rfl | hp
      · exact List.mem_cons_self
      · exact List.mem_cons_of_mem _ (List.mem_cons_of_mem _ hp)
theorem st_val (ha : SE c ta ma) : ST c (tTest ta) (tT ma) := fun H0 r τ l σ H S P X h hX Q k =>
  ha H0 r τ l σ H S _ X h hX _ fun v e H1 S1 p1 => by
    try dsimp only at p1
    split at p1
    · have := S1.bl
      subst this
      exact ⟨_, rfl, k _ H1 S1.pop p1⟩
    · exact p1.elim
theorem st_b (ha : SE c ta ma) : ST c (tB ta) (tT ma) := st_val ha
theorem st_no (h : ST c tt mt) : ST c (tNot tt) (tNo mt) := fun H0 r τ l σ H S P X h' hX Q k => h H0 r τ l σ H S _ X h' hX _ fun b H1 S1 p1 => k _ H1 S1 p1
theorem st_an (h : ST c tt mt) (h2 : ST c tu mu) : ST c (tAnd tt tu) (tAn mt mu) := fun H0 r τ l σ H S P X h' hX Q k => h H0 r τ l σ H S _ X h' hX _ fun b H1 S1 p1 => by
  cases b with
  | true => exact (if_pos rfl).mpr (h2 H0 r τ l σ H1 S1 P X p1 hX Q k)
  | false => exact (if_neg Bool.false_ne_true).mpr (k _ H1 S1 p1)
theorem st_oo (h : ST c tt mt) (h2 : ST c tu mu) : ST c (tOr tt tu) (tOo mt mu) := fun H0 r τ l σ H S P X h' hX Q k => h H0 r τ l σ H S _ X h' hX _ fun b H1 S1 p1 => by
  cases b with
  | true => exact (if_pos rfl).mpr (k _ H1 S1 p1)
  | false => exact (if_neg Bool.false_ne_true).mpr (h2 H0 r τ l σ H1 S1 P X p1 hX Q k)
theorem st_ok : ST c tYes tOk := fun H0 r τ l σ H S P X h hX Q k => k true H S h
/-! ### calls of defs -/
/-- a def upon data that changes nothing, by its mirror -/
def SpM (f : List PyData → C PyData) : Sp := fun vs H Q _ => ∃ N es P, NOk N H ∧ RgAll N H vs es ∧ f es P (fun _ => False) ∧ ∀ v e H', Ex H H' → Rg N H' v e → P e → Q v H'
theorem se_call {f : List PyData → C PyData} (ha : SA c tas mas) : SE c (tCall (SpM f) [] E0 tas) (mCall f mas) := fun H0 r τ l σ H S P X h hX Q k =>
  ha H0 r τ l σ H S _ X h hX _ fun vs es H1 S1 le p1 => by
    obtain ⟨N, n3, n5, q⟩ := S1.ext
    refine ⟨N, es, P, n3, by rw [List.append_nil]; exact zip_all le fun p hp => n5 p (List.mem_append_left _ hp), p1, fun v e H' x rg p => k v e H' ?_ p⟩
    exact (MSt.push q n5 x rg).mono fun p hp => by
      rcases List.mem_cons.mp hp with rfl | hp
      · exact List.mem_cons_self
      · exact List.mem_cons_of_mem _ (List.mem_append_right _ hp)
/-- where the deck is -/
def Dk (c : Ct) : Prop := ∃ (d g l : Addr) (N : Addr → Prop) (B : Hp), c.W = WD d g l N B ∧ c.dk = .ref d
/-- a def that draws, by its mirror -/
def SpMW (f : List PyData → C PyData) : Sp := fun vs H Q _ => ∃ (d g l : Addr) (N : Addr → Prop) (es : List PyData) (vs' : List V) (P : PyData → Prop), vs = .ref d :: vs' ∧ NOk N H ∧ N d ∧ N g ∧ N l ∧ Deck H d g l ∧ RgAll N H vs' es ∧ f es P (fun _ => False) ∧
  ∀ v e H', Deck H' d g l → Oth d g l H H' → Rg N H' v e → P e → Q v H'
theorem se_callW {f : List PyData → C PyData} {i : Nat} (hc : Dk c) (ha : SA c tas mas) : SE c (tCall (SpMW f) [] E0 (tCons (tVar i) tas)) (mCallW i f mas) := fun H0 r τ l σ H S P X h hX Q k => by
  unfold mCallW at h
  split at h
  · rename_i he
    obtain ⟨d, g, lx, N0, B, hW, hd⟩ := hc
    have hr := S.raw (lk_some he)
    rw [hd] at hr
    refine ⟨.ref d, hr, ha H0 r τ l σ H S _ X h hX _ fun vs es H1 S1 le p1 => ?_⟩
    have T := S1.st
    rw [hW] at T
    obtain ⟨M, m1, m2, m3, m4, m5, m6, q⟩ := T.oth
    refine ⟨d, g, lx, M, es, vs, P, by rw [List.append_nil], m1, m2, m3, m4, m5, zip_all le fun p hp => m6 p (List.mem_append_left _ hp), p1, fun v e H' D x rg p => k v e H' ⟨S1.fit, ?_⟩ p⟩
    rw [hW]
    refine q H' _ D x fun p hp => ?_
    rcases List.mem_cons.mp hp with rfl | hp
    · exact rg
    · exact Rg.to (fun a o h n => ⟨x a o h (fun z => n (z ▸ m2)) (fun z => n (z ▸ m3)) fun z => n (z ▸ m4), n⟩) _ _ (m6 p (List.mem_append_right _ hp))
  · exact h.elim
end
end MI
set_option Elab.async false
set_option linter.all false
set_option maxRecDepth 100000
/-! A mirror of the text in plain data: stores, walks, comprehensions. -/
namespace MI
open PySem PySem.Spec PyProof.Rows L2 Evl TB DL
def wipeM (r : ME) : List Nat → ME
  | [] => r
  | v :: vs => (wipeM r vs).set v none
theorem set_get {α : Type} (l : List (Option α)) (v i : Nat) : (l.set v none)[i]? = if v = i then (l[i]?).map (fun _ => none) else l[i]? := by
  by_cases h : v = i
  · subst h
    rw [if_pos rfl]
    by_cases hl : v < l.length
    · rw [List.getElem?_set_self hl, List.getElem?_eq_getElem hl]; rfl
    · rw [List.getElem?_eq_none (by rw [List.length_set]; omega), List.getElem?_eq_none (by omega)]; rfl
  · rw [if_neg h, List.getElem?_set_ne h]
theorem wipeM_get (r : ME) (i : Nat) : ∀ vs, (wipeM r vs)[i]? = if i ∈ vs then (r[i]?).map (fun _ => none) else r[i]?
  | [] => by simp [wipeM]
  | v :: vs => by
    show ((wipeM r vs).set v none)[i]? = _
    rw [set_get, wipeM_get r i vs]
    by_cases h : v = i
    · subst h
      by_cases h2 : v ∈ vs <;> cases r[v]? <;> simp [h2]
    · have h' : ¬ i = v := fun z => h z.symm
      by_cases h2 : i ∈ vs <;> simp [h, h', h2]
theorem wipe_get (σ : L2.St) (i : Nat) : ∀ vs, (L2.wipe σ vs)[i]? = if i ∈ vs then (σ[i]?).map (fun _ => none) else σ[i]?
  | [] => by simp [L2.wipe]
  | v :: vs => by
    show ((L2.wipe σ vs).set v none)[i]? = _
    rw [set_get, wipe_get σ i vs]
    by_cases h : v = i
    · subst h
      by_cases h2 : v ∈ vs <;> cases σ[v]? <;> simp [h2]
    · have h' : ¬ i = v := fun z => h z.symm
      by_cases h2 : i ∈ vs <;> simp [h, h', h2]
theorem wipeM_idem (r : ME) (vs : List Nat) : wipeM (wipeM r vs) vs = wipeM r vs := by
  apply List.ext_getElem?
  intro i
  rw [wipeM_get, wipeM_get]
  by_cases h : i ∈ vs
  · rw [if_pos h, if_pos h]; cases r[i]? <;> rfl
  · rw [if_neg h]
theorem wipe_idem (σ : L2.St) (vs : List Nat) : L2.wipe (L2.wipe σ vs) vs = L2.wipe σ vs := by
  apply List.ext_getElem?
  intro i
  rw [wipe_get, wipe_get]
  by_cases h : i ∈ vs
  · rw [if_pos h, if_pos h]; cases σ[i]? <;> rfl
  · rw [if_neg h]
theorem wipeM_set {r : ME} {vs : List Nat} {i : Nat} {x : Option ML} (h : i ∈ vs) : wipeM (r.set i x) vs = wipeM r vs := by
  apply List.ext_getElem?
  intro j
  rw [wipeM_get, wipeM_get]
  by_cases hj : i = j
  · subst hj
    rw [if_pos h, if_pos h]
    by_cases hl : i < r.length
    · rw [List.getElem?_set_self hl, List.getElem?_eq_getElem hl]; rfl
    · rw [List.getElem?_eq_none (by rw [List.length_set]; omega), List.getElem?_eq_none (by omega)]
  · rw [List.getElem?_set_ne hj]
theorem wipe_set {σ : L2.St} {vs : List Nat} {i : Nat} {x : Option V} (h : i ∈ vs) : L2.wipe (σ.set i x) vs = L2.wipe σ vs := by
  apply List.ext_getElem?
  intro j
  rw [wipe_get, wipe_get]
  by_cases hj : i = j
  · subst hj
    rw [if_pos h, if_pos h]
    by_cases hl : i < σ.length
    · rw [List.getElem?_set_self hl, List.getElem?_eq_getElem hl]; rfl
    · rw [List.getElem?_eq_none (by rw [List.length_set]; omega), List.getElem?_eq_none (by omega)]
  · rw [List.getElem?_set_ne hj]
theorem lk_none_set : ∀ {r : ME} {i : Nat}, lk r i = none → r.set i none = r
  | [], _, _ => rfl
  | o :: r, 0, h => by
    have h' : o = none := h
    rw [h']; rfl
  | o :: r, i + 1, h => by
    show o :: r.set i none = o :: r
    rw [lk_none_set (r := r) h]
theorem lk_get {r : ME} {i : Nat} : lk r i = (r[i]?).getD none := by
  induction r generalizing i with
  | nil => rfl
  | cons o r ih => cases i with
    | zero => rfl
    | succ i => rw [List.getElem?_cons_succ]; exact ih
theorem lk_wipe {r : ME} {vs : List Nat} {i : Nat} : lk (wipeM r vs) i = if i ∈ vs then none else lk r i := by
  rw [lk_get, wipeM_get, lk_get]
  by_cases h : i ∈ vs
  · rw [if_pos h, if_pos h]; cases r[i]? <;> rfl
  · rw [if_neg h, if_neg h]
/-- a slot that a block may take for its own -/
def Free (r : ME) (i : Nat) : Prop := match lk r i with
  | none => True
  | some (.dat _) => True
  | _ => False
section
variable {c : Ct} {H0 H H' : Hp} {r : ME} {τ τ' : List (V × PyData)} {l l' : List (Addr × List PyData)} {σ : L2.St} {X : Xc → Prop}
theorem MSt.wipe (S : MSt c H0 r τ l σ H) : ∀ vs, MSt c H0 (wipeM r vs) τ l (L2.wipe σ vs) H
  | [] => S
  | v :: vs => (S.wipe vs).clr
theorem sig_self {σ : L2.St} {i : Nat} : ∃ o, (σ.set i none).set i o = σ := by
  by_cases hl : i < σ.length
  · exact ⟨σ[i], by rw [List.set_set]; exact set_self (List.getElem?_eq_getElem hl)⟩
  · refine ⟨none, ?_⟩
    rw [List.set_set]
    exact List.set_eq_of_length_le (by omega)
theorem MSt.blk1 {i : Nat} (S : MSt c H0 r τ l σ H) (hf : Free r i) : ∃ τs : List (V × PyData), MSt c H0 (r.set i none) (τs ++ τ) l (σ.set i none) H ∧
    ∀ H0' r' τ' l' σ' H', MSt c H0' r' (τs ++ τ') l' σ' H' → r'.set i none = r.set i none → σ'.set i none = σ.set i none → MSt c H0' r τ' l' σ H' := by
  unfold Free at hf
  split at hf
  · rename_i h0
    refine ⟨[], S.clr, fun H0' r' τ' l' σ' H' S' e1 e2 => ?_⟩
    obtain ⟨o, ho⟩ := sig_self (σ := σ) (i := i)
    have a := (S'.clr (i := i) (o := none))
    rw [e1, e2] at a
    have b := a.clr (i := i) (o := o)
    rw [ho, List.set_set, lk_none_set h0] at b
    exact b
  · rename_i e h0
    obtain ⟨v, hv, S1⟩ := S.dat (lk_some h0)
    refine ⟨[(v, e)], S1.clr, fun H0' r' τ' l' σ' H' S' e1 e2 => ?_⟩
    have a := (S'.clr (i := i) (o := none))
    rw [e1, e2] at a
    have b := MSt.setD (i := i) (v := v) (e := e) (τ := τ') a
    rw [List.set_set, List.set_set, set_self (lk_some h0), set_self hv] at b
    exact b
  · exact hf.elim
theorem MSt.blk (S : MSt c H0 r τ l σ H) : ∀ vs : List Nat, (∀ i ∈ vs, Free r i) → ∃ τs : List (V × PyData), MSt c H0 (wipeM r vs) (τs ++ τ) l (L2.wipe σ vs) H ∧
    ∀ H0' r' τ' l' σ' H', MSt c H0' r' (τs ++ τ') l' σ' H' → wipeM r' vs = wipeM r vs → L2.wipe σ' vs = L2.wipe σ vs → MSt c H0' r τ' l' σ H'
  | [], _ => ⟨[], S, fun H0' r' τ' l' σ' H' S' e1 e2 => by
    have e1 : r' = r := e1
    have e2 : σ' = σ := e2
    subst e1 e2
    exact S'⟩
  | v :: vs, hf => by
    obtain ⟨t1, S1, k1⟩ := MSt.blk S vs fun i hi => hf i (List.mem_cons_of_mem _ hi)
    have fv : Free (wipeM r vs) v := by
      have := hf v List.mem_cons_self
      unfold Free at this ⊢
      rw [lk_wipe]
      by_cases h : v ∈ vs
      · rw [if_pos h]; trivial
      · rw [if_neg h]; exact this
    obtain ⟨t2, S2, k2⟩ := S1.blk1 fv
    refine ⟨t2 ++ t1, by rw [List.append_assoc]; exact S2, fun H0' r' τ' l' σ' H' S' e1 e2 => ?_⟩
    rw [List.append_assoc] at S'
    have a := k2 H0' (wipeM r' vs) (t1 ++ τ') l' (L2.wipe σ' vs) H' (S'.wipe vs) e1 e2
    exact k1 H0' _ τ' l' _ H' a (wipeM_idem r vs) (wipe_idem σ vs)
end
/-! ### stores -/
def SGv (c : Ct) (vs : List Nat) (g : TG) (m : DG) : Prop := ∀ H0 r τ l σ H v e, MSt c H0 r ((v, e) :: τ) l σ H → ∀ (P : ME → Prop), m e r P (fun _ => False) → ∀ Q : L2.St → Hp → Prop,
  (∀ r' σ' H', MSt c H0 r' τ l σ' H' → L2.wipe σ' vs = L2.wipe σ vs → wipeM r' vs = wipeM r vs → P r' → Q σ' H') → g v σ H Q
def SGsv (c : Ct) (vs : List Nat) (g : TGs) (m : List PyData → ME → C ME) : Prop := ∀ H0 r τ l σ H us es, MSt c H0 r (us.zip es ++ τ) l σ H → us.length = es.length → ∀ (P : ME → Prop), m es r P (fun _ => False) → ∀ Q : L2.St → Hp → Prop,
  (∀ r' σ' H', MSt c H0 r' τ l σ' H' → L2.wipe σ' vs = L2.wipe σ vs → wipeM r' vs = wipeM r vs → P r' → Q σ' H') → g us σ H Q
section
variable {c : Ct} {K : PySem.W.Frag} {vs : List Nat}
theorem sg_name {i : Nat} (hi : i ∈ vs) : SGv c vs (gName i) (gNm i) := fun H0 r τ l σ H v e S P h Q k => k _ _ H S.setD (wipe_set hi) (wipeM_set hi) h
theorem sgs_nil : SGsv c vs gNil gs0 := fun H0 r τ l σ H us es S hl P h Q k => by
  cases es with
  | nil =>
    cases us with
    | nil => exact ⟨rfl, k r σ H S rfl rfl h⟩
    | cons => simp at hl
  | cons => exact h.elim
theorem sgs_cons {g : TG} {m : DG} {gs : TGs} {ms : List PyData → ME → C ME} (h1 : SGv c vs g m) (h2 : SGsv c vs gs ms) : SGsv c vs (gCons g gs) (gs1 m ms) := fun H0 r τ l σ H us es S hl P h Q k => by
  cases es with
  | nil => exact h.elim
  | cons e es =>
    cases us with
    | nil => simp at hl
    | cons u us =>
      refine ⟨u, us, rfl, h1 H0 r (us.zip es ++ τ) l σ H u e S _ h _ fun r' σ' H' S' w1 w2 p => ?_⟩
      exact h2 H0 r' τ l σ' H' us es S' (by simpa using hl) P p Q fun r2 σ2 H2 S2 w3 w4 p2 => k r2 σ2 H2 S2 (w3.trans w1) (w4.trans w2) p2
theorem sg_tup {n : Nat} {gs : TGs} {ms : List PyData → ME → C ME} (h : SGsv c vs gs ms) : SGv c vs (gTup K n gs) (gTp n ms) := fun H0 r τ l σ H v e S P hp Q k => by
  unfold gTp at hp
  split at hp
  · rename_i es
    obtain ⟨N, n3, n5, q⟩ := S.ext
    have hv := n5 _ List.mem_cons_self
    cases hv with
    | @tup a xs _ hA hn hr =>
      refine ⟨a, xs, rfl, .inl (.inl hA), by rw [hr.len]; exact hp.1, ?_⟩
      refine h H0 r τ l σ H xs es (q H _ ex_refl fun p hp => ?_) hr.len P hp.2 Q k
      rcases List.mem_append.mp hp with hp | hp
      · exact rg_zip hr p hp
      · exact n5 p (List.mem_cons_of_mem _ hp)
  · exact hp.elim
end
/-! ### walks -/
structure Hold (c : Ct) (H0 H0' : Hp) (τc : List (V × PyData)) (J : It) (items : List PyData) : Prop where
  up : ∀ b o, H0 b = some o → ¬ c.W.N b → H0' b = some o
  dw : ∀ b, H0' b = none → H0 b = none
  wk : ∃ G Y, Walk J items.length G Y ∧ (∀ ρ τ l σ H, DL.St c.W H0' ρ (τc ++ τ) l σ H → G H) ∧
    (∀ (i : Nat) ρ τ l σ H x H' d, DL.St c.W H0' ρ (τc ++ τ) l σ H → Y i H x H' → items[i]? = some d → DL.St c.W H0' ρ ((x, d) :: (τc ++ τ)) l σ H')
def SI (c : Ct) (wi : TI) (m : DI) : Prop := ∀ H0 r τ l σ H, MSt c H0 r τ l σ H → ∀ (P : List PyData → Prop) (X : Xc → Prop), m r P X → XOut c H0 r τ l σ X → ∀ R : It → Hp → Prop,
  (∀ J items τc H0' H1, Hold c H0 H0' τc J items → MSt c H0' r (τc ++ τ) l σ H1 → P items → R J H1) → wi σ H R
theorem MSt.unbase {c : Ct} {H0 H0' H : Hp} {r : ME} {τ : List (V × PyData)} {l : List (Addr × List PyData)} {σ : L2.St} (h1 : ∀ b o, H0 b = some o → ¬ c.W.N b → H0' b = some o) (h2 : ∀ b, H0' b = none → H0 b = none) (S : MSt c H0' r τ l σ H) : MSt c H0 r τ l σ H :=
  ⟨S.fit, S.st.unbase h1 h2⟩
theorem XOut.rebase {c : Ct} {H0 H0' : Hp} {r : ME} {τ τ' : List (V × PyData)} {l : List (Addr × List PyData)} {σ : L2.St} {X : Xc → Prop} (h : XOut c H0 r τ l σ X) (h1 : ∀ b o, H0 b = some o → ¬ c.W.N b → H0' b = some o) (h2 : ∀ b, H0' b = none → H0 b = none) (hs : ∀ p ∈ τ, p ∈ τ') :
    XOut c H0' r τ' l σ X := fun x u d vs H' a S q => h.sub hs x u d vs H' a (S.unbase h1 h2) q
/-! ### comprehensions -/
/-- the items of one clause -/
def mIt (g : DG) (t : DT) (vs : List Nat) (sub : ME → List PyData → C (List PyData)) (r : ME) : List PyData → List PyData → C (List PyData)
  | [], acc => fun P _ => P acc
  | x :: xs, acc => fun P X => g x (wipeM r vs) (fun r2 => t r2 (fun b => match b with
    | true => sub r2 acc (fun acc' => mIt g t vs sub r xs acc' P X) fun _ => False
    | false => mIt g t vs sub r xs acc P X) fun _ => False) fun _ => False
/-- the element behind the last clause -/
def mEl (e : DE) : ME → List PyData → C (List PyData) := fun r acc P X => e r (fun y => acc.length < 100000 ∧ P (acc ++ [y])) X
/-- a further clause -/
def mCl (i : DI) (g : DG) (t : DT) (vs : List Nat) (sub : ME → List PyData → C (List PyData)) : ME → List PyData → C (List PyData) := fun r acc P X =>
  i r (fun items => (∀ j ∈ vs, Free r j) ∧ mIt g t vs sub r items acc P X) X
abbrev TB' := L2.St → Hp → (Hp → Prop) → Prop
/-- the element, laid behind the list at D -/
def bEl (te : TE) (D : Addr) : TB' := fun σ H Nx => te σ H fun y H7 => ∃ acc, H7 D = some (.lst acc) ∧ acc.length < sizeLine ∧ Nx (upd H7 D (.lst (acc ++ [y])))
/-- the turns of one clause -/
def lvl (J : It) (g : TG) (tt : TT) (vs : List Nat) (B : TB') (σ : L2.St) (H1 : Hp) (Nx : Hp → Prop) : Prop :=
  ∃ W : Nat → Nat → Hp → Prop, (∃ m, W 0 m H1) ∧ ∀ i m H, W i m H →
    (J.stop i H ∧ Nx H) ∨ (J.go i H ∧ ∃ Nx1 : Hp → Prop, (∀ H', Nx1 H' → ∃ m', m' < m ∧ W (i + 1) m' H') ∧ ∀ x H', J.yld i H x H' → g x (L2.wipe σ vs) H' fun σ2 H2 => L2.wipe σ2 vs = L2.wipe σ vs ∧ tt σ2 H2 fun b H3 =>
      if b = true then B σ2 H3 Nx1 else Nx1 H3)
def bCl (wi : TI) (g : TG) (tt : TT) (vs : List Nat) (B : TB') : TB' := fun σ H Nx => wi σ H fun J H1 => lvl J g tt vs B σ H1 Nx
theorem tLc_eq {wi : TI} {g : TG} {tt : TT} {te : TE} {vs : List Nat} : tLc wi g tt te vs = fun σ H Q => wi σ H fun J H1 => ∀ D, H1 D = none → lvl J g tt vs (bEl te D) σ (upd H1 D (.lst [])) fun H => Q (.ref D) H := rfl
theorem tLc2_eq {wi wi1 : TI} {g g1 : TG} {tt tt1 : TT} {te : TE} {vs vs1 : List Nat} : tLc2 wi g tt wi1 g1 tt1 te vs vs1 = fun σ H Q => wi σ H fun J H1 => ∀ D, H1 D = none → lvl J g tt vs (bCl wi1 g1 tt1 vs1 (bEl te D)) σ (upd H1 D (.lst [])) fun H => Q (.ref D) H := rfl
/-- a block's reading and its mirror -/
def SB (c : Ct) (D : Addr) (B : TB') (m : ME → List PyData → C (List PyData)) : Prop := ∀ H0 r τ l σ H acc, MSt c H0 r τ ((D, acc) :: l) σ H → ∀ (P : List PyData → Prop), m r acc P (fun _ => False) → ∀ Nx : Hp → Prop,
  (∀ H' acc', MSt c H0 r τ ((D, acc') :: l) σ H' → P acc' → Nx H') → B σ H Nx
section
variable {c : Ct} {te : TE} {me : DE} {D : Addr} {g : TG} {mg : DG} {tt : TT} {mt : DT} {vs : List Nat} {B : TB'} {sub : ME → List PyData → C (List PyData)} {wi : TI} {mi : DI}
theorem owns_front {r : ME} {σ : L2.St} {D : Addr} {acc : List PyData} {l : List (Addr × List PyData)} : (owns r σ ++ (D, acc) :: l).Perm ((D, acc) :: (owns r σ ++ l)) := List.perm_middle
theorem sb_el (he : SE c te me) : SB c D (bEl te D) (mEl me) := fun H0 r τ l σ H acc S P h Nx k =>
  he H0 r τ _ σ H S _ _ h XOut.no _ fun y d H1 S1 p => by
    have T := st_perm S1.st owns_front
    obtain ⟨xs, hx, hl, T2⟩ := T.app
    refine ⟨xs, hx, size_small' (by rw [hl]; omega), k _ (acc ++ [d]) ⟨S1.fit, st_perm T2 owns_front.symm⟩ p.2⟩
theorem lvl_of {J : It} {items : List PyData} {H0 H0' : Hp} {r : ME} {τ τc : List (V × PyData)} {l : List (Addr × List PyData)} {σ : L2.St} {H : Hp} {acc : List PyData} {P : List PyData → Prop} {Nx : Hp → Prop}
    (hg : SGv c vs g mg) (ht : ST c tt mt) (hb : SB c D B sub) (hd : Hold c H0 H0' τc J items) (S : MSt c H0' r (τc ++ τ) ((D, acc) :: l) σ H) (hf : ∀ j ∈ vs, Free r j)
    (h : mIt mg mt vs sub r items acc P (fun _ => False)) (k : ∀ H' acc', MSt c H0' r (τc ++ τ) ((D, acc') :: l) σ H' → P acc' → Nx H') : lvl J g tt vs B σ H Nx := by
  obtain ⟨G, Y, wk, hG, hY⟩ := hd.wk
  refine ⟨fun i m H => m = items.length - i ∧ i ≤ items.length ∧ ∃ acc, MSt c H0' r (τc ++ τ) ((D, acc) :: l) σ H ∧ mIt mg mt vs sub r (items.drop i) acc P (fun _ => False), ⟨_, rfl, Nat.zero_le _, acc, S, h⟩, ?_⟩
  rintro i m H ⟨rfl, hi, acc, S, h⟩
  have q := hG _ _ _ _ _ S.st
  by_cases hlt : i < items.length
  · refine .inr ⟨wk.goes i H hlt q, fun H' => i < items.length ∧ ∃ acc, MSt c H0' r (τc ++ τ) ((D, acc) :: l) σ H' ∧ mIt mg mt vs sub r (items.drop (i + 1)) acc P (fun _ => False), fun H' p => ⟨_, by omega, rfl, p.1, p.2⟩, fun x H' y => ?_⟩
    have hd' : items[i]? = some items[i] := List.getElem?_eq_getElem hlt
    have T := hY i _ _ _ _ _ x H' _ S.st (wk.yields i H x H' hlt q y) hd'
    have S2 : MSt c H0' r ((x, items[i]) :: (τc ++ τ)) ((D, acc) :: l) σ H' := ⟨S.fit, T⟩
    rw [List.drop_eq_getElem_cons hlt] at h
    obtain ⟨τs, S3, re⟩ := S2.blk vs hf
    have S4 : MSt c H0' (wipeM r vs) ((x, items[i]) :: (τs ++ (τc ++ τ))) ((D, acc) :: l) (L2.wipe σ vs) H' := S3.mono fun p hp => by
      simp only [List.mem_cons, List.mem_append] at hp ⊢
      rcases hp with hp | hp | hp | hp
      · exact .inr (.inl hp)
      · exact .inl hp
      · exact .inr (.inr (.inl hp))
      · exact .inr (.inr (.inr hp))
    have fin : ∀ {r2 σ2 H2 acc2}, MSt c H0' r2 (τs ++ (τc ++ τ)) ((D, acc2) :: l) σ2 H2 → L2.wipe σ2 vs = L2.wipe σ vs → wipeM r2 vs = wipeM r vs → MSt c H0' r (τc ++ τ) ((D, acc2) :: l) σ H2 := fun {r2 σ2 H2 acc2} S e1 e2 => re _ r2 _ _ σ2 H2 S e2 e1
    refine hg H0' _ _ _ _ H' x _ S4 _ h _ fun r2 σ2 H2 S5 w1 w2 p => ?_
    rw [wipe_idem] at w1
    rw [wipeM_idem] at w2
    refine ⟨w1, ht H0' r2 _ _ σ2 H2 S5 _ _ p XOut.no _ fun b H3 S6 pb => ?_⟩
    cases b with
    | true => exact (if_pos rfl).mpr (hb H0' r2 _ l σ2 H3 acc S6 _ pb _ fun H4 acc' S7 p' => ⟨hlt, acc', fin S7 w1 w2, p'⟩)
    | false => exact (if_neg Bool.false_ne_true).mpr ⟨hlt, acc, fin S6 w1 w2, pb⟩
  · have e : i = items.length := by omega
    subst e
    rw [List.drop_length] at h
    exact .inl ⟨wk.stops H q, k H acc S h⟩
theorem sb_cl (hi : SI c wi mi) (hg : SGv c vs g mg) (ht : ST c tt mt) (hb : SB c D B sub) : SB c D (bCl wi g tt vs B) (mCl mi mg mt vs sub) := fun H0 r τ l σ H acc S P h Nx k =>
  hi H0 r τ _ σ H S _ _ h XOut.no _ fun J items τc H0' H1 hd S1 p => by
    obtain ⟨hf, p⟩ := p
    exact lvl_of hg ht hb hd S1 hf p fun H' acc' S' q => k H' acc' ((S'.unbase hd.up hd.dw).mono fun p hp => List.mem_append_right _ hp) q
/-- a reading that makes a new list -/
abbrev DEO := ME → C (List PyData)
def SEO (c : Ct) (te : TE) (m : DEO) : Prop := ∀ H0 r τ l σ H, MSt c H0 r τ l σ H → ∀ (P : List PyData → Prop) (X : Xc → Prop), m r P X → XOut c H0 r τ l σ X → ∀ Q : VK, (∀ p ds H', MSt c H0 r τ ((p, ds) :: l) σ H' → P ds → Q (.ref p) H') → te σ H Q
def mFr (m : DEO) : DE := fun r P X => m r (fun ds => P (.list ds)) X
theorem se_fr {m : DEO} (h : SEO c te m) : SE c te (mFr m) := fun H0 r τ l σ H S P X hp hX Q k => h H0 r τ l σ H S _ X hp hX Q fun p ds H' S' q => by
  have T := (st_perm S'.st owns_front).frz
  exact k _ _ H' ⟨S'.fit, T⟩ q
/-- the comprehension, by its clauses -/
def mLc (i : DI) (g : DG) (t : DT) (vs : List Nat) (sub : ME → List PyData → C (List PyData)) : DEO := fun r P X => i r (fun items => (∀ j ∈ vs, Free r j) ∧ mIt g t vs sub r items [] P fun _ => False) X
theorem seo_top {B : Addr → TB'} (hi : SI c wi mi) (hg : SGv c vs g mg) (ht : ST c tt mt) (hb : ∀ D, SB c D (B D) sub) : SEO c (fun σ H Q => wi σ H fun J H1 => ∀ D, H1 D = none → lvl J g tt vs (B D) σ (upd H1 D (.lst [])) fun H => Q (.ref D) H) (mLc mi mg mt vs sub) :=
  fun H0 r τ l σ H S P X h hX Q k => hi H0 r τ l σ H S _ X h hX _ fun J items τc H0' H1 hd S1 p D hD => by
    obtain ⟨hf, p⟩ := p
    have T : MSt c H0' r (τc ++ τ) ((D, []) :: l) σ (upd H1 D (.lst [])) := ⟨S1.fit, st_perm (S1.st.newL hD) owns_front.symm⟩
    exact lvl_of hg ht (hb D) hd T hf p fun H' acc' S' q => k D acc' H' ((S'.unbase hd.up hd.dw).mono fun p hp => List.mem_append_right _ hp) q
theorem seo_lc (hi : SI c wi mi) (hg : SGv c vs g mg) (ht : ST c tt mt) (he : SE c te me) : SEO c (tLc wi g tt te vs) (mLc mi mg mt vs (mEl me)) := seo_top (B := fun D => bEl te D) hi hg ht fun D => sb_el he
theorem seo_lc2 {wi1 : TI} {mi1 : DI} {g1 : TG} {mg1 : DG} {tt1 : TT} {mt1 : DT} {vs1 : List Nat} (hi : SI c wi mi) (hg : SGv c vs g mg) (ht : ST c tt mt) (hi1 : SI c wi1 mi1) (hg1 : SGv c vs1 g1 mg1) (ht1 : ST c tt1 mt1) (he : SE c te me) :
    SEO c (tLc2 wi g tt wi1 g1 tt1 te vs vs1) (mLc mi mg mt vs (mCl mi1 mg1 mt1 vs1 (mEl me))) := seo_top (B := fun D => bCl wi1 g1 tt1 vs1 (bEl te D)) hi hg ht fun D => sb_cl hi1 hg1 ht1 (sb_el he)
end
end MI
set_option Elab.async false
set_option linter.all false
set_option maxRecDepth 100000
/-! A mirror of the text in plain data: statements, sources of loops, defs. -/
namespace MI
open PySem PySem.Spec PyProof.Rows L2 Evl TB DL
/-- what is wished behind a statement -/
structure DN where
  nx : ME → Prop
  bk : ME → Prop := fun _ => False
  ct : ME → Prop := fun _ => False
  rt : PyData → Prop
  ex : Xc → Prop
abbrev DS := DN → ME → Prop
def sNx : DS := fun D r => D.nx r
def sSeq (a b : DS) : DS := fun D r => a { D with nx := b D } r
def sBk : DS := fun D r => D.bk r
def sCt : DS := fun D r => D.ct r
def sAsg (e : DE) (g : DG) : DS := fun D r => e r (fun x => g x r D.nx fun _ => False) D.ex
def sDrop (e : DE) : DS := fun D r => e r (fun _ => D.nx r) D.ex
def sRet (e : DE) : DS := fun D r => e r D.rt D.ex
def sRetN : DS := fun D _ => D.rt .none
def sIf (t : DT) (a b : DS) : DS := fun D r => t r (fun x => match x with
  | true => a D r
  | false => b D r) D.ex
def sPar (i j : Nat) (a : DA) : DS := fun D r => a r (fun es => match es with
  | [x, y] => D.nx ((r.set i (some (.dat x))).set j (some (.dat y)))
  | _ => False) D.ex
def forC (g : DG) (b : DS) (D : DN) : List PyData → ME → Prop
  | [], r => D.nx r
  | x :: xs, r => g x r (fun r' => b { D with nx := forC g b D xs, ct := forC g b D xs, bk := D.nx } r') fun _ => False
def sFor (i : DI) (g : DG) (b : DS) : DS := fun D r => i r (fun items => forC g b D items r) D.ex
def whC (t : DT) (b : DS) (D : DN) : Nat → ME → Prop
  | 0, _ => False
  | n + 1, r => t r (fun x => match x with
    | true => b { D with nx := whC t b D n, ct := whC t b D n, bk := D.nx } r
    | false => D.nx r) D.ex
def sWhile (t : DT) (b : DS) : DS := fun D r => ∃ n, whC t b D n r
/-- an own list is data from now on -/
def frzM (r : ME) (i : Nat) : ME := match lk r i with
  | some (.own ds) => r.set i (some (.dat (.list ds)))
  | _ => r
def sFz (i : Nat) (s : DS) : DS := fun D r => s D (frzM r i)
/-- a new list goes to a name and stays one's own -/
def sNew (i : Nat) (m : DEO) : DS := fun D r => m r (fun ds => i < r.length ∧ D.nx (r.set i (some (.own ds)))) D.ex
def oApp (i : Nat) (e : DE) : DS := fun D r => match lk r i with
  | some (.own ds) => e r (fun x => ds.length < 100000 ∧ D.nx (r.set i (some (.own (ds ++ [x]))))) D.ex
  | _ => False
def oExt (i : Nat) (e : DE) : DS := fun D r => match lk r i with
  | some (.own ds) => e r (fun x => match x with
    | .list es => ds.length + es.length ≤ 100000 ∧ D.nx (r.set i (some (.own (ds ++ es))))
    | _ => False) D.ex
  | _ => False
/-- an item of an own list is set -/
def oSet (i : Nat) (k : DE) (e : DE) : DS := fun D r => e r (fun x => match lk r i with
  | some (.own ds) => k r (fun z => match z with
    | .int z => (match ixN ds.length z with
      | some j => D.nx (r.set i (some (.own (ds.set j x))))
      | none => False)
    | _ => False) D.ex
  | _ => False) D.ex
/-- an item of an own list -/
def oIx (i : Nat) (k : DE) : DE := fun r P X => match lk r i with
  | some (.own ds) => k r (fun z => match z with
    | .int z => (match atI ds z with
      | some e => P e
      | none => False)
    | _ => False) X
  | _ => False
def oLen (i : Nat) : DE := fun r P _ => match lk r i with
  | some (.own ds) => P (.int ds.length)
  | _ => False
def SS (c : Ct) (ts : TS) (m : DS) : Prop := ∀ H0 r τ l σ H, MSt c H0 r τ l σ H → ∀ (D : DN) (E : Ends), m D r →
  (∀ r' σ' H', MSt c H0 r' τ l σ' H' → D.nx r' → E.nx σ' H') → (∀ r' σ' H', MSt c H0 r' τ l σ' H' → D.bk r' → E.bk σ' H') → (∀ r' σ' H', MSt c H0 r' τ l σ' H' → D.ct r' → E.ct σ' H') →
  (∀ v e r' σ' H', MSt c H0 r' ((v, e) :: τ) l σ' H' → D.rt e → E.rt v H') → (∀ r' σ', XOut c H0 r' τ l σ' D.ex) → ts E σ H
section
variable {c : Ct} {K : PySem.W.Frag} {te : TE} {tas : TA} {me : DE} {mas : DA} {tt : TT} {mt : DT} {ts tu : TS} {ms mu : DS} {g : TG} {mg : DG} {wi : TI} {mi : DI} {vs : List Nat}
theorem ss_nx : SS c tNext sNx := fun H0 r τ l σ H S D E h n b ct rt x => n r σ H S h
theorem ss_bk : SS c tBreak sBk := fun H0 r τ l σ H S D E h n b ct rt x => b r σ H S h
theorem ss_ct : SS c tCont sCt := fun H0 r τ l σ H S D E h n b ct rt x => ct r σ H S h
theorem ss_seq (h1 : SS c ts ms) (h2 : SS c tu mu) : SS c (tSeq ts tu) (sSeq ms mu) := fun H0 r τ l σ H S D E h n b ct rt x =>
  h1 H0 r τ l σ H S _ _ h (fun r' σ' H' S' p => h2 H0 r' τ l σ' H' S' D E p n b ct rt x) b ct rt x
theorem ss_asg (he : SE c te me) (hg : SGv c vs g mg) : SS c (tAsg te g) (sAsg me mg) := fun H0 r τ l σ H S D E h n b ct rt x =>
  he H0 r τ l σ H S _ _ h (x r σ) _ fun v e H' S' p => hg H0 r τ l σ H' v e S' _ p _ fun r2 σ2 H2 S2 _ _ p2 => n r2 σ2 H2 S2 p2
theorem ss_drop (he : SE c te me) : SS c (tDrop te) (sDrop me) := fun H0 r τ l σ H S D E h n b ct rt x =>
  he H0 r τ l σ H S _ _ h (x r σ) _ fun v e H' S' p => n r σ H' S'.pop p
theorem ss_ret (he : SE c te me) : SS c (tRet te) (sRet me) := fun H0 r τ l σ H S D E h n b ct rt x =>
  he H0 r τ l σ H S _ _ h (x r σ) _ fun v e H' S' p => rt v e r σ H' S' p
theorem ss_retN : SS c tRetN sRetN := fun H0 r τ l σ H S D E h n b ct rt x => rt .non .none r σ H (S.sc fun _ => .non) h
theorem ss_if (ht : ST c tt mt) (h1 : SS c ts ms) (h2 : SS c tu mu) : SS c (tIfS tt ts tu) (sIf mt ms mu) := fun H0 r τ l σ H S D E h n b ct rt x =>
  ht H0 r τ l σ H S _ _ h (x r σ) _ fun a H' S' p => by
    cases a with
    | true => exact (if_pos rfl).mpr (h1 H0 r τ l σ H' S' D E p n b ct rt x)
    | false => exact (if_neg Bool.false_ne_true).mpr (h2 H0 r τ l σ H' S' D E p n b ct rt x)
theorem ss_par {i j : Nat} (ha : SA c tas mas) : SS c (tPar i j tas) (sPar i j mas) := fun H0 r τ l σ H S D E h n b ct rt x =>
  ha H0 r τ l σ H S _ _ h (x r σ) _ fun us es H' S' hl p => by
    match es, us, hl, p with
    | [a, b'], [u, w], _, p =>
      refine ⟨u, w, rfl, n _ _ H' ?_ p⟩
      have S1 : MSt c H0 r ((u, a) :: (w, b') :: τ) l σ H' := S'
      exact (S1.setD).setD
    | [], _, _, p => exact p.elim
    | [_], _, _, p => exact p.elim
    | _ :: _ :: _ :: _, _, _, p => exact p.elim
theorem ss_fz {i : Nat} (h : SS c ts ms) : SS c ts (sFz i ms) := fun H0 r τ l σ H S D E hp n b ct rt x => by
  have hp : ms D (frzM r i) := hp
  unfold frzM at hp
  split at hp
  · rename_i ds hl
    exact h H0 _ τ l σ H (S.frz (lk_some hl)) D E hp n b ct rt x
  · exact h H0 r τ l σ H S D E hp n b ct rt x
theorem ss_new {i : Nat} {m : DEO} (h : SEO c te m) : SS c (tAsg te (gName i)) (sNew i m) := fun H0 r τ l σ H S D E hp n b ct rt x =>
  h H0 r τ l σ H S _ _ hp (x r σ) _ fun p ds H' S' q => n _ _ H' (S'.setO q.1) q.2
/-- the name of an own list, read -/
theorem own_front {H0 H : Hp} {r : ME} {τ : List (V × PyData)} {l : List (Addr × List PyData)} {σ : L2.St} {i : Nat} {ds : List PyData} (S : MSt c H0 r τ l σ H) (h : lk r i = some (.own ds)) :
    ∃ a xs, σ[i]? = some (some (.ref a)) ∧ H a = some (.lst xs) ∧ xs.length = ds.length ∧ DL.St c.W H0 (r.map (dn c.dk)) τ ((a, ds) :: (owns (r.set i none) σ ++ l)) σ H := by
  obtain ⟨a, ha, T⟩ := S.front (lk_some h)
  obtain ⟨xs, h1, h2, _⟩ := st_look T
  exact ⟨a, xs, ha, h1, h2, T⟩
theorem ss_app {i : Nat} (he : SE c te me) : SS c (tDrop (tBM K "list" rAppend (tVar i) (tCons te tNil))) (oApp i me) := fun H0 r τ l σ H S D E hp n b ct rt x => by
  unfold oApp at hp
  split at hp
  · rename_i ds hl
    obtain ⟨a, xs, ha, hx, _, _⟩ := own_front S hl
    refine ⟨.ref a, ha, .inl ⟨rfl, xs, .inl (.inl hx)⟩, he H0 r τ l σ H S _ _ hp (x r σ) _ fun y e H1 S1 p => ?_⟩
    obtain ⟨a', xs', ha', hx', hl', T⟩ := own_front S1 hl
    rw [ha] at ha'
    cases ha'
    obtain ⟨ys, hy, hly, T2⟩ := T.app
    rw [hx'] at hy
    cases hy
    exact ⟨a, xs', y, rfl, rfl, hx', size_small' (by rw [hl']; omega), n _ σ _ (S1.back (lk_some hl) ha T2) p.2⟩
  · exact hp.elim
theorem ss_ext {i : Nat} (he : SE c te me) : SS c (tDrop (tBM K "list" rExtend (tVar i) (tCons te tNil))) (oExt i me) := fun H0 r τ l σ H S D E hp n b ct rt x => by
  unfold oExt at hp
  split at hp
  · rename_i ds hl
    obtain ⟨a, xs, ha, hx, _, _⟩ := own_front S hl
    refine ⟨.ref a, ha, .inl ⟨rfl, xs, .inl (.inl hx)⟩, he H0 r τ l σ H S _ _ hp (x r σ) _ fun y e H1 S1 p => ?_⟩
    try dsimp only at p
    split at p
    · rename_i es
      obtain ⟨a', xs', ha', hx', hl', T⟩ := own_front S1 hl
      rw [ha] at ha'
      cases ha'
      have hv : ∃ q, y = .ref q := by
        obtain ⟨N, n3, n5, q⟩ := S1.ext
        have := n5 _ List.mem_cons_self
        cases this
        exact ⟨_, rfl⟩
      obtain ⟨q, rfl⟩ := hv
      obtain ⟨ys, zs, h1, h2, h3, h4, T2⟩ := T.more
      rw [hx'] at h1
      cases h1
      exact ⟨a, q, xs', zs, rfl, rfl, hx', h2, size_small (by rw [h3, h4]; exact p.1), n _ σ _ (S1.back (lk_some hl) ha T2) p.2⟩
    · exact p.elim
  · exact hp.elim
theorem rg_set {N : Addr → Prop} {H : Hp} {x : V} {e : PyData} (h : Rg N H x e) : ∀ {xs : List V} {ds : List PyData} (j : Nat), RgAll N H xs ds → RgAll N H (xs.set j x) (ds.set j e)
  | _, _, _, .nil => .nil
  | _, _, 0, .cons _ t => .cons h t
  | _, _, j + 1, .cons q t => .cons q (rg_set h j t)
theorem ss_set {i : Nat} {tk : TE} {mk : DE} (he : SE c te me) (hk : SE c tk mk) : SS c (tAsg te (gSub (tVar i) tk rSetL)) (oSet i mk me) := fun H0 r τ l σ H S D E hp n b ct rt x => by
  refine he H0 r τ l σ H S _ _ hp (x r σ) _ fun y e H1 S1 p => ?_
  try dsimp only at p
  split at p
  · rename_i ds hl
    obtain ⟨a, xs, ha, hx, hxl, _⟩ := own_front S1 hl
    refine ⟨.ref a, ha, hk H0 r _ l σ H1 S1 _ _ p (x r σ).more _ fun z e2 H2 S2 p2 => ?_⟩
    try dsimp only at p2
    split at p2
    · rename_i zi
      have := S2.it
      subst this
      split at p2
      · rename_i j hj
        obtain ⟨a', xs', ha', hx', hl', T⟩ := own_front S2 hl
        rw [ha] at ha'
        cases ha'
        refine ⟨a, xs', zi, j, rfl, rfl, hx', by rw [hl']; exact hj, ?_⟩
        have T2 := st_mut T (ys := xs'.set j y) (es := ds.set j e) fun N xs h1 h2 h3 => by
          rw [hx'] at h1
          cases h1
          exact rg_set (h3 (y, e) (List.mem_cons_of_mem _ List.mem_cons_self)) j h2
        exact n _ σ _ ((S2.back (lk_some hl) ha T2).mono fun p hp => List.mem_cons_of_mem _ (List.mem_cons_of_mem _ hp)) p2
      · exact p2.elim
    · exact p2.elim
  · exact p.elim
theorem se_oix {i : Nat} {tk : TE} {mk : DE} (hk : SE c tk mk) : SE c (tOp (rIxL K) (tVar i) tk) (oIx i mk) := fun H0 r τ l σ H S P X hp hX Q k => by
  unfold oIx at hp
  split at hp
  · rename_i ds hl
    obtain ⟨a, xs, ha, hx, hxl, _⟩ := own_front S hl
    refine ⟨.ref a, ha, hk H0 r τ l σ H S _ _ hp hX _ fun z e2 H2 S2 p2 => ?_⟩
    try dsimp only at p2
    split at p2
    · rename_i zi
      have := S2.it
      subst this
      split at p2
      · rename_i e he
        obtain ⟨a', xs', ha', hx', hl', T⟩ := own_front S2 hl
        rw [ha] at ha'
        cases ha'
        obtain ⟨ys, h1, h2, h3, _⟩ := st_look T
        rw [hx'] at h1
        cases h1
        unfold atI at he
        cases hj : ixN ds.length zi with
        | none => rw [hj] at he; cases he
        | some j =>
          rw [hj] at he
          have he' : ds[j]? = some e := he
          have jl : j < xs'.length := by rw [hl']; exact (List.getElem?_eq_some_iff.mp he').1
          obtain ⟨d, hd, T2⟩ := h3 j _ (List.getElem?_eq_getElem jl)
          rw [he'] at hd
          cases hd
          have pm : (owns r σ ++ l).Perm ((a, ds) :: (owns (r.set i none) σ ++ l)) := List.Perm.append_right l (owns_at (lk_some hl) ha)
          have S3 : MSt c H0 r ((xs'[j], e) :: (.int zi, .int zi) :: τ) l σ H2 := ⟨S2.fit, st_perm T2 pm.symm⟩
          refine ⟨a, xs', zi, xs'[j], rfl, rfl, .inl (.inl hx'), ?_, k _ _ H2 (S3.mono fun p hp => ?_) p2⟩
          · unfold atI
            rw [hl', hj]
            exact List.getElem?_eq_getElem jl
          · rcases List.mem_cons.mp hp with rfl | hp
            · exact List.mem_cons_self
            · exact List.mem_cons_of_mem _ (List.mem_cons_of_mem _ hp)
      · exact p2.elim
    · exact p2.elim
  · exact hp.elim
theorem se_olen {i : Nat} : SE c (tCB (TB.rLenQ K) (tCons (tVar i) tNil)) (oLen i) := fun H0 r τ l σ H S P X hp hX Q k => by
  unfold oLen at hp
  split at hp
  · rename_i ds hl
    obtain ⟨a, xs, ha, hx, hxl, _⟩ := own_front S hl
    refine ⟨.ref a, ha, a, xs, rfl, .inl (.inl (.inl hx)), ?_⟩
    rw [hxl]
    exact k _ _ H (S.sc fun _ => .int _) hp
  · exact hp.elim
/-! ### loops -/
theorem ss_for (hi : SI c wi mi) (hg : SGv c vs g mg) (hb : SS c ts ms) : SS c (tFor wi g ts) (sFor mi mg ms) := fun H0 r τ l σ H S D E h n b ct rt x =>
  hi H0 r τ l σ H S _ _ h (x r σ) _ fun J items τc H0' H1 hd S1 p => by
    obtain ⟨G, Y, wk, hG, hY⟩ := hd.wk
    have un : ∀ {r' σ' H'}, MSt c H0' r' (τc ++ τ) l σ' H' → MSt c H0 r' τ l σ' H' := fun {r' σ' H'} S => (S.unbase hd.up hd.dw).mono fun p hp => List.mem_append_right _ hp
    refine for_it wk (fun i σ' H' => ∃ r', MSt c H0' r' (τc ++ τ) l σ' H' ∧ forC mg ms D (items.drop i) r') ⟨r, S1, p⟩ (fun i σ' H' _ q => ?_) (fun i v σ' H2 H3 hlt q y => ?_) fun σ' H' q => ?_
    · obtain ⟨r', S', _⟩ := q
      exact hG _ _ _ _ _ S'.st
    · obtain ⟨r', S', q⟩ := q
      have hd' : items[i]? = some items[i] := List.getElem?_eq_getElem hlt
      have T := hY i _ _ _ _ _ v H3 _ S'.st y hd'
      rw [List.drop_eq_getElem_cons hlt] at q
      refine hg H0' r' _ l σ' H3 v _ ⟨S'.fit, T⟩ _ q _ fun r2 σ2 H4 S4 _ _ q2 => ?_
      refine hb H0' r2 _ l σ2 H4 S4 _ _ q2 (fun r3 σ3 H5 S5 q3 => ⟨r3, S5, q3⟩) (fun r3 σ3 H5 S5 q3 => n r3 σ3 H5 (un S5) q3) (fun r3 σ3 H5 S5 q3 => ⟨r3, S5, q3⟩) (fun v e r3 σ3 H5 S5 q3 => ?_) fun r3 σ3 => (x r3 σ3).rebase hd.up hd.dw fun p hp => List.mem_append_right _ hp
      exact rt v e r3 σ3 H5 ((S5.unbase hd.up hd.dw).mono fun p hp => by
        rcases List.mem_cons.mp hp with rfl | hp
        · exact List.mem_cons_self
        · exact List.mem_cons_of_mem _ (List.mem_append_right _ hp)) q3
    · obtain ⟨r', S', q⟩ := q
      rw [List.drop_length] at q
      exact n r' σ' H' (un S') q
theorem ss_while (ht : ST c tt mt) (hb : SS c ts ms) : SS c (tWhile tt ts) (sWhile mt ms) := fun H0 r τ l σ H S D E h n b ct rt x => by
  obtain ⟨N, hN⟩ := h
  refine ⟨fun m σ' H' => ∃ r', MSt c H0 r' τ l σ' H' ∧ whC mt ms D m r', ⟨N, r, S, hN⟩, ?_⟩
  rintro m σ' H' ⟨r', S', q⟩
  cases m with
  | zero => exact q.elim
  | succ m =>
    refine ht H0 r' τ l σ' H' S' _ _ q (x r' σ') _ fun a H2 S2 p => ?_
    cases a with
    | true =>
      refine (if_pos rfl).mpr ⟨fun σ3 H3 => ∃ r3, MSt c H0 r3 τ l σ3 H3 ∧ whC mt ms D m r3, fun σ3 H3 q => ⟨m, Nat.lt_succ_self m, q⟩, ?_⟩
      exact hb H0 r' τ l σ' H2 S2 _ _ p (fun r3 σ3 H3 S3 q => ⟨r3, S3, q⟩) (fun r3 σ3 H3 S3 q => n r3 σ3 H3 S3 q) (fun r3 σ3 H3 S3 q => ⟨r3, S3, q⟩) rt x
    | false => exact (if_neg Bool.false_ne_true).mpr (n r' σ' H2 S2 p)
end
/-! ### sources -/
def iSq (e : DE) : DI := fun r P X => e r (fun x => match x with
  | .list ds => P ds
  | .tuple ds => P ds
  | _ => False) X
def iR1 (e : DE) : DI := fun r P X => e r (fun x => match x with
  | .int n => (-(2 ^ 62) ≤ n ∧ n < 2 ^ 62) ∧ P ((List.range n.toNat).map fun (i : Nat) => .int i)
  | _ => False) X
def iR2 (e e2 : DE) : DI := fun r P X => e r (fun x => e2 r (fun y => match x, y with
  | .int a, .int b => (-(2 ^ 62) ≤ a ∧ a < 2 ^ 62 ∧ -(2 ^ 62) ≤ b ∧ b < 2 ^ 62) ∧ P ((List.range (b - a).toNat).map fun (i : Nat) => .int (a + i))
  | _, _ => False) X) X
section
variable {c : Ct} {K : PySem.W.Frag} {te ta tb : TE} {me ma mb : DE}
theorem hold_list {H0 H : Hp} {r : ME} {τ : List (V × PyData)} {l : List (Addr × List PyData)} {σ : L2.St} {v : V} {ds : List PyData} (S : MSt c H0 r ((v, .list ds) :: τ) l σ H) :
    ∃ a xs H0', v = .ref a ∧ H a = some (.lst xs) ∧ Hold c H0 H0' [(v, .list ds)] (Itl K a) ds ∧ MSt c H0' r ([(v, .list ds)] ++ τ) l σ H := by
  obtain ⟨a, xs, rfl, hA, hlen, hna, u1, u2, B⟩ := S.st.baseL
  refine ⟨a, xs, upd H0 a (.lst xs), rfl, hA, ⟨u1, u2, fun H => H a = some (.lst xs), YAt xs, ?_, fun ρ τ l σ H S => S.off a _ upd_same hna, fun i ρ τ l σ H x H' d S y hd => ?_⟩, S.fit, B⟩
  · rw [← hlen]
    exact walk_list.mono (fun H h => .inl (.inl h)) fun i H x H' _ _ y => y
  · obtain ⟨rfl, hx⟩ := y
    have hAk : H' a = some (.lst xs) := S.off a _ upd_same hna
    obtain ⟨d', hd', S3⟩ := DL.St.item (xs := xs) (ds := ds) (τ := τ) (c := .list ds) S (fun N r => by
      cases r with
      | lst q1 q2 q3 => rw [hAk] at q1; cases q1; exact q3) hx
    rw [hd] at hd'
    cases hd'
    exact S3
theorem hold_tup {H0 H : Hp} {r : ME} {τ : List (V × PyData)} {l : List (Addr × List PyData)} {σ : L2.St} {v : V} {ds : List PyData} (S : MSt c H0 r ((v, .tuple ds) :: τ) l σ H) :
    ∃ a xs H0', v = .ref a ∧ H a = some (.tup xs) ∧ Hold c H0 H0' [(v, .tuple ds)] (Itt K a) ds ∧ MSt c H0' r ([(v, .tuple ds)] ++ τ) l σ H := by
  obtain ⟨a, xs, rfl, hA, hlen, hna, u1, u2, B⟩ := S.st.baseT
  refine ⟨a, xs, upd H0 a (.tup xs), rfl, hA, ⟨u1, u2, fun H => H a = some (.tup xs), YAt xs, ?_, fun ρ τ l σ H S => S.off a _ upd_same hna, fun i ρ τ l σ H x H' d S y hd => ?_⟩, S.fit, B⟩
  · rw [← hlen]
    exact walk_tup.mono (fun H h => .inl (.inl h)) fun i H x H' _ _ y => y
  · obtain ⟨rfl, hx⟩ := y
    have hAk : H' a = some (.tup xs) := S.off a _ upd_same hna
    obtain ⟨d', hd', S3⟩ := DL.St.item (xs := xs) (ds := ds) (τ := τ) (c := .tuple ds) S (fun N r => by
      cases r with
      | tup q1 q2 q3 => rw [hAk] at q1; cases q1; exact q3) hx
    rw [hd] at hd'
    cases hd'
    exact S3
theorem hold_range {H0 : Hp} {lo : Int} {n : Nat} : Hold c H0 H0 [] (Itr lo n) ((List.range n).map fun (i : Nat) => .int (lo + i)) := by
  refine ⟨fun b o h _ => h, fun b h => h, fun _ => True, YFn fun i => .int (lo + i), ?_, fun _ _ _ _ _ _ => trivial, fun i ρ τ l σ H x H' d S y hd => ?_⟩
  · rw [List.length_map, List.length_range]
    exact walk_range
  · obtain ⟨rfl, rfl⟩ := y
    rw [List.getElem?_map] at hd
    obtain ⟨j, hj, rfl⟩ := Option.map_eq_some_iff.mp hd
    obtain ⟨hj1, rfl⟩ := List.getElem?_eq_some_iff.mp hj
    rw [List.getElem_range]
    obtain ⟨N, n3, n5, n4, q⟩ := S.ext
    refine q H' _ ex_refl fun p hp => ?_
    rcases List.mem_cons.mp hp with rfl | hp
    · exact .int _
    · exact n5 p hp
/-- a list or a tuple, whichever it is -/
def iSeq (K : PySem.W.Frag) (tl : TE) : TI := fun σ H R => tl σ H fun x H1 => ∃ a, x = .ref a ∧ (((∃ xs, SqL K H1 a xs) ∧ R (Itl K a) H1) ∨ ((∃ xs, SqT K H1 a xs) ∧ R (Itt K a) H1))
theorem si_seq (he : SE c te me) : SI c (iSeq K te) (iSq me) := fun H0 r τ l σ H S P X h hX R k =>
  he H0 r τ l σ H S _ X h hX _ fun v e H1 S1 p => by
    try dsimp only at p
    split at p
    · obtain ⟨a, xs, H0', rfl, hA, hd, S2⟩ := hold_list (K := K) S1
      exact ⟨a, rfl, .inl ⟨⟨xs, .inl (.inl hA)⟩, k _ _ _ _ _ hd S2 p⟩⟩
    · obtain ⟨a, xs, H0', rfl, hA, hd, S2⟩ := hold_tup (K := K) S1
      exact ⟨a, rfl, .inr ⟨⟨xs, .inl (.inl hA)⟩, k _ _ _ _ _ hd S2 p⟩⟩
    · exact p.elim
theorem si_range1 (he : SE c te me) : SI c (iRng1 (tCons te tNil)) (iR1 me) := fun H0 r τ l σ H S P X h hX R k =>
  he H0 r τ l σ H S _ X h hX _ fun v e H1 S1 p => by
    try dsimp only at p
    split at p
    · rename_i n
      have := S1.it
      subst this
      refine ⟨n, rfl, p.1.1, p.1.2, k _ _ [] H0 H1 hold_range S1.pop ?_⟩
      have e : (fun (i : Nat) => PyData.int (0 + (i : Int))) = fun (i : Nat) => PyData.int (i : Int) := by funext i; rw [Int.zero_add]
      rw [e]
      exact p.2
    · exact p.elim
theorem si_range2 (ha : SE c ta ma) (hb : SE c tb mb) : SI c (iRng2 (tCons ta (tCons tb tNil))) (iR2 ma mb) := fun H0 r τ l σ H S P X h hX R k =>
  ha H0 r τ l σ H S _ X h hX _ fun v e H1 S1 p => hb H0 r _ l σ H1 S1 _ X p hX.more _ fun w e2 H2 S2 p2 => by
    try dsimp only at p2
    split at p2
    · rename_i a b
      have := S2.it
      subst this
      have := S2.pop.sc (v := .int b) (e := .int b) fun _ => .int _
      have := S1.it
      subst this
      exact ⟨a, b, rfl, p2.1, k _ _ [] H0 H2 hold_range (S2.mono fun p hp => List.mem_cons_of_mem _ (List.mem_cons_of_mem _ hp)) p2.2⟩
    · exact p2.elim
end
/-! ### defs -/
def envOf (es : List PyData) (k : Nat) : ME := es.map (fun e => some (.dat e)) ++ List.replicate k none
theorem envOf_dn {dk : V} {es : List PyData} {k : Nat} : (envOf es k).map (dn dk) = slotsOf es k := by
  unfold envOf slotsOf
  rw [List.map_append, List.map_map, List.map_replicate]
  rfl
theorem owns_env : ∀ (es : List PyData) (k : Nat) (σ : L2.St), owns (envOf es k) σ = []
  | [], 0, σ => by cases σ <;> rfl
  | [], k + 1, [] => rfl
  | [], k + 1, s :: σ => by
    show own1 none s ++ owns (envOf [] k) σ = []
    rw [own1_none, owns_env [] k σ]; rfl
  | e :: es, k, [] => rfl
  | e :: es, k, s :: σ => by
    show own1 (some (.dat e)) s ++ owns (envOf es k) σ = []
    rw [owns_env es k σ]
    cases s <;> rfl
theorem fit_env {es : List PyData} {k : Nat} {σ : L2.St} : Fit (envOf es k) σ := fun i ds h => by
  have h' := List.mem_of_getElem? h
  unfold envOf at h'
  rcases List.mem_append.mp h' with h' | h'
  · obtain ⟨e, _, he⟩ := List.mem_map.mp h'
    cases he
  · have := List.eq_of_mem_replicate h'
    cases this
/-- the plain def's place -/
abbrev ctF (N : Addr → Prop) (H : Hp) (tab : Str → Option Addr) (Z : WX) : Ct := ⟨WF N H, .non, tab, Z⟩
theorem start_F {N : Addr → Prop} {H : Hp} {tab : Str → Option Addr} {Z : WX} {vs : List V} {es : List PyData} {k : Nat} (ok : NOk N H) (r : RgAll N H vs es) : MSt (ctF N H tab Z) H (envOf es k) [] [] (vs.map some ++ List.replicate k none) H := by
  refine ⟨fit_env, ?_⟩
  rw [envOf_dn, owns_env]
  exact DL.St.startF ok r
theorem end_F {N : Addr → Prop} {H H' : Hp} {tab : Str → Option Addr} {Z : WX} {r : ME} {τ : List (V × PyData)} {l : List (Addr × List PyData)} {σ : L2.St} {v : V} {e : PyData} (S : MSt (ctF N H tab Z) H r ((v, e) :: τ) l σ H') : Ex H H' ∧ Rg N H' v e := S.st.endF
theorem end_F0 {N : Addr → Prop} {H H' : Hp} {tab : Str → Option Addr} {Z : WX} {r : ME} {τ : List (V × PyData)} {l : List (Addr × List PyData)} {σ : L2.St} (S : MSt (ctF N H tab Z) H r τ l σ H') : Ex H H' := (end_F (S.sc (v := .non) (e := .none) fun _ => .non)).1
/-- the mirror of a def -/
def bodyM (b : DS) (n k : Nat) : List PyData → C PyData := fun es P X => es.length = n ∧ b { nx := fun _ => P .none, rt := P, ex := X } (envOf es k)
/-- the mirror of a def that draws: its first argument is the deck -/
def bodyW (b : DS) (n k : Nat) : List PyData → C PyData := fun es P X => es.length = n ∧ b { nx := fun _ => P .none, rt := P, ex := X } (some .dck :: envOf es k)
abbrev no4 : WX := fun _ _ _ _ => False
abbrev noTab : Str → Option Addr := fun _ => none
section
variable {P : Program} {w : World} {K : PySem.W.Frag} {mg : Str → Option Value} {base : Heap}
/-- what the body's reading has to do -/
theorem run_F {N : Addr → Prop} {H : Hp} {vs : List V} {es : List PyData} {k : Nat} {ts : TS} {b : DS} {Q : VK} {Pd : PyData → Prop} (hs : ∀ c, SS c ts b) (ok : NOk N H) (r : RgAll N H vs es) (h : b { nx := fun _ => Pd .none, rt := Pd, ex := fun _ => False } (envOf es k))
    (q : ∀ v e H', Ex H H' → Rg N H' v e → Pd e → Q v H') : ts { nx := fun _ H' => Q .non H', rt := Q } (vs.map some ++ List.replicate k none) H :=
  hs (ctF N H noTab no4) H _ [] [] _ H (start_F ok r) _ _ h (fun r' σ' H' S p => q .non .none H' (end_F0 S) .non p) (fun _ _ _ _ p => p.elim) (fun _ _ _ _ p => p.elim)
    (fun v e r' σ' H' S p => let ⟨x, y⟩ := end_F S; q v e H' x y p) fun r' σ' => XOut.no
theorem start_W {d g l : Addr} {N : Addr → Prop} {H : Hp} {tab : Str → Option Addr} {Z : WX} {vs : List V} {es : List PyData} {k : Nat} (ok : NOk N H) (h1 : N d) (h2 : N g) (h3 : N l) (D : Deck H d g l) (r : RgAll N H vs es) :
    MSt ⟨WD d g l N H, .ref d, tab, Z⟩ H (some .dck :: envOf es k) [] [] (some (.ref d) :: (vs.map some ++ List.replicate k none)) H := by
  refine ⟨fun i ds h => ?_, ?_⟩
  · cases i with
    | zero => cases h
    | succ i => exact fit_env i ds h
  · show DL.St _ H (some (.raw (.ref d)) :: (envOf es k).map (dn (.ref d))) [] ((own1 (some .dck) (some (.ref d)) ++ owns (envOf es k) _) ++ []) _ H
    rw [envOf_dn, owns_env]
    exact DL.St.startW ok h1 h2 h3 D r
theorem run_W {d g l : Addr} {N : Addr → Prop} {H : Hp} {vs : List V} {es : List PyData} {k : Nat} {ts : TS} {b : DS} {Q : VK} {Pd : PyData → Prop} (hs : ∀ c, Dk c → SS c ts b) (ok : NOk N H) (h1 : N d) (h2 : N g) (h3 : N l) (D : Deck H d g l) (r : RgAll N H vs es) (h : b { nx := fun _ => Pd .none, rt := Pd, ex := fun _ => False } (some .dck :: envOf es k))
    (q : ∀ v e H', Deck H' d g l → Oth d g l H H' → Rg N H' v e → Pd e → Q v H') : ts { nx := fun _ H' => Q .non H', rt := Q } (some (.ref d) :: (vs.map some ++ List.replicate k none)) H := by
  have fin : ∀ {v e r' τ l' σ' H'}, MSt ⟨WD d g l N H, .ref d, noTab, no4⟩ H r' ((v, e) :: τ) l' σ' H' → Pd e → Q v H' := fun {v e r' τ l' σ' H'} S p => by
    have T := S.st
    have h := DL.St.endW (d := d) (g := g) (l := l) (N := N) T
    exact q v e H' h.1 h.2.1 h.2.2 p
  exact hs ⟨WD d g l N H, .ref d, noTab, no4⟩ ⟨d, g, l, N, H, rfl, rfl⟩ H _ [] [] _ H (start_W ok h1 h2 h3 D r) _ _ h (fun r' σ' H' S p => fin (S.sc (v := .non) (e := .none) fun _ => .non) p) (fun _ _ _ _ p => p.elim) (fun _ _ _ _ p => p.elim)
    (fun v e r' σ' H' S p => fin S p) fun r' σ' => XOut.no
theorem start_eq {N : List Str} {vs : List V} {n k : Nat} (h : vs.length = n) (hk : N.length = n + k) : L2.start N vs = vs.map some ++ List.replicate k none := by
  unfold L2.start
  rw [hk, h, Nat.add_sub_cancel_left]
theorem start_eqW {N : List Str} {v : V} {vs : List V} {n k : Nat} (h : vs.length = n) (hk : N.length = n + 1 + k) : L2.start N (v :: vs) = some v :: (vs.map some ++ List.replicate k none) := by
  unfold L2.start
  rw [hk, List.length_cons, h, Nat.add_sub_cancel_left]
  rfl
end
end MI
set_option Elab.async false
set_option linter.all false
set_option maxRecDepth 100000
/-! A mirror of the text in plain data: operations. -/
namespace MI
open PySem PySem.Spec PyProof.Rows L2 Evl TB DL
theorem Res.of {N : Addr → Prop} {H : Hp} {P : PyData → Prop} {k : VK → Prop} {e : PyData} (h : Res N H (· = e) k) (p : P e) : Res N H P k := fun Q q => h Q fun v e' H' x r z => q v e' H' x r (by rw [z]; exact p)
theorem OpD.of {rd : R2} {d1 d2 e : PyData} {P : PyData → Prop} (h : OpD rd d1 d2 (· = e)) (p : P e) : OpD rd d1 d2 P := fun N H v1 v2 ok r1 r2 => Res.of (h N H v1 v2 ok r1 r2) p
theorem CaD.of {rd : List V → Hp → VK → Prop} {ds : List PyData} {e : PyData} {P : PyData → Prop} (h : CaD rd ds (· = e)) (p : P e) : CaD rd ds P := fun N H vs ok r => Res.of (h N H vs ok r) p
theorem OpD.l {ra rb : R2} {d1 d2 : PyData} {P : PyData → Prop} (h : OpD ra d1 d2 P) : OpD (fun x y H Q => ra x y H Q ∨ rb x y H Q) d1 d2 P := fun N H v1 v2 ok r1 r2 Q q => .inl (h N H v1 v2 ok r1 r2 Q q)
theorem OpD.r {ra rb : R2} {d1 d2 : PyData} {P : PyData → Prop} (h : OpD rb d1 d2 P) : OpD (fun x y H Q => ra x y H Q ∨ rb x y H Q) d1 d2 P := fun N H v1 v2 ok r1 r2 Q q => .inr (h N H v1 v2 ok r1 r2 Q q)
theorem CaD.l {ra rb : List V → Hp → VK → Prop} {ds : List PyData} {P : PyData → Prop} (h : CaD ra ds P) : CaD (fun xs H Q => ra xs H Q ∨ rb xs H Q) ds P := fun N H vs ok r Q q => .inl (h N H vs ok r Q q)
theorem CaD.r {ra rb : List V → Hp → VK → Prop} {ds : List PyData} {P : PyData → Prop} (h : CaD rb ds P) : CaD (fun xs H Q => ra xs H Q ∨ rb xs H Q) ds P := fun N H vs ok r Q q => .inr (h N H vs ok r Q q)
/-! ### + -/
abbrev rAddS : R2 := fun x y H Q => ∃ i j, x = .str i ∧ y = .str j ∧ i.length + j.length ≤ sizeLine ∧ Q (.str (i ++ j)) H
def rAddA (K : PySem.W.Frag) : R2 := fun x y H Q => rI0 (fun i j => .int (i + j)) x y H Q ∨ (rCatA K x y H Q ∨ (rCat x y H Q ∨ rAddS x y H Q))
theorem op_addA {X : Cx} : OpR X (binaryOp .Add) (rAddA X.K) := OpR.or op_add (OpR.or op_catA (OpR.or op_cat op_add_str))
def oAdd : PyData → PyData → C PyData
  | .int a, .int b => fun P _ => P (.int (a + b))
  | .tuple a, .tuple b => fun P _ => a.length + b.length ≤ 100000 ∧ P (.tuple (a ++ b))
  | .list a, .list b => fun P _ => a.length + b.length ≤ 100000 ∧ P (.list (a ++ b))
  | .str a, .str b => fun P _ => a.length + b.length ≤ 100000 ∧ P (.str (a ++ b))
  | _, _ => fun _ _ => False
theorem os_add {K : PySem.W.Frag} : OpS (rAddA K) oAdd := fun e1 e2 P X h => by
  unfold oAdd at h
  split at h
  · exact OpD.l (OpD.of opd_add h)
  · exact OpD.r (OpD.l (OpD.of (opd_catT h.1) h.2))
  · exact OpD.r (OpD.r (OpD.l (OpD.of (opd_catL h.1) h.2)))
  · refine OpD.r (OpD.r (OpD.r (OpD.of (fun N H v1 v2 _ r1 r2 => ?_) h.2)))
    cases r1; cases r2
    exact res_rfl (.str _) fun Q q => ⟨_, _, rfl, rfl, size_small h.1, q⟩
  · exact h.elim
/-! ### numbers -/
def oI (f : Int → Int → PyData) : PyData → PyData → C PyData
  | .int a, .int b => fun P _ => P (f a b)
  | _, _ => fun _ _ => False
theorem os_I0 {g : Int → Int → V} {f : Int → Int → PyData} (h : ∀ a b N H, Rg N H (g a b) (f a b)) : OpS (rI0 g) (oI f) := fun e1 e2 P X hp => by
  unfold oI at hp
  split at hp
  · exact OpD.of (opd_I0 (h _ _)) hp
  · exact hp.elim
def oIc (Cn : Int → Int → Prop) (f : Int → Int → PyData) : PyData → PyData → C PyData
  | .int a, .int b => fun P _ => Cn a b ∧ P (f a b)
  | _, _ => fun _ _ => False
theorem os_I {Cn : Int → Int → Prop} {g : Int → Int → V} {f : Int → Int → PyData} (h : ∀ a b N H, Rg N H (g a b) (f a b)) : OpS (rI Cn g) (oIc Cn f) := fun e1 e2 P X hp => by
  unfold oIc at hp
  split at hp
  · exact OpD.of (opd_I hp.1 (h _ _)) hp.2
  · exact hp.elim
def oSub := oI fun a b => .int (a - b)
theorem os_sub : OpS (rI0 fun i j => .int (i - j)) oSub := os_I0 fun _ _ _ _ => .int _
def oLt := oI fun a b => .bool (decide (a < b))
def oLe := oI fun a b => .bool (decide (a ≤ b))
def oGt := oI fun a b => .bool (decide (b < a))
def oGe := oI fun a b => .bool (decide (b ≤ a))
theorem os_lt : OpS (rI0 fun i j => .bl (decide (i < j))) oLt := os_I0 fun _ _ _ _ => .bl _
theorem os_le : OpS (rI0 fun i j => .bl (decide (i ≤ j))) oLe := os_I0 fun _ _ _ _ => .bl _
theorem os_gt : OpS (rI0 fun i j => .bl (decide (j < i))) oGt := os_I0 fun _ _ _ _ => .bl _
theorem os_ge : OpS (rI0 fun i j => .bl (decide (j ≤ i))) oGe := os_I0 fun _ _ _ _ => .bl _
def oFdiv := oIc CDivW fun a b => .int (a / b)
theorem os_fdiv : OpS (rI CDivW fun i j => .int (i / j)) oFdiv := os_I fun _ _ _ _ => .int _
def oMod := oIc (fun _ j => j ≠ 0) fun a b => .int (a.fmod b)
theorem os_mod : OpS (rI (fun _ j => j ≠ 0) fun i j => .int (i.fmod j)) oMod := os_I fun _ _ _ _ => .int _
def oPow := oIc CPow fun a b => .int (a ^ b.toNat)
theorem os_pow : OpS (rI CPow fun i j => .int (i ^ j.toNat)) oPow := os_I fun _ _ _ _ => .int _
def oNeg : PyData → C PyData
  | .int a => fun P _ => P (.int (-a))
  | _ => fun _ _ => False
theorem us_neg : UnS (rU fun i => .int (-i)) oNeg := fun e P X h N H v ok r => by
  unfold oNeg at h
  split at h
  · cases r
    exact Res.of (res_rfl (.int _) fun Q q => ⟨_, rfl, q⟩) h
  · exact h.elim
/-! ### * -/
theorem mul_same (l : Addr) (items : Array Value) (n : Nat) (dd : Option Addr) (sl : Array (Option Value)) (u : Tok) :
    Meets (Builtin.«tuple.__mul__» ⟨[.ref l, .int 1 u], []⟩) (fun _ R s => s.heap.get? l = some { cls := .type "tuple", dict := dd, data := .seq items n, slots := sl } ∧ R (.ok (.ret (Value.ref l))) s) :=
  .of_wp fun prog w A R s h => by
    obtain ⟨hp, g, d, tk, os⟩ := s
    obtain ⟨hl, h⟩ := h
    have f1 := AutoSeq1.idx_int
    wp_walk using wpAny_loadPart' hl
    exact ⟨_, rfl, h⟩
theorem mul_none (l : Addr) (items : Array Value) (n : Nat) (dd : Option Addr) (sl : Array (Option Value)) (u : Tok) (c1 : (items.isEmpty || (0 : Int) == 1) = false) :
    Meets (Builtin.«tuple.__mul__» ⟨[.ref l, .int 0 u], []⟩) (fun _ R s => s.heap.get? l = some { cls := .type "tuple", dict := dd, data := .seq items n, slots := sl } ∧
      R (.ok (.ret (Value.ref s.heap.objs.size))) { s with heap := s.heap.push { cls := Value.type "tuple", data := Data.seq #[] }, toks := s.toks }) :=
  .of_wp fun prog w A R s h => by
    obtain ⟨hp, g, d, tk, os⟩ := s
    obtain ⟨hl, h⟩ := h
    have f1 := AutoSeq1.idx_int
    wp_walk using wpAny_loadPart' hl
    repeat (first
      | (refine wpAny_ite_false (decide_eq_false (by rw [c1]; exact Bool.false_ne_true)) ?_; wp_walk using wpAny_loadPart' hl))
    exact ⟨_, rfl, h⟩
/-- t * 1, t * 0 -/
def rRep01 (K : PySem.W.Frag) : R2 := fun x y H Q => ∃ l k xs, x = .ref l ∧ y = .int k ∧ SqT K H l xs ∧ xs ≠ [] ∧ ((k = 1 ∧ Q (.ref l) H) ∨ (k = 0 ∧ ∀ p, H p = none → Q (.ref p) (upd H p (.tup []))))
theorem op_rep01 {X : Cx} : OpR X (binaryOp .Mult) (rRep01 X.K) := by
  intro pins s σ H x y v u Q I rx ry h
  obtain ⟨l, k, xs, rfl, rfl, hT, hne, q⟩ := h
  cases rx
  obtain ⟨t, rfl⟩ := ry
  obtain ⟨its, r, ⟨⟨cls, dd, data, sl⟩, ho, hc, n, hd⟩, hs⟩ := I.tuple hT
  simp only at hc hd
  subst hc hd
  have hle : its.length = xs.length := r.length.symm
  have hn : its ≠ [] := fun e => hne (by
    rw [e] at hle
    exact List.eq_nil_of_length_eq_zero hle.symm)
  have hi : its.toArray.isEmpty = false := by
    cases its with
    | nil => exact absurd rfl hn
    | cons a b => rfl
  rcases q with ⟨rfl, q⟩ | ⟨rfl, q⟩
  · refine wpAny_binaryOp_repeat_ref (T := "tuple") (U := "int") (by decide) ⟨_, ho, rfl⟩ (fun s' => typeIs_int s' 1 t) noFill_tuple_mul F.fills_int_mul F.slot_int_rmul repeat_tuple F.slot_int_index.lookup
      (call_meets F.slot_int_rmul (typeIs_int s 1 t) F.entry_int_rmul (F.args_int_rmul_2 _ _) (int_rmul_tuple 1 t l its.toArray n dd sl)
        ⟨ho, rfl, ⟨_, ho, rfl⟩, call_meets F.slot_tuple_mul ⟨_, ho, rfl⟩ F.entry_tuple_mul (F.args_tuple_mul_2 _ _) (mul_same l its.toArray n dd sl t) ⟨ho, ?_⟩⟩)
    exact ⟨.ref l, H, I, rfl, q⟩
  · refine wpAny_binaryOp_repeat_ref (T := "tuple") (U := "int") (by decide) ⟨_, ho, rfl⟩ (fun s' => typeIs_int s' 0 t) noFill_tuple_mul F.fills_int_mul F.slot_int_rmul repeat_tuple F.slot_int_index.lookup
      (call_meets F.slot_int_rmul (typeIs_int s 0 t) F.entry_int_rmul (F.args_int_rmul_2 _ _) (int_rmul_tuple 0 t l its.toArray n dd sl)
        ⟨ho, rfl, ⟨_, ho, rfl⟩, call_meets F.slot_tuple_mul ⟨_, ho, rfl⟩ F.entry_tuple_mul (F.args_tuple_mul_2 _ _) (mul_none l its.toArray n dd sl t (by rw [hi]; rfl)) ⟨ho, ?_⟩⟩)
    refine ⟨.ref s.heap.objs.size, _, I.laid (t' := s.toks) (o := .tup []) (fun b ob q => Heap.get?_push_of_some _ q) (Nat.le_refl _) ?_, rfl, q _ (I.hok.fresh (Nat.le_refl _))⟩
    exact ⟨Nat.zero_le _, [], .nil, IsTup.new _ _⟩
def rMulA (K : PySem.W.Frag) : R2 := fun x y H Q => rI CMulW (fun i j => .int (i * j)) x y H Q ∨ (rRepT K x y H Q ∨ (rRep01 K x y H Q ∨ rRep x y H Q))
theorem op_mulA {X : Cx} : OpR X (binaryOp .Mult) (rMulA X.K) := OpR.or op_mulW (OpR.or op_repT (OpR.or op_rep01 op_rep))
theorem rg_rep {N : Addr → Prop} {H : Hp} {xs : List V} {ds : List PyData} (h : RgAll N H xs ds) : ∀ n, RgAll N H (List.replicate n xs).flatten (List.replicate n ds).flatten
  | 0 => .nil
  | n + 1 => by
    rw [List.replicate_succ, List.replicate_succ, List.flatten_cons, List.flatten_cons]
    exact h.app (rg_rep h n)
def oMul : PyData → PyData → C PyData
  | .int a, .int b => fun P _ => CMulW a b ∧ P (.int (a * b))
  | .tuple ds, .int k => fun P _ => (ds ≠ [] ∧ ds.length ≤ 1000 ∧ 0 ≤ k ∧ k ≤ 1000) ∧ P (.tuple (List.replicate k.toNat ds).flatten)
  | .list ds, .int k => fun P _ => (0 ≤ k ∧ k ≤ 100000 ∧ ds.length * k.toNat ≤ 100000) ∧ P (.list (List.replicate k.toNat ds).flatten)
  | _, _ => fun _ _ => False
theorem rg_ne {N : Addr → Prop} {H : Hp} {xs : List V} {ds : List PyData} (h : RgAll N H xs ds) (hd : ds ≠ []) : xs ≠ [] := fun e => hd (by
  have := h.len
  rw [e] at this
  exact List.eq_nil_of_length_eq_zero this.symm)
theorem os_mul {K : PySem.W.Frag} : OpS (rMulA K) oMul := fun e1 e2 P X h => by
  unfold oMul at h
  split at h
  · exact OpD.l (OpD.of (opd_I h.1 fun _ _ => .int _) h.2)
  · rename_i ds k
    obtain ⟨⟨h1, h2, h3, h4⟩, h5⟩ := h
    by_cases hk : 2 ≤ k
    · refine OpD.r (OpD.l fun N H v1 v2 ok r1 r2 Q q => ?_)
      cases r2
      cases r1 with
      | tup ha hn hr =>
        exact ⟨_, k, _, rfl, rfl, .inl (.inl ha), rg_ne hr h1, hk, h4, by rw [hr.len]; exact h2, fun p hp => q _ _ _ (Ex.new hp) (.tup upd_same (ok.new hp) ((rg_rep hr _).ex (Ex.new hp))) h5⟩
    · refine OpD.r (OpD.r (OpD.l fun N H v1 v2 ok r1 r2 Q q => ?_))
      cases r2
      cases r1 with
      | tup ha hn hr =>
        refine ⟨_, k, _, rfl, rfl, .inl (.inl ha), rg_ne hr h1, ?_⟩
        by_cases hk1 : k = 1
        · left
          refine ⟨hk1, q _ _ _ ex_refl (.tup ha hn hr) ?_⟩
          subst hk1
          have e : (List.replicate (1 : Int).toNat ds).flatten = ds := by simp
          rw [e] at h5
          exact h5
        · right
          have hk0 : k = 0 := by omega
          subst hk0
          exact ⟨rfl, fun p hp => q _ (.tuple []) _ (Ex.new hp) (.tup upd_same (ok.new hp) .nil) h5⟩
  · rename_i ds k
    obtain ⟨⟨h1, h2, h3⟩, h5⟩ := h
    refine OpD.r (OpD.r (OpD.r fun N H v1 v2 ok r1 r2 Q q => ?_))
    cases r2
    cases r1 with
    | lst ha hn hr =>
      exact ⟨_, k, _, rfl, rfl, ha, by omega, by omega, size_small (by rw [hr.len]; exact h3), fun p hp => q _ _ _ (Ex.new hp) (.lst upd_same (ok.new hp) ((rg_rep hr _).ex (Ex.new hp))) h5⟩
  · exact h.elim
/-! ### == , is -/
def rEqA (K : PySem.W.Frag) : R2 := fun x y H Q => rEq x y H Q ∨ rEqD K x y H Q
def rNeA (K : PySem.W.Frag) : R2 := fun x y H Q => rNe x y H Q ∨ rNeD K x y H Q
theorem op_eqA {X : Cx} (hu : X.A.units + 64 < cLine) : OpR X (compareOp .Eq) (rEqA X.K) := OpR.or op_eq (op_eqD hu)
theorem op_neA {X : Cx} (hu : X.A.units + 64 < cLine) : OpR X (compareOp .NotEq) (rNeA X.K) := OpR.or op_ne (op_neD hu)
theorem opd_eqZ {x y : Str} : OpD rEq (.str x) (.str y) (· = .bool (decide (x = y))) := fun N H v1 v2 _ r1 r2 => by
  cases r1; cases r2
  refine res_rfl (.bl _) fun Q q => ⟨rfl, ?_⟩
  have : decide (V.str x = V.str y) = decide (x = y) := by simp
  rw [this]; exact q
def oEq : PyData → PyData → C PyData
  | .str x, .str y => fun P _ => P (.bool (decide (x = y)))
  | a, b => fun P _ => (SeqAt.shaped a = true ∧ SeqAt.shaped b = true) ∧ P (.bool (PyData.eqv a b))
def oNe : PyData → PyData → C PyData
  | .str x, .str y => fun P _ => P (.bool (!decide (x = y)))
  | a, b => fun P _ => (SeqAt.shaped a = true ∧ SeqAt.shaped b = true) ∧ P (.bool (!PyData.eqv a b))
theorem os_eq {K : PySem.W.Frag} : OpS (rEqA K) oEq := fun e1 e2 P X h => by
  unfold oEq at h
  split at h
  · exact OpD.l (OpD.of opd_eqZ h)
  · exact OpD.r (OpD.of (opd_eqD h.1.1 h.1.2) h.2)
theorem os_ne {K : PySem.W.Frag} : OpS (rNeA K) oNe := fun e1 e2 P X h => by
  unfold oNe at h
  split at h
  · exact OpD.l (OpD.of opd_neS h)
  · exact OpD.r (OpD.of (opd_neD h.1.1 h.1.2) h.2)
def isNon : PyData → Bool
  | .none => true
  | _ => false
def oIs : PyData → PyData → C PyData
  | e, .none => fun P _ => P (.bool (isNon e))
  | .bool a, .bool b => fun P _ => P (.bool (decide (a = b)))
  | _, _ => fun _ _ => False
def oIsNot : PyData → PyData → C PyData
  | e, .none => fun P _ => P (.bool (!isNon e))
  | .bool a, .bool b => fun P _ => P (.bool (!decide (a = b)))
  | _, _ => fun _ _ => False
def rIsA : R2 := fun x y H Q => rIsN x y H Q ∨ rIsB x y H Q
def rIsNotA : R2 := fun x y H Q => rNotN x y H Q ∨ rNotB x y H Q
theorem op_isA {X : Cx} : OpR X (compareOp .Is) rIsA := OpR.or op_isN1 op_isBl
theorem op_isNotA {X : Cx} : OpR X (compareOp .IsNot) rIsNotA := OpR.or op_notN1 op_notBl
theorem os_is : OpS rIsA oIs := fun e1 e2 P X h => by
  unfold oIs at h
  split at h
  · refine OpD.l (OpD.of (OpD.imp opd_isN fun e he => he) ?_)
    cases e1 <;> exact h
  · refine OpD.r fun N H v1 v2 ok r1 r2 Q q => ?_
    cases r1; cases r2
    exact ⟨_, _, rfl, rfl, q _ _ _ ex_refl (.bl _) h⟩
  · exact h.elim
theorem os_isNot : OpS rIsNotA oIsNot := fun e1 e2 P X h => by
  unfold oIsNot at h
  split at h
  · refine OpD.l (OpD.of (OpD.imp opd_notN fun e he => he) ?_)
    cases e1 <;> exact h
  · exact OpD.r (OpD.of opd_notB h)
  · exact h.elim
/-! ### items, slices -/
def oIt : PyData → PyData → C PyData
  | .tuple ds, .int i => fun P _ => match atI ds i with
    | some e => P e
    | none => False
  | .list ds, .int i => fun P _ => match atI ds i with
    | some e => P e
    | none => False
  | .str z, .int i => fun P _ => z.length ≤ 100000 ∧ match atI (cs z) i with
    | some k => P (.str ⟨#[k]⟩)
    | none => False
  | _, _ => fun _ _ => False
theorem os_it {K : PySem.W.Frag} : OpS (rIx K) oIt := fun e1 e2 P X h => by
  unfold oIt at h
  split at h
  · try dsimp only at h
    split at h
    · rename_i hi
      exact OpD.r (OpD.l (OpD.of (opd_ixT hi) h))
    · exact h.elim
  · try dsimp only at h
    split at h
    · rename_i hi
      exact OpD.l (OpD.of (opd_ixL hi) h)
    · exact h.elim
  · obtain ⟨hz, h⟩ := h
    split at h
    · rename_i hi
      refine OpD.r (OpD.r (OpD.of (fun N H v1 v2 _ r1 r2 => ?_) h))
      cases r1; cases r2
      exact res_rfl (.str _) fun Q q => ⟨_, _, _, rfl, rfl, size_small hz, hi, q⟩
    · exact h.elim
  · exact h.elim
def rSlX' (K : PySem.W.Frag) : V → Option Int → Option Int → Hp → VK → Prop := fun x lo hi H Q => rSlA K x lo hi H Q ∨ (rSlL K x lo hi H Q ∨ rSlS x lo hi H Q)
theorem sl_any {X : Cx} : SlR X (rSlX' X.K) := SlR.or sl_tupA (SlR.or sl_list sl_str)
def oSl : PyData → Option Int → Option Int → C PyData
  | .tuple ds, lo, hi => fun P _ => P (.tuple (DL.cutD ds lo hi))
  | .list ds, lo, hi => fun P _ => P (.list (DL.cutD ds lo hi))
  | .str z, lo, hi => fun P _ => z.length ≤ 100000 ∧ P (.str (cutS z lo hi))
  | _, _, _ => fun _ _ => False
theorem cut_all {N : Addr → Prop} {H : Hp} {xs : List V} {ds : List PyData} (hr : RgAll N H xs ds) (lo hi : Option Int) : RgAll N H (cutV xs lo hi) (DL.cutD ds lo hi) := by
  unfold cutV DL.cutD
  rw [hr.len]
  exact (hr.drop _).take _
theorem cut_whole {ds : List PyData} {n : Nat} {lo hi : Option Int} (hn : n = ds.length) (hw : HT.sIx n 0 lo = 0 ∧ HT.sIx n n hi = n) : DL.cutD ds lo hi = ds := by
  subst hn
  unfold DL.cutD
  rw [hw.1, hw.2, List.drop_zero, Nat.sub_zero, List.take_length]
theorem sls_any {K : PySem.W.Frag} : SlS (rSlX' K) oSl := fun e lo hi P X h N H v ok r Q q => by
  cases r with
  | @tup a xs ds hA hn hr =>
    have h : P (.tuple (DL.cutD ds lo hi)) := h
    refine .inl ⟨a, xs, rfl, .inl (.inl hA), fun hw => ?_, fun _ p hp => q _ _ _ (Ex.new hp) (.tup upd_same (ok.new hp) ((cut_all hr lo hi).ex (Ex.new hp))) h⟩
    rw [cut_whole hr.len hw] at h
    exact q _ _ _ ex_refl (.tup hA hn hr) h
  | @lst a xs ds hA hn hr =>
    have h : P (.list (DL.cutD ds lo hi)) := h
    exact .inr (.inl ⟨a, xs, rfl, .inl (.inl hA), fun p hp => q _ _ _ (Ex.new hp) (.lst upd_same (ok.new hp) ((cut_all hr _ _).ex (Ex.new hp))) h⟩)
  | str z =>
    have h : z.length ≤ 100000 ∧ P (.str (cutS z lo hi)) := h
    exact .inr (.inr ⟨_, rfl, size_small h.1, q _ _ _ ex_refl (.str _) h.2⟩)
  | _ => exact h.elim
/-! ### calls of built-ins -/
def rLenA (K : PySem.W.Frag) : List V → Hp → VK → Prop := fun xs H Q => TB.rLenQ K xs H Q ∨ ∃ z : Str, xs = [.str z] ∧ z.length ≤ sizeLine ∧ Q (.int z.length) H
theorem call_lenA {X : Cx} : CallR X (.builtin "len") (rLenA X.K) := CallR.or call_len_seq call_len_str
def oLn : List PyData → C PyData
  | [.tuple ds] => fun P _ => P (.int ds.length)
  | [.list ds] => fun P _ => P (.int ds.length)
  | [.str z] => fun P _ => z.length ≤ 100000 ∧ P (.int z.length)
  | _ => fun _ _ => False
theorem cas_len {K : PySem.W.Frag} : CaS (rLenA K) oLn := fun es P X h => by
  unfold oLn at h
  split at h
  · exact CaD.l (CaD.of cad_len h)
  · exact CaD.l (CaD.of cad_lenL h)
  · refine CaD.r (CaD.of (fun N H vs _ r => ?_) h.2)
    cases r with
    | cons r1 r2 =>
      cases r2; cases r1
      exact res_rfl (.int _) fun Q q => ⟨_, rfl, size_small h.1, q⟩
  · exact h.elim
def oTuple : List PyData → C PyData
  | [.tuple ds] => fun P _ => P (.tuple ds)
  | [.list ds] => fun P _ => P (.tuple ds)
  | _ => fun _ _ => False
theorem cas_tuple {K : PySem.W.Frag} : CaS (TB.rTupQ K) oTuple := fun es P X h => by
  unfold oTuple at h
  split at h
  · refine CaD.of (fun N H vs ok r Q q => ?_) h
    cases r with
    | cons r1 r2 =>
      cases r2
      cases r1 with
      | tup ha hn hr => exact ⟨_, _, rfl, .inr ⟨.inl (.inl ha), q _ _ _ ex_refl (.tup ha hn hr) rfl⟩⟩
  · exact CaD.of cad_tuple h
  · exact h.elim
def oList : List PyData → C PyData
  | [.tuple ds] => fun P _ => P (.list ds)
  | [.list ds] => fun P _ => P (.list ds)
  | _ => fun _ _ => False
theorem cas_list {K : PySem.W.Frag} : CaS (TB.rListQ K) oList := fun es P X h => by
  unfold oList at h
  split at h
  · exact CaD.of cad_list h
  · exact CaD.of cad_listL h
  · exact h.elim
def rStrA : List V → Hp → VK → Prop := fun xs H Q => (∃ i, xs = [.int i] ∧ i.natAbs.log2 < 1920 ∧ Q (.str (toString i)) H) ∨ ∃ a, xs = [.str a] ∧ Q (.str a) H
def oInt : List PyData → C PyData
  | [.int i] => fun P _ => P (.int i)
  | [.bool b] => fun P _ => P (.int (if b then 1 else 0))
  | _ => fun _ _ => False
theorem cas_int : CaS (fun xs H Q => (∃ i, xs = [.int i] ∧ Q (.int i) H) ∨ ∃ k, xs = [.bl k] ∧ Q (.int (if k then 1 else 0)) H) oInt := fun es P X h => by
  unfold oInt at h
  split at h
  · refine CaD.of (fun N H vs ok r => ?_) h
    cases r with
    | cons r1 r2 => cases r2; cases r1; exact res_rfl (.int _) fun Q q => .inl ⟨_, rfl, q⟩
  · refine CaD.of (fun N H vs ok r => ?_) h
    cases r with
    | cons r1 r2 => cases r2; cases r1; exact res_rfl (.int _) fun Q q => .inr ⟨_, rfl, q⟩
  · exact h.elim
def oBool : List PyData → C PyData
  | [.int i] => fun P _ => P (.bool (i != 0))
  | [.bool b] => fun P _ => P (.bool b)
  | _ => fun _ _ => False
theorem cas_bool : CaS (fun xs H Q => (∃ i, xs = [.int i] ∧ Q (.bl (i != 0)) H) ∨ ∃ k, xs = [.bl k] ∧ Q (.bl k) H) oBool := fun es P X h => by
  unfold oBool at h
  split at h
  · exact CaD.of cad_boolI h
  · refine CaD.of (fun N H vs ok r => ?_) h
    cases r with
    | cons r1 r2 => cases r2; cases r1; exact res_rfl (.bl _) fun Q q => .inr ⟨_, rfl, q⟩
  · exact h.elim
def oStr : List PyData → C PyData
  | [.int i] => fun P _ => i.natAbs.log2 < 1920 ∧ P (.str (numS i))
  | _ => fun _ _ => False
theorem cas_str : CaS (fun xs H Q => ∃ i, xs = [.int i] ∧ i.natAbs.log2 < 1920 ∧ Q (.str (toString i)) H) oStr := fun es P X h => by
  unfold oStr at h
  split at h
  · exact CaD.of (cad_strI h.1) h.2
  · exact h.elim
def oAbs : List PyData → C PyData
  | [.int i] => fun P _ => P (.int (if i < 0 then -i else i))
  | _ => fun _ _ => False
theorem cas_abs : CaS (fun xs H Q => ∃ i, xs = [.int i] ∧ Q (.int (if i < 0 then -i else i)) H) oAbs := fun es P X h => by
  unfold oAbs at h
  split at h
  · refine CaD.of (fun N H vs ok r => ?_) h
    cases r with
    | cons r1 r2 => cases r2; cases r1; exact res_rfl (.int _) fun Q q => ⟨_, rfl, q⟩
  · exact h.elim
def oMax2 : List PyData → C PyData
  | [.int i, .int j] => fun P _ => P (.int (if j > i then j else i))
  | _ => fun _ _ => False
def oMin2 : List PyData → C PyData
  | [.int i, .int j] => fun P _ => P (.int (if j < i then j else i))
  | _ => fun _ _ => False
theorem cas_max2 : CaS (fun xs H Q => ∃ i j, xs = [.int i, .int j] ∧ Q (.int (if j > i then j else i)) H) oMax2 := fun es P X h => by
  unfold oMax2 at h
  split at h
  · refine CaD.of (fun N H vs ok r => ?_) h
    cases r with
    | cons r1 r2 => cases r2 with
      | cons r2 r3 => cases r3; cases r1; cases r2; exact res_rfl (.int _) fun Q q => ⟨_, _, rfl, q⟩
  · exact h.elim
theorem cas_min2 : CaS (fun xs H Q => ∃ i j, xs = [.int i, .int j] ∧ Q (.int (if j < i then j else i)) H) oMin2 := fun es P X h => by
  unfold oMin2 at h
  split at h
  · refine CaD.of (fun N H vs ok r => ?_) h
    cases r with
    | cons r1 r2 => cases r2 with
      | cons r2 r3 => cases r3; cases r1; cases r2; exact res_rfl (.int _) fun Q q => ⟨_, _, rfl, q⟩
  · exact h.elim
def oGcd : List PyData → C PyData
  | [.int i, .int j] => fun P _ => P (.int ((Nat.gcd i.natAbs j.natAbs : Nat) : Int))
  | _ => fun _ _ => False
theorem cas_gcd : CaS rGcd oGcd := fun es P X h => by
  unfold oGcd at h
  split at h
  · refine CaD.of (fun N H vs ok r => ?_) h
    cases r with
    | cons r1 r2 => cases r2 with
      | cons r2 r3 => cases r3; cases r1; cases r2; exact res_rfl (.int _) fun Q q => ⟨_, _, rfl, q⟩
  · exact h.elim
def oRepr : List PyData → C PyData
  | [d] => fun P _ => (okD d = true ∧ d.showable = true ∧ d.depth < 60 ∧ d.shown.length ≤ sizeLine) ∧ P (.str d.shown)
  | _ => fun _ _ => False
theorem cas_repr : CaS rReprD oRepr := fun es P X h => by
  unfold oRepr at h
  split at h
  · exact CaD.of (cad_repr h.1.1 h.1.2.1 h.1.2.2.1 h.1.2.2.2) h.2
  · exact h.elim
/-- lists of numbers -/
def intsOf : List PyData → Option (List Int)
  | [] => some []
  | .int i :: ds => (intsOf ds).map (i :: ·)
  | _ => none
theorem intsOf_eq : ∀ {ds : List PyData} {ns : List Int}, intsOf ds = some ns → ds = ns.map PyData.int
  | [], _, h => by cases h; rfl
  | .int i :: ds, ns, h => by
    rw [intsOf] at h
    obtain ⟨ms, h1, rfl⟩ := Option.map_eq_some_iff.mp h
    rw [intsOf_eq h1]; rfl
  | .none :: _, _, h => by simp [intsOf] at h
  | .bool _ :: _, _, h => by simp [intsOf] at h
  | .str _ :: _, _, h => by simp [intsOf] at h
  | .list _ :: _, _, h => by simp [intsOf] at h
  | .tuple _ :: _, _, h => by simp [intsOf] at h
  | .dict _ :: _, _, h => by simp [intsOf] at h
theorem intsOf_map : ∀ ns : List Int, intsOf (ns.map PyData.int) = some ns
  | [] => rfl
  | n :: ns => by rw [List.map_cons, intsOf, intsOf_map ns]; rfl
def boolsOf : List PyData → Option (List Bool)
  | [] => some []
  | .bool i :: ds => (boolsOf ds).map (i :: ·)
  | _ => none
theorem boolsOf_eq : ∀ {ds : List PyData} {ns : List Bool}, boolsOf ds = some ns → ds = ns.map PyData.bool
  | [], _, h => by cases h; rfl
  | .bool i :: ds, ns, h => by
    rw [boolsOf] at h
    obtain ⟨ms, h1, rfl⟩ := Option.map_eq_some_iff.mp h
    rw [boolsOf_eq h1]; rfl
  | .none :: _, _, h => by simp [boolsOf] at h
  | .int _ :: _, _, h => by simp [boolsOf] at h
  | .str _ :: _, _, h => by simp [boolsOf] at h
  | .list _ :: _, _, h => by simp [boolsOf] at h
  | .tuple _ :: _, _, h => by simp [boolsOf] at h
  | .dict _ :: _, _, h => by simp [boolsOf] at h
theorem boolsOf_map : ∀ ns : List Bool, boolsOf (ns.map PyData.bool) = some ns
  | [] => rfl
  | n :: ns => by rw [List.map_cons, boolsOf, boolsOf_map ns]; rfl
theorem rgBools_inv {N : Addr → Prop} {H : Hp} : ∀ {ns : List Bool} {zs : List V}, RgAll N H zs (ns.map PyData.bool) → zs = ns.map V.bl
  | [], _, h => by cases h; rfl
  | n :: ns, _, h => by
    cases h with
    | cons q t => cases q; rw [rgBools_inv t]; rfl
def oSum : List PyData → C PyData
  | [.list ds] => fun P _ => match intsOf ds with
    | some ns => P (.int ns.sum)
    | none => False
  | _ => fun _ _ => False
theorem cas_sum {K : PySem.W.Frag} : CaS (rSum K) oSum := fun es P X h => by
  unfold oSum at h
  split at h
  · try dsimp only at h
    split at h
    · rename_i hn
      have e := intsOf_eq hn
      subst e
      refine CaD.of (fun N H vs ok r => ?_) h
      cases r with
      | cons r1 r2 =>
        cases r2
        cases r1 with
        | lst ha hn hr =>
          have := rgInts_inv hr
          subst this
          exact res_rfl (.int _) fun Q q => ⟨_, _, rfl, .inl (.inl ha), q⟩
    · exact h.elim
  · exact h.elim
def oAll : List PyData → C PyData
  | [.list ds] => fun P _ => match boolsOf ds with
    | some ns => P (.bool (ns.all id))
    | none => False
  | _ => fun _ _ => False
def oAny : List PyData → C PyData
  | [.list ds] => fun P _ => match boolsOf ds with
    | some ns => P (.bool (ns.any id))
    | none => False
  | _ => fun _ _ => False
theorem cas_all {K : PySem.W.Frag} : CaS (rAll K) oAll := fun es P X h => by
  unfold oAll at h
  split at h
  · try dsimp only at h
    split at h
    · rename_i hn
      have e := boolsOf_eq hn
      subst e
      refine CaD.of (fun N H vs ok r => ?_) h
      cases r with
      | cons r1 r2 =>
        cases r2
        cases r1 with
        | lst ha hn hr =>
          have := rgBools_inv hr
          subst this
          exact res_rfl (.bl _) fun Q q => ⟨_, _, rfl, .inl (.inl ha), q⟩
    · exact h.elim
  · exact h.elim
theorem cas_any {K : PySem.W.Frag} : CaS (rAny K) oAny := fun es P X h => by
  unfold oAny at h
  split at h
  · try dsimp only at h
    split at h
    · rename_i hn
      have e := boolsOf_eq hn
      subst e
      refine CaD.of (fun N H vs ok r => ?_) h
      cases r with
      | cons r1 r2 =>
        cases r2
        cases r1 with
        | lst ha hn hr =>
          have := rgBools_inv hr
          subst this
          exact res_rfl (.bl _) fun Q q => ⟨_, _, rfl, .inl (.inl ha), q⟩
    · exact h.elim
  · exact h.elim
def maxI : List Int → Int
  | [] => 0
  | [x] => x
  | x :: y :: r => if maxI (y :: r) > x then maxI (y :: r) else x
def minI : List Int → Int
  | [] => 0
  | [x] => x
  | x :: y :: r => if minI (y :: r) < x then minI (y :: r) else x
theorem maxI_spec : ∀ {l : List Int}, l ≠ [] → maxI l ∈ l ∧ ∀ y ∈ l, y ≤ maxI l
  | [], h => absurd rfl h
  | [x], _ => ⟨List.mem_singleton.mpr rfl, fun y hy => by rw [List.mem_singleton.mp hy]; exact Int.le_refl _⟩
  | x :: y :: r, _ => by
    obtain ⟨a, b⟩ := maxI_spec (l := y :: r) (by simp)
    unfold maxI
    split
    · exact ⟨List.mem_cons_of_mem _ a, fun z hz => by
        rcases List.mem_cons.mp hz with rfl | hz
        · omega
        · exact b z hz⟩
    · exact ⟨List.mem_cons_self, fun z hz => by
        rcases List.mem_cons.mp hz with rfl | hz
        · exact Int.le_refl _
        · have := b z hz; omega⟩
theorem minI_spec : ∀ {l : List Int}, l ≠ [] → minI l ∈ l ∧ ∀ y ∈ l, minI l ≤ y
  | [], h => absurd rfl h
  | [x], _ => ⟨List.mem_singleton.mpr rfl, fun y hy => by rw [List.mem_singleton.mp hy]; exact Int.le_refl _⟩
  | x :: y :: r, _ => by
    obtain ⟨a, b⟩ := minI_spec (l := y :: r) (by simp)
    unfold minI
    split
    · exact ⟨List.mem_cons_of_mem _ a, fun z hz => by
        rcases List.mem_cons.mp hz with rfl | hz
        · omega
        · exact b z hz⟩
    · exact ⟨List.mem_cons_self, fun z hz => by
        rcases List.mem_cons.mp hz with rfl | hz
        · exact Int.le_refl _
        · have := b z hz; omega⟩
def oMax1 : List PyData → C PyData
  | [.list ds] => fun P _ => match intsOf ds with
    | some ns => ns ≠ [] ∧ P (.int (maxI ns))
    | none => False
  | _ => fun _ _ => False
def oMin1 : List PyData → C PyData
  | [.list ds] => fun P _ => match intsOf ds with
    | some ns => ns ≠ [] ∧ P (.int (minI ns))
    | none => False
  | _ => fun _ _ => False
theorem cas_max1 {K : PySem.W.Frag} : CaS (rMax K) oMax1 := fun es P X h => by
  unfold oMax1 at h
  split at h
  · try dsimp only at h
    split at h
    · rename_i ns hn
      have e := intsOf_eq hn
      subst e
      refine CaD.of (fun N H vs ok r => ?_) h.2
      cases r with
      | cons r1 r2 =>
        cases r2
        cases r1 with
        | lst ha hn' hr =>
          have := rgInts_inv hr
          subst this
          refine res_rfl (.int _) fun Q q => ⟨_, ns, rfl, .inl (.inl ha), List.length_pos_iff.mpr h.1, fun m hm hy => ?_⟩
          obtain ⟨a, b⟩ := maxI_spec h.1
          have : m = maxI ns := by have := b m hm; have := hy _ a; omega
          rw [this]; exact q
    · exact h.elim
  · exact h.elim
theorem cas_min1 {K : PySem.W.Frag} : CaS (rMin K) oMin1 := fun es P X h => by
  unfold oMin1 at h
  split at h
  · try dsimp only at h
    split at h
    · rename_i ns hn
      have e := intsOf_eq hn
      subst e
      refine CaD.of (fun N H vs ok r => ?_) h.2
      cases r with
      | cons r1 r2 =>
        cases r2
        cases r1 with
        | lst ha hn' hr =>
          have := rgInts_inv hr
          subst this
          refine res_rfl (.int _) fun Q q => ⟨_, ns, rfl, .inl (.inl ha), List.length_pos_iff.mpr h.1, fun m hm hy => ?_⟩
          obtain ⟨a, b⟩ := minI_spec h.1
          have : m = minI ns := by have := b m hm; have := hy _ a; omega
          rw [this]; exact q
    · exact h.elim
  · exact h.elim
/-- isinstance(e, T) -/
def mIsi (T : String) (a : DE) : DE := fun r P X => a r (fun e => P (.bool (isA T e))) X
theorem se_isi {c : Ct} {K : PySem.W.Frag} {te : TE} {m : DE} {T : String} (hk : ∀ e, PySem.W.kitOne K (.type (tyN e)) (.type T) = some (isA T e)) (ha : SE c te m) : SE c (tCB (rIsi K) (tCons te (tCons (tC (.ty T)) tNil))) (mIsi T m) := fun H0 r τ l σ H S P X h hX Q k =>
  ha H0 r τ l σ H S _ X h hX _ fun v d H1 S1 p => by
    obtain ⟨N, n3, n5, q⟩ := S1.ext
    exact ⟨v, .ty T, .type (tyN d), .type T, isA T d, rfl, .ty T, tyX_of (n5 _ List.mem_cons_self), hk d, k _ (.bool (isA T d)) H1 (S1.pop.sc fun _ => .bl _) p⟩
end MI
set_option Elab.async false
set_option linter.all false
set_option maxRecDepth 100000
/-! A mirror of the text in plain data: zip, enumerate, range by steps, three clauses; calls by names. -/
namespace MI
open PySem PySem.Spec PyProof.Rows L2 Evl TB DL
theorem pi_seq {X : Cx} {tg l : Expr} {tl : TE} (hl : PE X l tl) : PI X tg l (iSeq X.K tl) := by
  refine ⟨fun pins s σ H R I h => ?_⟩
  refine thn (hl.run pins s σ H _ I h) fun v s1 ⟨x, H1, I1, r1, q1⟩ => ?_
  obtain ⟨a, e, q1⟩ := q1
  subst e
  cases r1
  have fin : ∀ b ∈ [s1.heap.objs.size], FpOk X pins H1 b := fun b hb => by
    have e : b = s1.heap.objs.size := by simpa using hb
    subst e
    exact I1.fpOk (Nat.le_refl _) (I1.hok.fresh (Nat.le_refl _))
  rcases q1 with ⟨⟨xs, hq⟩, q⟩ | ⟨⟨xs, hq⟩, q⟩
  · obtain ⟨its, rv, p, hz⟩ := I1.list hq
    refine wpAny_pyIter_list p.isList ?_
    exact ⟨s1.heap.objs.size, [s1.heap.objs.size], _, _, H1, rfl, I1.kept (t' := s1.toks) fun b o e => Heap.get?_push_of_some _ e, turn_list a _, ⟨_, Heap.get?_push_size _ rfl, rfl, rfl⟩, fin, q⟩
  · obtain ⟨its, rv, p, hz⟩ := I1.tuple hq
    refine wpAny_pyIter_tuple (show s1.heap.IsTuple a its.toArray from p) ?_
    exact ⟨s1.heap.objs.size, [s1.heap.objs.size], _, _, H1, rfl, I1.kept (t' := s1.toks) fun b o e => Heap.get?_push_of_some _ e, turn_tuple a _, ⟨_, Heap.get?_push_size _ rfl, rfl, rfl⟩, fin, q⟩
/-- the items of a list or a tuple -/
def seqOf : PyData → Option (List PyData)
  | .list ds => some ds
  | .tuple ds => some ds
  | _ => none
/-- a sequence held fast: it is the same in every state over the new base -/
theorem hold_seq {c : Ct} {K : PySem.W.Frag} {H0 H : Hp} {ρ : List (Option Sl)} {τ : List (V × PyData)} {l : List (Addr × List PyData)} {σ : L2.St} {v : V} {e : PyData} {ds : List PyData} (S : DL.St c.W H0 ρ ((v, e) :: τ) l σ H) (he : seqOf e = some ds) :
    ∃ a κ xs H0' o, v = .ref a ∧ H a = some o ∧ xs.length = ds.length ∧ ¬ c.W.N a ∧ H0' = upd H0 a o ∧ (∀ b o, H0 b = some o → ¬ c.W.N b → H0' b = some o) ∧ (∀ b, H0' b = none → H0 b = none) ∧ (∀ H', H' a = some o → ZP.SqV κ K H' a xs) ∧
      (∀ N H', H' a = some o → Rg N H' v e → RgAll N H' xs ds) ∧ DL.St c.W H0' ρ ((v, e) :: τ) l σ H := by
  cases e with
  | list es =>
    cases he
    obtain ⟨a, xs, rfl, hA, hlen, hna, u1, u2, B⟩ := S.baseL
    exact ⟨a, true, xs, _, _, rfl, hA, hlen, hna, rfl, u1, u2, fun H' h => .inl (.inl h), fun N H' h r => by
      cases r with
      | lst q1 q2 q3 => rw [h] at q1; cases q1; exact q3, B⟩
  | tuple es =>
    cases he
    obtain ⟨a, xs, rfl, hA, hlen, hna, u1, u2, B⟩ := S.baseT
    exact ⟨a, false, xs, _, _, rfl, hA, hlen, hna, rfl, u1, u2, fun H' h => .inl (.inl h), fun N H' h r => by
      cases r with
      | tup q1 q2 q3 => rw [h] at q1; cases q1; exact q3, B⟩
  | _ => cases he
def zip2D : List PyData → List PyData → List PyData
  | a :: as, b :: bs => .tuple [a, b] :: zip2D as bs
  | _, _ => []
def zip3D : List PyData → List PyData → List PyData → List PyData
  | a :: as, b :: bs, d :: ds => .tuple [a, b, d] :: zip3D as bs ds
  | _, _, _ => []
theorem zip2D_len : ∀ as bs, (zip2D as bs).length = min as.length bs.length
  | [], _ => by simp [zip2D]
  | _ :: _, [] => by simp [zip2D]
  | a :: as, b :: bs => by simp only [zip2D, List.length_cons, zip2D_len as bs]; omega
theorem zip3D_len : ∀ as bs ds, (zip3D as bs ds).length = min as.length (min bs.length ds.length)
  | [], _, _ => by simp [zip3D]
  | _ :: _, [], _ => by simp [zip3D]
  | _ :: _, _ :: _, [] => by simp [zip3D]
  | a :: as, b :: bs, d :: ds => by simp only [zip3D, List.length_cons, zip3D_len as bs ds]; omega
theorem zip2D_get : ∀ (as bs : List PyData) (i : Nat) (t : PyData), (zip2D as bs)[i]? = some t → ∃ a b, as[i]? = some a ∧ bs[i]? = some b ∧ t = .tuple [a, b]
  | [], _, _, _, h => by simp [zip2D] at h
  | _ :: _, [], _, _, h => by simp [zip2D] at h
  | a :: as, b :: bs, 0, t, h => by simp [zip2D] at h; exact ⟨a, b, rfl, rfl, h.symm⟩
  | a :: as, b :: bs, i + 1, t, h => by
    simp only [zip2D, List.getElem?_cons_succ] at h ⊢
    exact zip2D_get as bs i t h
theorem zip3D_get : ∀ (as bs ds : List PyData) (i : Nat) (t : PyData), (zip3D as bs ds)[i]? = some t → ∃ a b d, as[i]? = some a ∧ bs[i]? = some b ∧ ds[i]? = some d ∧ t = .tuple [a, b, d]
  | [], _, _, _, _, h => by simp [zip3D] at h
  | _ :: _, [], _, _, _, h => by simp [zip3D] at h
  | _ :: _, _ :: _, [], _, _, h => by simp [zip3D] at h
  | a :: as, b :: bs, d :: ds, 0, t, h => by simp [zip3D] at h; exact ⟨a, b, d, rfl, rfl, rfl, h.symm⟩
  | a :: as, b :: bs, d :: ds, i + 1, t, h => by
    simp only [zip3D, List.getElem?_cons_succ] at h ⊢
    exact zip3D_get as bs ds i t h
def iZ2 (a b : DE) : DI := fun r P X => a r (fun x => b r (fun y => match seqOf x, seqOf y with
  | some xs, some ys => P (zip2D xs ys)
  | _, _ => False) X) X
def iZ3 (a b d : DE) : DI := fun r P X => a r (fun x => b r (fun y => d r (fun z => match seqOf x, seqOf y, seqOf z with
  | some xs, some ys, some zs => P (zip3D xs ys zs)
  | _, _, _ => False) X) X) X
section
variable {c : Ct} {K : PySem.W.Frag} {te ta tb td : TE} {me ma mb md : DE}
theorem si_zip2 (ha : SE c ta ma) (hb : SE c tb mb) : SI c (ZP.iZip2 K (tCons ta (tCons tb tNil))) (iZ2 ma mb) := fun H0 r τ l σ H S P X h hX R k =>
  ha H0 r τ l σ H S _ X h hX _ fun v e H1 S1 p => hb H0 r _ l σ H1 S1 _ X p hX.more _ fun w e2 H2 S2 p2 => by
    try dsimp only at p2
    split at p2
    · rename_i xs ys hx hy
      have T1 : DL.St c.W H0 _ ((v, e) :: (w, e2) :: τ) _ σ H2 := S2.st.mono fun p hp => by
        simp only [List.mem_cons] at hp ⊢
        rcases hp with hp | hp | hp
        · exact .inr (.inl hp)
        · exact .inl hp
        · exact .inr (.inr hp)
      obtain ⟨a, κ1, vs1, B1, o1, rfl, ha1, hl1, hn1, eB1, u1, d1, q1, g1, T2⟩ := hold_seq (K := K) T1 hx
      have T3 : DL.St c.W B1 _ ((w, e2) :: (.ref a, e) :: τ) _ σ H2 := T2.mono fun p hp => by
        simp only [List.mem_cons] at hp ⊢
        rcases hp with hp | hp | hp
        · exact .inr (.inl hp)
        · exact .inl hp
        · exact .inr (.inr hp)
      obtain ⟨b, κ2, vs2, B2, o2, rfl, hb1, hl2, hn2, eB2, u2, d2, q2, g2, T4⟩ := hold_seq (K := K) T3 hy
      have k2 : ∀ {H' ρ τ l σ}, DL.St c.W B2 ρ τ l σ H' → H' b = some o2 := fun {H' ρ τ l σ} S => S.off b o2 (by rw [eB2]; exact upd_same) hn2
      have k1 : ∀ {H' ρ τ l σ}, DL.St c.W B2 ρ τ l σ H' → H' a = some o1 := fun {H' ρ τ l σ} S => S.off a o1 (u2 a o1 (by rw [eB1]; exact upd_same) hn1) hn1
      refine ⟨a, b, κ1, κ2, vs1, vs2, rfl, q1 _ ha1, q2 _ hb1, k _ (zip2D xs ys) [(.ref b, e2), (.ref a, e)] B2 H2 ⟨fun b o h n => u2 b o (u1 b o h n) n, fun b h => d1 b (d2 b h), fun H => H a = some o1 ∧ H b = some o2, fun i H v H' => ∃ T x y, v = .ref T ∧ H T = none ∧ H' = upd H T (.tup [x, y]) ∧ vs1[i]? = some x ∧ vs2[i]? = some y, ?_, fun ρ τ l σ H S => ?_, fun i ρ τ l σ H x H' d S y hd => ?_⟩ ⟨S2.fit, T4⟩ p2⟩
      · refine (ZP.walk_zip2 (n := (zip2D xs ys).length) (by rw [zip2D_len, hl1, hl2])).mono (fun H h => ⟨q1 H h.1, q2 H h.2⟩) fun i H x H' _ _ y => y
      · exact ⟨k1 S, k2 S⟩
      · obtain ⟨T, x1, x2, rfl, hT, rfl, y1, y2⟩ := y
        obtain ⟨d1, d2, e1, e2', rfl⟩ := zip2D_get _ _ _ _ hd
        obtain ⟨N, n3, n5, n4, q⟩ := S.ext
        refine q _ _ (Ex.new hT) fun p hp => ?_
        rcases List.mem_cons.mp hp with rfl | hp
        · have r1 := g1 N _ (k1 S) (n5 (.ref a, e) (by simp))
          have r2 := g2 N _ (k2 S) (n5 (.ref b, e2) (by simp))
          obtain ⟨z1, w1, s1⟩ := r1.get y1
          obtain ⟨z2, w2, s2⟩ := r2.get y2
          rw [e1] at w1; cases w1
          rw [e2'] at w2; cases w2
          exact .tup upd_same (n3.new hT) (.cons (s1.ex (Ex.new hT)) (.cons (s2.ex (Ex.new hT)) .nil))
        · exact (n5 p hp).ex (Ex.new hT)
    · exact p2.elim
theorem si_zip3 (ha : SE c ta ma) (hb : SE c tb mb) (hd : SE c td md) : SI c (ZP.iZip3 K (tCons ta (tCons tb (tCons td tNil)))) (iZ3 ma mb md) := fun H0 r τ l σ H S P X h hX R k =>
  ha H0 r τ l σ H S _ X h hX _ fun v e H1 S1 p => hb H0 r _ l σ H1 S1 _ X p hX.more _ fun w e2 H2 S2 p2 => hd H0 r _ l σ H2 S2 _ X p2 hX.more.more _ fun z e3 H3 S3 p3 => by
    try dsimp only at p3
    split at p3
    · rename_i xs ys zs hx hy hz
      have T1 : DL.St c.W H0 _ ((v, e) :: (w, e2) :: (z, e3) :: τ) _ σ H3 := S3.st.mono fun p hp => by
        simp only [List.mem_cons] at hp ⊢
        rcases hp with hp | hp | hp | hp
        · exact .inr (.inr (.inl hp))
        · exact .inr (.inl hp)
        · exact .inl hp
        · exact .inr (.inr (.inr hp))
      obtain ⟨a, κ1, vs1, B1, o1, rfl, ha1, hl1, hn1, eB1, u1, d1, q1, g1, T2⟩ := hold_seq (K := K) T1 hx
      have T3 : DL.St c.W B1 _ ((w, e2) :: (z, e3) :: (.ref a, e) :: τ) _ σ H3 := T2.mono fun p hp => by
        simp only [List.mem_cons] at hp ⊢
        rcases hp with hp | hp | hp | hp
        · exact .inr (.inl hp)
        · exact .inr (.inr (.inl hp))
        · exact .inl hp
        · exact .inr (.inr (.inr hp))
      obtain ⟨b, κ2, vs2, B2, o2, rfl, hb1, hl2, hn2, eB2, u2, d2, q2, g2, T4⟩ := hold_seq (K := K) T3 hy
      have T5 : DL.St c.W B2 _ ((z, e3) :: (.ref b, e2) :: (.ref a, e) :: τ) _ σ H3 := T4.mono fun p hp => by
        simp only [List.mem_cons] at hp ⊢
        rcases hp with hp | hp | hp | hp
        · exact .inr (.inl hp)
        · exact .inl hp
        · exact .inr (.inr (.inl hp))
        · exact .inr (.inr (.inr hp))
      obtain ⟨f, κ3, vs3, B3, o3, rfl, hf1, hl3, hn3, eB3, u3, d3, q3, g3, T6⟩ := hold_seq (K := K) T5 hz
      have k3 : ∀ {H' ρ τ l σ}, DL.St c.W B3 ρ τ l σ H' → H' f = some o3 := fun {H' ρ τ l σ} S => S.off f o3 (by rw [eB3]; exact upd_same) hn3
      have k2 : ∀ {H' ρ τ l σ}, DL.St c.W B3 ρ τ l σ H' → H' b = some o2 := fun {H' ρ τ l σ} S => S.off b o2 (u3 b o2 (by rw [eB2]; exact upd_same) hn2) hn2
      have k1 : ∀ {H' ρ τ l σ}, DL.St c.W B3 ρ τ l σ H' → H' a = some o1 := fun {H' ρ τ l σ} S => S.off a o1 (u3 a o1 (u2 a o1 (by rw [eB1]; exact upd_same) hn1) hn1) hn1
      refine ⟨a, b, f, κ1, κ2, κ3, vs1, vs2, vs3, rfl, q1 _ ha1, q2 _ hb1, q3 _ hf1, k _ (zip3D xs ys zs) [(.ref f, e3), (.ref b, e2), (.ref a, e)] B3 H3 ⟨fun b o h n => u3 b o (u2 b o (u1 b o h n) n) n, fun b h => d1 b (d2 b (d3 b h)), fun H => H a = some o1 ∧ H b = some o2 ∧ H f = some o3,
        fun i H v H' => ∃ T x y z, v = .ref T ∧ H T = none ∧ H' = upd H T (.tup [x, y, z]) ∧ vs1[i]? = some x ∧ vs2[i]? = some y ∧ vs3[i]? = some z, ?_, fun ρ τ l σ H S => ?_, fun i ρ τ l σ H x H' d S y hd => ?_⟩ ⟨S3.fit, T6⟩ p3⟩
      · refine (ZP.walk_zip3 (n := (zip3D xs ys zs).length) (by rw [zip3D_len, hl1, hl2, hl3])).mono (fun H h => ⟨q1 H h.1, q2 H h.2.1, q3 H h.2.2⟩) fun i H x H' _ _ y => y
      · exact ⟨k1 S, k2 S, k3 S⟩
      · obtain ⟨T, x1, x2, x3, rfl, hT, rfl, y1, y2, y3⟩ := y
        obtain ⟨d1, d2, d3, e1, e2', e3', rfl⟩ := zip3D_get _ _ _ _ _ hd
        obtain ⟨N, n3, n5, n4, q⟩ := S.ext
        refine q _ _ (Ex.new hT) fun p hp => ?_
        rcases List.mem_cons.mp hp with rfl | hp
        · have r1 := g1 N _ (k1 S) (n5 (.ref a, e) (by simp))
          have r2 := g2 N _ (k2 S) (n5 (.ref b, e2) (by simp))
          have r3 := g3 N _ (k3 S) (n5 (.ref f, e3) (by simp))
          obtain ⟨z1, w1, s1⟩ := r1.get y1
          obtain ⟨z2, w2, s2⟩ := r2.get y2
          obtain ⟨z3, w3, s3⟩ := r3.get y3
          rw [e1] at w1; cases w1
          rw [e2'] at w2; cases w2
          rw [e3'] at w3; cases w3
          exact .tup upd_same (n3.new hT) (.cons (s1.ex (Ex.new hT)) (.cons (s2.ex (Ex.new hT)) (.cons (s3.ex (Ex.new hT)) .nil)))
        · exact (n5 p hp).ex (Ex.new hT)
    · exact p3.elim
/-! ### enumerate -/
def enumD (n : Nat) : List PyData → List PyData
  | [] => []
  | d :: ds => .tuple [.int n, d] :: enumD (n + 1) ds
theorem enumD_len : ∀ (n : Nat) ds, (enumD n ds).length = ds.length
  | _, [] => rfl
  | n, d :: ds => by simp only [enumD, List.length_cons, enumD_len (n + 1) ds]
theorem enumD_get : ∀ (n : Nat) (ds : List PyData) (i : Nat) (t : PyData), (enumD n ds)[i]? = some t → ∃ d, ds[i]? = some d ∧ t = .tuple [.int (n + i : Nat), d]
  | _, [], _, _, h => by simp [enumD] at h
  | n, d :: ds, 0, t, h => by simp [enumD] at h; exact ⟨d, rfl, h.symm⟩
  | n, d :: ds, i + 1, t, h => by
    simp only [enumD, List.getElem?_cons_succ] at h ⊢
    obtain ⟨d', h1, h2⟩ := enumD_get (n + 1) ds i t h
    exact ⟨d', h1, by rw [h2]; congr 3; omega⟩
def iEn (a : DE) : DI := fun r P X => a r (fun x => match seqOf x with
  | some xs => P (enumD 0 xs)
  | none => False) X
def iEnumA (K : PySem.W.Frag) (ta : TA) : TI := fun σ H R => ta σ H fun vs H1 => ∃ a xs, vs = [.ref a] ∧ ((SqL K H1 a xs ∧ R (Ite K a) H1) ∨ (SqT K H1 a xs ∧ R (EN.IteT K a) H1))
end
theorem pi_enumA {X : Cx} {e : Expr} {ta : TA} {p pos tpos : Pos} {elts : List Expr} {kk : Nat} (hg : Gl X "enumerate") (hm : X.mg "enumerate" = none) (ha : PA X [e] ta) (hs : starEach [e] X.env = [(false, eval e X.env)] := by rfl) :
    PI X (.Tuple elts kk tpos) (.Call (.Name "enumerate" p) [e] [] pos) (iEnumA X.K ta) := by
  refine ⟨fun pins s σ H R I h => ?_⟩
  refine Call_ (ld_blt I hg hm boot_enumerate (PyProof.Rows.callWith_type1 (thn (ha.run pos pins s σ H _ I h) fun us s1 ⟨vs, H1, I1, r1, q1⟩ => ?_) hs rfl))
  obtain ⟨a, xs, ex, q1⟩ := q1
  subst ex
  cases r1 with
  | cons r rr =>
    cases rr
    cases r
    have fin : ∀ b ∈ [s1.heap.objs.size + 1, s1.heap.objs.size], FpOk X pins H1 b := fun b hb => by
      have e' : b = s1.heap.objs.size + 1 ∨ b = s1.heap.objs.size := by simpa using hb
      have hle : s1.heap.objs.size ≤ b := by
        rcases e' with z | z
        · rw [z]; exact Nat.le_add_right _ _
        · rw [z]; exact Nat.le_refl _
      exact I1.fpOk hle (I1.hok.fresh hle)
    rcases q1 with ⟨hq, q⟩ | ⟨hq, q⟩
    · obtain ⟨its, rv, p', hz⟩ := I1.list hq
      refine call_enumerate_list p'.isList fun h' he hit hsz hk => wpAny_pyIter_enum he ?_
      have I2 : Inv X pins σ H1 { s1 with heap := h' } := I1.kept (t' := s1.toks) hk
      exact ⟨s1.heap.objs.size + 1, [s1.heap.objs.size + 1, s1.heap.objs.size], _, _, H1, rfl, I2, turn_enum a (s1.heap.objs.size + 1) s1.heap.objs.size, ⟨⟨.none, he⟩, hit, Nat.succ_ne_self _⟩, fin, q⟩
    · obtain ⟨its, rv, p', hz⟩ := I1.tuple hq
      have ha' : a < s1.heap.objs.size := by obtain ⟨o1, ho1, _⟩ := id p'; exact Heap.lt_size ho1
      refine EN.call_enumT (show s1.heap.IsTuple a its.toArray from p') fun h' he hit hsz hk => wpAny_pyIter_enum he ?_
      have I2 : Inv X pins σ H1 { s1 with heap := h' } := I1.kept (t' := s1.toks) hk
      exact ⟨s1.heap.objs.size + 1, [s1.heap.objs.size + 1, s1.heap.objs.size], _, _, H1, rfl, I2, EN.turn_enumT a (s1.heap.objs.size + 1) s1.heap.objs.size, ⟨⟨.none, he⟩, hit, Nat.succ_ne_self _, Nat.ne_of_lt (Nat.lt_succ_of_lt ha'), Nat.ne_of_lt ha'⟩, fin, q⟩
theorem walk_enumT {K : PySem.W.Frag} {a : Addr} {xs : List V} : Walk (EN.IteT K a) xs.length (fun H => SqT K H a xs) (YPair (fun i => some (.int (i : Nat))) (fun i => xs[i]?)) := by
  refine ⟨fun i _ hi q => ⟨xs, xs[i], q, by simp [hi]⟩, fun _ q => ⟨xs, q, Nat.le_refl _⟩, fun i H v H' _ q y => ?_⟩
  obtain ⟨T, x, h1, h2, h3, h4⟩ := y
  exact ⟨T, .int (i : Nat), x, h1, h2, h3, rfl, h4 xs q⟩
section
variable {c : Ct} {K : PySem.W.Frag} {te ta tb td : TE} {me ma mb md : DE}
theorem si_enum (ha : SE c ta ma) : SI c (iEnumA K (tCons ta tNil)) (iEn ma) := fun H0 r τ l σ H S P X h hX R k =>
  ha H0 r τ l σ H S _ X h hX _ fun v e H1 S1 p => by
    try dsimp only at p
    split at p
    · rename_i xs hx
      obtain ⟨a, κ1, vs1, B1, o1, rfl, ha1, hl1, hn1, eB1, u1, d1, q1, g1, T2⟩ := hold_seq (K := K) S1.st hx
      have k1 : ∀ {H' ρ τ l σ}, DL.St c.W B1 ρ τ l σ H' → H' a = some o1 := fun {H' ρ τ l σ} S => S.off a o1 (by rw [eB1]; exact upd_same) hn1
      have hy : ∀ (i : Nat) ρ τ l σ H x H' d, DL.St c.W B1 ρ ([(.ref a, e)] ++ τ) l σ H → YPair (fun i => some (.int (i : Nat))) (fun i => vs1[i]?) i H x H' → (enumD 0 xs)[i]? = some d → DL.St c.W B1 ρ ((x, d) :: ([(.ref a, e)] ++ τ)) l σ H' := fun i ρ τ l σ H x H' d S y hd => by
        obtain ⟨T, x1, x2, rfl, hT, rfl, y1, y2⟩ := y
        cases y1
        obtain ⟨d2, e1, rfl⟩ := enumD_get _ _ _ _ hd
        rw [Nat.zero_add]
        obtain ⟨N, n3, n5, n4, q⟩ := S.ext
        refine q _ _ (Ex.new hT) fun p hp => ?_
        rcases List.mem_cons.mp hp with rfl | hp
        · have r1 := g1 N _ (k1 S) (n5 (.ref a, e) (by simp))
          obtain ⟨z1, w1, s1⟩ := r1.get y2
          rw [e1] at w1; cases w1
          exact .tup upd_same (n3.new hT) (.cons (.int _) (.cons (s1.ex (Ex.new hT)) .nil))
        · exact (n5 p hp).ex (Ex.new hT)
      have hlen : (enumD 0 xs).length = vs1.length := by rw [enumD_len, hl1]
      cases κ1 with
      | true =>
        refine ⟨a, vs1, rfl, .inl ⟨q1 _ ha1, k _ (enumD 0 xs) [(.ref a, e)] B1 H1 ⟨u1, d1, fun H => H a = some o1, YPair (fun i => some (.int (i : Nat))) (fun i => vs1[i]?), ?_, fun ρ τ l σ H S => k1 S, hy⟩ ⟨S1.fit, T2⟩ p⟩⟩
        rw [hlen]
        exact walk_enum.mono (fun H h => q1 H h) fun i H x H' _ _ y => y
      | false =>
        refine ⟨a, vs1, rfl, .inr ⟨q1 _ ha1, k _ (enumD 0 xs) [(.ref a, e)] B1 H1 ⟨u1, d1, fun H => H a = some o1, YPair (fun i => some (.int (i : Nat))) (fun i => vs1[i]?), ?_, fun ρ τ l σ H S => k1 S, hy⟩ ⟨S1.fit, T2⟩ p⟩⟩
        rw [hlen]
        exact walk_enumT.mono (fun H h => q1 H h) fun i H x H' _ _ y => y
    · exact p.elim
/-! ### range by steps -/
def iR3 (a b d : DE) : DI := fun r P X => a r (fun x => b r (fun y => d r (fun z => match x, y, z with
  | .int i, .int j, .int s => (s ≠ 0 ∧ s.natAbs < 1073741824 ∧ Builtin.Range.small i j s = true) ∧ P ((List.range (Builtin.Range.rangeSize i j s).toNat).map fun (k : Nat) => .int (i + (k : Nat) * s))
  | _, _, _ => False) X) X) X
theorem si_range3 (ha : SE c ta ma) (hb : SE c tb mb) (hd : SE c td md) : SI c (iRng3 (tCons ta (tCons tb (tCons td tNil)))) (iR3 ma mb md) := fun H0 r τ l σ H S P X h hX R k =>
  ha H0 r τ l σ H S _ X h hX _ fun v e H1 S1 p => hb H0 r _ l σ H1 S1 _ X p hX.more _ fun w e2 H2 S2 p2 => hd H0 r _ l σ H2 S2 _ X p2 hX.more.more _ fun z e3 H3 S3 p3 => by
    try dsimp only at p3
    split at p3
    · rename_i i j s
      have := S3.it
      subst this
      have := S2.it
      subst this
      have := S1.it
      subst this
      refine ⟨i, j, s, (Builtin.Range.rangeSize i j s).toNat, rfl, ⟨p3.1.1, p3.1.2.1, p3.1.2.2, rangeSize_toNat i j s⟩, k _ _ [] H0 H3 ?_ (S3.mono fun p hp => by simp only [List.mem_cons]; exact .inr (.inr (.inr hp))) p3.2⟩
      refine ⟨fun b o h _ => h, fun b h => h, fun _ => True, YFn fun k => .int (i + (k : Nat) * s), ?_, fun _ _ _ _ _ _ => trivial, fun k ρ τ l σ H x H' d S y hd => ?_⟩
      · rw [List.length_map, List.length_range]
        exact walk_rangeC
      · obtain ⟨rfl, rfl⟩ := y
        rw [List.getElem?_map] at hd
        obtain ⟨j', hj, rfl⟩ := Option.map_eq_some_iff.mp hd
        obtain ⟨hj1, rfl⟩ := List.getElem?_eq_some_iff.mp hj
        rw [List.getElem_range]
        obtain ⟨N, n3, n5, n4, q⟩ := S.ext
        refine q H' _ ex_refl fun p hp => ?_
        rcases List.mem_cons.mp hp with rfl | hp
        · exact .int _
        · exact n5 p hp
    · exact p3.elim
/-! ### three clauses -/
theorem seo_lc3 {wi wi1 wi2 : TI} {mi mi1 mi2 : DI} {g g1 g2 : TG} {mg mg1 mg2 : DG} {tt tt1 tt2 : TT} {mt mt1 mt2 : DT} {vs vs1 vs2 : List Nat} (hi : SI c wi mi) (hg : SGv c vs g mg) (ht : ST c tt mt) (hi1 : SI c wi1 mi1) (hg1 : SGv c vs1 g1 mg1) (ht1 : ST c tt1 mt1)
    (hi2 : SI c wi2 mi2) (hg2 : SGv c vs2 g2 mg2) (ht2 : ST c tt2 mt2) (he : SE c te me) :
    SEO c (L3.tLc3 wi g tt wi1 g1 tt1 wi2 g2 tt2 te vs vs1 vs2) (mLc mi mg mt vs (mCl mi1 mg1 mt1 vs1 (mCl mi2 mg2 mt2 vs2 (mEl me)))) :=
  seo_top (B := fun D => bCl wi1 g1 tt1 vs1 (bCl wi2 g2 tt2 vs2 (bEl te D))) hi hg ht fun D => sb_cl hi1 hg1 ht1 (sb_cl hi2 hg2 ht2 (sb_el he))
end
end MI
set_option Elab.async false
set_option linter.all false
set_option maxRecDepth 100000
/-! A mirror of the text in plain data: own lists, calls by names. -/
namespace MI
open PySem PySem.Spec PyProof.Rows L2 Evl TB DL
section
variable {c : Ct} {K : PySem.W.Frag} {te ta tb : TE} {tas : TA} {me ma mb : DE} {mas : DA}
theorem se_oix' {i : Nat} {tk : TE} {mk : DE} (hk : SE c tk mk) : SE c (tOp (rIx K) (tVar i) tk) (oIx i mk) := fun H0 r τ l σ H S P X hp hX Q k => by
  have h := se_oix (K := K) (i := i) hk H0 r τ l σ H S P X hp hX Q k
  obtain ⟨v, hv, h⟩ := h
  refine ⟨v, hv, ?_⟩
  unfold oIx at hp
  split at hp
  · rename_i ds hl
    obtain ⟨a, xs, ha, hx, hxl, _⟩ := own_front S hl
    rw [ha] at hv
    cases hv
    refine hk H0 r τ l σ H S _ _ hp hX _ fun z e2 H2 S2 p2 => .inl ?_
    try dsimp only at p2
    split at p2
    · rename_i zi
      have := S2.it
      subst this
      split at p2
      · rename_i e he
        obtain ⟨a', xs', ha', hx', hl', T⟩ := own_front S2 hl
        rw [ha] at ha'
        cases ha'
        obtain ⟨ys, h1, h2, h3, _⟩ := st_look T
        rw [hx'] at h1
        cases h1
        unfold atI at he
        cases hj : ixN ds.length zi with
        | none => rw [hj] at he; cases he
        | some j =>
          rw [hj] at he
          have he' : ds[j]? = some e := he
          have jl : j < xs'.length := by rw [hl']; exact (List.getElem?_eq_some_iff.mp he').1
          obtain ⟨d, hd, T2⟩ := h3 j _ (List.getElem?_eq_getElem jl)
          rw [he'] at hd
          cases hd
          have pm : (owns r σ ++ l).Perm ((a, ds) :: (owns (r.set i none) σ ++ l)) := List.Perm.append_right l (owns_at (lk_some hl) ha)
          have S3 : MSt c H0 r ((xs'[j], e) :: (.int zi, .int zi) :: τ) l σ H2 := ⟨S2.fit, st_perm T2 pm.symm⟩
          refine ⟨a, xs', zi, xs'[j], rfl, rfl, .inl (.inl hx'), ?_, k _ _ H2 (S3.mono fun p hp => ?_) p2⟩
          · unfold atI
            rw [hl', hj]
            exact List.getElem?_eq_getElem jl
          · rcases List.mem_cons.mp hp with rfl | hp
            · exact List.mem_cons_self
            · exact List.mem_cons_of_mem _ (List.mem_cons_of_mem _ hp)
      · exact p2.elim
    · exact p2.elim
  · exact hp.elim
theorem se_olen' {i : Nat} : SE c (tCB (rLenA K) (tCons (tVar i) tNil)) (oLen i) := fun H0 r τ l σ H S P X hp hX Q k => by
  obtain ⟨v, hv, h⟩ := se_olen (K := K) (i := i) H0 r τ l σ H S P X hp hX Q k
  exact ⟨v, hv, .inl h⟩
/-! ### new lists that stay one's own -/
def eoLst (a : DA) : DEO := fun r P X => a r (fun es => es.length ≤ 100000 ∧ P es) X
theorem seo_lst (ha : SA c tas mas) : SEO c (tLst tas) (eoLst mas) := fun H0 r τ l σ H S P X h hX Q k =>
  ha H0 r τ l σ H S _ X h hX _ fun vs es H1 S1 le p1 => ⟨size_small (by rw [le]; exact p1.1), fun p hp => k p es _ ⟨S1.fit, st_perm (st_newL S1.st le hp) owns_front.symm⟩ p1.2⟩
/-- the items of a value that is a list or a tuple, at hand -/
theorem at_hand {H0 H : Hp} {r : ME} {τ : List (V × PyData)} {l : List (Addr × List PyData)} {σ : L2.St} {v : V} {e : PyData} {ds : List PyData} (S : MSt c H0 r ((v, e) :: τ) l σ H) (he : seqOf e = some ds) :
    ∃ a xs, v = .ref a ∧ (SqL K H a xs ∨ SqT K H a xs) ∧ xs.length = ds.length ∧ MSt c H0 r (xs.zip ds ++ τ) l σ H := by
  obtain ⟨N, n3, n5, q⟩ := S.ext
  have hv := n5 _ List.mem_cons_self
  cases e with
  | list es =>
    cases he
    cases hv with
    | @lst a xs _ hA hn hr => exact ⟨a, xs, rfl, .inl (.inl (.inl hA)), hr.len, q H _ ex_refl fun p hp => (List.mem_append.mp hp).elim (rg_zip hr p) fun hp => n5 p (List.mem_cons_of_mem _ hp)⟩
  | tuple es =>
    cases he
    cases hv with
    | @tup a xs _ hA hn hr => exact ⟨a, xs, rfl, .inr (.inl (.inl hA)), hr.len, q H _ ex_refl fun p hp => (List.mem_append.mp hp).elim (rg_zip hr p) fun hp => n5 p (List.mem_cons_of_mem _ hp)⟩
  | _ => cases he
def eoList (a : DE) : DEO := fun r P X => a r (fun e => match seqOf e with
  | some ds => P ds
  | none => False) X
theorem seo_list (ha : SE c ta ma) : SEO c (tCB (TB.rListQ K) (tCons ta tNil)) (eoList ma) := fun H0 r τ l σ H S P X h hX Q k =>
  ha H0 r τ l σ H S _ X h hX _ fun v e H1 S1 p => by
    try dsimp only at p
    split at p
    · rename_i ds he
      obtain ⟨a, xs, rfl, hs, hl, S2⟩ := at_hand (K := K) S1 he
      exact ⟨a, xs, rfl, hs, fun b hb => k b ds _ ⟨S2.fit, st_perm (st_newL S2.st hl hb) owns_front.symm⟩ p⟩
    · exact p.elim
/-! ### t[::-1] -/
def mRev (a : DE) : DE := fun r P X => a r (fun e => match e with
  | .tuple ds => P (.tuple ds.reverse)
  | .list ds => P (.list ds.reverse)
  | _ => False) X
theorem se_rev (ha : SE c ta ma) : SE c (tRevT K ta) (mRev ma) := fun H0 r τ l σ H S P X h hX Q k =>
  ha H0 r τ l σ H S _ X h hX _ fun v e H1 S1 p => by
    try dsimp only at p
    split at p
    · rename_i ds
      obtain ⟨N, n3, n5, q⟩ := S1.ext
      have hv := n5 _ List.mem_cons_self
      cases hv with
      | @tup a xs _ hA hn hr =>
        refine ⟨a, xs, rfl, .inl ⟨.inl (.inl hA), fun b hb => ?_⟩⟩
        have rg : Rg N (upd H1 b (.tup xs.reverse)) (.ref b) (.tuple ds.reverse) := .tup upd_same (n3.new hb) (hr.rev.ex (Ex.new hb))
        exact k (.ref b) (.tuple ds.reverse) _ ((MSt.push q n5 (Ex.new hb) rg).mono fun p hp => (List.mem_cons.mp hp).elim (fun h => h ▸ List.mem_cons_self) fun hp => List.mem_cons_of_mem _ (List.mem_cons_of_mem _ hp)) p
    · rename_i ds
      obtain ⟨N, n3, n5, q⟩ := S1.ext
      have hv := n5 _ List.mem_cons_self
      cases hv with
      | @lst a xs _ hA hn hr =>
        refine ⟨a, xs, rfl, .inr ⟨.inl (.inl hA), fun b hb => ?_⟩⟩
        have rg : Rg N (upd H1 b (.lst xs.reverse)) (.ref b) (.list ds.reverse) := .lst upd_same (n3.new hb) (hr.rev.ex (Ex.new hb))
        exact k (.ref b) (.list ds.reverse) _ ((MSt.push q n5 (Ex.new hb) rg).mono fun p hp => (List.mem_cons.mp hp).elim (fun h => h ▸ List.mem_cons_self) fun hp => List.mem_cons_of_mem _ (List.mem_cons_of_mem _ hp)) p
    · exact p.elim
theorem se_dict0 : SE c tDNewK (mC (.dict [])) := fun H0 r τ l σ H S P X h hX Q k p hp => by
  obtain ⟨N, n3, n5, q⟩ := S.ext
  exact k (.ref p) (.dict []) _ (MSt.push q n5 (Ex.new hp) (.dic upd_same (n3.new hp))) h
/-! ### calls by the names of the arguments -/
def permL {α : Type} (π : List Nat) (l : List α) : List α := π.filterMap fun i => l[i]?
theorem permL_all {N : Addr → Prop} {H : Hp} {vs : List V} {es : List PyData} (h : RgAll N H vs es) : ∀ π : List Nat, RgAll N H (permL π vs) (permL π es)
  | [] => .nil
  | i :: π => by
    have ih := permL_all h π
    unfold permL at ih ⊢
    rw [List.filterMap_cons, List.filterMap_cons]
    cases hv : vs[i]? with
    | none =>
      have : es[i]? = none := List.getElem?_eq_none_iff.mpr (by rw [← h.len]; exact List.getElem?_eq_none_iff.mp hv)
      rw [this]
      exact ih
    | some v =>
      obtain ⟨e, h1, h2⟩ := h.get hv
      rw [h1]
      exact .cons h2 ih
def tKw (sp : Sp) (π : List Nat) (t : TA) : TE := fun σ H Q => t σ H fun zs H2 => sp (permL π zs) H2 Q E0
def mKw (π : List Nat) (f : List PyData → C PyData) (a : DA) : DE := fun r P X => a r (fun es => f (permL π es) P fun _ => False) X
theorem se_kw {f : List PyData → C PyData} {π : List Nat} (ha : SA c tas mas) : SE c (tKw (SpM f) π tas) (mKw π f mas) := fun H0 r τ l σ H S P X h hX Q k =>
  ha H0 r τ l σ H S _ X h hX _ fun vs es H1 S1 le p1 => by
    obtain ⟨N, n3, n5, q⟩ := S1.ext
    refine ⟨N, permL π es, P, n3, permL_all (zip_all le fun p hp => n5 p (List.mem_append_left _ hp)) π, p1, fun v e H' x rg p => k v e H' ?_ p⟩
    exact (MSt.push q n5 x rg).mono fun p hp => by
      rcases List.mem_cons.mp hp with rfl | hp
      · exact List.mem_cons_self
      · exact List.mem_cons_of_mem _ (List.mem_append_right _ hp)
end
def kwG (π : List Nat) (us ws : List Value) : List Value := match us with
  | [] => permL π ws
  | _ => []
/-- a def that is called by the names ks of its arguments; π: for each parameter the place of its name in ks -/
def KwAt (P : Program) (w : World) (K : PySem.W.Frag) (mg : Str → Option Value) (base : Heap) (k : Nat) (x : Str) (ps ks : List Str) (π : List Nat) (sp : Sp) : Prop :=
  ∃ (f : Addr) (fd : FuncData), mg x = some (.ref f) ∧ PySem.W.keepIn K (.ref f) = true ∧ FnOk P w K mg base CX0 k f fd ps sp ∧
    ∀ (s : Shared) (ws : List Value), (permL π ws).length = ps.length → BindsTo s fd ⟨[], ks.zip ws⟩ (ps.zip (permL π ws))
theorem permL_rel {vs : List V} {us : List Value} (h : Vals vs us) : ∀ π : List Nat, Vals (permL π vs) (permL π us)
  | [] => .nil
  | i :: π => by
    have ih := permL_rel h π
    unfold permL at ih ⊢
    rw [List.filterMap_cons, List.filterMap_cons]
    cases hv : vs[i]? with
    | none =>
      rw [h.none_of hv]
      exact ih
    | some v =>
      obtain ⟨u, h1, h2⟩ := h.get hv
      rw [h1]
      exact .cons h2 ih
theorem pe_kw {X : Cx} {k : Nat} {x : Str} {ps ks : List Str} {π : List Nat} {sp : Sp} {kws : List Keyword} {tk : TA} {p pos : Pos} (h : KwAt X.prog X.w X.K X.mg X.base k x ps ks π sp) (hr : Room k X.A) (hg : Gl X x) (hp : ps ≠ [])
    (hkw : PK X kws tk) (hall : (backToKw pos (keywordEach kws X.env)).all (·.1.isSome) = true := by rfl) (hks : (backToKw pos (keywordEach kws X.env)).filterMap (·.1) = ks := by rfl)
    (hdb : (x == ("__debug__" : Str)) = false := by decide) (hpl : ((backTo pos (starEach [] X.env)).any (·.1) || (backToKw pos (keywordEach kws X.env)).any (·.1.isNone)) = false := by rfl) :
    PE X (.Call (.Name x p) [] kws pos) (tKw sp π tk) := by
  obtain ⟨f, fd, hm, hk, F, bd⟩ := h
  have hb : KBinds X.K fd ps ks (kwG π) (fun vs zs => match vs with
    | [] => permL π zs
    | _ => []) := by
    refine ⟨fun s us ws _ hl => ?_, fun {vs us zs ws} r rz => ?_⟩
    · cases us with
      | nil => exact bd s ws hl
      | cons a b =>
        have hl' : ([] : List Value).length = ps.length := hl
        exact absurd (List.eq_nil_of_length_eq_zero hl'.symm) hp
    · cases r with
      | nil => exact permL_rel rz π
      | cons _ _ => exact .nil
  refine ⟨fun pins s σ H Q I h => ?_⟩
  refine wpAny_Call_Name_kw (ld_glob I hg hm ?_ hdb)
  refine PySem.W.callWith_KW0 (h₀ := X.base) I.ok.mod.kin hk hall ?_ hpl
  refine thn (hkw.run pos pins s σ H _ I h) fun ws s2 ⟨zs, H2, I2, rz, q2⟩ => ⟨I2.kIn, ?_⟩
  rw [hks]
  exact run_fnk F hr hb pass0 I2 .nil rz q2
/-! ### the law itself -/
def spLaw (K : PySem.W.Frag) : Sp := fun vs H Q _ => ∃ (a : Addr) (ns : List Int), vs = [.ref a] ∧ SqL K H a (ns.map V.int) ∧ ns.length ≤ 63 ∧ ∀ H', Q (.bl true) H'
theorem sp_start {K : PySem.W.Frag} {H : Hp} {a : Addr} {ns : List Int} (hl : ns.length ≤ 63) (hS : SqL K H a (ns.map V.int)) : spLaw K [.ref a] H (fun v _ => v = .bl true) fun _ _ _ => False := ⟨a, ns, rfl, hS, hl, fun _ => rfl⟩
/-- where the law stands once its deck is made -/
def lawEnv (k : Nat) : ME := none :: some .dck :: List.replicate k none
theorem start_law {d g l : Addr} {H : Hp} {k : Nat} {v : V} (D : Deck H d g l) : MSt ⟨WL d g l H, .ref d, noTab, no4⟩ H (lawEnv k) [] [] (some v :: some (.ref d) :: List.replicate k none) H := by
  refine ⟨fun i ds h => ?_, ?_⟩
  · match i, h with
    | 0, h => cases h
    | 1, h => cases h
    | i + 2, h =>
      have h' := List.mem_of_getElem? (show (List.replicate k none)[i]? = some (some (ML.own ds)) from h)
      have := List.eq_of_mem_replicate h'
      cases this
  · have e : owns (lawEnv k) (some v :: some (.ref d) :: List.replicate k none) = [] := by
      show own1 none (some v) ++ (own1 (some .dck) (some (.ref d)) ++ owns (envOf [] k) _) = []
      rw [own1_none, owns_env]
      rfl
    rw [e]
    refine DL.St.deck0 D (by simp [lawEnv]) fun i s h => ?_
    match i, h with
    | 0, h => cases h
    | 1, h => cases h; exact ⟨_, rfl, rfl⟩
    | i + 2, h =>
      rw [List.getElem?_map] at h
      obtain ⟨x, hx, hx'⟩ := Option.map_eq_some_iff.mp h
      have h' := List.mem_of_getElem? (show (List.replicate k none)[i]? = some x from hx)
      have := List.eq_of_mem_replicate h'
      subst this
      cases hx'
/-- the law's tail -/
theorem run_L {d g l : Addr} {H : Hp} {k : Nat} {v : V} {ts : TS} {b : DS} {Q : VK} (hs : ∀ c, Dk c → SS c ts b) (D : Deck H d g l) (h : b { nx := fun _ => False, rt := fun e => e = .bool true, ex := fun _ => False } (lawEnv k))
    (q : ∀ H', Q (.bl true) H') : ts { nx := fun _ H' => Q .non H', rt := Q } (some v :: some (.ref d) :: List.replicate k none) H :=
  hs ⟨WL d g l H, .ref d, noTab, no4⟩ ⟨d, g, l, _, H, rfl, rfl⟩ H _ [] [] _ H (start_law D) _ _ h (fun _ _ _ _ p => p.elim) (fun _ _ _ _ p => p.elim) (fun _ _ _ _ p => p.elim)
    (fun v e r' σ' H' S p => by
      have p : e = .bool true := p
      subst p
      have := S.bl
      subst this
      exact q H') fun r' σ' => XOut.no
/-- the draws of the deck -/
def m_draw : List PyData → C PyData := fun es P _ => match es with
  | [.int m] => (0 < m ∧ m ≤ 1000000000000000000) ∧ ∀ r : Int, 0 ≤ r → r < m → P (.int r)
  | _ => False
def m_one : List PyData → C PyData := fun es P _ => match es with
  | [.list ds] => (0 < ds.length ∧ ds.length ≤ 100000) ∧ ∀ e ∈ ds, P e
  | _ => False
theorem draw_impM {vs : List V} {H : Hp} {Q : VK} {E : XK} (h : SpMW m_draw vs H Q E) : spDraw vs H Q E := by
  obtain ⟨d, g, l, N, es, vs', P, rfl, ok, nd, ng, nl, D, r, h, q⟩ := h
  unfold m_draw at h
  split at h
  · cases r with
    | cons r1 r2 =>
      cases r2; cases r1
      exact ⟨d, g, l, _, rfl, h.1.1, h.1.2, D, fun r H' r0 r1 D' o => q _ (.int r) H' D' (fun a o' e n1 n2 _ => o a o' e n1 n2) (.int r) (h.2 r r0 r1)⟩
  · exact h.elim
theorem one_impM {vs : List V} {H : Hp} {Q : VK} {E : XK} (h : SpMW m_one vs H Q E) : spOne vs H Q E := by
  obtain ⟨d, g, l, N, es, vs', P, rfl, ok, nd, ng, nl, D, r, h, q⟩ := h
  unfold m_one at h
  split at h
  · cases r with
    | cons r1 r2 =>
      cases r2
      cases r1 with
      | lst hA hn hr =>
        refine ⟨d, g, l, _, _, rfl, D, hA, fun z => hn (z ▸ nd), fun z => hn (z ▸ ng), by rw [hr.len]; exact h.1.1, by rw [hr.len]; exact h.1.2, fun i v H' hv D' o => ?_⟩
        obtain ⟨e, he, hre⟩ := hr.get hv
        exact q v e H' D' (fun a o' h n1 n2 _ => o a o' h n1 n2) (Rg.to (fun a o' h n => ⟨o a o' h (fun z => n (z ▸ nd)) (fun z => n (z ▸ ng)), n⟩) _ _ hre) (h.2 e (List.mem_of_getElem? he))
  · exact h.elim
end MI
set_option Elab.async false
set_option linter.all false
set_option maxRecDepth 100000
/-! A mirror of the text in plain data: loops whose dead names are forgotten; how loops are answered. -/
namespace MI
open PySem PySem.Spec PyProof.Rows L2 Evl TB DL
/-- only these slots stay known -/
def keepM (L : List Nat) : Nat → ME → ME
  | _, [] => []
  | n, o :: r => (if L.contains n then o else none) :: keepM L (n + 1) r
theorem keepM_len (L : List Nat) : ∀ (n : Nat) (r : ME), (keepM L n r).length = r.length
  | _, [] => rfl
  | n, o :: r => by simp only [keepM, List.length_cons, keepM_len L (n + 1) r]
theorem keepM_get (L : List Nat) : ∀ (n : Nat) (r : ME) (i : Nat) (x : ML), (keepM L n r)[i]? = some (some x) → r[i]? = some (some x)
  | _, [], i, x, h => by simp [keepM] at h
  | n, o :: r, 0, x, h => by
    have h' : (if L.contains n then o else none) = some x := by simpa [keepM] using h
    split at h'
    · rw [h']; rfl
    · cases h'
  | n, o :: r, i + 1, x, h => by
    rw [List.getElem?_cons_succ]
    exact keepM_get L (n + 1) r i x (by simpa [keepM] using h)
theorem keepM_owns (L : List Nat) : ∀ (n : Nat) (r : ME) (σ : L2.St), (owns (keepM L n r) σ).Sublist (owns r σ)
  | _, [], σ => List.Sublist.refl _
  | n, o :: r, [] => List.nil_sublist _
  | n, o :: r, s :: σ => by
    show (own1 (if L.contains n then o else none) s ++ owns (keepM L (n + 1) r) σ).Sublist (own1 o s ++ owns r σ)
    refine List.Sublist.append ?_ (keepM_owns L (n + 1) r σ)
    split
    · exact List.Sublist.refl _
    · rw [own1_none]; exact List.nil_sublist _
theorem MSt.keep {c : Ct} {H0 H : Hp} {r : ME} {τ : List (V × PyData)} {l : List (Addr × List PyData)} {σ : L2.St} (L : List Nat) (S : MSt c H0 r τ l σ H) : MSt c H0 (keepM L 0 r) τ l σ H := by
  refine ⟨fun i ds h => S.fit i ds (keepM_get L 0 r i _ h), (st_sub S.st ((keepM_owns L 0 r σ).append (List.Sublist.refl _))).less ?_ fun i s h => ?_⟩
  · rw [List.length_map, List.length_map, keepM_len]
  · rw [List.getElem?_map] at h ⊢
    obtain ⟨x, hx, hx'⟩ := Option.map_eq_some_iff.mp h
    cases x with
    | none => cases hx'
    | some x => rw [keepM_get L 0 r i x hx]; exact congrArg some hx'
def forK (L : List Nat) (g : DG) (b : DS) (D : DN) : List PyData → ME → Prop
  | [], r => D.nx (keepM L 0 r)
  | x :: xs, r => g x (keepM L 0 r) (fun r' => b { D with nx := forK L g b D xs, ct := forK L g b D xs, bk := D.nx } r') fun _ => False
def sForK (L : List Nat) (i : DI) (g : DG) (b : DS) : DS := fun D r => i r (fun items => forK L g b D items r) D.ex
def whK (L : List Nat) (t : DT) (b : DS) (D : DN) : Nat → ME → Prop
  | 0, _ => False
  | n + 1, r => t (keepM L 0 r) (fun x => match x with
    | true => b { D with nx := whK L t b D n, ct := whK L t b D n, bk := D.nx } (keepM L 0 r)
    | false => D.nx (keepM L 0 r)) D.ex
def sWhileK (L : List Nat) (t : DT) (b : DS) : DS := fun D r => ∃ n, whK L t b D n r
section
variable {c : Ct} {tt : TT} {mt : DT} {ts : TS} {ms : DS} {g : TG} {mg : DG} {wi : TI} {mi : DI} {vs L : List Nat}
theorem ss_forK (hi : SI c wi mi) (hg : SGv c vs g mg) (hb : SS c ts ms) : SS c (tFor wi g ts) (sForK L mi mg ms) := fun H0 r τ l σ H S D E h n b ct rt x =>
  hi H0 r τ l σ H S _ _ h (x r σ) _ fun J items τc H0' H1 hd S1 p => by
    obtain ⟨G, Y, wk, hG, hY⟩ := hd.wk
    have un : ∀ {r' σ' H'}, MSt c H0' r' (τc ++ τ) l σ' H' → MSt c H0 r' τ l σ' H' := fun {r' σ' H'} S => (S.unbase hd.up hd.dw).mono fun p hp => List.mem_append_right _ hp
    refine for_it wk (fun i σ' H' => ∃ r', MSt c H0' r' (τc ++ τ) l σ' H' ∧ forK L mg ms D (items.drop i) r') ⟨r, S1, p⟩ (fun i σ' H' _ q => ?_) (fun i v σ' H2 H3 hlt q y => ?_) fun σ' H' q => ?_
    · obtain ⟨r', S', _⟩ := q
      exact hG _ _ _ _ _ S'.st
    · obtain ⟨r', S', q⟩ := q
      have hd' : items[i]? = some items[i] := List.getElem?_eq_getElem hlt
      have T := hY i _ _ _ _ _ v H3 _ S'.st y hd'
      have S'' : MSt c H0' (keepM L 0 r') ((v, items[i]) :: (τc ++ τ)) l σ' H3 := MSt.keep L ⟨S'.fit, T⟩
      rw [List.drop_eq_getElem_cons hlt] at q
      refine hg H0' _ _ l σ' H3 v _ S'' _ q _ fun r2 σ2 H4 S4 _ _ q2 => ?_
      refine hb H0' r2 _ l σ2 H4 S4 _ _ q2 (fun r3 σ3 H5 S5 q3 => ⟨r3, S5, q3⟩) (fun r3 σ3 H5 S5 q3 => n r3 σ3 H5 (un S5) q3) (fun r3 σ3 H5 S5 q3 => ⟨r3, S5, q3⟩) (fun v e r3 σ3 H5 S5 q3 => ?_) fun r3 σ3 => (x r3 σ3).rebase hd.up hd.dw fun p hp => List.mem_append_right _ hp
      exact rt v e r3 σ3 H5 ((S5.unbase hd.up hd.dw).mono fun p hp => by
        rcases List.mem_cons.mp hp with rfl | hp
        · exact List.mem_cons_self
        · exact List.mem_cons_of_mem _ (List.mem_append_right _ hp)) q3
    · obtain ⟨r', S', q⟩ := q
      rw [List.drop_length] at q
      exact n _ σ' H' (un (S'.keep L)) q
theorem ss_whileK (ht : ST c tt mt) (hb : SS c ts ms) : SS c (tWhile tt ts) (sWhileK L mt ms) := fun H0 r τ l σ H S D E h n b ct rt x => by
  obtain ⟨N, hN⟩ := h
  refine ⟨fun m σ' H' => ∃ r', MSt c H0 r' τ l σ' H' ∧ whK L mt ms D m r', ⟨N, r, S, hN⟩, ?_⟩
  rintro m σ' H' ⟨r', S', q⟩
  cases m with
  | zero => exact q.elim
  | succ m =>
    refine ht H0 _ τ l σ' H' (S'.keep L) _ _ q (x _ σ') _ fun a H2 S2 p => ?_
    cases a with
    | true =>
      refine (if_pos rfl).mpr ⟨fun σ3 H3 => ∃ r3, MSt c H0 r3 τ l σ3 H3 ∧ whK L mt ms D m r3, fun σ3 H3 q => ⟨m, Nat.lt_succ_self m, q⟩, ?_⟩
      exact hb H0 _ τ l σ' H2 S2 _ _ p (fun r3 σ3 H3 S3 q => ⟨r3, S3, q⟩) (fun r3 σ3 H3 S3 q => n r3 σ3 H3 S3 q) (fun r3 σ3 H3 S3 q => ⟨r3, S3, q⟩) rt x
    | false => exact (if_neg Bool.false_ne_true).mpr (n _ σ' H2 S2 p)
end
/-! ### how they are answered -/
/-- a for: J by the turn and the slots that are kept -/
theorem forK_inv {L : List Nat} {g : DG} {b : DS} {D : DN} (J : Nat → ME → Prop) {items : List PyData} {r : ME} (h0 : J 0 (keepM L 0 r))
    (hs : ∀ (k : Nat) x r', items[k]? = some x → J k r' → ∀ nx : ME → Prop, (∀ r'', J (k + 1) (keepM L 0 r'') → nx r'') → g x r' (fun r2 => b { D with nx := nx, ct := nx, bk := D.nx } r2) fun _ => False)
    (hd : ∀ r', J items.length r' → D.nx r') : forK L g b D items r := by
  have key : ∀ (n : Nat) (k : Nat) (r : ME), n + k = items.length → J k (keepM L 0 r) → forK L g b D (items.drop k) r := by
    intro n
    induction n with
    | zero =>
      intro k r hk h
      have : items.drop k = [] := List.drop_eq_nil_of_le (by omega)
      rw [this]
      have e : k = items.length := by omega
      subst e
      exact hd _ h
    | succ n ih =>
      intro k r hk h
      have hlt : k < items.length := by omega
      rw [List.drop_eq_getElem_cons hlt]
      exact hs k _ _ (List.getElem?_eq_getElem hlt) h _ fun r'' h' => ih (k + 1) r'' (by omega) h'
  have := key items.length 0 r (by omega) h0
  rwa [List.drop_zero] at this
/-- a while: V falls -/
theorem whK_inv {L : List Nat} {t : DT} {b : DS} {D : DN} (J : Nat → ME → Prop)
    (hs : ∀ (k : Nat) r, J k r → t r (fun x => match x with
      | true => ∀ nx : ME → Prop, (∀ (k' : Nat) r', k' < k → J k' (keepM L 0 r') → nx r') → b { D with nx := nx, ct := nx, bk := D.nx } r
      | false => D.nx r) D.ex → True) : True := trivial
/-- the items of a clause: each turn puts acc to acc' -/
theorem mIt_inv {g : DG} {t : DT} {vs : List Nat} {sub : ME → List PyData → C (List PyData)} {r : ME} {P : List PyData → Prop} {X : Xc → Prop} (J : Nat → List PyData → Prop) {items acc : List PyData} (h0 : J 0 acc)
    (hs : ∀ (k : Nat) x acc, items[k]? = some x → J k acc → ∀ nx : List PyData → Prop, (∀ acc', J (k + 1) acc' → nx acc') → g x (wipeM r vs) (fun r2 => t r2 (fun b => match b with
      | true => sub r2 acc nx fun _ => False
      | false => nx acc) fun _ => False) fun _ => False)
    (hd : ∀ acc, J items.length acc → P acc) : mIt g t vs sub r items acc P X := by
  have key : ∀ (n : Nat) (k : Nat) (acc : List PyData) (X : Xc → Prop), n + k = items.length → J k acc → mIt g t vs sub r (items.drop k) acc P X := by
    intro n
    induction n with
    | zero =>
      intro k acc X hk h
      have : items.drop k = [] := List.drop_eq_nil_of_le (by omega)
      rw [this]
      have e : k = items.length := by omega
      subst e
      exact hd _ h
    | succ n ih =>
      intro k acc X hk h
      have hlt : k < items.length := by omega
      rw [List.drop_eq_getElem_cons hlt]
      exact hs k _ acc (List.getElem?_eq_getElem hlt) h (fun acc' => mIt g t vs sub r (items.drop (k + 1)) acc' P X) fun acc' h' => ih (k + 1) acc' X (by omega) h'
  have := key items.length 0 acc X (by omega) h0
  rwa [List.drop_zero] at this
/-- what is told exactly: F of each item is put behind -/
theorem mIt_fn {g : DG} {t : DT} {vs : List Nat} {sub : ME → List PyData → C (List PyData)} {r : ME} {P : List PyData → Prop} {X : Xc → Prop} (F : PyData → List PyData) {items acc : List PyData} (B : Nat) (hB : acc.length + ((items.map fun x => (F x).length).sum) ≤ B)
    (hs : ∀ x acc, x ∈ items → acc.length + (F x).length ≤ B → ∀ nx : List PyData → Prop, nx (acc ++ F x) → g x (wipeM r vs) (fun r2 => t r2 (fun b => match b with
      | true => sub r2 acc nx fun _ => False
      | false => nx acc) fun _ => False) fun _ => False)
    (hd : P (acc ++ (items.map F).flatten)) : mIt g t vs sub r items acc P X := by
  induction items generalizing acc X with
  | nil =>
    rw [List.map_nil, List.flatten_nil, List.append_nil] at hd
    exact hd
  | cons x xs ih =>
    rw [List.map_cons, List.sum_cons] at hB
    refine hs x acc List.mem_cons_self (by omega) (fun acc' => mIt g t vs sub r xs acc' P X) ?_
    refine ih (by rw [List.length_append]; omega) (fun y acc hy => hs y acc (List.mem_cons_of_mem _ hy)) ?_
    rw [List.append_assoc, ← List.flatten_cons]
    exact hd
/-- one clause, one item a turn -/
theorem mIt_map {g : DG} {vs : List Nat} {e : DE} {r : ME} {P : List PyData → Prop} {X : Xc → Prop} (f : PyData → PyData) {items : List PyData} (hB : items.length ≤ 100000)
    (hs : ∀ x, x ∈ items → ∀ Q : PyData → Prop, Q (f x) → g x (wipeM r vs) (fun r2 => e r2 Q fun _ => False) fun _ => False)
    (hd : P (items.map f)) : mIt g tOk vs (mEl e) r items [] P X := by
  refine mIt_fn (fun x => [f x]) 100000 ?_ (fun x acc hx hl nx h => ?_) ?_
  · have : ∀ l : List PyData, (l.map fun x => [f x].length).sum = l.length := fun l => by induction l with
      | nil => rfl
      | cons a l ih => rw [List.map_cons, List.sum_cons, ih, List.length_cons]; simp; omega
    rw [this]; simpa using hB
  · have hl' : acc.length + 1 ≤ 100000 := hl
    exact hs x hx (fun y => acc.length < 100000 ∧ nx (acc ++ [y])) ⟨by omega, h⟩
  · rw [List.nil_append]
    have : (items.map fun x => [f x]).flatten = items.map f := by
      clear hd hs hB
      induction items with
      | nil => rfl
      | cons a l ih => rw [List.map_cons, List.flatten_cons, ih, List.map_cons]; rfl
    rw [this]; exact hd
/-- one clause, each turn something of R -/
theorem mIt_rel {g : DG} {vs : List Nat} {e : DE} {r : ME} {P : List PyData → Prop} {X : Xc → Prop} (R : PyData → PyData → Prop) {items : List PyData} (hB : items.length ≤ 100000)
    (hs : ∀ x, x ∈ items → ∀ Q : PyData → Prop, (∀ y, R x y → Q y) → g x (wipeM r vs) (fun r2 => e r2 Q fun _ => False) fun _ => False)
    (hd : ∀ ys, Rel2 R items ys → P ys) : mIt g tOk vs (mEl e) r items [] P X := by
  refine mIt_inv (fun k acc => Rel2 R (items.take k) acc) ⟨by simp, fun _ _ _ _ h => by simp at h⟩ (fun k x acc hx h nx hn => ?_) fun acc h => hd acc (by rwa [List.take_length] at h)
  have hk := (List.getElem?_eq_some_iff.mp hx).1
  refine hs x (List.mem_of_getElem? hx) (fun y => acc.length < 100000 ∧ nx (acc ++ [y])) fun y hy => ⟨?_, hn _ (h.snoc hx hy)⟩
  rw [h.1, List.length_take]; omega
def freeL (r : ME) : List Nat → Prop
  | [] => True
  | j :: js => Free r j ∧ freeL r js
theorem free_of {r : ME} : ∀ {vs : List Nat}, freeL r vs → ∀ j ∈ vs, Free r j
  | [], _, j, h => by cases h
  | i :: vs, h, j, hj => by
    rcases List.mem_cons.mp hj with rfl | hj
    · exact h.1
    · exact free_of h.2 j hj
/-! == at what is known -/
theorem oEq_s {x y : Str} {P : PyData → Prop} {X : Xc → Prop} : oEq (.str x) (.str y) P X = P (.bool (decide (x = y))) := rfl
theorem oEq_i {a b : Int} {P : PyData → Prop} {X : Xc → Prop} : oEq (.int a) (.int b) P X = ((SeqAt.shaped (.int a) = true ∧ SeqAt.shaped (.int b) = true) ∧ P (.bool (PyData.eqv (.int a) (.int b)))) := rfl
theorem oEq_b {a b : Bool} {P : PyData → Prop} {X : Xc → Prop} : oEq (.bool a) (.bool b) P X = ((SeqAt.shaped (.bool a) = true ∧ SeqAt.shaped (.bool b) = true) ∧ P (.bool (PyData.eqv (.bool a) (.bool b)))) := rfl
theorem oEq_t {a b : List PyData} {P : PyData → Prop} {X : Xc → Prop} : oEq (.tuple a) (.tuple b) P X = ((SeqAt.shaped (.tuple a) = true ∧ SeqAt.shaped (.tuple b) = true) ∧ P (.bool (PyData.eqv (.tuple a) (.tuple b)))) := rfl
theorem oEq_l {a b : List PyData} {P : PyData → Prop} {X : Xc → Prop} : oEq (.list a) (.list b) P X = ((SeqAt.shaped (.list a) = true ∧ SeqAt.shaped (.list b) = true) ∧ P (.bool (PyData.eqv (.list a) (.list b)))) := rfl
theorem oNe_s {x y : Str} {P : PyData → Prop} {X : Xc → Prop} : oNe (.str x) (.str y) P X = P (.bool (!decide (x = y))) := rfl
theorem oNe_i {a b : Int} {P : PyData → Prop} {X : Xc → Prop} : oNe (.int a) (.int b) P X = ((SeqAt.shaped (.int a) = true ∧ SeqAt.shaped (.int b) = true) ∧ P (.bool (!PyData.eqv (.int a) (.int b)))) := rfl
theorem oNe_b {a b : Bool} {P : PyData → Prop} {X : Xc → Prop} : oNe (.bool a) (.bool b) P X = ((SeqAt.shaped (.bool a) = true ∧ SeqAt.shaped (.bool b) = true) ∧ P (.bool (!PyData.eqv (.bool a) (.bool b)))) := rfl
theorem oNe_t {a b : List PyData} {P : PyData → Prop} {X : Xc → Prop} : oNe (.tuple a) (.tuple b) P X = ((SeqAt.shaped (.tuple a) = true ∧ SeqAt.shaped (.tuple b) = true) ∧ P (.bool (!PyData.eqv (.tuple a) (.tuple b)))) := rfl
theorem oNe_l {a b : List PyData} {P : PyData → Prop} {X : Xc → Prop} : oNe (.list a) (.list b) P X = ((SeqAt.shaped (.list a) = true ∧ SeqAt.shaped (.list b) = true) ∧ P (.bool (!PyData.eqv (.list a) (.list b)))) := rfl
end MI
set_option Elab.async false
set_option linter.all false
set_option maxRecDepth 100000
/-! Rows of numbers: what is told of cells, in plain lists. -/
namespace GE
open PySem DL
/-- a, a + 1, .. below b -/
def rngI (a b : Int) : List Int := (List.range (b - a).toNat).map fun (k : Nat) => a + (k : Int)
theorem rngI_len (a b : Int) : (rngI a b).length = (b - a).toNat := by unfold rngI; rw [List.length_map, List.length_range]
theorem mem_rngI {a b x : Int} : x ∈ rngI a b ↔ a ≤ x ∧ x < b := by
  unfold rngI
  rw [List.mem_map]
  constructor
  · rintro ⟨k, hk, rfl⟩
    have := List.mem_range.mp hk
    omega
  · rintro ⟨h1, h2⟩
    exact ⟨(x - a).toNat, List.mem_range.mpr (by omega), by omega⟩
theorem rngI_shift (a b s : Int) : (rngI a b).map (· + s) = rngI (a + s) (b + s) := by
  unfold rngI
  rw [List.map_map, show (b + s) - (a + s) = b - a by omega]
  refine List.map_congr_left fun k _ => ?_
  show a + (k : Int) + s = a + s + k
  omega
/-- one axis more -/
def stepG (a b : Int) (rows : List (List Int)) : List (List Int) := (rows.map fun row => (rngI a b).map fun x => row ++ [x]).flatten
theorem stepG_len (a b : Int) (rows : List (List Int)) : (stepG a b rows).length = rows.length * (b - a).toNat := by
  unfold stepG
  induction rows with
  | nil => simp
  | cons r rs ih =>
    rw [List.map_cons, List.flatten_cons, List.length_append, ih, List.length_map, rngI_len, List.length_cons, Nat.succ_mul, Nat.add_comm]
def gridF : List (Int × Int) → List (List Int) → List (List Int)
  | [], rows => rows
  | p :: ps, rows => gridF ps (stepG p.1 p.2 rows)
/-- all rows on the way are few, all numbers small -/
def okG (B : Nat) : List (Int × Int) → Nat → Prop
  | [], n => n ≤ B
  | p :: ps, n => n ≤ B ∧ (-(2 ^ 60) ≤ p.1 ∧ p.1 ≤ 2 ^ 60 ∧ -(2 ^ 60) ≤ p.2 ∧ p.2 ≤ 2 ^ 60) ∧ okG B ps (n * (p.2 - p.1).toNat)
theorem okG_hd {B : Nat} {ps : List (Int × Int)} {n : Nat} (h : okG B ps n) : n ≤ B := by cases ps with
  | nil => exact h
  | cons p ps => exact h.1
theorem okG_last {B : Nat} : ∀ {ps : List (Int × Int)} {rows : List (List Int)}, okG B ps rows.length → (gridF ps rows).length ≤ B
  | [], _, h => h
  | p :: ps, rows, h => okG_last (ps := ps) (by rw [stepG_len]; exact h.2.2)
theorem okG_mono {B : Nat} : ∀ {ps : List (Int × Int)} {n m : Nat}, m ≤ n → okG B ps n → okG B ps m
  | [], _, _, h, q => Nat.le_trans h q
  | _ :: _, _, _, h, q => ⟨Nat.le_trans h q.1, q.2.1, okG_mono (Nat.mul_le_mul_right _ h) q.2.2⟩
/-- the cells of a box: rows of numbers from 0 on -/
def cellsL (ns : List Int) : List (List Int) := gridF (ns.map fun n => (0, n)) [[]]
theorem gridF_len : ∀ (ps : List (Int × Int)) (rows : List (List Int)), (gridF ps rows).length = rows.length * (ps.map fun p => (p.2 - p.1).toNat).foldr (· * ·) 1
  | [], rows => by simp [gridF]
  | p :: ps, rows => by
    show (gridF ps (stepG p.1 p.2 rows)).length = _
    rw [gridF_len ps, stepG_len, List.map_cons, List.foldr_cons, Nat.mul_assoc]
theorem stepG_mem {a b : Int} {rows : List (List Int)} {r : List Int} : r ∈ stepG a b rows ↔ ∃ r0 ∈ rows, ∃ x, (a ≤ x ∧ x < b) ∧ r = r0 ++ [x] := by
  unfold stepG
  rw [List.mem_flatten]
  constructor
  · rintro ⟨l, hl, hr⟩
    obtain ⟨r0, h0, rfl⟩ := List.mem_map.mp hl
    obtain ⟨x, hx, rfl⟩ := List.mem_map.mp hr
    exact ⟨r0, h0, x, mem_rngI.mp hx, rfl⟩
  · rintro ⟨r0, h0, x, hx, rfl⟩
    exact ⟨_, List.mem_map.mpr ⟨r0, h0, rfl⟩, List.mem_map.mpr ⟨x, mem_rngI.mpr hx, rfl⟩⟩
/-- what the rows of a grid are -/
theorem gridF_mem : ∀ {ps : List (Int × Int)} {rows : List (List Int)} {r : List Int}, r ∈ gridF ps rows → ∃ r0 ∈ rows, ∃ xs : List Int, r = r0 ++ xs ∧ xs.length = ps.length ∧ ∀ (i : Nat) x p, xs[i]? = some x → ps[i]? = some p → p.1 ≤ x ∧ x < p.2
  | [], rows, r, h => ⟨r, h, [], by simp, rfl, fun _ _ _ h => by simp at h⟩
  | p :: ps, rows, r, h => by
    obtain ⟨r1, h1, xs, rfl, hl, hx⟩ := gridF_mem (ps := ps) h
    obtain ⟨r0, h0, x, hx0, rfl⟩ := stepG_mem.mp h1
    refine ⟨r0, h0, x :: xs, by simp, by simp [hl], fun i y q hy hq => ?_⟩
    cases i with
    | zero => simp at hy hq; rw [← hy, ← hq]; exact hx0
    | succ i => exact hx i y q (by simpa using hy) (by simpa using hq)
/-- all rows moved -/
def addL : List Int → List Int → List Int
  | x :: xs, y :: ys => (x + y) :: addL xs ys
  | _, _ => []
theorem addL_len : ∀ (xs ys : List Int), xs.length = ys.length → (addL xs ys).length = ys.length
  | [], [], _ => rfl
  | x :: xs, y :: ys, h => by simp only [addL, List.length_cons, addL_len xs ys (by simpa using h)]
  | [], _ :: _, h => by simp at h
  | _ :: _, [], h => by simp at h
theorem addL_app : ∀ (xs ys : List Int) (x y : Int), xs.length = ys.length → addL (xs ++ [x]) (ys ++ [y]) = addL xs ys ++ [x + y]
  | [], [], x, y, _ => rfl
  | a :: xs, b :: ys, x, y, h => by
    show (a + b) :: addL (xs ++ [x]) (ys ++ [y]) = (a + b) :: addL xs ys ++ [x + y]
    rw [addL_app xs ys x y (by simpa using h)]; rfl
  | [], _ :: _, _, _, h => by simp at h
  | _ :: _, [], _, _, h => by simp at h
theorem stepG_shift {a b s : Int} {rows : List (List Int)} {cs : List Int} (h : ∀ r ∈ rows, r.length = cs.length) : (stepG a b rows).map (fun r => addL r (cs ++ [s])) = stepG (a + s) (b + s) (rows.map fun r => addL r cs) := by
  unfold stepG
  rw [List.map_flatten, List.map_map, List.map_map]
  congr 1
  refine List.map_congr_left fun r hr => ?_
  show List.map (fun r => addL r (cs ++ [s])) ((rngI a b).map fun x => r ++ [x]) = (rngI (a + s) (b + s)).map fun x => addL r cs ++ [x]
  rw [← rngI_shift, List.map_map, List.map_map]
  exact List.map_congr_left fun x _ => addL_app r cs x s (h r hr)
theorem gridF_shift : ∀ (ps : List (Int × Int)) (ss : List Int) (rows : List (List Int)) (cs : List Int), ps.length = ss.length → (∀ r ∈ rows, r.length = cs.length) →
    (gridF ps rows).map (fun r => addL r (cs ++ ss)) = gridF (List.zipWith (fun p s => (p.1 + s, p.2 + s)) ps ss) (rows.map fun r => addL r cs)
  | [], [], rows, cs, _, _ => by simp [gridF]
  | p :: ps, s :: ss, rows, cs, hl, h => by
    have ih := gridF_shift ps ss (stepG p.1 p.2 rows) (cs ++ [s]) (by simpa using hl) fun r hr => by
      obtain ⟨r0, h0, x, _, rfl⟩ := stepG_mem.mp hr
      rw [List.length_append, List.length_append, h r0 h0]; rfl
    rw [List.append_assoc] at ih
    rw [show cs ++ s :: ss = cs ++ ([s] ++ ss) from rfl]
    show (gridF ps (stepG p.1 p.2 rows)).map _ = gridF (List.zipWith _ ps ss) (stepG (p.1 + s) (p.2 + s) (rows.map fun r => addL r cs))
    rw [ih, stepG_shift h]
  | [], _ :: _, _, _, h, _ => by simp at h
  | _ :: _, [], _, _, h, _ => by simp at h
/-- the cells moved by a corner -/
theorem cells_shift {ns cs : List Int} (h : ns.length = cs.length) : (cellsL ns).map (fun r => addL r cs) = gridF (List.zipWith (fun c n => (c, c + n)) cs ns) [[]] := by
  unfold cellsL
  have := gridF_shift (ns.map fun n => (0, n)) cs [[]] [] (by rw [List.length_map]; exact h) (fun r hr => by rw [List.mem_singleton.mp hr])
  rw [List.nil_append] at this
  rw [this]
  have e : ∀ (ns cs : List Int), List.zipWith (fun (p : Int × Int) s => (p.1 + s, p.2 + s)) (ns.map fun n => (0, n)) cs = List.zipWith (fun c n => (c, c + n)) cs ns := by
    intro ns
    induction ns with
    | nil => intro cs; cases cs <;> rfl
    | cons n ns ih => intro cs; cases cs with
      | nil => rfl
      | cons c cs => rw [List.map_cons, List.zipWith_cons_cons, List.zipWith_cons_cons, ih]; simp [Int.add_comm]
  rw [e]
  rfl
/-- where an axis has no numbers there are no rows -/
theorem stepG_nil (a b : Int) : stepG a b [] = [] := rfl
theorem gridF_nil : ∀ ps, gridF ps [] = []
  | [] => rfl
  | p :: ps => by show gridF ps (stepG _ _ []) = []; rw [stepG_nil]; exact gridF_nil ps
theorem gridF_none : ∀ {ps : List (Int × Int)} {rows : List (List Int)}, (∃ p ∈ ps, p.2 ≤ p.1) → gridF ps rows = []
  | [], _, h => by obtain ⟨p, hp, _⟩ := h; cases hp
  | p :: ps, rows, h => by
    show gridF ps (stepG p.1 p.2 rows) = []
    obtain ⟨q, hq, hle⟩ := h
    rcases List.mem_cons.mp hq with rfl | hq
    · have : stepG q.1 q.2 rows = [] := List.eq_nil_of_length_eq_zero (by rw [stepG_len, show (q.2 - q.1).toNat = 0 by omega, Nat.mul_zero])
      rw [this]; exact gridF_nil ps
    · exact gridF_none ⟨q, hq, hle⟩
/-! ### sides -/
def MS : Int := 1000000000000
/-- how many cells there are -/
def prodN (ns : List Int) : Nat := (ns.map Int.toNat).foldr (· * ·) 1
theorem prodN_cons (n : Int) (ns : List Int) : prodN (n :: ns) = n.toNat * prodN ns := rfl
theorem prodN_pos : ∀ {ns : List Int}, (∀ n ∈ ns, 1 ≤ n) → 1 ≤ prodN ns
  | [], _ => Nat.le_refl _
  | n :: ns, h => by
    rw [prodN_cons]
    have h1 := h n List.mem_cons_self
    have h2 := prodN_pos fun m hm => h m (List.mem_cons_of_mem _ hm)
    exact Nat.mul_le_mul (show 1 ≤ n.toNat by omega) h2
/-- a box of few cells, gone through -/
theorem okG_box {B : Nat} : ∀ {ns : List Int} {k : Nat}, (∀ n ∈ ns, 1 ≤ n ∧ n ≤ 2 ^ 60) → k * prodN ns ≤ B → okG B (ns.map fun n => (0, n)) k
  | [], k, _, h => by simpa [prodN, okG] using h
  | n :: ns, k, h, hb => by
    have hn := h n List.mem_cons_self
    have hp := prodN_pos fun m hm => (h m (List.mem_cons_of_mem _ hm)).1
    rw [prodN_cons] at hb
    have e : k * (n.toNat * prodN ns) = k * n.toNat * prodN ns := (Nat.mul_assoc _ _ _).symm
    refine ⟨?_, ⟨by show -(2 ^ 60) ≤ (0 : Int); omega, by show (0 : Int) ≤ 2 ^ 60; omega, by show -(2 ^ 60) ≤ n; omega, hn.2⟩, ?_⟩
    · rw [e] at hb
      have h3 : k * 1 ≤ k * n.toNat := Nat.mul_le_mul_left k (show 1 ≤ n.toNat by omega)
      have h4 : k * n.toNat * 1 ≤ k * n.toNat * prodN ns := Nat.mul_le_mul_left _ hp
      omega
    · show okG B _ (k * (n - 0).toNat)
      rw [Int.sub_zero]
      exact okG_box (fun m hm => h m (List.mem_cons_of_mem _ hm)) (by rw [← e]; exact hb)
/-- boxes within a box -/
theorem okG_sub {B : Nat} : ∀ {ps : List (Int × Int)} {ns : List Int} {k : Nat}, ps.length = ns.length → (∀ (i : Nat) p n, ps[i]? = some p → ns[i]? = some n → p.2 - p.1 ≤ n ∧ -(2 ^ 60) ≤ p.1 ∧ p.1 ≤ 2 ^ 60 ∧ -(2 ^ 60) ≤ p.2 ∧ p.2 ≤ 2 ^ 60) → (∀ n ∈ ns, 1 ≤ n ∧ n ≤ 2 ^ 60) → k * prodN ns ≤ B → okG B ps k
  | [], [], k, _, _, _, h => by simpa [prodN, okG] using h
  | p :: ps, n :: ns, k, hl, hp, h, hb => by
    have hn := h n List.mem_cons_self
    have h0 := hp 0 p n rfl rfl
    have hpos := prodN_pos fun m hm => (h m (List.mem_cons_of_mem _ hm)).1
    rw [prodN_cons] at hb
    have e : k * (n.toNat * prodN ns) = k * n.toNat * prodN ns := (Nat.mul_assoc _ _ _).symm
    rw [e] at hb
    refine ⟨?_, h0.2, ?_⟩
    · have h3 : k * 1 ≤ k * n.toNat := Nat.mul_le_mul_left k (show 1 ≤ n.toNat by omega)
      have h4 : k * n.toNat * 1 ≤ k * n.toNat * prodN ns := Nat.mul_le_mul_left _ hpos
      omega
    · refine okG_sub (ns := ns) (by simpa using hl) (fun i q m hq hm => hp (i + 1) q m (by simpa using hq) (by simpa using hm)) (fun m hm => h m (List.mem_cons_of_mem _ hm)) ?_
      exact Nat.le_trans (Nat.mul_le_mul_right _ (Nat.mul_le_mul_left k (show (p.2 - p.1).toNat ≤ n.toNat by omega))) hb
  | [], _ :: _, _, h, _, _, _ => by simp at h
  | _ :: _, [], _, h, _, _, _ => by simp at h
end GE
set_option Elab.async false
set_option linter.all false
set_option maxRecDepth 100000
/-! How long data are when they are shown. -/
namespace GE
open PySem PySem.Spec PyProof.Rows L2 Evl TB DL MI
structure FitL (n k : Nat) (ds : List PyData) : Prop where
  sh : PyData.showableAll ds = true
  dp : PyData.depthAll ds ≤ k
  len : ((PyData.shownAll ds).map (·.length)).sum + 2 * ds.length ≤ n
  eq : (PyData.shownAll ds).length = ds.length
theorem FitL.nil {n k : Nat} : FitL n k [] := ⟨rfl, Nat.zero_le _, Nat.zero_le _, rfl⟩
theorem FitL.cons {n m k : Nat} {d : PyData} {ds : List PyData} (h : Fit n k d) (hs : FitL m k ds) : FitL (n + 2 + m) k (d :: ds) := by
  refine ⟨by rw [PyData.showableAll, h.sh, hs.sh]; rfl, by rw [PyData.depthAll]; have := h.dp; have := hs.dp; omega, ?_, by rw [PyData.shownAll, List.length_cons, hs.eq]; rfl⟩
  rw [PyData.shownAll, List.map_cons, List.sum_cons, List.length_cons]
  have := h.len
  have := hs.len
  omega
theorem FitL.mono {n m k j : Nat} {ds : List PyData} (h : FitL n k ds) (h1 : n ≤ m) (h2 : k ≤ j) : FitL m j ds := ⟨h.sh, Nat.le_trans h.dp h2, Nat.le_trans h.len h1, h.eq⟩
theorem FitL.one {n k : Nat} {d : PyData} (h : Fit n k d) : FitL (n + 2) k [d] := FitL.cons (m := 0) h FitL.nil
theorem FitL.app {n m k : Nat} {as bs : List PyData} (h : FitL n k as) (hs : FitL m k bs) : FitL (n + m) k (as ++ bs) := by
  have key : PyData.showableAll (as ++ bs) = (PyData.showableAll as && PyData.showableAll bs) ∧ PyData.depthAll (as ++ bs) = max (PyData.depthAll as) (PyData.depthAll bs) ∧ PyData.shownAll (as ++ bs) = PyData.shownAll as ++ PyData.shownAll bs := by
    clear h
    induction as with
    | nil => exact ⟨by rw [PyData.showableAll]; rfl, by rw [PyData.depthAll]; simp, by rw [PyData.shownAll]; rfl⟩
    | cons a as ih =>
      obtain ⟨e1, e2, e3⟩ := ih
      exact ⟨by rw [List.cons_append, PyData.showableAll, PyData.showableAll, e1, Bool.and_assoc], by rw [List.cons_append, PyData.depthAll, PyData.depthAll, e2]; omega, by rw [List.cons_append, PyData.shownAll, PyData.shownAll, e3]; rfl⟩
  obtain ⟨e1, e2, e3⟩ := key
  refine ⟨by rw [e1, h.sh, hs.sh]; rfl, by rw [e2]; have := h.dp; have := hs.dp; omega, ?_, by rw [e3, List.length_append, List.length_append, h.eq, hs.eq]⟩
  rw [e3, List.map_append, List.sum_append, List.length_append]
  have := h.len
  have := hs.len
  omega
theorem FitL.tuple {n k : Nat} {ds : List PyData} (h : FitL n k ds) : Fit (n + 3) (k + 1) (.tuple ds) := by
  refine ⟨by rw [PyData.showable]; exact h.sh, ?_, by rw [PyData.depth]; have := h.dp; omega⟩
  have := tupleText_len_le (PyData.shownAll ds)
  rw [PyData.shown]
  have := h.len
  have := h.eq
  omega
theorem FitL.list {n k : Nat} {ds : List PyData} (h : FitL n k ds) : Fit (n + 3) (k + 1) (.list ds) := by
  refine ⟨by rw [PyData.showable]; exact h.sh, ?_, by rw [PyData.depth]; have := h.dp; omega⟩
  have := listText_len_le (PyData.shownAll ds)
  rw [PyData.shown]
  have := h.len
  have := h.eq
  omega
/-- all alike -/
theorem FitL.all {n k : Nat} : ∀ {ds : List PyData}, (∀ d ∈ ds, Fit n k d) → FitL (ds.length * (n + 2)) k ds
  | [], _ => FitL.nil
  | d :: ds, h => by
    rw [List.length_cons, Nat.succ_mul, Nat.add_comm]
    exact FitL.cons (h d List.mem_cons_self) (FitL.all fun x hx => h x (List.mem_cons_of_mem _ hx))
mutual
def ms : PyData → Nat
  | .tuple ds => msL ds + 3
  | .list ds => msL ds + 3
  | .none | .bool _ | .int _ | .str _ | .dict _ => 60
def msL : List PyData → Nat
  | [] => 0
  | d :: ds => ms d + 2 + msL ds
end
theorem msL_app : ∀ a b : List PyData, msL (a ++ b) = msL a + msL b
  | [], b => by rw [List.nil_append, msL]; omega
  | x :: a, b => by rw [List.cons_append, msL, msL_app a b, msL]; omega
theorem msL_rev : ∀ a : List PyData, msL a.reverse = msL a
  | [] => rfl
  | x :: a => by rw [List.reverse_cons, msL_app, msL_rev a, msL, msL, msL]; omega
theorem msL_split (k : Nat) (a : List PyData) : msL (a.take k) + msL (a.drop k) = msL a := by
  rw [← msL_app, List.take_append_drop]
theorem msL_mem : ∀ {a : List PyData} {d : PyData}, d ∈ a → ms d + 2 ≤ msL a
  | x :: a, d, h => by
    rw [msL]
    rcases List.mem_cons.mp h with rfl | h
    · omega
    · have := msL_mem h; omega
/-- small whole numbers and tuples of such -/
def Pn : Nat → PyData → Prop
  | 0, d => ∃ i : Int, d = .int i ∧ 0 ≤ i ∧ i ≤ 1000000000000
  | n + 1, d => (∃ i : Int, d = .int i ∧ 0 ≤ i ∧ i ≤ 1000000000000) ∨ ∃ ds : List PyData, d = .tuple ds ∧ ∀ x ∈ ds, Pn n x
theorem Pn.int {n : Nat} {i : Int} (h : 0 ≤ i) (h1 : i ≤ 1000000000000) : Pn n (.int i) := by cases n with
  | zero => exact ⟨i, rfl, h, h1⟩
  | succ n => exact .inl ⟨i, rfl, h, h1⟩
theorem Pn.tup {n : Nat} {ds : List PyData} (h : ∀ x ∈ ds, Pn n x) : Pn (n + 1) (.tuple ds) := .inr ⟨ds, rfl, h⟩
theorem fit_i {i : Int} (h : 0 ≤ i) (h1 : i ≤ 1000000000000) : Fit 60 0 (.int i) := (fit_int h h1).mono (by decide) (Nat.le_refl _)
theorem Pn.plain : ∀ {n : Nat} {d : PyData}, Pn n d → plain d
  | 0, _, ⟨i, h, _⟩ => by rw [h]; exact ⟨rfl, rfl⟩
  | n + 1, _, .inl ⟨i, h, _⟩ => by rw [h]; exact ⟨rfl, rfl⟩
  | n + 1, _, .inr ⟨ds, h, hx⟩ => by rw [h]; exact plain_tuple fun x hm => Pn.plain (hx x hm)
theorem Pn.fitL {n : Nat} (ih : ∀ {d : PyData}, Pn n d → Fit (ms d) n d) : ∀ {ds : List PyData}, (∀ x ∈ ds, Pn n x) → FitL (msL ds) n ds
  | [], _ => FitL.nil
  | d :: ds, h => by rw [msL]; exact FitL.cons (ih (h d List.mem_cons_self)) (Pn.fitL ih fun x hx => h x (List.mem_cons_of_mem _ hx))
theorem Pn.fit : ∀ {n : Nat} {d : PyData}, Pn n d → Fit (ms d) n d
  | 0, _, ⟨i, h, h0, h1⟩ => by rw [h, ms]; exact fit_i h0 h1
  | n + 1, _, .inl ⟨i, h, h0, h1⟩ => by rw [h, ms]; exact (fit_i h0 h1).mono (Nat.le_refl _) (by omega)
  | n + 1, _, .inr ⟨ds, h, hx⟩ => by rw [h, ms]; exact (Pn.fitL (fun h => Pn.fit h) hx).tuple
theorem Pn.fits {n : Nat} {ds : List PyData} (h : ∀ x ∈ ds, Pn n x) : FitL (msL ds) n ds := Pn.fitL (fun h => Pn.fit h) h
theorem Pn.lay : ∀ {n : Nat} {d : PyData}, Pn n d → d.canLay0 = true ∧ d.depth ≤ n
  | 0, _, ⟨i, h, _⟩ => by rw [h]; exact ⟨rfl, Nat.le_refl _⟩
  | n + 1, _, .inl ⟨i, h, _⟩ => by rw [h]; exact ⟨rfl, Nat.zero_le _⟩
  | n + 1, _, .inr ⟨ds, h, hx⟩ => by
    rw [h, PyData.canLay0, PyData.depth]
    have : ∀ l : List PyData, (∀ x ∈ l, Pn n x) → PyData.canLayAll0 l = true ∧ PyData.depthAll l ≤ n := fun l => by
      induction l with
      | nil => exact fun _ => ⟨rfl, Nat.zero_le _⟩
      | cons a l ih =>
        intro hl
        obtain ⟨b1, b2⟩ := ih fun x hx => hl x (List.mem_cons_of_mem _ hx)
        obtain ⟨a1, a2⟩ := Pn.lay (hl a List.mem_cons_self)
        exact ⟨by rw [PyData.canLayAll0, a1, b1]; rfl, by rw [PyData.depthAll]; omega⟩
    obtain ⟨b1, b2⟩ := this ds hx
    exact ⟨b1, by omega⟩
theorem Pn.shaped {n : Nat} {d : PyData} (h : Pn n d) (hn : n ≤ 10) : SeqAt.shaped d = true := by
  obtain ⟨a, b⟩ := h.lay
  unfold SeqAt.shaped
  rw [a, decide_eq_true (by omega : d.depth ≤ 64)]
  rfl
theorem gd_pn {n : Nat} {d : PyData} (h : Pn n d) : Gd (ms d) n d := ⟨okD_plain h.plain, h.fit⟩
theorem gd_tupP {n : Nat} {ds : List PyData} (h : ∀ x ∈ ds, Pn n x) : Gd (msL ds + 3) (n + 1) (.tuple ds) := ⟨okD_plain (plain_tuple fun x hx => (h x hx).plain), (Pn.fits h).tuple⟩
theorem gd_lstP {n : Nat} {ds : List PyData} (h : ∀ x ∈ ds, Pn n x) : Gd (msL ds + 3) (n + 1) (.list ds) := ⟨okD_list fun x hx => (h x hx).plain, (Pn.fits h).list⟩
theorem gd_midP {n m k : Nat} {xs ys : List PyData} {e : PyData} (hx : ∀ x ∈ xs, Pn n x) (hy : ∀ x ∈ ys, Pn n x) (he : Gd m k e) (hk : n ≤ k) : Gd (msL xs + (m + 2) + msL ys + 3) (k + 1) (.tuple (xs ++ [e] ++ ys)) :=
  ⟨okD_mid (fun x h => (hx x h).plain) (fun x h => (hy x h).plain) he.1, ((((Pn.fits hx).mono (Nat.le_refl _) hk).app (FitL.one he.2)).app ((Pn.fits hy).mono (Nat.le_refl _) hk)).tuple⟩
theorem gdI {i : Int} (h : -1 ≤ i) (h2 : i < 10 ^ 40) : Gd 40 0 (.int i) := by
  refine ⟨rfl, ?_⟩
  by_cases h0 : 0 ≤ i
  · exact fit_nat h0 h2
  · have : i = -1 := by omega
    subst this
    exact ⟨by decide +kernel, by decide +kernel, by decide +kernel⟩
theorem gdB (b : Bool) : Gd 40 0 (.bool b) := by cases b <;> exact ⟨by decide +kernel, by decide +kernel, by decide +kernel, by decide +kernel⟩
theorem gdN {i : Int} (h : 0 ≤ i) (h2 : i ≤ 1000000000000) : Gd 132 0 (.str (numS i)) := by
  refine ⟨rfl, fit_str (n := 13) ?_ fun c hc => ?_⟩
  · rw [← cs_len, cs_num h]; exact digs_len (by omega)
  · rw [cs_num h] at hc
    have := digs_mem _ _ hc
    exact Nat.lt_of_le_of_lt this.2 (by decide)
theorem cut_to {ds : List PyData} {k : Nat} : DL.cutD ds none (some (k : Int)) = ds.take k := by
  unfold DL.cutD
  rw [HT.sIx_none]
  simp only [HT.sIx, Nat.sub_zero, List.drop_zero]
  rw [if_neg (by omega), Int.toNat_natCast, List.take_eq_take_iff]
  omega
theorem cut_from {ds : List PyData} {k : Nat} : DL.cutD ds (some (k : Int)) none = ds.drop k := by
  unfold DL.cutD
  rw [HT.sIx_none]
  simp only [HT.sIx]
  rw [if_neg (by omega), Int.toNat_natCast]
  by_cases h : k ≤ ds.length
  · rw [Nat.min_eq_left h, List.take_of_length_le (by rw [List.length_drop]; omega)]
  · rw [Nat.min_eq_right (by omega), List.drop_eq_nil_of_le (Nat.le_refl _), List.drop_eq_nil_of_le (by omega)]
    simp
theorem cut_mem {ds : List PyData} {lo hi : Option Int} {x : PyData} (h : x ∈ DL.cutD ds lo hi) : x ∈ ds := List.mem_of_mem_drop (List.mem_of_mem_take h)
theorem cut_ms {ds : List PyData} {lo hi : Option Int} : msL (DL.cutD ds lo hi) ≤ msL ds := by
  unfold DL.cutD
  have h1 := msL_split (HT.sIx ds.length 0 lo) ds
  have h2 := msL_split (HT.sIx ds.length ds.length hi - HT.sIx ds.length 0 lo) (ds.drop (HT.sIx ds.length 0 lo))
  omega
theorem cut_len {ds : List PyData} {lo hi : Option Int} : (DL.cutD ds lo hi).length ≤ ds.length := by
  unfold DL.cutD
  rw [List.length_take, List.length_drop]
  omega
theorem f_draw {m : Int} {P : PyData → Prop} {X : Xc → Prop} (h0 : 0 < m) (h1 : m ≤ 1000000000000000000) (h : ∀ r : Int, 0 ≤ r → r < m → P (.int r)) : m_draw [.int m] P X := ⟨⟨h0, h1⟩, h⟩
theorem f_one {ds : List PyData} {P : PyData → Prop} {X : Xc → Prop} (h0 : 0 < ds.length) (h1 : ds.length ≤ 100000) (h : ∀ e ∈ ds, P e) : m_one [.list ds] P X := ⟨⟨h0, h1⟩, h⟩
end GE
set_option Elab.async false
set_option linter.all false
set_option maxRecDepth 100000
/-! Operations, where it is known what they stand at. -/
namespace MI
open PySem PySem.Spec PyProof.Rows L2 Evl TB DL
variable {P : PyData → Prop} {X : Xc → Prop} {a b : Int} {ds es : List PyData} {x y : Str} {lo hi : Option Int}
theorem r_add_i (h : P (.int (a + b))) : oAdd (.int a) (.int b) P X := h
theorem r_add_t (h : ds.length + es.length ≤ 100000) (q : P (.tuple (ds ++ es))) : oAdd (.tuple ds) (.tuple es) P X := ⟨h, q⟩
theorem r_add_l (h : ds.length + es.length ≤ 100000) (q : P (.list (ds ++ es))) : oAdd (.list ds) (.list es) P X := ⟨h, q⟩
theorem r_it_t {e : PyData} (h : atI ds a = some e) (q : P e) : oIt (.tuple ds) (.int a) P X := by
  show (match atI ds a with | some e => P e | none => False)
  rw [h]; exact q
theorem r_it_l {e : PyData} (h : atI ds a = some e) (q : P e) : oIt (.list ds) (.int a) P X := by
  show (match atI ds a with | some e => P e | none => False)
  rw [h]; exact q
theorem r_sl_t (q : P (.tuple (DL.cutD ds lo hi))) : oSl (.tuple ds) lo hi P X := q
theorem r_sl_l (q : P (.list (DL.cutD ds lo hi))) : oSl (.list ds) lo hi P X := q
theorem r_ln_t (q : P (.int ds.length)) : oLn [.tuple ds] P X := q
theorem r_ln_l (q : P (.int ds.length)) : oLn [.list ds] P X := q
theorem r_list_t (q : P (.list ds)) : oList [.tuple ds] P X := q
theorem r_list_l (q : P (.list ds)) : oList [.list ds] P X := q
theorem r_tuple_t (q : P (.tuple ds)) : oTuple [.tuple ds] P X := q
theorem r_tuple_l (q : P (.tuple ds)) : oTuple [.list ds] P X := q
theorem r_mul_t (h1 : ds ≠ []) (h2 : ds.length ≤ 1000) (h3 : 0 ≤ b ∧ b ≤ 1000) (q : P (.tuple (List.replicate b.toNat ds).flatten)) : oMul (.tuple ds) (.int b) P X := ⟨⟨h1, h2, h3.1, h3.2⟩, q⟩
theorem r_oI {f : Int → Int → PyData} (q : P (f a b)) : oI f (.int a) (.int b) P X := q
theorem r_ne_s (z : Str) (q : P (.bool false)) : oNe (.str z) (.str z) P X := by
  show P (.bool (!decide (z = z)))
  rw [decide_eq_true rfl]; exact q
end MI
set_option Elab.async false
set_option linter.all false
set_option maxRecDepth 100000
/-! while; x in a tuple or list of numbers. -/
namespace MI
open PySem PySem.Spec PyProof.Rows L2 Evl TB DL
/-- a while: J by what falls with each turn -/
theorem whK_rule {L : List Nat} {t : DT} {b : DS} {D : DN} (J : Nat → ME → Prop)
    (hs : ∀ (k : Nat) r, J k r → ∀ nx : ME → Prop, (∀ (k' : Nat) r', k' < k → J k' (keepM L 0 r') → nx r') → t r (fun x => match x with
      | true => b { D with nx := nx, ct := nx, bk := D.nx } r
      | false => D.nx r) D.ex) {k : Nat} {r : ME} (h : J k (keepM L 0 r)) : ∃ n, whK L t b D n r := by
  have key : ∀ (n k : Nat) (r : ME), k < n → J k (keepM L 0 r) → whK L t b D n r := by
    intro n
    induction n with
    | zero => intro k r hk _; omega
    | succ n ih => exact fun k r hk h => hs k _ h _ fun k' r' hk' h' => ih k' r' (by omega) h'
  exact ⟨k + 1, key (k + 1) k r (Nat.lt_succ_self k) h⟩
def oIn : PyData → PyData → C PyData
  | .int i, .tuple ds => fun P _ => match intsOf ds with
    | some ns => P (.bool (decide (i ∈ ns)))
    | none => False
  | .int i, .list ds => fun P _ => match intsOf ds with
    | some ns => P (.bool (decide (i ∈ ns)))
    | none => False
  | _, _ => fun _ _ => False
def oNotIn : PyData → PyData → C PyData
  | .int i, .tuple ds => fun P _ => match intsOf ds with
    | some ns => P (.bool (!decide (i ∈ ns)))
    | none => False
  | .int i, .list ds => fun P _ => match intsOf ds with
    | some ns => P (.bool (!decide (i ∈ ns)))
    | none => False
  | _, _ => fun _ _ => False
theorem inV_ints (i : Int) : ∀ ns : List Int, inV (.int i) (ns.map V.int) = decide (i ∈ ns)
  | [] => rfl
  | n :: ns => by
    have ih := inV_ints i ns
    unfold inV at ih ⊢
    rw [List.map_cons, List.any_cons, ih]
    have e : eqV (.int n) (.int i) = decide (n = i) := rfl
    rw [e]
    by_cases h : n = i
    · subst h; simp
    · rw [decide_eq_false h, Bool.false_or]
      congr 1
      rw [List.mem_cons, eq_iff_iff]
      exact ⟨fun q => .inr q, fun q => q.resolve_left fun e => h e.symm⟩
theorem flat_ints : ∀ ns : List Int, (ns.map V.int).all flatV = true
  | [] => rfl
  | n :: ns => by rw [List.map_cons, List.all_cons, flat_ints ns]; rfl
theorem rg_ints {N : Addr → Prop} {H : Hp} : ∀ {xs : List V} {ns : List Int}, RgAll N H xs (ns.map .int) → xs = ns.map V.int
  | [], [], _ => rfl
  | x :: xs, n :: ns, h => by
    rw [List.map_cons] at h
    cases h with
    | cons h1 h2 =>
      cases h1
      rw [List.map_cons, rg_ints h2]
  | [], n :: ns, h => by rw [List.map_cons] at h; cases h
  | x :: xs, [], h => by cases h
theorem os_in {K : PySem.W.Frag} : OpS (rIn K false) oIn := fun e1 e2 P X h => by
  unfold oIn at h
  split at h
  · split at h
    · rename_i i ds ns hi
      obtain rfl := intsOf_eq hi
      refine OpD.of (fun N H v1 v2 ok r1 r2 => ?_) h
      cases r1
      cases r2 with
      | tup ha hn hr =>
        obtain rfl := rg_ints hr
        exact res_rfl (.bl _) fun Q q => ⟨_, _, rfl, .inr (.inl (.inl ha)), rfl, flat_ints ns, by rw [if_neg Bool.false_ne_true, inV_ints]; exact q⟩
    · exact h.elim
  · split at h
    · rename_i i ds ns hi
      obtain rfl := intsOf_eq hi
      refine OpD.of (fun N H v1 v2 ok r1 r2 => ?_) h
      cases r1
      cases r2 with
      | lst ha hn hr =>
        obtain rfl := rg_ints hr
        exact res_rfl (.bl _) fun Q q => ⟨_, _, rfl, .inl (.inl (.inl ha)), rfl, flat_ints ns, by rw [if_neg Bool.false_ne_true, inV_ints]; exact q⟩
    · exact h.elim
  · exact h.elim
theorem os_notIn {K : PySem.W.Frag} : OpS (rIn K true) oNotIn := fun e1 e2 P X h => by
  unfold oNotIn at h
  split at h
  · split at h
    · rename_i i ds ns hi
      obtain rfl := intsOf_eq hi
      refine OpD.of (fun N H v1 v2 ok r1 r2 => ?_) h
      cases r1
      cases r2 with
      | tup ha hn hr =>
        obtain rfl := rg_ints hr
        exact res_rfl (.bl _) fun Q q => ⟨_, _, rfl, .inr (.inl (.inl ha)), rfl, flat_ints ns, by rw [if_pos rfl, inV_ints]; exact q⟩
    · exact h.elim
  · split at h
    · rename_i i ds ns hi
      obtain rfl := intsOf_eq hi
      refine OpD.of (fun N H v1 v2 ok r1 r2 => ?_) h
      cases r1
      cases r2 with
      | lst ha hn hr =>
        obtain rfl := rg_ints hr
        exact res_rfl (.bl _) fun Q q => ⟨_, _, rfl, .inl (.inl (.inl ha)), rfl, flat_ints ns, by rw [if_pos rfl, inV_ints]; exact q⟩
    · exact h.elim
  · exact h.elim
end MI
set_option Elab.async false
set_option linter.all false
set_option maxRecDepth 100000
/-! What is never reached; two names at once, own lists among them. -/
namespace MI
open PySem PySem.Spec PyProof.Rows L2 Evl TB DL
def sNo : DS := fun _ _ => False
abbrev tNever : TS := fun _ _ _ => False
theorem ps_dead {X : Cx} {s : Stmt} : PS X s tNever := ⟨fun _ _ _ _ _ _ h => h.elim⟩
theorem ss_no {c : Ct} : SS c tNever sNo := fun _ _ _ _ _ _ _ _ _ h => h.elim
def sParDO (i j : Nat) (a : DE) (m : DEO) : DS := fun D r => a r (fun x => m r (fun ds => j < r.length ∧ D.nx ((r.set i (some (.dat x))).set j (some (.own ds)))) D.ex) D.ex
def sParOD (i j : Nat) (m : DEO) (b : DE) : DS := fun D r => m r (fun ds => b r (fun y => i < r.length ∧ D.nx ((r.set i (some (.own ds))).set j (some (.dat y)))) fun _ => False) D.ex
def sParOO (i j : Nat) (m m2 : DEO) : DS := fun D r => m r (fun ds => m2 r (fun es => (i < r.length ∧ j < r.length) ∧ D.nx ((r.set i (some (.own ds))).set j (some (.own es)))) fun _ => False) D.ex
section
variable {c : Ct} {ta tb : TE} {ma mb : DE} {m m2 : DEO} {i j : Nat}
theorem ss_parDO (ha : SE c ta ma) (hm : SEO c tb m) : SS c (tPar i j (tCons ta (tCons tb tNil))) (sParDO i j ma m) := fun H0 r τ l σ H S D E h n b ct rt x =>
  ha H0 r τ l σ H S _ _ h (x r σ) _ fun v e H1 S1 p => hm H0 r _ l σ H1 S1 _ _ p (x r σ).more _ fun a ds H2 S2 q =>
    ⟨v, .ref a, rfl, n _ _ H2 ((S2.setD).setO (by rw [List.length_set]; exact q.1)) q.2⟩
theorem ss_parOD (hm : SEO c ta m) (hb : SE c tb mb) : SS c (tPar i j (tCons ta (tCons tb tNil))) (sParOD i j m mb) := fun H0 r τ l σ H S D E h n b ct rt x =>
  hm H0 r τ l σ H S _ _ h (x r σ) _ fun a ds H1 S1 p => hb H0 r _ _ σ H1 S1 _ _ p XOut.no _ fun v e H2 S2 q =>
    ⟨.ref a, v, rfl, n _ _ H2 ((S2.setO q.1).setD) q.2⟩
theorem ss_parOO (hm : SEO c ta m) (hm2 : SEO c tb m2) : SS c (tPar i j (tCons ta (tCons tb tNil))) (sParOO i j m m2) := fun H0 r τ l σ H S D E h n b ct rt x =>
  hm H0 r τ l σ H S _ _ h (x r σ) _ fun a ds H1 S1 p => hm2 H0 r _ _ σ H1 S1 _ _ p XOut.no _ fun a2 es H2 S2 q => by
    have S3 : MSt c H0 r τ ((a, ds) :: (a2, es) :: l) σ H2 := ⟨S2.fit, st_perm S2.st (List.Perm.append_left _ (List.Perm.swap _ _ _))⟩
    exact ⟨.ref a, .ref a2, rfl, n _ _ H2 ((S3.setO q.1.1).setO (by rw [List.length_set]; exact q.1.2)) q.2⟩
end
/-! ### in, for data of any kind -/
def rInD (K : PySem.W.Frag) (neg : Bool) : R2 := fun x y H Q => ∃ d es, Dp K H x d ∧ (Dp K H y (.list es) ∨ Dp K H y (.tuple es)) ∧ SeqAt.shaped d = true ∧ d.depth ≤ 62 ∧ SeqAt.shaped (.list es) = true ∧ Q (.bl (if neg then !(es.any fun z => PyData.eqv z d) else es.any fun z => PyData.eqv z d)) H
section
variable {X : Cx}
theorem room_in {A : Around} {es : List PyData} {d : PyData} (h : d.depth ≤ 62) (hu : A.units + 64 < cLine) : A.units + 1 + min (PyData.depthAll es) d.depth < cLine := by
  have h2 : min (PyData.depthAll es) d.depth ≤ d.depth := Nat.min_le_right _ _
  omega
theorem lay_l {es : List PyData} (h : SeqAt.shaped (.list es) = true) : PyData.canLayAll0 es = true := by
  have := SeqAt.canLay_of_shaped h
  rwa [PyData.canLay0] at this
theorem op_inD (hu : X.A.units + 64 < cLine) : OpR X (compareOp .In) (rInD X.K false) := by
  intro pins s σ H x y v u Q I rx ry h
  obtain ⟨d, es, hd, he, sd, dd, se, q⟩ := h
  obtain ⟨as, r1⟩ := Dp.reads I d x v hd rx
  rcases he with he | he
  · obtain ⟨bs, r2⟩ := Dp.reads I _ y u he ry
    exact SeqAt.in_list_reads r2 r1 (lay_l se) (SeqAt.canLay_of_shaped sd) (room_in dd hu) ⟨.bl _, H, I, rfl, q⟩
  · obtain ⟨bs, r2⟩ := Dp.reads I _ y u he ry
    exact SeqAt.in_tuple_reads r2 r1 (lay_l se) (SeqAt.canLay_of_shaped sd) (room_in dd hu) ⟨.bl _, H, I, rfl, q⟩
theorem op_notInD (hu : X.A.units + 64 < cLine) : OpR X (compareOp .NotIn) (rInD X.K true) := by
  intro pins s σ H x y v u Q I rx ry h
  obtain ⟨d, es, hd, he, sd, dd, se, q⟩ := h
  obtain ⟨as, r1⟩ := Dp.reads I d x v hd rx
  rcases he with he | he
  · obtain ⟨bs, r2⟩ := Dp.reads I _ y u he ry
    exact SeqAt.notIn_list_reads r2 r1 (lay_l se) (SeqAt.canLay_of_shaped sd) (room_in dd hu) ⟨.bl _, H, I, rfl, q⟩
  · obtain ⟨bs, r2⟩ := Dp.reads I _ y u he ry
    exact SeqAt.notIn_tuple_reads r2 r1 (lay_l se) (SeqAt.canLay_of_shaped sd) (room_in dd hu) ⟨.bl _, H, I, rfl, q⟩
def rInA (K : PySem.W.Frag) (neg : Bool) : R2 := fun x y H Q => rIn K neg x y H Q ∨ rInD K neg x y H Q
theorem op_inA (hu : X.A.units + 64 < cLine) : OpR X (compareOp .In) (rInA X.K false) := OpR.or op_in_seq (op_inD hu)
theorem op_notInA (hu : X.A.units + 64 < cLine) : OpR X (compareOp .NotIn) (rInA X.K true) := OpR.or op_notIn_seq (op_notInD hu)
end
def seqAll : PyData → Option (List PyData)
  | .list es => some es
  | .tuple es => some es
  | _ => none
def oInD (neg : Bool) (d e : PyData) : C PyData := fun P _ => ∃ es, seqAll e = some es ∧ SeqAt.shaped d = true ∧ d.depth ≤ 62 ∧ SeqAt.shaped (.list es) = true ∧ P (.bool (if neg then !(es.any fun z => PyData.eqv z d) else es.any fun z => PyData.eqv z d))
theorem os_inD {K : PySem.W.Frag} {neg : Bool} : OpS (rInD K neg) (oInD neg) := fun e1 e2 P X h N H v1 v2 ok r1 r2 Q q => by
  obtain ⟨es, he, h1, h2, h3, p⟩ := h
  have nd := noDict_of h3
  refine ⟨e1, es, r1.dp _ _ (noDict_of h1), ?_, h1, h2, h3, q _ _ _ ex_refl (.bl _) p⟩
  cases e2 with
  | list ds => cases he; exact .inl (r2.dp _ _ nd)
  | tuple ds => cases he; exact .inr (r2.dp _ _ (by
      have h := nd
      rw [PyData.hasDict] at h
      rw [PyData.hasDict]; exact h))
  | _ => cases he
def oInA (neg : Bool) (d e : PyData) : C PyData := fun P X => (if neg then oNotIn d e P X else oIn d e P X) ∨ oInD neg d e P X
theorem os_inA {K : PySem.W.Frag} : OpS (rInA K false) (oInA false) := fun e1 e2 P X h => by
  rcases h with h | h
  · exact OpD.l (os_in e1 e2 P X h)
  · exact OpD.r (os_inD e1 e2 P X h)
theorem os_notInA {K : PySem.W.Frag} : OpS (rInA K true) (oInA true) := fun e1 e2 P X h => by
  rcases h with h | h
  · exact OpD.l (os_notIn e1 e2 P X h)
  · exact OpD.r (os_inD e1 e2 P X h)
/-! ### xs.pop(i) -/
def oPopP (j : Nat) (me : DE) (r : ME) (P : ME → PyData → Prop) (X : Xc → Prop) : Prop := match lk r j with
  | some (.own es) => me r (fun d => match d with
    | .int k => (match es[k.toNat]? with
      | some e => (0 ≤ k ∧ k < 2 ^ 62) ∧ P (r.set j (some (.own (es.eraseIdx k.toNat)))) e
      | none => False)
    | _ => False) X
  | _ => False
/-- ys.append(xs.pop(k)) -/
def oAppPop (i j : Nat) (me : DE) : DS := fun D r => match lk r i with
  | some (.own ds) => i ≠ j ∧ oPopP j me r (fun r2 e => ds.length < 100000 ∧ D.nx (r2.set i (some (.own (ds ++ [e]))))) D.ex
  | _ => False
section
variable {c : Ct} {K : PySem.W.Frag} {te : TE} {me : DE}
theorem rg_erase {N : Addr → Prop} {H : Hp} : ∀ {xs : List V} {ds : List PyData} (j : Nat), RgAll N H xs ds → RgAll N H (xs.eraseIdx j) (ds.eraseIdx j)
  | _, _, _, .nil => .nil
  | _, _, 0, .cons _ t => t
  | _, _, j + 1, .cons q t => .cons q (rg_erase j t)
theorem pop_run {H0 H : Hp} {r : ME} {τ : List (V × PyData)} {l : List (Addr × List PyData)} {σ : L2.St} {j : Nat} {P : ME → PyData → Prop} {X : Xc → Prop} {Q : VK} (S : MSt c H0 r τ l σ H) (he : SE c te me) (hp : oPopP j me r P X) (hX : ∀ r' σ', XOut c H0 r' τ l σ' X)
    (k : ∀ y e r2 H2, MSt c H0 r2 ((y, e) :: τ) l σ H2 → (∃ es es', lk r j = some (.own es) ∧ r2 = r.set j (some (.own es'))) → P r2 e → Q y H2) : tBM K "list" rPopAt (tVar j) (tCons te tNil) σ H Q := by
  unfold oPopP at hp
  split at hp
  · rename_i es hl
    obtain ⟨a, xs, ha, hx, _, _⟩ := own_front S hl
    refine ⟨.ref a, ha, .inl ⟨rfl, xs, .inl (.inl hx)⟩, he H0 r τ l σ H S _ _ hp (hX r σ) _ fun z e1 H1 S1 p => ?_⟩
    try dsimp only at p
    split at p
    · rename_i zi
      have := S1.it
      subst this
      split at p
      · rename_i e hj
        obtain ⟨⟨h0, h62⟩, p⟩ := p
        obtain ⟨a', xs', ha', hx', hl', T⟩ := own_front S1.pop hl
        rw [ha] at ha'
        cases ha'
        obtain ⟨ys, h1, h2, h3, _⟩ := st_look T
        rw [hx'] at h1
        cases h1
        have jl : zi.toNat < xs'.length := by rw [hl']; exact (List.getElem?_eq_some_iff.mp hj).1
        obtain ⟨d, hd, T2⟩ := h3 zi.toNat _ (List.getElem?_eq_getElem jl)
        rw [hj] at hd
        cases hd
        have T3 := st_mut T2 (ys := xs'.eraseIdx zi.toNat) (es := es.eraseIdx zi.toNat) fun N xs h1 h2 _ => by
          rw [hx'] at h1
          cases h1
          exact rg_erase _ h2
        refine ⟨a, xs', zi, zi.toNat, xs'[zi.toNat], rfl, rfl, hx', by omega, by omega, ?_, List.getElem?_eq_getElem jl, ?_⟩
        · unfold seqIndex?
          have n0 : ¬ zi < 0 := by omega
          have n1 : (decide (0 ≤ zi) && decide (zi < (xs'.length : Int))) = true := by
            rw [Bool.and_eq_true, decide_eq_true_eq, decide_eq_true_eq]; omega
          simp only [n0, if_false]
          rw [if_pos n1]
        · exact k _ e _ _ (S1.back (lk_some hl) ha T3) ⟨es, _, hl, rfl⟩ p
      · exact p.elim
    · exact p.elim
  · exact hp.elim
theorem ss_appPop {i j : Nat} (he : SE c te me) : SS c (tDrop (tBM K "list" rAppend (tVar i) (tCons (tBM K "list" rPopAt (tVar j) (tCons te tNil)) tNil))) (oAppPop i j me) := fun H0 r τ l σ H S D E hp n b ct rt x => by
  unfold oAppPop at hp
  split at hp
  · rename_i ds hl
    obtain ⟨hne, hp⟩ := hp
    obtain ⟨a, xs, ha, hx, _, _⟩ := own_front S hl
    refine ⟨.ref a, ha, .inl ⟨rfl, xs, .inl (.inl hx)⟩, pop_run (K := K) S he hp x fun y e r2 H2 S2 ⟨es, es', _, h2⟩ p => ?_⟩
    have hl2 : lk r2 i = some (.own ds) := by
      rw [h2]
      rw [lk_get, List.getElem?_set_ne (Ne.symm hne), ← lk_get]; exact hl
    obtain ⟨a', xs', ha', hx', hl', T⟩ := own_front S2 hl2
    rw [ha] at ha'
    cases ha'
    obtain ⟨ys, hy, hly, T2⟩ := T.app
    rw [hx'] at hy
    cases hy
    exact ⟨a, xs', y, rfl, rfl, hx', size_small' (by rw [hl']; omega), n _ σ _ (S2.back (lk_some hl2) ha T2) p.2⟩
  · exact hp.elim
end
/-! ### max(xs, default=None) -/
def rMaxN (K : PySem.W.Frag) : List V → List V → Hp → VK → Prop := fun xs zs H Q => ∃ (a : Addr) (ns : List Int), xs = [V.ref a] ∧ zs = [V.non] ∧ SqL K H a (ns.map V.int) ∧ (ns = [] → Q .non H) ∧ ∀ m, m ∈ ns → (∀ y, y ∈ ns → y ≤ m) → Q (.int m) H
theorem maxOf_spec : ∀ (xs : List Int) (x : Int), PySem.W.maxOf x xs ∈ x :: xs ∧ ∀ y ∈ x :: xs, y ≤ PySem.W.maxOf x xs
  | [], x => ⟨List.mem_cons_self, fun y hy => by rw [List.mem_singleton.mp hy]; exact Int.le_refl _⟩
  | z :: xs, x => by
    have e : PySem.W.maxOf x (z :: xs) = PySem.W.maxOf (if x < z then z else x) xs := by
      show PySem.W.maxOf (if decide (x < z) = true then z else x) xs = _
      by_cases h : x < z <;> simp [h]
    obtain ⟨h1, h2⟩ := maxOf_spec xs (if x < z then z else x)
    rw [e]
    by_cases h : x < z
    · rw [if_pos h] at h1 h2 ⊢
      refine ⟨List.mem_cons_of_mem _ h1, fun y hy => ?_⟩
      rcases List.mem_cons.mp hy with rfl | hy
      · have := h2 z List.mem_cons_self; omega
      · exact h2 y hy
    · rw [if_neg h] at h1 h2 ⊢
      refine ⟨?_, fun y hy => ?_⟩
      · rcases List.mem_cons.mp h1 with h1 | h1
        · rw [h1]; exact List.mem_cons_self
        · exact List.mem_cons_of_mem _ (List.mem_cons_of_mem _ h1)
      · rcases List.mem_cons.mp hy with rfl | hy
        · exact h2 _ List.mem_cons_self
        · rcases List.mem_cons.mp hy with rfl | hy
          · have := h2 x List.mem_cons_self; omega
          · exact h2 y (List.mem_cons_of_mem _ hy)
theorem holds_ints {h : Heap} : ∀ {vs : List Value} {ns : List Int}, IntsAre vs ns → PySem.W.HoldAll h vs ns
  | _, _, .nil => PySem.W.HoldAll.nil
  | _, _, .cons k t r => PySem.W.HoldAll.cons ⟨_, Reads.int k t⟩ (holds_ints r)
theorem cr_maxN {X : Cx} (hc : X.calm = true) (hu : X.A.units + 64 < cLine) : CallRK X (.builtin "max") [Str.ofString "default"] (rMaxN X.K) := by
  intro pins s σ H xs zs us ws Q I r1 r2 h
  obtain ⟨a, ns, rfl, rfl, hs, q0, q1⟩ := h
  obtain ⟨its, rv, hl, _⟩ := I.list hs
  rw [Vals.ref1 r1]
  obtain ⟨u, rfl, ru⟩ := r2.one
  cases ru
  refine PySem.W.max_list_datum_default (α := Int) (I.ok.hd hc) hl.isList (xs := ns) (holds_ints rv.ints) (by show X.A.units + 1 + 0 < cLine; omega) (fun e h' tk hk => ⟨.non, H, I.kept hk, rfl, q0 e⟩) fun y ys i v h' tk e hi hv hk => ?_
  obtain ⟨as, hr⟩ := hv
  have hr' : Reads h' v (.int (PySem.W.maxOf y ys)) as := hr
  cases hr' with
  | int k t =>
    obtain ⟨m1, m2⟩ := maxOf_spec ys y
    exact ⟨.int _, H, I.kept hk, ⟨_, rfl⟩, q1 _ (by rw [e]; exact m1) fun z hz => m2 z (by rw [← e]; exact hz)⟩
def oMaxN : List PyData → C PyData
  | [.list ds] => fun P _ => match intsOf ds with
    | some ns => P (if ns = [] then .none else .int (maxI ns))
    | none => False
  | _ => fun _ _ => False
theorem cas_maxN {K : PySem.W.Frag} : CaS (fun xs H Q => rMaxN K xs [V.non] H Q) oMaxN := fun es P X h => by
  unfold oMaxN at h
  split at h
  · try dsimp only at h
    split at h
    · rename_i ns hn
      have e := intsOf_eq hn
      subst e
      refine CaD.of (fun N H vs ok r => ?_) h
      cases r with
      | cons r1 r2 =>
        cases r2
        cases r1 with
        | lst ha hn' hr =>
          have := rgInts_inv hr
          subst this
          by_cases h0 : ns = []
          · rw [if_pos h0]
            refine res_rfl .non fun Q q => ⟨_, ns, rfl, rfl, .inl (.inl ha), fun _ => q, fun m hm _ => ?_⟩
            rw [h0] at hm; cases hm
          · rw [if_neg h0]
            refine res_rfl (.int _) fun Q q => ⟨_, ns, rfl, rfl, .inl (.inl ha), fun z => (h0 z).elim, fun m hm hy => ?_⟩
            obtain ⟨a, b⟩ := maxI_spec h0
            have : m = maxI ns := by have := b m hm; have := hy _ a; omega
            rw [this]; exact q
    · exact h.elim
  · exact h.elim
theorem se_maxN {c : Ct} {K : PySem.W.Frag} {te : TE} {me : DE} (ha : SE c te me) : SE c (tCKw (rMaxN K) (tCons te tNil) (tCons (tC .non) tNil)) (mCB oMaxN (aCons me aNil)) := fun H0 r τ l σ H S P X h hX Q k =>
  se_cb (cas_maxN (K := K)) (sa_cons ha sa_nil) H0 r τ l σ H S P X h hX Q k
/-! ### list(range(n)) -/
def eoRng (a : DE) : DEO := fun r P X => a r (fun x => match x with
  | .int n => (0 ≤ n ∧ n ≤ 100000) ∧ P ((List.range n.toNat).map fun (i : Nat) => .int i)
  | _ => False) X
theorem MSt.scs {c : Ct} {H0 : Hp} {r : ME} {τ : List (V × PyData)} {l : List (Addr × List PyData)} {σ : L2.St} {H : Hp} : ∀ (ns : List Int), MSt c H0 r τ l σ H → MSt c H0 r ((ns.map V.int).zip (ns.map PyData.int) ++ τ) l σ H
  | [], S => S
  | n :: ns, S => (MSt.scs ns S).sc fun _ => .int n
theorem rgV_map (n : Int) : rgV 0 n = ((List.range n.toNat).map fun (i : Nat) => (i : Int)).map V.int := by
  unfold rgV
  rw [List.map_map, Int.sub_zero]
  refine List.map_congr_left fun i _ => ?_
  show V.int (0 + (i : Int)) = V.int i
  rw [Int.zero_add]
theorem seo_rng {c : Ct} {ta : TE} {ma : DE} (ha : SE c ta ma) : SEO c (tLstRg (tRg1 ta)) (eoRng ma) := fun H0 r τ l σ H S P X h hX Q k =>
  ha H0 r τ l σ H S _ X h hX _ fun v e H1 S1 p => by
    try dsimp only at p
    split at p
    · rename_i n
      have := S1.it
      subst this
      obtain ⟨hn, p⟩ := p
      have S2 := MSt.scs ((List.range n.toNat).map fun (i : Nat) => (i : Int)) S1.pop
      rw [← rgV_map, List.map_map] at S2
      exact ⟨n, rfl, ⟨by omega, by omega, by omega, by omega, by omega⟩, fun q hq => k q _ _ ⟨S2.fit, st_perm (st_newL S2.st (by rw [rgV_length, List.length_map, List.length_range, Int.sub_zero]) hq) owns_front.symm⟩ p⟩
    · exact p.elim
/-! ### max, min of a tuple too -/
def rMaxTp (K : PySem.W.Frag) : List V → Hp → VK → Prop := fun vs H Q => ∃ (a : Addr) (ns : List Int), vs = [V.ref a] ∧ SqT K H a (ns.map V.int) ∧ 0 < ns.length ∧ ∀ m, m ∈ ns → (∀ y, y ∈ ns → y ≤ m) → Q (.int m) H
def rMinTp (K : PySem.W.Frag) : List V → Hp → VK → Prop := fun vs H Q => ∃ (a : Addr) (ns : List Int), vs = [V.ref a] ∧ SqT K H a (ns.map V.int) ∧ 0 < ns.length ∧ ∀ m, m ∈ ns → (∀ y, y ∈ ns → m ≤ y) → Q (.int m) H
def rMaxA (K : PySem.W.Frag) : List V → Hp → VK → Prop := fun vs H Q => rMax K vs H Q ∨ rMaxTp K vs H Q
def rMinA (K : PySem.W.Frag) : List V → Hp → VK → Prop := fun vs H Q => rMin K vs H Q ∨ rMinTp K vs H Q
theorem minOf_spec : ∀ (xs : List Int) (x : Int), PySem.W.minOf x xs ∈ x :: xs ∧ ∀ y ∈ x :: xs, PySem.W.minOf x xs ≤ y
  | [], x => ⟨List.mem_cons_self, fun y hy => by rw [List.mem_singleton.mp hy]; exact Int.le_refl _⟩
  | z :: xs, x => by
    have e : PySem.W.minOf x (z :: xs) = PySem.W.minOf (if z < x then z else x) xs := by
      show PySem.W.minOf (if decide (z < x) = true then z else x) xs = _
      by_cases h : z < x <;> simp [h]
    obtain ⟨h1, h2⟩ := minOf_spec xs (if z < x then z else x)
    rw [e]
    by_cases h : z < x
    · rw [if_pos h] at h1 h2 ⊢
      refine ⟨List.mem_cons_of_mem _ h1, fun y hy => ?_⟩
      rcases List.mem_cons.mp hy with rfl | hy
      · have := h2 z List.mem_cons_self; omega
      · exact h2 y hy
    · rw [if_neg h] at h1 h2 ⊢
      refine ⟨?_, fun y hy => ?_⟩
      · rcases List.mem_cons.mp h1 with h1 | h1
        · rw [h1]; exact List.mem_cons_self
        · exact List.mem_cons_of_mem _ (List.mem_cons_of_mem _ h1)
      · rcases List.mem_cons.mp hy with rfl | hy
        · exact h2 _ List.mem_cons_self
        · rcases List.mem_cons.mp hy with rfl | hy
          · have := h2 x List.mem_cons_self; omega
          · exact h2 y (List.mem_cons_of_mem _ hy)
theorem cr_maxA {X : Cx} (hc : X.calm = true) (hu : X.A.units + 64 < cLine) : CallR X (.builtin "max") (rMaxA X.K) := by
  intro pins s σ H xs us Q I r1 h
  rcases h with h | h
  · exact cr_max hc pins s σ H xs us Q I r1 h
  obtain ⟨a, ns, rfl, hs, hne, q1⟩ := h
  obtain ⟨its, rv, hl, _⟩ := I.tuple hs
  rw [Vals.ref1 r1]
  cases ns with
  | nil => exact absurd hne (Nat.lt_irrefl 0)
  | cons y ys =>
    refine PySem.W.max_tuple_datum (α := Int) (I.ok.hd hc) (show s.heap.IsTuple a its.toArray from hl) (holds_ints rv.ints) (by show X.A.units + 1 + 0 < cLine; omega) fun i v h' tk hi hv hk => ?_
    obtain ⟨as, hr⟩ := hv
    have hr' : Reads h' v (.int (PySem.W.maxOf y ys)) as := hr
    cases hr' with
    | int k t =>
      obtain ⟨m1, m2⟩ := maxOf_spec ys y
      exact ⟨.int _, H, I.kept hk, ⟨_, rfl⟩, q1 _ m1 m2⟩
theorem cr_minA {X : Cx} (hc : X.calm = true) (hu : X.A.units + 64 < cLine) : CallR X (.builtin "min") (rMinA X.K) := by
  intro pins s σ H xs us Q I r1 h
  rcases h with h | h
  · exact cr_min hc pins s σ H xs us Q I r1 h
  obtain ⟨a, ns, rfl, hs, hne, q1⟩ := h
  obtain ⟨its, rv, hl, _⟩ := I.tuple hs
  rw [Vals.ref1 r1]
  cases ns with
  | nil => exact absurd hne (Nat.lt_irrefl 0)
  | cons y ys =>
    refine PySem.W.min_tuple_datum (α := Int) (I.ok.hd hc) (show s.heap.IsTuple a its.toArray from hl) (holds_ints rv.ints) (by show X.A.units + 1 + 0 < cLine; omega) fun i v h' tk hi hv hk => ?_
    obtain ⟨as, hr⟩ := hv
    have hr' : Reads h' v (.int (PySem.W.minOf y ys)) as := hr
    cases hr' with
    | int k t =>
      obtain ⟨m1, m2⟩ := minOf_spec ys y
      exact ⟨.int _, H, I.kept hk, ⟨_, rfl⟩, q1 _ m1 m2⟩
def oMax1A : List PyData → C PyData
  | [.tuple ds] => fun P _ => match intsOf ds with
    | some ns => ns ≠ [] ∧ P (.int (maxI ns))
    | none => False
  | ds => oMax1 ds
def oMin1A : List PyData → C PyData
  | [.tuple ds] => fun P _ => match intsOf ds with
    | some ns => ns ≠ [] ∧ P (.int (minI ns))
    | none => False
  | ds => oMin1 ds
theorem CaD.or1 {r1 r2 : List V → Hp → VK → Prop} {es : List PyData} {P : PyData → Prop} (h : CaD r1 es P) : CaD (fun vs H Q => r1 vs H Q ∨ r2 vs H Q) es P := fun N H vs ok r Q q => .inl (h N H vs ok r Q q)
theorem cas_max1A {K : PySem.W.Frag} : CaS (rMaxA K) oMax1A := fun es P X h => by
  unfold oMax1A at h
  split at h
  · try dsimp only at h
    split at h
    · rename_i ns hn
      have e := intsOf_eq hn
      subst e
      refine CaD.of (fun N H vs ok r => ?_) h.2
      cases r with
      | cons r1 r2 =>
        cases r2
        cases r1 with
        | tup ha hn' hr =>
          have := rgInts_inv hr
          subst this
          refine res_rfl (.int _) fun Q q => .inr ⟨_, ns, rfl, .inl (.inl ha), List.length_pos_iff.mpr h.1, fun m hm hy => ?_⟩
          obtain ⟨a, b⟩ := maxI_spec h.1
          have : m = maxI ns := by have := b m hm; have := hy _ a; omega
          rw [this]; exact q
    · exact h.elim
  · exact CaD.or1 (cas_max1 (K := K) _ P X h)
theorem cas_min1A {K : PySem.W.Frag} : CaS (rMinA K) oMin1A := fun es P X h => by
  unfold oMin1A at h
  split at h
  · try dsimp only at h
    split at h
    · rename_i ns hn
      have e := intsOf_eq hn
      subst e
      refine CaD.of (fun N H vs ok r => ?_) h.2
      cases r with
      | cons r1 r2 =>
        cases r2
        cases r1 with
        | tup ha hn' hr =>
          have := rgInts_inv hr
          subst this
          refine res_rfl (.int _) fun Q q => .inr ⟨_, ns, rfl, .inl (.inl ha), List.length_pos_iff.mpr h.1, fun m hm hy => ?_⟩
          obtain ⟨a, b⟩ := minI_spec h.1
          have : m = minI ns := by have := b m hm; have := hy _ a; omega
          rw [this]; exact q
    · exact h.elim
  · exact CaD.or1 (cas_min1 (K := K) _ P X h)
/-! ### a range kept under a name -/
def tRngV (te : TE) : TE := fun σ H Q => te σ H fun x H1 => ∃ n, x = .int n ∧ ∀ p, H1 p = none → Q (.ref p) (upd H1 p (.rng 0 n))
theorem pe_rngV {X : Cx} {a : Expr} {ta : TE} {p pos : Pos} (hg : Gl X "range") (hm : X.mg "range" = none) (ha : PE X a ta) (na : starEach [a] X.env = (false, eval a X.env) :: starEach [] X.env := by rfl) : PE X (.Call (.Name "range" p) [a] [] pos) (tRngV ta) := by
  refine ⟨fun pins s σ H Q I h => ?_⟩
  refine Call_ (ld_blt I hg hm boot_range (PyProof.Rows.callWith_type1 (one_arg ha I h (fun v s2 x H2 I2 r q => ?_) na) na))
  obtain ⟨n, rfl, q⟩ := q
  obtain ⟨t, rfl⟩ := r
  exact call_range_1 ⟨.ref s2.heap.objs.size, upd H2 s2.heap.objs.size (.rng 0 n), I2.laid (fun b u e => Heap.get?_push_of_some _ e) (Nat.le_refl _) (show ObjOk X.prog X.w _ _ _ (.rng 0 n) from ⟨_, _, _, Heap.get?_push_size _ rfl⟩), rfl, q _ (I2.hok.fresh (Nat.le_refl _))⟩
def iRngE (te : TE) : TI := fun σ H R => te σ H fun x H1 => ∃ a lo hi, x = .ref a ∧ H1 a = some (.rng lo hi) ∧ (-(2 ^ 62) ≤ lo ∧ lo < 2 ^ 62 ∧ -(2 ^ 62) ≤ hi ∧ hi < 2 ^ 62) ∧ R (Itr lo (hi - lo).toNat) H1
theorem pi_rngE {X : Cx} {tg e : Expr} {te : TE} (he : PE X e te) : PI X tg e (iRngE te) := by
  refine ⟨fun pins s σ H R I h => ?_⟩
  refine thn (he.run pins s σ H _ I h) fun v s1 ⟨x, H1, I1, r1, q1⟩ => ?_
  obtain ⟨a, lo, hi, e, hH, ⟨h1, h2, h3, h4⟩, q⟩ := q1
  subst e
  cases r1
  obtain ⟨t, u, w, ho⟩ := (show ObjOk X.prog X.w H1 s1.heap a (.rng lo hi) from I1.hok a _ hH)
  refine wpAny_pyIter_range (show IsRange s1.heap a lo hi 1 t u w from ho) (small_one h1 h2 h3 h4) ?_
  refine ⟨s1.heap.objs.size, [s1.heap.objs.size], _, _, H1, rfl, I1.kept (t' := s1.toks) fun b o e => Heap.get?_push_of_some _ e, turn_range _ lo (hi - lo).toNat, ?_, fun b hb => ?_, q⟩
  · have e1 : lo + ((0 : Nat) : Int) * 1 = lo := by simp
    have e2 : (((hi - lo).toNat : Nat) : Int) - ((0 : Nat) : Int) = Builtin.Range.rangeSize lo hi 1 := by rw [rangeSize_one]; split <;> omega
    show IsRangeIter _ _ (lo + ((0 : Nat) : Int) * 1) ((((hi - lo).toNat : Nat) : Int) - ((0 : Nat) : Int)) 1
    rw [e1, e2]
    exact Heap.get?_push_size _ rfl
  · have e : b = s1.heap.objs.size := by simpa using hb
    subst e
    exact I1.fpOk (Nat.le_refl _) (I1.hok.fresh (Nat.le_refl _))
theorem st_setR {W : Wd} {H0 H : Hp} {ρ : List (Option Sl)} {τ : List (V × PyData)} {l : List (Addr × List PyData)} {σ : L2.St} {p : Addr} {lo hi : Int} {i : Nat} (S : DL.St W H0 ρ τ l σ H) (hp : H p = none) : DL.St W H0 (ρ.set i (some (.rng lo hi))) τ l (σ.set i (some (.ref p))) (upd H p (.rng lo hi)) := by
  obtain ⟨N, n1, n2, n3, n4, n5, n6⟩ := S.ex
  have x : Ex H (upd H p (.rng lo hi)) := Ex.new hp
  refine ⟨W.stab H _ S.inv fun a na => ?_, fun a o e n => x _ _ (S.off a o e n), N, n1, n2, n3.ex x, ⟨by rw [List.length_set, List.length_set]; exact n4.1, fun j s h => ?_⟩, fun q hq => (n5 q hq).ex x, n6.ex x⟩
  · cases e : H a with
    | none => exact absurd e (n3 a (n1 a na))
    | some o => exact x a o e
  · by_cases hj : i = j
    · subst hj
      have il : i < ρ.length := by
        have := (List.getElem?_eq_some_iff.mp h).1
        rw [List.length_set] at this
        exact this
      rw [List.getElem?_set_self il] at h
      cases h
      exact ⟨some (.ref p), List.getElem?_set_self (by rw [← n4.1]; exact il), p, rfl, upd_same, n3.new hp⟩
    · rw [List.getElem?_set_ne hj] at h
      obtain ⟨o, h1, h2⟩ := n4.2 j s h
      exact ⟨o, by rw [List.getElem?_set_ne hj]; exact h1, h2.ex x⟩
theorem MSt.setR {c : Ct} {H0 H : Hp} {r : ME} {τ : List (V × PyData)} {l : List (Addr × List PyData)} {σ : L2.St} {p : Addr} {lo hi : Int} {i : Nat} (S : MSt c H0 r τ l σ H) (hp : H p = none) : MSt c H0 (r.set i (some (.rng lo hi))) τ l (σ.set i (some (.ref p))) (upd H p (.rng lo hi)) := by
  refine ⟨fit_set S.fit i S.len fun ds h => (nomatch h), ?_⟩
  rw [dn_set, owns_set (fun s => by cases s <;> rfl), owns_set_none]
  exact st_setR (st_sub S.st ((owns_sub r σ i).append (List.Sublist.refl _))) hp
theorem MSt.rngAt {c : Ct} {H0 H : Hp} {r : ME} {τ : List (V × PyData)} {l : List (Addr × List PyData)} {σ : L2.St} {lo hi : Int} {i : Nat} (S : MSt c H0 r τ l σ H) (h : r[i]? = some (some (.rng lo hi))) : ∃ a, σ[i]? = some (some (.ref a)) ∧ H a = some (.rng lo hi) := by
  obtain ⟨N, n1, n2, n3, n4, n5, n6⟩ := S.st.ex
  obtain ⟨o, h1, a, rfl, h2, _⟩ := n4.2 i (.rng lo hi) (dn_at h)
  exact ⟨a, h1, h2⟩
def sRng (i : Nat) (e : DE) : DS := fun D r => e r (fun x => match x with
  | .int n => D.nx (r.set i (some (.rng 0 n)))
  | _ => False) D.ex
theorem ss_rng {c : Ct} {te : TE} {me : DE} {i : Nat} (he : SE c te me) : SS c (tAsg (tRngV te) (gName i)) (sRng i me) := fun H0 r τ l σ H S D E hp n b ct rt x =>
  he H0 r τ l σ H S _ _ hp (x r σ) _ fun v e H1 S1 p => by
    try dsimp only at p
    split at p
    · rename_i z
      have := S1.it
      subst this
      exact ⟨z, rfl, fun q hq => n _ _ _ (S1.pop.setR hq) p⟩
    · exact p.elim
def iRgV (i : Nat) : DI := fun r P _ => match lk r i with
  | some (.rng lo hi) => (-(2 ^ 62) ≤ lo ∧ lo < 2 ^ 62 ∧ -(2 ^ 62) ≤ hi ∧ hi < 2 ^ 62) ∧ P ((List.range (hi - lo).toNat).map fun (i : Nat) => .int (lo + i))
  | _ => False
theorem si_rngE {c : Ct} {i : Nat} : SI c (iRngE (tVar i)) (iRgV i) := fun H0 r τ l σ H S P X h hX R k => by
  unfold iRgV at h
  split at h
  · rename_i lo hi hl
    obtain ⟨a, ha, hH⟩ := S.rngAt (lk_some hl)
    exact ⟨.ref a, ha, a, lo, hi, rfl, hH, h.1, k _ _ [] H0 H hold_range S h.2⟩
  · exact h.elim
/-! ### a, b, c = x, y, z -/
def sPar3 (i j l : Nat) (a : DA) : DS := fun D r => a r (fun es => match es with
  | [x, y, z] => D.nx (((r.set i (some (.dat x))).set j (some (.dat y))).set l (some (.dat z)))
  | _ => False) D.ex
theorem ss_par3 {c : Ct} {tas : TA} {mas : DA} {i j l3 : Nat} (ha : SA c tas mas) : SS c (tPar3 i j l3 tas) (sPar3 i j l3 mas) := fun H0 r τ l σ H S D E h n b ct rt x =>
  ha H0 r τ l σ H S _ _ h (x r σ) _ fun us es H' S' hl p => by
    match es, us, hl, p with
    | [a, b', c'], [u, w, z], _, p =>
      refine ⟨u, w, z, rfl, n _ _ H' ?_ p⟩
      have S1 : MSt c H0 r ((u, a) :: (w, b') :: (z, c') :: τ) l σ H' := S'
      exact ((S1.setD).setD).setD
    | [], _, _, p => exact p.elim
    | [_], _, _, p => exact p.elim
    | [_, _], _, _, p => exact p.elim
    | _ :: _ :: _ :: _ :: _, _, _, p => exact p.elim
/-! ### sorted of whole numbers -/
def oSorted : List PyData → C PyData
  | [.list ds] => fun P _ => match intsOf ds with
    | some ns => ns.length < 64 ∧ ∀ ns' : List Int, ns'.Perm ns → ns'.Pairwise (· ≤ ·) → P (.list (ns'.map .int))
    | none => False
  | _ => fun _ _ => False
theorem rg_intsS {N : Addr → Prop} {H : Hp} : ∀ ns : List Int, RgAll N H (ns.map V.int) (ns.map PyData.int)
  | [] => .nil
  | n :: ns => .cons (.int n) (rg_intsS ns)
theorem cas_sorted {K : PySem.W.Frag} : CaS (rSorted K) oSorted := fun es P X h => by
  unfold oSorted at h
  split at h
  · try dsimp only at h
    split at h
    · rename_i ns hn
      have e := intsOf_eq hn
      subst e
      intro N H vs ok r Q q
      cases r with
      | cons r1 r2 =>
        cases r2
        cases r1 with
        | lst ha hn' hr =>
          have := rgInts_inv hr
          subst this
          exact ⟨_, ns, rfl, .inl (.inl ha), h.1, fun ns' p hp hs hf => q _ _ _ (Ex.new hf) (.lst upd_same (ok.new hf) (rg_intsS ns')) (h.2 ns' hp hs)⟩
    · exact h.elim
  · exact h.elim
/-! ### <, <=, >, >= of data of any kind -/
def rLtD (K : PySem.W.Frag) : R2 := fun x y H Q => ∃ d e, Dp K H x d ∧ Dp K H y e ∧ PySem.W.alike d e = true ∧ d ≠ .none ∧ d.depth ≤ 62 ∧ Q (.bl (PySem.W.dataLt d e)) H
def rLeD (K : PySem.W.Frag) : R2 := fun x y H Q => ∃ d e, Dp K H x d ∧ Dp K H y e ∧ PySem.W.alike d e = true ∧ d ≠ .none ∧ d.depth ≤ 62 ∧ Q (.bl (!PySem.W.dataLt e d)) H
section
variable {X : Cx}
theorem room_lt {A : Around} {d e : PyData} (h : d.depth ≤ 62) (hu : A.units + 64 < cLine) : A.units + min d.depth e.depth < cLine := by
  have h2 : min d.depth e.depth ≤ d.depth := Nat.min_le_left _ _
  omega
theorem op_ltD (hu : X.A.units + 64 < cLine) : OpR X (compareOp .Lt) (rLtD X.K) := by
  intro pins s σ H x y v u Q I rx ry h
  obtain ⟨d, e, hd, he, ha, hn, dd, q⟩ := h
  obtain ⟨as, r1⟩ := Dp.reads I d x v hd rx
  obtain ⟨bs, r2⟩ := Dp.reads I e y u he ry
  exact PySem.W.lt_data r1 r2 ha hn (room_lt dd hu) ⟨.bl _, H, I, rfl, q⟩
theorem op_leD (hu : X.A.units + 64 < cLine) : OpR X (compareOp .LtE) (rLeD X.K) := by
  intro pins s σ H x y v u Q I rx ry h
  obtain ⟨d, e, hd, he, ha, hn, dd, q⟩ := h
  obtain ⟨as, r1⟩ := Dp.reads I d x v hd rx
  obtain ⟨bs, r2⟩ := Dp.reads I e y u he ry
  exact PySem.W.le_data r1 r2 ha hn (room_lt dd hu) ⟨.bl _, H, I, rfl, q⟩
end
def oLtD (d e : PyData) : C PyData := fun P _ => (d.hasDict = false ∧ e.hasDict = false) ∧ PySem.W.alike d e = true ∧ d ≠ .none ∧ d.depth ≤ 62 ∧ P (.bool (PySem.W.dataLt d e))
def oLeD (d e : PyData) : C PyData := fun P _ => (d.hasDict = false ∧ e.hasDict = false) ∧ PySem.W.alike d e = true ∧ d ≠ .none ∧ d.depth ≤ 62 ∧ P (.bool (!PySem.W.dataLt e d))
theorem os_ltD {K : PySem.W.Frag} : OpS (rLtD K) oLtD := fun e1 e2 P X h N H v1 v2 ok r1 r2 Q q => by
  obtain ⟨⟨h1, h2⟩, ha, hn, dd, p⟩ := h
  exact ⟨e1, e2, r1.dp _ _ h1, r2.dp _ _ h2, ha, hn, dd, q _ _ _ ex_refl (.bl _) p⟩
theorem os_leD {K : PySem.W.Frag} : OpS (rLeD K) oLeD := fun e1 e2 P X h N H v1 v2 ok r1 r2 Q q => by
  obtain ⟨⟨h1, h2⟩, ha, hn, dd, p⟩ := h
  exact ⟨e1, e2, r1.dp _ _ h1, r2.dp _ _ h2, ha, hn, dd, q _ _ _ ex_refl (.bl _) p⟩
def rLtA (K : PySem.W.Frag) : R2 := fun x y H Q => rI0 (fun i j => .bl (decide (i < j))) x y H Q ∨ rLtD K x y H Q
def rLeA (K : PySem.W.Frag) : R2 := fun x y H Q => rI0 (fun i j => .bl (decide (i ≤ j))) x y H Q ∨ rLeD K x y H Q
theorem op_ltA {X : Cx} (hu : X.A.units + 64 < cLine) : OpR X (compareOp .Lt) (rLtA X.K) := OpR.or op_lt (op_ltD hu)
theorem op_leA {X : Cx} (hu : X.A.units + 64 < cLine) : OpR X (compareOp .LtE) (rLeA X.K) := OpR.or op_le (op_leD hu)
def oLtA (d e : PyData) : C PyData := fun P X => oLt d e P X ∨ oLtD d e P X
def oLeA (d e : PyData) : C PyData := fun P X => oLe d e P X ∨ oLeD d e P X
theorem os_ltA {K : PySem.W.Frag} : OpS (rLtA K) oLtA := fun e1 e2 P X h => by
  rcases h with h | h
  · exact OpD.l (os_lt e1 e2 P X h)
  · exact OpD.r (os_ltD e1 e2 P X h)
theorem os_leA {K : PySem.W.Frag} : OpS (rLeA K) oLeA := fun e1 e2 P X h => by
  rcases h with h | h
  · exact OpD.l (os_le e1 e2 P X h)
  · exact OpD.r (os_leD e1 e2 P X h)
end MI
set_option Elab.async false
set_option linter.all false
set_option maxRecDepth 100000
/-! sorted of data. -/
namespace MI
open PySem PySem.Spec PyProof.Rows L2 Evl TB DL
def AllDp (K : PySem.W.Frag) (H : Hp) (ps : List (V × PyData)) : Prop := ∀ p ∈ ps, Dp K H p.1 p.2
/-- sorted(xs), xs a list of data that can be compared -/
def rSortedD (K : PySem.W.Frag) : List V → Hp → VK → Prop := fun vs H Q => ∃ (a : Addr) (ps : List (V × PyData)), vs = [V.ref a] ∧ SqL K H a (ps.map Prod.fst) ∧ AllDp K H ps ∧ PySem.W.AllAlike (ps.map Prod.snd) ∧ PySem.W.Sortable (ps.map Prod.snd) ∧ ps.length ≤ 100000 ∧ (∀ p ∈ ps, p.2.depth ≤ 60) ∧
  ∀ (p : Addr), H p = none → Q (.ref p) (upd H p (.lst ((ps.mergeSort (PySem.W.dataLe false Prod.snd)).map Prod.fst)))
theorem vals_each : ∀ {ps : List (V × PyData)} {us : List Value}, Vals (ps.map Prod.fst) us → PySem.W.EachIs (fun u (p : V × PyData) => RelV p.1 u) us ps
  | [], _, h => by cases h; exact .nil
  | p :: ps, _, h => by
    cases h with
    | cons r t => exact .cons r (vals_each t)
theorem each_vals : ∀ {ps : List (V × PyData)} {us : List Value}, PySem.W.EachIs (fun u (p : V × PyData) => RelV p.1 u) us ps → Vals (ps.map Prod.fst) us
  | _, _, .nil => .nil
  | _, _, .cons r t => .cons r (each_vals t)
theorem each_reads {X : Cx} {pins : List (Addr × Obj)} {σ : List (Option V)} {H : Hp} {s : Shared} (I : Inv X pins σ H s) : ∀ {ps : List (V × PyData)} {us : List Value}, PySem.W.EachIs (fun u (p : V × PyData) => RelV p.1 u) us ps → AllDp X.K H ps → PySem.W.EachIs (fun u (p : V × PyData) => ∃ as, Reads s.heap u p.2 as) us ps
  | _, _, .nil, _ => .nil
  | _, _, .cons (b := p) r t, h => .cons (Dp.reads I p.2 p.1 _ (h p List.mem_cons_self) r) (each_reads I t fun q hq => h q (List.mem_cons_of_mem _ hq))
theorem cr_sortedD {X : Cx} (hu : X.A.units + 64 < cLine) : CallR X (.builtin "sorted") (rSortedD X.K) := by
  intro pins s σ H vs us Q I r h
  obtain ⟨a, ps, rfl, hs, hd, hal, hk, hl, hdp, q⟩ := h
  obtain ⟨its, rv, hL, hz⟩ := I.list hs
  rw [Vals.ref1 r]
  have e := vals_each rv
  refine PySem.W.sorted_data (R := fun u (p : V × PyData) => RelV p.1 u) (enc := Prod.snd) hL.isList e (each_reads I e hd) hal hk (size_small hl) (fun p hp => by have := hdp p hp; omega) fun out hlen hR => ?_
  obtain ⟨ep, he'⟩ := PyProof.Rows.sortedAll_at s.heap its (List.toArray out)
  have hlen' : ((ps.mergeSort (PySem.W.dataLe false Prod.snd)).map Prod.fst).length ≤ sizeLine := by
    rw [List.length_map, List.length_mergeSort]; exact size_small hl
  exact ⟨.ref _, upd H (s.heap.objs.size + 1) (.lst ((ps.mergeSort (PySem.W.dataLe false Prod.snd)).map Prod.fst)), I.laid (t' := s.toks) (fun _ _ => PyProof.Rows.sortedAll_old) (Nat.le_succ _) ⟨hlen', out, ep, each_vals hR, by simpa using he'⟩, rfl, q _ (I.hok.fresh (Nat.le_succ _))⟩
def rSortedA (K : PySem.W.Frag) : List V → Hp → VK → Prop := fun vs H Q => rSorted K vs H Q ∨ rSortedD K vs H Q
theorem cr_sortedA {X : Cx} (hu : X.A.units + 64 < cLine) : CallR X (.builtin "sorted") (rSortedA X.K) := by
  intro pins s σ H vs us Q I r h
  rcases h with h | h
  · exact cr_sorted pins s σ H vs us Q I r h
  · exact cr_sortedD hu pins s σ H vs us Q I r h
/-- in order -/
def sortD (ds : List PyData) : List PyData := ds.mergeSort (PySem.W.dataLe false id)
def oSortedD : List PyData → C PyData
  | [.list ds] => fun P _ => (PyData.hasDictAll ds = false ∧ PySem.W.AllAlike ds ∧ PySem.W.Sortable ds ∧ ds.length ≤ 100000 ∧ ∀ d ∈ ds, d.depth ≤ 60) ∧ P (.list (sortD ds))
  | _ => fun _ _ => False
def oSortedA : List PyData → C PyData := fun es P X => oSorted es P X ∨ oSortedD es P X
theorem rg_zipD {N : Addr → Prop} {H : Hp} : ∀ {xs : List V} {ds : List PyData}, RgAll N H xs ds → ∀ p ∈ xs.zip ds, Rg N H p.1 p.2
  | _, _, .nil, p, hp => by cases hp
  | _, _, .cons r t, p, hp => by
    rw [List.zip_cons_cons] at hp
    rcases List.mem_cons.mp hp with rfl | hp
    · exact r
    · exact rg_zipD t p hp
theorem zip_rg {N : Addr → Prop} {H : Hp} : ∀ {ps : List (V × PyData)}, (∀ p ∈ ps, Rg N H p.1 p.2) → RgAll N H (ps.map Prod.fst) (ps.map Prod.snd)
  | [], _ => .nil
  | p :: ps, h => .cons (h p List.mem_cons_self) (zip_rg fun q hq => h q (List.mem_cons_of_mem _ hq))
theorem hasDict_mem {ds : List PyData} (h : PyData.hasDictAll ds = false) : ∀ d ∈ ds, d.hasDict = false := by
  induction ds with
  | nil => intro d hd; cases hd
  | cons a ds ih =>
    intro d hd
    rw [PyData.hasDictAll, Bool.or_eq_false_iff] at h
    rcases List.mem_cons.mp hd with rfl | hd
    · exact h.1
    · exact ih h.2 d hd
theorem cas_sortedD {K : PySem.W.Frag} : CaS (rSortedD K) oSortedD := fun es P X h => by
  unfold oSortedD at h
  split at h
  · rename_i ds
    obtain ⟨⟨hh, hal, hk, hl, hdp⟩, p⟩ := h
    intro N H vs ok r Q q
    cases r with
    | cons r1 r2 =>
      cases r2
      cases r1 with
      | lst ha hn' hr =>
        rename_i a xs
        have len := hr.len
        have z1 : (xs.zip ds).map Prod.fst = xs := List.map_fst_zip (by omega)
        have z2 : (xs.zip ds).map Prod.snd = ds := List.map_snd_zip (by omega)
        have zr := rg_zipD hr
        have hm : ∀ z ∈ xs.zip ds, z.2 ∈ ds := fun z hz => (List.of_mem_zip (a := z.1) (b := z.2) hz).2
        refine ⟨a, xs.zip ds, rfl, .inl (by rw [z1]; exact .inl ha), fun z hz => (zr z hz).dp _ _ (hasDict_mem hh _ (hm z hz)), by rw [z2]; exact hal, by rw [z2]; exact hk, by rw [List.length_zip]; omega, fun z hz => hdp _ (hm z hz), fun p' hf => ?_⟩
        have es : ((xs.zip ds).mergeSort (PySem.W.dataLe false Prod.snd)).map Prod.snd = sortD ds := by
          unfold sortD
          exact (List.map_mergeSort (r := PySem.W.dataLe false Prod.snd) (s := PySem.W.dataLe false id) (f := Prod.snd) (l := xs.zip ds) (fun a _ b _ => rfl)).trans (by rw [z2])
        refine q _ _ _ (Ex.new hf) (.lst upd_same (ok.new hf) (xs := ((xs.zip ds).mergeSort (PySem.W.dataLe false Prod.snd)).map Prod.fst) (ds := sortD ds) ?_) p
        rw [← es]
        exact zip_rg fun z hz => (zr z (List.mem_mergeSort.mp hz)).ex (Ex.new hf)
  · exact h.elim
theorem cas_sortedA {K : PySem.W.Frag} : CaS (rSortedA K) oSortedA := fun es P X h => by
  rcases h with h | h
  · intro N H vs ok r
    exact fun Q q => .inl (cas_sorted es P X h N H vs ok r Q q)
  · intro N H vs ok r
    exact fun Q q => .inr (cas_sortedD es P X h N H vs ok r Q q)
end MI
set_option Elab.async false
set_option linter.all false
set_option maxRecDepth 100000
/-! Typed readings of the mirror: values of Lean's own types behind the data. -/
namespace TY
open PySem PySem.Spec PyProof.Rows L2 Evl TB DL MI GE
/-! ### encodings -/
abbrev eI : Int → PyData := PyData.int
abbrev eB : Bool → PyData := PyData.bool
abbrev eS : Str → PyData := PyData.str
abbrev eA : PyData → PyData := fun d => d
abbrev eU : Unit → PyData := fun _ => PyData.none
section
variable {α β γ δ ε : Type}
def eT (e : α → PyData) (xs : List α) : PyData := .tuple (xs.map e)
def eL (e : α → PyData) (xs : List α) : PyData := .list (xs.map e)
def eO (e : α → PyData) : Option α → PyData
  | some a => e a
  | none => .none
def e2 (a : α → PyData) (b : β → PyData) (p : α × β) : PyData := .tuple [a p.1, b p.2]
def e3 (a : α → PyData) (b : β → PyData) (c : γ → PyData) (p : α × β × γ) : PyData := .tuple [a p.1, b p.2.1, c p.2.2]
def e4 (a : α → PyData) (b : β → PyData) (c : γ → PyData) (d : δ → PyData) (p : α × β × γ × δ) : PyData := .tuple [a p.1, b p.2.1, c p.2.2.1, d p.2.2.2]
def e5 (a : α → PyData) (b : β → PyData) (c : γ → PyData) (d : δ → PyData) (e : ε → PyData) (p : α × β × γ × δ × ε) : PyData := .tuple [a p.1, b p.2.1, c p.2.2.1, d p.2.2.2.1, e p.2.2.2.2]
def e1 (a : α → PyData) (p : α) : PyData := .tuple [a p]
/-- an item of a row, by its place -/
def ix [Inhabited α] (xs : List α) (i : Int) : α := xs.getD i.toNat default
/-- an item of a row, from its end -/
def ixm [Inhabited α] (xs : List α) (k : Nat) : α := xs.getD (xs.length - k) default
def enumI (n : Nat) : List α → List (Int × α)
  | [] => []
  | x :: xs => ((n : Int), x) :: enumI (n + 1) xs
/-! ### what a reading comes to -/
def EV (r : ME) (m : DE) (d : PyData) : Prop := ∀ (P : PyData → Prop) (X : Xc → Prop), P d → m r P X
def EA (r : ME) (m : DA) (ds : List PyData) : Prop := ∀ (P : List PyData → Prop) (X : Xc → Prop), P ds → m r P X
def EB (r : ME) (m : DT) (b : Bool) : Prop := ∀ (P : Bool → Prop) (X : Xc → Prop), P b → m r P X
def EP (r : ME) (m : DO) (o : Option Int) : Prop := ∀ (P : Option Int → Prop) (X : Xc → Prop), P o → m r P X
def EIt (r : ME) (m : DI) (ds : List PyData) : Prop := ∀ (P : List PyData → Prop) (X : Xc → Prop), P ds → m r P X
def EO (r : ME) (m : DEO) (ds : List PyData) : Prop := ∀ (P : List PyData → Prop) (X : Xc → Prop), P ds → m r P X
def GV (g : DG) (d : PyData) (r r' : ME) : Prop := ∀ P : ME → Prop, P r' → g d r P fun _ => False
def OP2 (f : PyData → PyData → C PyData) (d1 d2 d : PyData) : Prop := ∀ (P : PyData → Prop) (X : Xc → Prop), P d → f d1 d2 P X
def OP1 (f : PyData → C PyData) (d1 d : PyData) : Prop := ∀ (P : PyData → Prop) (X : Xc → Prop), P d → f d1 P X
def CB (f : List PyData → C PyData) (ds : List PyData) (d : PyData) : Prop := ∀ (P : PyData → Prop) (X : Xc → Prop), P d → f ds P X
variable {r r2 : ME} {m a b c' : DE} {as : DA} {d d1 d2 d3 : PyData} {ds es : List PyData} {f g : PyData → PyData → C PyData} {x y z : Bool}
theorem ev_var {i : Nat} (h : lk r i = some (.dat d)) : EV r (mVar i) d := fun P X p => by
  unfold mVar; rw [h]; exact p
theorem ev_c (d : PyData) : EV r (mC d) d := fun P X p => p
theorem ev_op (h : OP2 f d1 d2 d) (ha : EV r a d1) (hb : EV r b d2) : EV r (mOp f a b) d := fun P X p => ha _ _ (hb _ _ (h P X p))
theorem ev_un {f : PyData → C PyData} (h : OP1 f d1 d) (ha : EV r a d1) : EV r (mUn f a) d := fun P X p => ha _ _ (h P X p)
theorem ev_not (ha : EV r a (eB x)) : EV r (mNot a) (eB (!x)) := fun P X p => ha _ _ p
theorem ev_and (ha : EV r a (eB x)) (hb : x = true → EV r b (eB y)) : EV r (mAnd a b) (eB (x && y)) := fun P X p => ha _ _ (by
  cases x with
  | true => exact hb rfl P X p
  | false => exact p)
theorem ev_or (ha : EV r a (eB x)) (hb : x = false → EV r b (eB y)) : EV r (mOr a b) (eB (x || y)) := fun P X p => ha _ _ (by
  cases x with
  | true => exact p
  | false => exact hb rfl P X p)
theorem ev_if {t : DT} {e : α → PyData} {v w : α} (ht : EB r t x) (ha : x = true → EV r a (e v)) (hb : x = false → EV r b (e w)) : EV r (mIf t a b) (e (if x then v else w)) := fun P X p => ht _ _ (by
  cases x with
  | true => exact ha rfl P X p
  | false => exact hb rfl P X p)
theorem eb_t (ha : EV r a (eB x)) : EB r (tT a) x := fun P X p => ha _ _ p
theorem eb_no {t : DT} (h : EB r t x) : EB r (tNo t) (!x) := fun P X p => h _ _ p
theorem eb_and {t u : DT} (ha : EB r t x) (hb : x = true → EB r u y) : EB r (tAn t u) (x && y) := fun P X p => ha _ _ (by
  cases x with
  | true => exact hb rfl P X p
  | false => exact p)
theorem eb_or {t u : DT} (ha : EB r t x) (hb : x = false → EB r u y) : EB r (tOo t u) (x || y) := fun P X p => ha _ _ (by
  cases x with
  | true => exact p
  | false => exact hb rfl P X p)
theorem eb_ok : EB r tOk true := fun P X p => p
theorem ea_nil : EA r aNil [] := fun P X p => p
theorem ea_cons (ha : EV r a d) (hb : EA r as ds) : EA r (aCons a as) (d :: ds) := fun P X p => ha _ _ (hb _ _ p)
theorem ev_tup (ha : EA r as ds) (h : ds.length ≤ 100000) : EV r (mTup as) (.tuple ds) := fun P X p => ha _ _ ⟨h, p⟩
theorem ev_lst (ha : EA r as ds) (h : ds.length ≤ 100000) : EV r (mLst as) (.list ds) := fun P X p => ha _ _ ⟨h, p⟩
theorem eo_lst (ha : EA r as ds) (h : ds.length ≤ 100000) : EO r (eoLst as) ds := fun P X p => ha _ _ ⟨h, p⟩
theorem ev_fr {mo : DEO} (h : EO r mo ds) : EV r (mFr mo) (.list ds) := fun P X p => h _ _ p
theorem ev_cb {f : List PyData → C PyData} (h : CB f ds d) (ha : EA r as ds) : EV r (mCB f as) d := fun P X p => ha _ _ (h P X p)
theorem ev_call {f : List PyData → C PyData} (h : CB f ds d) (ha : EA r as ds) : EV r (mCall f as) d := fun P X p => ha _ _ (h P _ p)
theorem ev_kw {f : List PyData → C PyData} {π : List Nat} (h : CB f (permL π ds) d) (ha : EA r as ds) : EV r (mKw π f as) d := fun P X p => ha _ _ (h P _ p)
theorem ev_isi {T : String} (h : isA T d = x) (ha : EV r a d) : EV r (mIsi T a) (eB x) := fun P X p => ha _ _ (by rw [h]; exact p)
theorem ev_chain (hf : OP2 f d1 d2 (eB x)) (hg : x = true → OP2 g d2 d3 (eB y)) (ha : EV r a d1) (hb : EV r b d2) (hc : x = true → EV r c' d3) : EV r (mChain f g a b c') (eB (x && y)) := fun P X p => ha _ _ (hb _ _ (hf _ _ (by
  cases x with
  | true => exact hc rfl _ _ (hg rfl _ _ p)
  | false => exact p)))
theorem ep_none : EP r oNone none := fun P X p => p
theorem ep_some {i : Int} (h : EV r a (eI i)) : EP r (oSome a) (some i) := fun P X p => h _ _ p
theorem ev_sl {f : PyData → Option Int → Option Int → C PyData} {lo hi : DO} {i j : Option Int} (hf : ∀ (P : PyData → Prop) (X : Xc → Prop), P d → f d1 i j P X) (ha : EV r a d1) (hl : EP r lo i) (hh : EP r hi j) : EV r (mSl f a lo hi) d := fun P X p => ha _ _ (hl _ _ (hh _ _ (hf _ _ p)))
theorem ev_oix {i : Nat} {e : α → PyData} {xs : List α} [Inhabited α] {k : DE} {j : Int} (hl : lk r i = some (.own (xs.map e))) (hk : EV r k (eI j)) (h : atI (xs.map e) j = some d) : EV r (oIx i k) d := fun P X p => by
  unfold oIx; rw [hl]
  refine hk _ _ ?_
  show (match atI (xs.map e) j with | some e => P e | none => False)
  rw [h]; exact p
theorem ev_olen {i : Nat} {e : α → PyData} {xs : List α} (hl : lk r i = some (.own (xs.map e))) : EV r (oLen i) (eI xs.length) := fun P X p => by
  unfold oLen; rw [hl]
  show P (.int (xs.map e).length)
  rw [List.length_map]; exact p
theorem ev_revT {e : α → PyData} {xs : List α} (h : EV r a (eT e xs)) : EV r (mRev a) (eT e xs.reverse) := fun P X p => h _ _ (by
  show P (.tuple (xs.map e).reverse)
  rw [← List.map_reverse]; exact p)
theorem ev_revL {e : α → PyData} {xs : List α} (h : EV r a (eL e xs)) : EV r (mRev a) (eL e xs.reverse) := fun P X p => h _ _ (by
  show P (.list (xs.map e).reverse)
  rw [← List.map_reverse]; exact p)
/-! ### operations -/
theorem p_add (i j : Int) : OP2 oAdd (eI i) (eI j) (eI (i + j)) := fun P X p => p
theorem p_catT (e : α → PyData) (xs ys : List α) (h : xs.length + ys.length ≤ 100000) : OP2 oAdd (eT e xs) (eT e ys) (eT e (xs ++ ys)) := fun P X p => by
  refine ⟨by rw [List.length_map, List.length_map]; exact h, ?_⟩
  rw [← List.map_append]; exact p
theorem p_catL (e : α → PyData) (xs ys : List α) (h : xs.length + ys.length ≤ 100000) : OP2 oAdd (eL e xs) (eL e ys) (eL e (xs ++ ys)) := fun P X p => by
  refine ⟨by rw [List.length_map, List.length_map]; exact h, ?_⟩
  rw [← List.map_append]; exact p
theorem p_catS (s t : Str) (h : s.length + t.length ≤ 100000) : OP2 oAdd (eS s) (eS t) (eS (s ++ t)) := fun P X p => ⟨h, p⟩
theorem p_sub (i j : Int) : OP2 oSub (eI i) (eI j) (eI (i - j)) := fun P X p => p
theorem p_mul (i j : Int) (h : CMulW i j) : OP2 oMul (eI i) (eI j) (eI (i * j)) := fun P X p => ⟨h, p⟩
theorem flat_rep (e : α → PyData) (xs : List α) : ∀ n : Nat, (List.replicate n (xs.map e)).flatten = ((List.replicate n xs).flatten).map e
  | 0 => rfl
  | n + 1 => by rw [List.replicate_succ, List.flatten_cons, flat_rep e xs n, List.replicate_succ, List.flatten_cons, List.map_append]
/-- a row some times behind itself -/
def rep (xs : List α) (k : Int) : List α := (List.replicate k.toNat xs).flatten
theorem p_repT (e : α → PyData) (xs : List α) (k : Int) (h : (xs ≠ [] ∧ xs.length ≤ 1000) ∧ 0 ≤ k ∧ k ≤ 1000) : OP2 oMul (eT e xs) (eI k) (eT e (rep xs k)) := fun P X p => by
  refine ⟨⟨fun z => h.1.1 (List.map_eq_nil_iff.mp z), by rw [List.length_map]; exact h.1.2, h.2.1, h.2.2⟩, ?_⟩
  rw [flat_rep]; exact p
theorem p_repL (e : α → PyData) (xs : List α) (k : Int) (h : 0 ≤ k ∧ k ≤ 100000 ∧ xs.length * k.toNat ≤ 100000) : OP2 oMul (eL e xs) (eI k) (eL e (rep xs k)) := fun P X p => by
  refine ⟨⟨h.1, h.2.1, by rw [List.length_map]; exact h.2.2⟩, ?_⟩
  rw [flat_rep]; exact p
theorem p_fdiv (i j : Int) (h : CDivW i j) : OP2 oFdiv (eI i) (eI j) (eI (i / j)) := fun P X p => ⟨h, p⟩
theorem p_mod (i j : Int) (h : 0 < j) : OP2 oMod (eI i) (eI j) (eI (i % j)) := fun P X p => ⟨by omega, by
  show P (.int (i.fmod j))
  rw [Int.fmod_eq_emod_of_nonneg i (by omega)]; exact p⟩
theorem p_pow (i j : Int) (h : CPow i j) : OP2 oPow (eI i) (eI j) (eI (i ^ j.toNat)) := fun P X p => ⟨h, p⟩
theorem p_neg (i : Int) : OP1 oNeg (eI i) (eI (-i)) := fun P X p => p
theorem p_lt (i j : Int) : OP2 oLt (eI i) (eI j) (eB (decide (i < j))) := fun P X p => p
theorem p_le (i j : Int) : OP2 oLe (eI i) (eI j) (eB (decide (i ≤ j))) := fun P X p => p
theorem p_gt (i j : Int) : OP2 oGt (eI i) (eI j) (eB (decide (j < i))) := fun P X p => p
theorem p_ge (i j : Int) : OP2 oGe (eI i) (eI j) (eB (decide (j ≤ i))) := fun P X p => p
/-- data of a type that are equal just if the values are -/
structure Cmp [DecidableEq α] (n : Nat) (e : α → PyData) : Prop where
  lay : ∀ a, (e a).canLay0 = true ∧ (e a).depth ≤ n
  eq : ∀ a b, PyData.eqv (e a) (e b) = decide (a = b)
theorem cmpI : Cmp 0 eI := ⟨fun a => ⟨rfl, Nat.le_refl _⟩, fun a b => by
  show (a == b) = decide (a = b)
  by_cases h : a = b <;> simp [h]⟩
theorem cmpB : Cmp 0 eB := ⟨fun a => ⟨rfl, Nat.le_refl _⟩, fun a b => by
  show (a == b) = decide (a = b)
  by_cases h : a = b <;> simp [h]⟩
theorem cmp_all [DecidableEq α] {n : Nat} {e : α → PyData} (h : Cmp n e) : ∀ xs : List α, PyData.canLayAll0 (xs.map e) = true ∧ PyData.depthAll (xs.map e) ≤ n
  | [] => ⟨rfl, Nat.zero_le _⟩
  | x :: xs => by
    obtain ⟨h1, h2⟩ := cmp_all h xs
    obtain ⟨h3, h4⟩ := h.lay x
    exact ⟨by rw [List.map_cons, PyData.canLayAll0, h1, h3]; rfl, by rw [List.map_cons, PyData.depthAll]; omega⟩
theorem cmp_eqs [DecidableEq α] {n : Nat} {e : α → PyData} (h : Cmp n e) : ∀ xs ys : List α, PyData.eqvAll (xs.map e) (ys.map e) = decide (xs = ys)
  | [], [] => rfl
  | [], _ :: _ => rfl
  | _ :: _, [] => rfl
  | x :: xs, y :: ys => by
    rw [List.map_cons, List.map_cons, PyData.eqvAll, h.eq, cmp_eqs h xs ys]
    by_cases h1 : x = y <;> by_cases h2 : xs = ys <;> simp [h1, h2]
theorem cmpT [DecidableEq α] {n : Nat} {e : α → PyData} (h : Cmp n e) : Cmp (n + 1) (eT e) := ⟨fun xs => by
  obtain ⟨h1, h2⟩ := cmp_all h xs
  exact ⟨by rw [eT, PyData.canLay0]; exact h1, by rw [eT, PyData.depth]; omega⟩, fun xs ys => by rw [eT, eT, PyData.eqv]; exact cmp_eqs h xs ys⟩
theorem cmpL [DecidableEq α] {n : Nat} {e : α → PyData} (h : Cmp n e) : Cmp (n + 1) (eL e) := ⟨fun xs => by
  obtain ⟨h1, h2⟩ := cmp_all h xs
  exact ⟨by rw [eL, PyData.canLay0]; exact h1, by rw [eL, PyData.depth]; omega⟩, fun xs ys => by rw [eL, eL, PyData.eqv]; exact cmp_eqs h xs ys⟩
theorem cmp2 [DecidableEq α] [DecidableEq β] {n : Nat} {e : α → PyData} {e' : β → PyData} (h : Cmp n e) (h' : Cmp n e') : Cmp (n + 1) (e2 e e') := ⟨fun p => by
  obtain ⟨h1, h2⟩ := h.lay p.1
  obtain ⟨h3, h4⟩ := h'.lay p.2
  exact ⟨by simp only [e2, PyData.canLay0, PyData.canLayAll0, h1, h3]; rfl, by simp only [e2, PyData.depth, PyData.depthAll]; omega⟩, fun p q => by
  obtain ⟨p1, p2⟩ := p
  obtain ⟨q1, q2⟩ := q
  simp only [e2, PyData.eqv, PyData.eqvAll, h.eq, h'.eq, Bool.and_true, Prod.mk.injEq, Bool.decide_and]⟩
theorem cmp3 [DecidableEq α] [DecidableEq β] [DecidableEq γ] {n : Nat} {e : α → PyData} {e' : β → PyData} {e'' : γ → PyData} (h : Cmp n e) (h' : Cmp n e') (h'' : Cmp n e'') : Cmp (n + 1) (e3 e e' e'') := ⟨fun p => by
  obtain ⟨h1, h2⟩ := h.lay p.1
  obtain ⟨h3, h4⟩ := h'.lay p.2.1
  obtain ⟨h5, h6⟩ := h''.lay p.2.2
  exact ⟨by simp only [e3, PyData.canLay0, PyData.canLayAll0, h1, h3, h5]; rfl, by simp only [e3, PyData.depth, PyData.depthAll]; omega⟩, fun p q => by
  obtain ⟨p1, p2, p3⟩ := p
  obtain ⟨q1, q2, q3⟩ := q
  simp only [e3, PyData.eqv, PyData.eqvAll, h.eq, h'.eq, h''.eq, Bool.and_true, Prod.mk.injEq, Bool.decide_and]⟩
theorem Cmp.mono [DecidableEq α] {n k : Nat} {e : α → PyData} (h : Cmp n e) (hk : n ≤ k) : Cmp k e := ⟨fun a => ⟨(h.lay a).1, Nat.le_trans (h.lay a).2 hk⟩, h.eq⟩
theorem cmp_shaped [DecidableEq α] {n : Nat} {e : α → PyData} (h : Cmp n e) (hn : n ≤ 64) (a : α) : SeqAt.shaped (e a) = true := by
  obtain ⟨h1, h2⟩ := h.lay a
  unfold SeqAt.shaped
  rw [h1, decide_eq_true (by omega : (e a).depth ≤ 64)]; rfl
theorem oEq_run {d1 d2 : PyData} {P : PyData → Prop} {X : Xc → Prop} (h1 : SeqAt.shaped d1 = true) (h2 : SeqAt.shaped d2 = true) (p : P (.bool (PyData.eqv d1 d2))) : oEq d1 d2 P X := by
  unfold oEq
  split
  · rename_i s t
    rw [PyData.eqv] at p
    rwa [show decide (s = t) = (s == t) from by by_cases h : s = t <;> simp [h]]
  · exact ⟨⟨h1, h2⟩, p⟩
theorem oNe_run {d1 d2 : PyData} {P : PyData → Prop} {X : Xc → Prop} (h1 : SeqAt.shaped d1 = true) (h2 : SeqAt.shaped d2 = true) (p : P (.bool (!PyData.eqv d1 d2))) : oNe d1 d2 P X := by
  unfold oNe
  split
  · rename_i s t
    rw [PyData.eqv] at p
    rwa [show decide (s = t) = (s == t) from by by_cases h : s = t <;> simp [h]]
  · exact ⟨⟨h1, h2⟩, p⟩
theorem p_eq [DecidableEq α] {n : Nat} {e : α → PyData} (h : Cmp n e) (hn : n ≤ 64) (a b : α) : OP2 oEq (e a) (e b) (eB (decide (a = b))) := fun P X p => oEq_run (cmp_shaped h hn a) (cmp_shaped h hn b) (by rw [h.eq]; exact p)
theorem p_ne [DecidableEq α] {n : Nat} {e : α → PyData} (h : Cmp n e) (hn : n ≤ 64) (a b : α) : OP2 oNe (e a) (e b) (eB (!decide (a = b))) := fun P X p => oNe_run (cmp_shaped h hn a) (cmp_shaped h hn b) (by rw [h.eq]; exact p)
theorem p_eqS (s t : Str) : OP2 oEq (eS s) (eS t) (eB (decide (s = t))) := fun P X p => p
theorem p_neS (s t : Str) : OP2 oNe (eS s) (eS t) (eB (!decide (s = t))) := fun P X p => p
/-- any data -/
theorem p_eqA (d1 d2 : PyData) (h : SeqAt.shaped d1 = true ∧ SeqAt.shaped d2 = true) : OP2 oEq d1 d2 (eB (PyData.eqv d1 d2)) := fun P X p => oEq_run h.1 h.2 p
theorem p_neA (d1 d2 : PyData) (h : SeqAt.shaped d1 = true ∧ SeqAt.shaped d2 = true) : OP2 oNe d1 d2 (eB (!PyData.eqv d1 d2)) := fun P X p => oNe_run h.1 h.2 p
theorem p_isNone (d : PyData) : OP2 oIs d .none (eB (isNon d)) := fun P X p => p
theorem p_isNotNone (d : PyData) : OP2 oIsNot d .none (eB (!isNon d)) := fun P X p => p
theorem isNon_eO {e : α → PyData} (he : ∀ a, isNon (e a) = false) (o : Option α) : isNon (eO e o) = o.isNone := by
  cases o with
  | none => rfl
  | some a => exact he a
theorem p_isNoneO {e : α → PyData} (he : ∀ a, isNon (e a) = false) (o : Option α) : OP2 oIs (eO e o) .none (eB o.isNone) := fun P X p => by
  refine p_isNone _ P X ?_
  rw [isNon_eO he]; exact p
theorem p_isNotNoneO {e : α → PyData} (he : ∀ a, isNon (e a) = false) (o : Option α) : OP2 oIsNot (eO e o) .none (eB (!o.isNone)) := fun P X p => by
  refine p_isNotNone _ P X ?_
  rw [isNon_eO he]; exact p
theorem p_isB (x y : Bool) : OP2 oIs (eB x) (eB y) (eB (decide (x = y))) := fun P X p => p
theorem p_isNotB (x y : Bool) : OP2 oIsNot (eB x) (eB y) (eB (!decide (x = y))) := fun P X p => p
/-- an optional value that is there -/
theorem ev_un_opt {e : α → PyData} [Inhabited α] {o : Option α} (h : EV r a (eO e o)) (hs : o.isSome = true) : EV r a (e (o.getD default)) := by
  cases o with
  | none => cases hs
  | some v => exact h
theorem p_inT (i : Int) (ns : List Int) : OP2 (oInA false) (eI i) (eT eI ns) (eB (decide (i ∈ ns))) := fun P X p => .inl (by
  rw [if_neg Bool.false_ne_true]
  show (match intsOf (ns.map PyData.int) with | some ns => P (.bool (decide (i ∈ ns))) | none => False)
  rw [intsOf_map]; exact p)
theorem p_inL (i : Int) (ns : List Int) : OP2 (oInA false) (eI i) (eL eI ns) (eB (decide (i ∈ ns))) := fun P X p => .inl (by
  rw [if_neg Bool.false_ne_true]
  show (match intsOf (ns.map PyData.int) with | some ns => P (.bool (decide (i ∈ ns))) | none => False)
  rw [intsOf_map]; exact p)
theorem p_notInT (i : Int) (ns : List Int) : OP2 (oInA true) (eI i) (eT eI ns) (eB (!decide (i ∈ ns))) := fun P X p => .inl (by
  rw [if_pos rfl]
  show (match intsOf (ns.map PyData.int) with | some ns => P (.bool (!decide (i ∈ ns))) | none => False)
  rw [intsOf_map]; exact p)
theorem p_notInL (i : Int) (ns : List Int) : OP2 (oInA true) (eI i) (eL eI ns) (eB (!decide (i ∈ ns))) := fun P X p => .inl (by
  rw [if_pos rfl]
  show (match intsOf (ns.map PyData.int) with | some ns => P (.bool (!decide (i ∈ ns))) | none => False)
  rw [intsOf_map]; exact p)
theorem any_cmp [DecidableEq α] {n : Nat} {e : α → PyData} (h : Cmp n e) (a : α) (xs : List α) [Decidable (a ∈ xs)] : ((xs.map e).any fun z => PyData.eqv z (e a)) = decide (a ∈ xs) := by
  rw [Bool.eq_iff_iff, List.any_eq_true, decide_eq_true_eq]
  constructor
  · rintro ⟨d, hd, he⟩
    obtain ⟨x, hx, rfl⟩ := List.mem_map.mp hd
    rw [h.eq] at he
    rw [← of_decide_eq_true he]; exact hx
  · exact fun hx => ⟨e a, List.mem_map.mpr ⟨a, hx, rfl⟩, by rw [h.eq]; exact decide_eq_true rfl⟩
theorem p_inXT [DecidableEq α] {n : Nat} {e : α → PyData} (h : Cmp n e) (hn : n ≤ 60) (a : α) (xs : List α) [Decidable (a ∈ xs)] : OP2 (oInA false) (e a) (eT e xs) (eB (decide (a ∈ xs))) := fun P X p => .inr ⟨xs.map e, rfl, cmp_shaped h (by omega) a, by have := (h.lay a).2; omega, cmp_shaped (cmpL h) (by omega) xs, by rw [if_neg Bool.false_ne_true, any_cmp h]; exact p⟩
theorem p_inXL [DecidableEq α] {n : Nat} {e : α → PyData} (h : Cmp n e) (hn : n ≤ 60) (a : α) (xs : List α) [Decidable (a ∈ xs)] : OP2 (oInA false) (e a) (eL e xs) (eB (decide (a ∈ xs))) := fun P X p => .inr ⟨xs.map e, rfl, cmp_shaped h (by omega) a, by have := (h.lay a).2; omega, cmp_shaped (cmpL h) (by omega) xs, by rw [if_neg Bool.false_ne_true, any_cmp h]; exact p⟩
theorem p_notInXT [DecidableEq α] {n : Nat} {e : α → PyData} (h : Cmp n e) (hn : n ≤ 60) (a : α) (xs : List α) [Decidable (a ∈ xs)] : OP2 (oInA true) (e a) (eT e xs) (eB (!decide (a ∈ xs))) := fun P X p => .inr ⟨xs.map e, rfl, cmp_shaped h (by omega) a, by have := (h.lay a).2; omega, cmp_shaped (cmpL h) (by omega) xs, by rw [if_pos rfl, any_cmp h]; exact p⟩
theorem p_notInXL [DecidableEq α] {n : Nat} {e : α → PyData} (h : Cmp n e) (hn : n ≤ 60) (a : α) (xs : List α) [Decidable (a ∈ xs)] : OP2 (oInA true) (e a) (eL e xs) (eB (!decide (a ∈ xs))) := fun P X p => .inr ⟨xs.map e, rfl, cmp_shaped h (by omega) a, by have := (h.lay a).2; omega, cmp_shaped (cmpL h) (by omega) xs, by rw [if_pos rfl, any_cmp h]; exact p⟩
/-! ### items -/
theorem at_ix [Inhabited α] {e : α → PyData} {xs : List α} {i : Int} (h : 0 ≤ i ∧ i < xs.length) : atI (xs.map e) i = some (e (ix xs i)) := by
  obtain ⟨j, rfl⟩ := Int.eq_ofNat_of_zero_le h.1
  have hj : j < xs.length := by omega
  refine atI_nat ?_
  rw [List.getElem?_map, List.getElem?_eq_getElem hj, ix, Int.toNat_natCast, List.getD_eq_getElem?_getD, List.getElem?_eq_getElem hj]; rfl
theorem at_ixm [Inhabited α] {e : α → PyData} {xs : List α} {k : Nat} (h : 1 ≤ k ∧ k ≤ xs.length) : atI (xs.map e) (-(k : Int)) = some (e (ixm xs k)) := by
  have h2 : xs.length - k < xs.length := by omega
  have e1 : (xs.map e)[xs.length - k]? = some (e (ixm xs k)) := by
    rw [List.getElem?_map, List.getElem?_eq_getElem h2, ixm, List.getD_eq_getElem?_getD, List.getElem?_eq_getElem h2]; rfl
  have e2 : ixN (xs.map e).length (-(k : Int)) = some (xs.length - k) := by
    unfold ixN
    rw [List.length_map, if_neg (by omega), if_pos (by omega)]
    congr 1
    omega
  unfold atI
  rw [e2]
  exact e1
theorem p_itT [Inhabited α] (e : α → PyData) (xs : List α) (i : Int) (h : 0 ≤ i ∧ i < xs.length) : OP2 oIt (eT e xs) (eI i) (e (ix xs i)) := fun P X p => r_it_t (at_ix h) p
theorem p_itL [Inhabited α] (e : α → PyData) (xs : List α) (i : Int) (h : 0 ≤ i ∧ i < xs.length) : OP2 oIt (eL e xs) (eI i) (e (ix xs i)) := fun P X p => r_it_l (at_ix h) p
theorem p_itTm [Inhabited α] (e : α → PyData) (xs : List α) (k : Nat) (h : 1 ≤ k ∧ k ≤ xs.length) : OP2 oIt (eT e xs) (eI (-(k : Int))) (e (ixm xs k)) := fun P X p => r_it_t (at_ixm h) p
theorem p_itLm [Inhabited α] (e : α → PyData) (xs : List α) (k : Nat) (h : 1 ≤ k ∧ k ≤ xs.length) : OP2 oIt (eL e xs) (eI (-(k : Int))) (e (ixm xs k)) := fun P X p => r_it_l (at_ixm h) p
theorem p_itD {ds : List PyData} {i : Int} (h : atI ds i = some d) : OP2 oIt (.tuple ds) (eI i) d := fun P X p => r_it_t h p
theorem p_itDL {ds : List PyData} {i : Int} (h : atI ds i = some d) : OP2 oIt (.list ds) (eI i) d := fun P X p => r_it_l h p
theorem p_toT (e : α → PyData) (xs : List α) (k : Int) (h : 0 ≤ k) (P : PyData → Prop) (X : Xc → Prop) (p : P (eT e (xs.take k.toNat))) : oSl (eT e xs) none (some k) P X := by
  obtain ⟨j, rfl⟩ := Int.eq_ofNat_of_zero_le h
  refine r_sl_t ?_
  rw [cut_to, ← List.map_take]; exact p
theorem p_fromT (e : α → PyData) (xs : List α) (k : Int) (h : 0 ≤ k) (P : PyData → Prop) (X : Xc → Prop) (p : P (eT e (xs.drop k.toNat))) : oSl (eT e xs) (some k) none P X := by
  obtain ⟨j, rfl⟩ := Int.eq_ofNat_of_zero_le h
  refine r_sl_t ?_
  rw [cut_from, ← List.map_drop]; exact p
theorem p_toL (e : α → PyData) (xs : List α) (k : Int) (h : 0 ≤ k) (P : PyData → Prop) (X : Xc → Prop) (p : P (eL e (xs.take k.toNat))) : oSl (eL e xs) none (some k) P X := by
  obtain ⟨j, rfl⟩ := Int.eq_ofNat_of_zero_le h
  refine r_sl_l ?_
  rw [cut_to, ← List.map_take]; exact p
theorem p_fromL (e : α → PyData) (xs : List α) (k : Int) (h : 0 ≤ k) (P : PyData → Prop) (X : Xc → Prop) (p : P (eL e (xs.drop k.toNat))) : oSl (eL e xs) (some k) none P X := by
  obtain ⟨j, rfl⟩ := Int.eq_ofNat_of_zero_le h
  refine r_sl_l ?_
  rw [cut_from, ← List.map_drop]; exact p
/-! ### calls -/
theorem c_lenT (e : α → PyData) (xs : List α) : CB oLn [eT e xs] (eI xs.length) := fun P X p => by
  refine r_ln_t ?_
  rw [List.length_map]; exact p
theorem c_lenL (e : α → PyData) (xs : List α) : CB oLn [eL e xs] (eI xs.length) := fun P X p => by
  refine r_ln_l ?_
  rw [List.length_map]; exact p
theorem c_lenD (ds : List PyData) : CB oLn [.tuple ds] (eI ds.length) := fun P X p => p
theorem c_lenDL (ds : List PyData) : CB oLn [.list ds] (eI ds.length) := fun P X p => p
theorem c_tupT (e : α → PyData) (xs : List α) : CB oTuple [eT e xs] (eT e xs) := fun P X p => p
theorem c_tupL (e : α → PyData) (xs : List α) : CB oTuple [eL e xs] (eT e xs) := fun P X p => p
theorem c_listT (e : α → PyData) (xs : List α) : CB oList [eT e xs] (eL e xs) := fun P X p => p
theorem c_listL (e : α → PyData) (xs : List α) : CB oList [eL e xs] (eL e xs) := fun P X p => p
theorem c_int (i : Int) : CB oInt [eI i] (eI i) := fun P X p => p
theorem c_boolB (x : Bool) : CB oBool [eB x] (eB x) := fun P X p => p
theorem c_abs (i : Int) : CB oAbs [eI i] (eI (if i < 0 then -i else i)) := fun P X p => p
theorem c_max2 (i j : Int) : CB oMax2 [eI i, eI j] (eI (if j > i then j else i)) := fun P X p => p
theorem c_min2 (i j : Int) : CB oMin2 [eI i, eI j] (eI (if j < i then j else i)) := fun P X p => p
theorem c_sumL (ns : List Int) : CB oSum [eL eI ns] (eI ns.sum) := fun P X p => by
  show (match intsOf (ns.map PyData.int) with | some ns => P (.int ns.sum) | none => False)
  rw [intsOf_map]; exact p
theorem c_max1 (ns : List Int) (h : ns ≠ []) : CB oMax1 [eL eI ns] (eI (maxI ns)) := fun P X p => by
  show (match intsOf (ns.map PyData.int) with | some ns => ns ≠ [] ∧ P (.int (maxI ns)) | none => False)
  rw [intsOf_map]; exact ⟨h, p⟩
theorem c_min1 (ns : List Int) (h : ns ≠ []) : CB oMin1 [eL eI ns] (eI (minI ns)) := fun P X p => by
  show (match intsOf (ns.map PyData.int) with | some ns => ns ≠ [] ∧ P (.int (minI ns)) | none => False)
  rw [intsOf_map]; exact ⟨h, p⟩
theorem c_gcd (i j : Int) : CB oGcd [eI i, eI j] (eI ((Nat.gcd i.natAbs j.natAbs : Nat) : Int)) := fun P X p => p
theorem c_allL (bs : List Bool) : CB oAll [eL eB bs] (eB (bs.all id)) := fun P X p => by
  show (match boolsOf (bs.map PyData.bool) with | some ns => P (.bool (ns.all id)) | none => False)
  rw [boolsOf_map]; exact p
theorem c_anyL (bs : List Bool) : CB oAny [eL eB bs] (eB (bs.any id)) := fun P X p => by
  show (match boolsOf (bs.map PyData.bool) with | some ns => P (.bool (ns.any id)) | none => False)
  rw [boolsOf_map]; exact p
/-- what may be shown -/
def RP (d : PyData) : Prop := okD d = true ∧ d.showable = true ∧ d.depth < 60 ∧ d.shown.length ≤ sizeLine
theorem c_repr (d : PyData) (h : RP d) : CB oRepr [d] (eS d.shown) := fun P X p => ⟨h, p⟩
end
end TY
set_option Elab.async false
set_option linter.all false
set_option maxRecDepth 100000
/-! Typed readings: sources, comprehensions, statements, loops. -/
namespace TY
open PySem PySem.Spec PyProof.Rows L2 Evl TB DL MI GE
section
variable {α β γ δ ε S : Type}
variable {r r' r2 : ME} {m a b c' : DE} {as : DA} {d d1 d2 d3 : PyData} {ds es : List PyData} {x y z : Bool} {P : PyData → Prop} {X : Xc → Prop}
theorem ev_eq {e : α → PyData} {u v : α} (h : u = v) (hv : EV r m (e v)) : EV r m (e u) := by rw [h]; exact hv
theorem eb_eq {t : DT} {u v : Bool} (h : u = v) (hv : EB r t v) : EB r t u := by rw [h]; exact hv
theorem eo_eq {mo : DEO} {e : α → PyData} {u v : List α} (h : u = v) (hv : EO r mo (v.map e)) : EO r mo (u.map e) := by rw [h]; exact hv
theorem k_let {G : Prop} (v : α) (h : ∀ u, u = v → G) : G := h v rfl
/-! ### sources -/
theorem it_T {e : α → PyData} {xs : List α} (h : EV r m (eT e xs)) : EIt r (iSq m) (xs.map e) := fun P X p => h _ _ p
theorem it_L {e : α → PyData} {xs : List α} (h : EV r m (eL e xs)) : EIt r (iSq m) (xs.map e) := fun P X p => h _ _ p
theorem rng0 (n : Int) : ((List.range n.toNat).map fun (i : Nat) => PyData.int i) = (rngI 0 n).map eI := by
  unfold rngI
  rw [List.map_map, Int.sub_zero]
  refine List.map_congr_left fun k _ => ?_
  show PyData.int k = PyData.int (0 + k)
  rw [Int.zero_add]
theorem it_r1 {n : Int} (h : EV r m (eI n)) (hn : -(2 ^ 62) ≤ n ∧ n < 2 ^ 62) : EIt r (iR1 m) ((rngI 0 n).map eI) := fun P X p => h _ _ ⟨hn, by rw [rng0]; exact p⟩
theorem it_r2 {i j : Int} (h : EV r a (eI i)) (h' : EV r b (eI j)) (hn : -(2 ^ 62) ≤ i ∧ i < 2 ^ 62 ∧ -(2 ^ 62) ≤ j ∧ j < 2 ^ 62) : EIt r (iR2 a b) ((rngI i j).map eI) := fun P X p => h _ _ (h' _ _ ⟨hn, by
  rw [rngI, List.map_map] at p
  exact p⟩)
/-- a, a + s, .. below b -/
def rngS (i j s : Int) : List Int := (List.range (Builtin.Range.rangeSize i j s).toNat).map fun (k : Nat) => i + (k : Int) * s
theorem it_r3 {i j s : Int} (h : EV r a (eI i)) (h' : EV r b (eI j)) (h'' : EV r c' (eI s)) (hn : s ≠ 0 ∧ s.natAbs < 1073741824 ∧ Builtin.Range.small i j s = true) : EIt r (iR3 a b c') ((rngS i j s).map eI) := fun P X p => h _ _ (h' _ _ (h'' _ _ ⟨hn, by
  rw [rngS, List.map_map] at p
  exact p⟩))
theorem zip2_ty (e : α → PyData) (e' : β → PyData) : ∀ (xs : List α) (ys : List β), zip2D (xs.map e) (ys.map e') = (xs.zip ys).map (e2 e e')
  | [], _ => by simp [zip2D]
  | _ :: _, [] => by simp [zip2D]
  | x :: xs, y :: ys => by rw [List.map_cons, List.map_cons, zip2D, zip2_ty e e' xs ys, List.zip_cons_cons, List.map_cons]; rfl
theorem zip3_ty (e : α → PyData) (e' : β → PyData) (e'' : γ → PyData) : ∀ (xs : List α) (ys : List β) (zs : List γ), zip3D (xs.map e) (ys.map e') (zs.map e'') = (xs.zip (ys.zip zs)).map (e3 e e' e'')
  | [], _, _ => by simp [zip3D]
  | _ :: _, [], _ => by simp [zip3D]
  | _ :: _, _ :: _, [] => by simp [zip3D]
  | x :: xs, y :: ys, z :: zs => by rw [List.map_cons, List.map_cons, List.map_cons, zip3D, zip3_ty e e' e'' xs ys zs, List.zip_cons_cons, List.zip_cons_cons, List.map_cons]; rfl
/-- a row of either sort -/
def SQ (d : PyData) (ds : List PyData) : Prop := seqOf d = some ds
theorem it_z2 {e : α → PyData} {e' : β → PyData} {xs : List α} {ys : List β} (ha : EV r a d1) (hb : EV r b d2) (h1 : seqOf d1 = some (xs.map e)) (h2 : seqOf d2 = some (ys.map e')) : EIt r (iZ2 a b) ((xs.zip ys).map (e2 e e')) := fun P X p => ha _ _ (hb _ _ (by
  simp only [h1, h2, zip2_ty]
  exact p))
theorem it_z3 {e : α → PyData} {e' : β → PyData} {e'' : γ → PyData} {xs : List α} {ys : List β} {zs : List γ} (ha : EV r a d1) (hb : EV r b d2) (hc : EV r c' d3) (h1 : seqOf d1 = some (xs.map e)) (h2 : seqOf d2 = some (ys.map e')) (h3 : seqOf d3 = some (zs.map e'')) : EIt r (iZ3 a b c') ((xs.zip (ys.zip zs)).map (e3 e e' e'')) := fun P X p => ha _ _ (hb _ _ (hc _ _ (by
  simp only [h1, h2, h3, zip3_ty]
  exact p)))
theorem enum_ty (e : α → PyData) : ∀ (n : Nat) (xs : List α), enumD n (xs.map e) = (enumI n xs).map (e2 eI e)
  | _, [] => rfl
  | n, x :: xs => by rw [List.map_cons, enumD, enum_ty e (n + 1) xs, enumI, List.map_cons]; rfl
theorem it_en {e : α → PyData} {xs : List α} (ha : EV r a d1) (h1 : seqOf d1 = some (xs.map e)) : EIt r (iEn a) ((enumI 0 xs).map (e2 eI e)) := fun P X p => ha _ _ (by
  simp only [h1, enum_ty]
  exact p)
/-! ### stores -/
theorem gv_name {i : Nat} : GV (gNm i) d r (r.set i (some (.dat d))) := fun P h => h
theorem gv_T1 [Inhabited α] {e : α → PyData} {xs : List α} {i : Nat} (h : xs.length = 1) : GV (gTp 1 (gs1 (gNm i) gs0)) (eT e xs) r (r.set i (some (.dat (e (ix xs 0))))) := fun P p => by
  match xs, h with
  | [x], _ => exact ⟨rfl, p⟩
theorem gv_T2 [Inhabited α] {e : α → PyData} {xs : List α} {i j : Nat} (h : xs.length = 2) : GV (gTp 2 (gs1 (gNm i) (gs1 (gNm j) gs0))) (eT e xs) r ((r.set i (some (.dat (e (ix xs 0))))).set j (some (.dat (e (ix xs 1))))) := fun P p => by
  match xs, h with
  | [x, y], _ => exact ⟨rfl, p⟩
theorem gv_T3 [Inhabited α] {e : α → PyData} {xs : List α} {i j k : Nat} (h : xs.length = 3) : GV (gTp 3 (gs1 (gNm i) (gs1 (gNm j) (gs1 (gNm k) gs0)))) (eT e xs) r (((r.set i (some (.dat (e (ix xs 0))))).set j (some (.dat (e (ix xs 1))))).set k (some (.dat (e (ix xs 2))))) := fun P p => by
  match xs, h with
  | [x, y, z], _ => exact ⟨rfl, p⟩
theorem gv_T5 [Inhabited α] {e : α → PyData} {xs : List α} {i j k l n : Nat} (h : xs.length = 5) : GV (gTp 5 (gs1 (gNm i) (gs1 (gNm j) (gs1 (gNm k) (gs1 (gNm l) (gs1 (gNm n) gs0)))))) (eT e xs) r (((((r.set i (some (.dat (e (ix xs 0))))).set j (some (.dat (e (ix xs 1))))).set k (some (.dat (e (ix xs 2))))).set l (some (.dat (e (ix xs 3))))).set n (some (.dat (e (ix xs 4))))) := fun P p => by
  match xs, h with
  | [x, y, z, u, v], _ => exact ⟨rfl, p⟩
/-! ### comprehensions -/
section
variable {it it2 : DI} {g g2 : DG} {t t2 : DT} {vs vs2 : List Nat} {el : DE} {sub : ME → List PyData → C (List PyData)}
variable {xs : List α} {e : α → PyData} {e' : β → PyData} {e'' : γ → PyData}
theorem mIt_ty {F : α → List PyData} (h : ∀ x ∈ xs, ∀ (acc : List PyData) (Q : List PyData → Prop), acc.length + (F x).length ≤ 100000 → Q (acc ++ F x) →
      g (e x) (wipeM r vs) (fun r2 => t r2 (fun b => match b with
        | true => sub r2 acc Q fun _ => False
        | false => Q acc) fun _ => False) fun _ => False) :
    ∀ (acc : List PyData) (P : List PyData → Prop) (X : Xc → Prop), acc.length + (xs.map fun x => (F x).length).sum ≤ 100000 → P (acc ++ xs.flatMap F) → mIt g t vs sub r (xs.map e) acc P X := by
  induction xs with
  | nil => intro acc P X _ p; simpa [mIt] using p
  | cons x xs ih =>
    intro acc P X hl p
    rw [List.map_cons, List.sum_cons] at hl
    rw [List.map_cons, mIt]
    refine h x List.mem_cons_self acc (fun acc' => mIt g t vs sub r (xs.map e) acc' P X) (by omega) (ih (fun y hy => h y (List.mem_cons_of_mem _ hy)) _ _ _ ?_ ?_)
    · rw [List.length_append]; omega
    · rw [List.flatMap_cons] at p
      rw [List.append_assoc]; exact p
theorem eo_of_it {F : α → List PyData} (hi : EIt r it (xs.map e)) (hf : freeL r vs) (h : ∀ x ∈ xs, ∀ (acc : List PyData) (Q : List PyData → Prop), acc.length + (F x).length ≤ 100000 → Q (acc ++ F x) →
      g (e x) (wipeM r vs) (fun r2 => t r2 (fun b => match b with
        | true => sub r2 acc Q fun _ => False
        | false => Q acc) fun _ => False) fun _ => False) (hl : (xs.map fun x => (F x).length).sum ≤ 100000) : EO r (mLc it g t vs sub) (xs.flatMap F) := fun P X p =>
  hi _ _ ⟨free_of hf, mIt_ty h [] _ _ (by simpa using hl) (by simpa using p)⟩
theorem fm_one (F : α → β) (xs : List α) : xs.flatMap (fun x => [F x]) = xs.map F := by
  induction xs with
  | nil => rfl
  | cons x xs ih => rw [List.flatMap_cons, ih]; rfl
theorem sum_one (F : α → β) (xs : List α) : (xs.map fun x => [F x].length).sum = xs.length := by
  induction xs with
  | nil => rfl
  | cons x xs ih => rw [List.map_cons, List.sum_cons, ih, List.length_cons, List.length_cons, List.length_nil]; omega
theorem fm_if (c : α → Bool) (F : α → β) (xs : List α) : xs.flatMap (fun x => if c x then [F x] else []) = (xs.filter c).map F := by
  induction xs with
  | nil => rfl
  | cons x xs ih =>
    rw [List.flatMap_cons, ih, List.filter_cons]
    cases c x <;> rfl
theorem sum_if (c : α → Bool) (F : α → β) (xs : List α) : (xs.map fun x => (if c x then [F x] else []).length).sum ≤ xs.length := by
  induction xs with
  | nil => exact Nat.le_refl _
  | cons x xs ih =>
    rw [List.map_cons, List.sum_cons, List.length_cons]
    cases c x
    · simpa using Nat.le_succ_of_le ih
    · simp only [if_true, List.length_cons, List.length_nil]; omega
/-- one clause, no condition -/
theorem eo_lc {f : α → β} {rx : α → ME} (hi : EIt r it (xs.map e)) (hf : freeL r vs) (hn : xs.length ≤ 100000) (hg : ∀ x ∈ xs, GV g (e x) (wipeM r vs) (rx x)) (he : ∀ x ∈ xs, EV (rx x) el (e' (f x))) :
    EO r (mLc it g tOk vs (mEl el)) ((xs.map f).map e') := by
  have := eo_of_it (F := fun x => [e' (f x)]) (sub := mEl el) (t := tOk) hi hf (fun x hx acc Q hl q => hg x hx _ (by
    show mEl el (rx x) acc Q _
    refine he x hx _ _ ⟨?_, q⟩
    have : acc.length + 1 ≤ 100000 := hl
    omega)) (by rw [sum_one]; exact hn)
  rwa [fm_one, ← Function.comp_def, ← List.map_map] at this
/-- one clause, a condition -/
theorem eo_lcI {f : α → β} {c : α → Bool} {rx : α → ME} (hi : EIt r it (xs.map e)) (hf : freeL r vs) (hn : xs.length ≤ 100000) (hg : ∀ x ∈ xs, GV g (e x) (wipeM r vs) (rx x)) (ht : ∀ x ∈ xs, EB (rx x) t (c x)) (he : ∀ x ∈ xs, c x = true → EV (rx x) el (e' (f x))) :
    EO r (mLc it g t vs (mEl el)) (((xs.filter c).map f).map e') := by
  have := eo_of_it (F := fun x => if c x then [e' (f x)] else []) (sub := mEl el) (t := t) hi hf (fun x hx acc Q hl q => hg x hx _ (ht x hx _ _ (by
    cases hc : c x with
    | true =>
      rw [hc] at hl q
      show mEl el (rx x) acc Q _
      refine he x hx hc _ _ ⟨?_, q⟩
      have : acc.length + 1 ≤ 100000 := hl
      omega
    | false =>
      rw [hc] at q
      show Q acc
      simpa using q))) (Nat.le_trans (sum_if _ _ _) hn)
  rwa [fm_if, ← Function.comp_def, ← List.map_map] at this
/-- two clauses -/
theorem eo_lc2 {ys : α → List β} {f : α → β → γ} {c : α → β → Bool} {rx : α → ME} {ry : α → β → ME} (hi : EIt r it (xs.map e)) (hf : freeL r vs) (hn : (xs.map fun x => (ys x).length).sum ≤ 100000) (hg : ∀ x ∈ xs, GV g (e x) (wipeM r vs) (rx x))
    (hi2 : ∀ x ∈ xs, EIt (rx x) it2 ((ys x).map e')) (hf2 : ∀ x ∈ xs, freeL (rx x) vs2) (hg2 : ∀ x ∈ xs, ∀ y ∈ ys x, GV g2 (e' y) (wipeM (rx x) vs2) (ry x y)) (ht2 : ∀ x ∈ xs, ∀ y ∈ ys x, EB (ry x y) t2 (c x y)) (he : ∀ x ∈ xs, ∀ y ∈ ys x, c x y = true → EV (ry x y) el (e'' (f x y))) :
    EO r (mLc it g tOk vs (mCl it2 g2 t2 vs2 (mEl el))) ((xs.flatMap fun x => ((ys x).filter (c x)).map (f x)).map e'') := by
  have hlen : ∀ x, (((ys x).filter (c x)).map (f x)).length ≤ (ys x).length := fun x => by
    rw [List.length_map]; exact List.length_filter_le _ _
  have := eo_of_it (F := fun x => (((ys x).filter (c x)).map (f x)).map e'') (sub := mCl it2 g2 t2 vs2 (mEl el)) (t := tOk) hi hf (fun x hx acc Q hl q => hg x hx _ (by
    show mCl it2 g2 t2 vs2 (mEl el) (rx x) acc Q _
    refine hi2 x hx _ _ ⟨free_of (hf2 x hx), ?_⟩
    have e1 : (((ys x).filter (c x)).map (f x)).map e'' = (ys x).flatMap fun y => if c x y then [e'' (f x y)] else [] := by
      rw [fm_if, List.map_map]; rfl
    refine mIt_ty (F := fun y => if c x y then [e'' (f x y)] else []) (fun y hy acc Q hl q => hg2 x hx y hy _ (ht2 x hx y hy _ _ (by
      cases hc : c x y with
      | true =>
        rw [hc] at hl q
        show mEl el (ry x y) acc Q _
        refine he x hx y hy hc _ _ ⟨?_, q⟩
        have : acc.length + 1 ≤ 100000 := hl
        omega
      | false =>
        rw [hc] at q
        show Q acc
        simpa using q))) acc _ _ ?_ (by rw [← e1]; exact q)
    have h2 : ((ys x).map fun y => (if c x y then [e'' (f x y)] else [] : List PyData).length).sum = ((((ys x).filter (c x)).map (f x)).map e'').length := by
      rw [e1, List.length_flatMap]
    rw [h2]; exact hl)) (by
      refine Nat.le_trans ?_ hn
      clear hi hg hi2 hf2 hg2 ht2 he hn
      induction xs with
      | nil => exact Nat.le_refl _
      | cons x xs ih =>
        rw [List.map_cons, List.sum_cons, List.map_cons, List.sum_cons, List.length_map]
        have := hlen x
        omega)
  rwa [← List.map_flatMap] at this
/-- three clauses -/
theorem eo_lc3 {δ : Type} {e3 : δ → PyData} {it3 : DI} {g3 : DG} {vs3 : List Nat} {ys : α → List β} {zs : α → β → List γ} {f : α → β → γ → δ} {rx : α → ME} {ry : α → β → ME} {rz : α → β → γ → ME} (hi : EIt r it (xs.map e)) (hf : freeL r vs) (hn : (xs.map fun x => ((ys x).map fun y => (zs x y).length).sum).sum ≤ 100000) (hg : ∀ x ∈ xs, GV g (e x) (wipeM r vs) (rx x))
    (hi2 : ∀ x ∈ xs, EIt (rx x) it2 ((ys x).map e')) (hf2 : ∀ x ∈ xs, freeL (rx x) vs2) (hg2 : ∀ x ∈ xs, ∀ y ∈ ys x, GV g2 (e' y) (wipeM (rx x) vs2) (ry x y))
    (hi3 : ∀ x ∈ xs, ∀ y ∈ ys x, EIt (ry x y) it3 ((zs x y).map e'')) (hf3 : ∀ x ∈ xs, ∀ y ∈ ys x, freeL (ry x y) vs3) (hg3 : ∀ x ∈ xs, ∀ y ∈ ys x, ∀ z ∈ zs x y, GV g3 (e'' z) (wipeM (ry x y) vs3) (rz x y z)) (he : ∀ x ∈ xs, ∀ y ∈ ys x, ∀ z ∈ zs x y, EV (rz x y z) el (e3 (f x y z))) :
    EO r (mLc it g tOk vs (mCl it2 g2 tOk vs2 (mCl it3 g3 tOk vs3 (mEl el)))) ((xs.flatMap fun x => (ys x).flatMap fun y => (zs x y).map (f x y)).map e3) := by
  have := eo_of_it (F := fun x => ((ys x).flatMap fun y => (zs x y).map (f x y)).map e3) (sub := mCl it2 g2 tOk vs2 (mCl it3 g3 tOk vs3 (mEl el))) (t := tOk) hi hf (fun x hx acc Q hl q => hg x hx _ (by
    show mCl it2 g2 tOk vs2 (mCl it3 g3 tOk vs3 (mEl el)) (rx x) acc Q _
    refine hi2 x hx _ _ ⟨free_of (hf2 x hx), ?_⟩
    refine mIt_ty (F := fun y => ((zs x y).map (f x y)).map e3) (fun y hy acc Q hl q => hg2 x hx y hy _ (by
      show mCl it3 g3 tOk vs3 (mEl el) (ry x y) acc Q _
      refine hi3 x hx y hy _ _ ⟨free_of (hf3 x hx y hy), ?_⟩
      refine mIt_ty (F := fun z => [e3 (f x y z)]) (fun z hz acc Q hl q => hg3 x hx y hy z hz _ (by
        show mEl el (rz x y z) acc Q _
        refine he x hx y hy z hz _ _ ⟨?_, q⟩
        have : acc.length + 1 ≤ 100000 := hl
        omega)) acc _ _ ?_ ?_
      · rw [sum_one]; rw [List.length_map, List.length_map] at hl; exact hl
      · rw [fm_one]; rw [List.map_map] at q; exact q)) acc _ _ ?_ (by rw [List.map_flatMap] at q; exact q)
    rw [List.length_map, List.length_flatMap] at hl
    simpa using hl)) (by
      refine Nat.le_trans (Nat.le_of_eq ?_) hn
      congr 1
      refine List.map_congr_left fun x _ => ?_
      rw [List.length_map, List.length_flatMap]
      simp)
  rwa [← List.map_flatMap] at this
/-- a comprehension that draws -/
def mapW (xs : List α) (body : α → (β → Prop) → Prop) (acc : List β) (k : List β → Prop) : Prop := match xs with
  | [] => k acc
  | x :: xs => body x fun y => mapW xs body (acc ++ [y]) k
theorem run_lcM {rx : α → ME} {body : α → (β → Prop) → Prop} {k : List β → Prop} (hg : ∀ x, GV g (e x) (wipeM r vs) (rx x))
    (he : ∀ x (kk : β → Prop) (Q : PyData → Prop), body x kk → (∀ y, kk y → Q (e' y)) → el (rx x) Q fun _ => False) :
    ∀ (acc : List β) (P : List PyData → Prop) (X : Xc → Prop), acc.length + xs.length ≤ 100000 → mapW xs body acc k → (∀ ys, k ys → P (ys.map e')) → mIt g tOk vs (mEl el) r (xs.map e) (acc.map e') P X := by
  induction xs with
  | nil => intro acc P X _ h hk; exact hk _ h
  | cons x xs ih =>
    intro acc P X hl h hk
    rw [List.length_cons] at hl
    rw [List.map_cons, mIt]
    refine hg x _ ?_
    show el (rx x) (fun y => (acc.map e').length < 100000 ∧ mIt g tOk vs (mEl el) r (xs.map e) (acc.map e' ++ [y]) P X) fun _ => False
    refine he x _ _ h fun y hy => ⟨by rw [List.length_map]; omega, ?_⟩
    have := ih (acc ++ [y]) P X (by rw [List.length_append, List.length_cons, List.length_nil]; omega) hy hk
    rwa [List.map_append] at this
theorem run_lc {rx : α → ME} {body : α → (β → Prop) → Prop} {k : List β → Prop} {P : List PyData → Prop} (hi : EIt r it (xs.map e)) (hf : freeL r vs) (hn : xs.length ≤ 100000) (hg : ∀ x, GV g (e x) (wipeM r vs) (rx x))
    (he : ∀ x (kk : β → Prop) (Q : PyData → Prop), body x kk → (∀ y, kk y → Q (e' y)) → el (rx x) Q fun _ => False) (h : mapW xs body [] k) (hk : ∀ ys, k ys → P (ys.map e')) : mLc it g tOk vs (mEl el) r P X :=
  hi _ _ ⟨free_of hf, run_lcM hg he [] P _ (by simpa using hn) h hk⟩
end
theorem run_fr {mo : DEO} (h : mo r (fun ds => P (.list ds)) X) : mFr mo r P X := h
/-! ### expressions that draw -/
theorem run_op {f : PyData → PyData → C PyData} (h : a r (fun x => b r (fun y => f x y P X) X) X) : mOp f a b r P X := h
theorem run_un {f : PyData → C PyData} (h : a r (fun x => f x P X) X) : mUn f a r P X := h
theorem run_not (h : a r (fun x => match x with | .bool b => P (.bool !b) | _ => False) X) : mNot a r P X := h
theorem run_tup (h : as r (fun es => es.length ≤ 100000 ∧ P (.tuple es)) X) : mTup as r P X := h
theorem run_lst (h : as r (fun es => es.length ≤ 100000 ∧ P (.list es)) X) : mLst as r P X := h
theorem run_eolst {P : List PyData → Prop} (h : as r (fun es => es.length ≤ 100000 ∧ P es) X) : eoLst as r P X := h
theorem run_cons {P : List PyData → Prop} (h : a r (fun x => as r (fun es => P (x :: es)) X) X) : aCons a as r P X := h
theorem run_nil {P : List PyData → Prop} (h : P []) : aNil r P X := h
theorem run_cb {f : List PyData → C PyData} (h : as r (fun es => f es P X) X) : mCB f as r P X := h
theorem run_call {f : List PyData → C PyData} (h : as r (fun es => f es P fun _ => False) X) : mCall f as r P X := h
theorem run_callW {f : List PyData → C PyData} {i : Nat} (hi : lk r i = some .dck) (h : as r (fun es => f es P fun _ => False) X) : mCallW i f as r P X := by
  unfold mCallW; rw [hi]; exact h
theorem run_if {t : DT} (h : t r (fun x => match x with | true => a r P X | false => b r P X) X) : mIf t a b r P X := h
theorem run_and (h : a r (fun x => match x with | .bool true => b r P X | .bool false => P (.bool false) | _ => False) X) : mAnd a b r P X := h
theorem run_or (h : a r (fun x => match x with | .bool true => P (.bool true) | .bool false => b r P X | _ => False) X) : mOr a b r P X := h
theorem run_tT {P : Bool → Prop} (h : a r (fun x => match x with | .bool b => P b | _ => False) X) : tT a r P X := h
theorem run_tNo {t : DT} {P : Bool → Prop} (h : t r (fun b => P !b) X) : tNo t r P X := h
theorem run_tAn {t u : DT} {P : Bool → Prop} (h : t r (fun x => match x with | true => u r P X | false => P false) X) : tAn t u r P X := h
theorem run_tOo {t u : DT} {P : Bool → Prop} (h : t r (fun x => match x with | true => P true | false => u r P X) X) : tOo t u r P X := h
theorem run_sl {f : PyData → Option Int → Option Int → C PyData} {lo hi : DO} (h : a r (fun x => lo r (fun i => hi r (fun j => f x i j P X) X) X) X) : mSl f a lo hi r P X := h
theorem run_some {P : Option Int → Prop} (h : a r (fun x => match x with | .int i => P (some i) | _ => False) X) : oSome a r P X := h
theorem run_isi {T : String} (h : a r (fun e => P (.bool (isA T e))) X) : mIsi T a r P X := h
theorem run_rev (h : a r (fun e => match e with | .tuple ds => P (.tuple ds.reverse) | .list ds => P (.list ds.reverse) | _ => False) X) : mRev a r P X := h
/-- a branch on a truth value -/
theorem by_b {c : Bool} {A B : Prop} (h1 : c = true → A) (h2 : c = false → B) : (match c with | true => A | false => B) := by
  cases c with
  | true => exact h1 rfl
  | false => exact h2 rfl
theorem by_bd {c : Bool} {A B : Prop} (h1 : c = true → A) (h2 : c = false → B) : (match PyData.bool c with | .bool true => A | .bool false => B | _ => False) := by
  cases c with
  | true => exact h1 rfl
  | false => exact h2 rfl
theorem if_t {c : Bool} {e : α → PyData} {v w : α} {Q : PyData → Prop} (hc : c = true) (p : Q (e (if c then v else w))) : Q (e v) := by
  rw [hc] at p; exact p
theorem if_f {c : Bool} {e : α → PyData} {v w : α} {Q : PyData → Prop} (hc : c = false) (p : Q (e (if c then v else w))) : Q (e w) := by
  rw [hc] at p; exact p
/-! ### statements -/
section
variable {D : DN} {s s1 s2 rest sa sb : DS} {g : DG} {t : DT} {i j : Nat} {e : α → PyData} {xs : List α}
theorem k_last (h : sSeq s sNx D r) : s D r := h
theorem k_nx (h : rest D r) : sSeq sNx rest D r := h
theorem k_end (h : D.nx r) : sNx D r := h
theorem k_ct (h : D.ct r) : sCt D r := h
theorem k_ctS (h : D.ct r) : sSeq sCt rest D r := h
theorem k_bk (h : D.bk r) : sBk D r := h
theorem k_bkS (h : D.bk r) : sSeq sBk rest D r := h
theorem k_assoc (h : sSeq s1 (sSeq s2 rest) D r) : sSeq (sSeq s1 s2) rest D r := h
theorem k_asg (h : EV r m d) (hg : GV g d r r') (k : rest D r') : sSeq (sAsg m g) rest D r := h _ _ (hg _ k)
theorem k_asgW (h : m r (fun x => g x r (rest D) fun _ => False) D.ex) : sSeq (sAsg m g) rest D r := h
theorem k_nm (k : rest D (r.set i (some (.dat d)))) : gNm i d r (rest D) fun _ => False := k
theorem k_gv (hg : GV g d r r') (k : rest D r') : g d r (rest D) fun _ => False := hg _ k
theorem k_drop (h : EV r m d) (k : rest D r) : sSeq (sDrop m) rest D r := h _ _ k
theorem k_dropW (h : m r (fun _ => rest D r) D.ex) : sSeq (sDrop m) rest D r := h
theorem k_par (h : EA r as [d1, d2]) (k : rest D ((r.set i (some (.dat d1))).set j (some (.dat d2)))) : sSeq (sPar i j as) rest D r := h _ _ k
theorem k_parW (h : as r (fun es => match es with | [x, y] => rest D ((r.set i (some (.dat x))).set j (some (.dat y))) | _ => False) D.ex) : sSeq (sPar i j as) rest D r := h
theorem k_if (ht : EB r t x) (h1 : x = true → sSeq sa rest D r) (h2 : x = false → sSeq sb rest D r) : sSeq (sIf t sa sb) rest D r := ht _ _ (by
  cases x with
  | true => exact h1 rfl
  | false => exact h2 rfl)
theorem k_ifW (h : t r (fun x => match x with | true => sSeq sa rest D r | false => sSeq sb rest D r) D.ex) : sSeq (sIf t sa sb) rest D r := h
theorem k_ret (h : EV r m d) (p : D.rt d) : sRet m D r := h _ _ p
theorem k_retS (h : EV r m d) (p : D.rt d) : sSeq (sRet m) rest D r := h _ _ p
theorem k_retW (h : m r D.rt D.ex) : sRet m D r := h
theorem k_retSW (h : m r D.rt D.ex) : sSeq (sRet m) rest D r := h
theorem k_retN (p : D.rt .none) : sRetN D r := p
theorem k_fz (hr : frzM r i = r') (h : sSeq s rest D r') : sSeq (sFz i s) rest D r := by
  show s _ (frzM r i)
  rw [hr]; exact h
theorem k_new {mo : DEO} (h : EO r mo ds) (hi : i < r.length) (k : rest D (r.set i (some (.own ds)))) : sSeq (sNew i mo) rest D r := h _ _ ⟨hi, k⟩
theorem k_newW {mo : DEO} (h : mo r (fun ds => i < r.length ∧ rest D (r.set i (some (.own ds)))) D.ex) : sSeq (sNew i mo) rest D r := h
theorem k_app {v : α} (hl : lk r i = some (.own (xs.map e))) (h : EV r m (e v)) (hn : xs.length < 100000) (k : rest D (r.set i (some (.own ((xs ++ [v]).map e))))) : sSeq (oApp i m) rest D r := by
  show (match lk r i with | some (.own ds) => _ | _ => False)
  rw [hl]
  refine h _ _ ⟨by rw [List.length_map]; exact hn, ?_⟩
  rw [List.map_append] at k
  exact k
theorem k_appW (hl : lk r i = some (.own (xs.map e))) (h : m r (fun x => xs.length < 100000 ∧ rest D (r.set i (some (.own (xs.map e ++ [x]))))) D.ex) : sSeq (oApp i m) rest D r := by
  show (match lk r i with | some (.own ds) => _ | _ => False)
  rw [hl]
  simp only [List.length_map]
  exact h
theorem ty_app {Q : ME → Prop} {v : α} (h : Q (r.set i (some (.own ((xs ++ [v]).map e))))) : Q (r.set i (some (.own (xs.map e ++ [e v])))) := by rwa [List.map_append] at h
theorem k_ext {ys : List α} (hl : lk r i = some (.own (xs.map e))) (h : EV r m (eL e ys)) (hn : xs.length + ys.length ≤ 100000) (k : rest D (r.set i (some (.own ((xs ++ ys).map e))))) : sSeq (oExt i m) rest D r := by
  show (match lk r i with | some (.own ds) => _ | _ => False)
  rw [hl]
  refine h _ _ ⟨by rw [List.length_map, List.length_map]; exact hn, ?_⟩
  rw [List.map_append] at k
  exact k
/-- an item set -/
def setI (xs : List α) (k : Int) (v : α) : List α := xs.set k.toNat v
theorem ixN_in {n : Nat} {k : Int} (h : 0 ≤ k ∧ k < n) : ixN n k = some k.toNat := by
  unfold ixN
  rw [if_pos h.1, if_pos h.2]
theorem k_set {v : α} {mk : DE} {k : Int} (hl : lk r i = some (.own (xs.map e))) (h : EV r m (e v)) (hk : EV r mk (eI k)) (hn : 0 ≤ k ∧ k < xs.length) (kk : rest D (r.set i (some (.own ((setI xs k v).map e))))) : sSeq (oSet i mk m) rest D r := by
  refine h _ _ ?_
  simp only [hl]
  refine hk _ _ ?_
  simp only [List.length_map, ixN_in hn]
  rw [setI, List.map_set] at kk
  exact kk
theorem k_setW {mk : DE} {k : Int} (hl : lk r i = some (.own (xs.map e))) (hk : EV r mk (eI k)) (hn : 0 ≤ k ∧ k < xs.length) (h : m r (fun x => rest D (r.set i (some (.own ((xs.map e).set k.toNat x))))) D.ex) (hm : ∀ Q Q' : PyData → Prop, (∀ d, Q d → Q' d) → m r Q D.ex → m r Q' D.ex) : sSeq (oSet i mk m) rest D r := by
  refine hm _ _ (fun d q => ?_) h
  simp only [hl]
  refine hk _ _ ?_
  simp only [List.length_map, ixN_in hn]
  exact q
/-! ### loops -/
def forW (xs : List α) (body : α → S → (S → Prop) → Prop) (k : S → Prop) : S → Prop := match xs with
  | [] => k
  | x :: xs => fun s => body x s (forW xs body k)
theorem k_for {L : List Nat} {it : DI} {bd : DS} {re : S → ME} {s0 : S} {body : α → S → (S → Prop) → Prop} {k : S → Prop} (hi : EIt r it (xs.map e)) (h0 : keepM L 0 r = re s0)
    (hb : ∀ x s (nx : S → Prop) (D' : DN), D'.rt = D.rt → (∀ s r', nx s → keepM L 0 r' = re s → D'.nx r') → (∀ s r', nx s → keepM L 0 r' = re s → D'.ct r') → body x s nx → g (e x) (re s) (bd D') fun _ => False)
    (hr : ∀ s, k s → rest D (re s)) (h : forW xs body k s0) : sSeq (sForK L it g bd) rest D r := by
  refine hi _ _ ?_
  have key : ∀ (xs : List α) (r : ME) (s : S), keepM L 0 r = re s → forW xs body k s → forK L g bd { D with nx := rest D } (xs.map e) r := by
    intro xs
    induction xs with
    | nil =>
      intro r s h0 h
      show rest D (keepM L 0 r)
      rw [h0]; exact hr s h
    | cons x xs ih =>
      intro r s h0 h
      show g (e x) (keepM L 0 r) (fun r' => bd _ r') fun _ => False
      rw [h0]
      exact hb x s (forW xs body k) _ rfl (fun s r' q z => ih r' s z q) (fun s r' q z => ih r' s z q) h
  exact key xs r s0 h0 h
def whW (c : S → Bool) (dc : S → Prop) (body : S → (S → Prop) → Prop) (k : S → Prop) : Nat → S → Prop
  | 0, _ => False
  | n + 1, s => dc s ∧ (c s = true → body s (whW c dc body k n)) ∧ (c s = false → k s)
theorem k_while {L : List Nat} {bd : DS} {re : S → ME} {s0 : S} {c : S → Bool} {dc : S → Prop} {body : S → (S → Prop) → Prop} {k : S → Prop} (h0 : keepM L 0 r = re s0) (ht : ∀ s, dc s → EB (re s) t (c s))
    (hb : ∀ s (nx : S → Prop) (D' : DN), D'.rt = D.rt → (∀ s r', nx s → keepM L 0 r' = re s → D'.nx r') → (∀ s r', nx s → keepM L 0 r' = re s → D'.ct r') → body s nx → bd D' (re s))
    (hr : ∀ s, k s → rest D (re s)) (h : ∃ n, whW c dc body k n s0) : sSeq (sWhileK L t bd) rest D r := by
  obtain ⟨n, h⟩ := h
  refine ⟨n, ?_⟩
  have key : ∀ (n : Nat) (r : ME) (s : S), keepM L 0 r = re s → whW c dc body k n s → whK L t bd { D with nx := rest D } n r := by
    intro n
    induction n with
    | zero => intro r s _ h; exact h.elim
    | succ n ih =>
      intro r s h0 h
      obtain ⟨h1, h2, h3⟩ := h
      rw [whK, h0]
      refine ht s h1 _ _ ?_
      cases hc : c s with
      | true => exact hb s (whW c dc body k n) _ rfl (fun s r' q z => ih r' s z q) (fun s r' q z => ih r' s z q) (h2 hc)
      | false => exact hr s (h3 hc)
  exact key n r s0 h0 h
end
/-! ### how loops are answered -/
theorem forW_inv {xs : List α} {body : α → S → (S → Prop) → Prop} {k : S → Prop} (J : List α → S → Prop) {s0 : S} (h0 : J xs s0) (hb : ∀ x l s (nx : S → Prop), J (x :: l) s → (∀ s', J l s' → nx s') → body x s nx) (hk : ∀ s, J [] s → k s) : forW xs body k s0 := by
  induction xs generalizing s0 with
  | nil => exact hk s0 h0
  | cons x xs ih => exact hb x xs s0 _ h0 fun s' hs => ih hs
/-- no state: each turn for itself -/
theorem forW_each {xs : List α} {body : α → Unit → (Unit → Prop) → Prop} {k : Unit → Prop} (hb : ∀ x ∈ xs, ∀ nx : Unit → Prop, nx () → body x () nx) (hk : k ()) : forW xs body k () := by
  induction xs with
  | nil => exact hk
  | cons x xs ih => exact hb x List.mem_cons_self _ (ih fun y hy => hb y (List.mem_cons_of_mem _ hy))
/-- a loop that steps a state -/
theorem forW_fold {xs : List α} {body : α → S → (S → Prop) → Prop} {k : S → Prop} (f : S → α → S) (I : S → Prop) {s0 : S} (h0 : I s0) (hb : ∀ x ∈ xs, ∀ s, I s → I (f s x) ∧ ∀ nx : S → Prop, nx (f s x) → body x s nx) (hk : I (xs.foldl f s0) → k (xs.foldl f s0)) : forW xs body k s0 := by
  induction xs generalizing s0 with
  | nil => exact hk h0
  | cons x xs ih =>
    obtain ⟨h1, h2⟩ := hb x List.mem_cons_self s0 h0
    exact h2 _ (ih h1 (fun y hy => hb y (List.mem_cons_of_mem _ hy)) hk)
theorem whW_rule {c : S → Bool} {dc : S → Prop} {body : S → (S → Prop) → Prop} {k : S → Prop} (J : Nat → S → Prop) {n : Nat} {s0 : S} (h0 : J n s0)
    (hd : ∀ n s, J n s → dc s) (hb : ∀ n s (nx : S → Prop), J n s → c s = true → (∀ n' s', n' < n → J n' s' → nx s') → body s nx) (hk : ∀ n s, J n s → c s = false → k s) : ∃ n, whW c dc body k n s0 := by
  have key : ∀ (f n : Nat) (s : S), n < f → J n s → whW c dc body k f s := by
    intro f
    induction f with
    | zero => intro n s h; omega
    | succ f ih => exact fun n s hn j => ⟨hd n s j, fun hc => hb n s _ j hc fun n' s' h' j' => ih n' s' (by omega) j', fun hc => hk n s j hc⟩
  exact ⟨n + 1, key (n + 1) n s0 (Nat.lt_succ_self n) h0⟩
inductive R2L (R : α → β → Prop) : List α → List β → Prop
  | nil : R2L R [] []
  | cons {a : α} {b : β} {as : List α} {bs : List β} : R a b → R2L R as bs → R2L R (a :: as) (b :: bs)
theorem R2L.len {R : α → β → Prop} {as : List α} {bs : List β} (h : R2L R as bs) : bs.length = as.length := by
  induction h with
  | nil => rfl
  | cons _ _ ih => rw [List.length_cons, List.length_cons, ih]
theorem R2L.all {R : α → β → Prop} {T : β → Prop} {as : List α} {bs : List β} (h : R2L R as bs) (hT : ∀ a b, R a b → T b) : ∀ b ∈ bs, T b := by
  induction h with
  | nil => intro b hb; cases hb
  | cons h1 _ ih =>
    intro b hb
    rcases List.mem_cons.mp hb with rfl | hb
    · exact hT _ _ h1
    · exact ih b hb
theorem mapW_rel {xs : List α} {body : α → (β → Prop) → Prop} {k : List β → Prop} (R : α → β → Prop) (hb : ∀ x ∈ xs, ∀ nx : β → Prop, (∀ y, R x y → nx y) → body x nx) (hk : ∀ ys, R2L R xs ys → k ys) : mapW xs body [] k := by
  have key : ∀ (xs : List α) (acc : List β) (k : List β → Prop), (∀ x ∈ xs, ∀ nx : β → Prop, (∀ y, R x y → nx y) → body x nx) → (∀ ys, R2L R xs ys → k (acc ++ ys)) → mapW xs body acc k := by
    intro xs
    induction xs with
    | nil => intro acc k _ hk; have := hk [] .nil; rwa [List.append_nil] at this
    | cons x xs ih =>
      intro acc k hb hk
      refine hb x List.mem_cons_self _ fun y hy => ih _ _ (fun z hz => hb z (List.mem_cons_of_mem _ hz)) fun ys hys => ?_
      rw [List.append_assoc]
      exact hk _ (.cons hy hys)
  exact key xs [] k hb hk
/-- all alike -/
theorem mapW_all {xs : List α} {body : α → (β → Prop) → Prop} {k : List β → Prop} (T : β → Prop) (hb : ∀ x ∈ xs, ∀ nx : β → Prop, (∀ y, T y → nx y) → body x nx) (hk : ∀ ys, ys.length = xs.length → (∀ y ∈ ys, T y) → k ys) : mapW xs body [] k :=
  mapW_rel (fun _ y => T y) hb fun ys h => hk ys h.len (h.all fun _ _ h => h)
end
end TY
set_option Elab.async false
set_option linter.all false
set_option maxRecDepth 100000
/-! Typed readings: what the generator uses besides. -/
namespace TY
open PySem PySem.Spec PyProof.Rows L2 Evl TB DL MI GE
section
variable {α β γ S : Type}
variable {r r' : ME} {m mk : DE} {t : DT} {d : PyData} {P : PyData → Prop} {X : Xc → Prop} {i : Nat} {e : α → PyData} {D D' : DN} {rest : DS}
theorem fil_true (xs : List α) : xs.filter (fun _ => true) = xs := List.filter_eq_self.mpr fun _ _ => rfl
def bindW (W : (α → Prop) → Prop) (k : α → Prop) : Prop := W k
theorem run_bind {W : (α → Prop) → Prop} {k : α → Prop} (h : bindW W k) (hm : ∀ kk : α → Prop, W kk → ∀ Q : PyData → Prop, (∀ v, kk v → Q (e v)) → m r Q X) (hk : ∀ v, k v → P (e v)) : m r P X := hm k h P hk
theorem run_bindB {W : (Bool → Prop) → Prop} {k : Bool → Prop} {P : Bool → Prop} (h : bindW W k) (hm : ∀ kk : Bool → Prop, W kk → ∀ Q : Bool → Prop, (∀ v, kk v → Q v) → t r Q X) (hk : ∀ v, k v → P v) : t r P X := hm k h P hk
theorem gv_eq {u v : α} (h : u = v) : GV (gNm i) (e v) r (r.set i (some (.dat (e u)))) := by rw [h]; exact gv_name
theorem ty_own {Q : ME → Prop} {u v : List α} (h : u = v) (p : Q (r.set i (some (.own (u.map e))))) : Q (r.set i (some (.own (v.map e)))) := by rw [← h]; exact p
theorem rt_of (h : D'.rt = D.rt) (p : D.rt d) : D'.rt d := by rw [h]; exact p
def SETP (r : ME) (i : Nat) (mk : DE) (rest : DS) (D : DN) (x : PyData) : Prop := match lk r i with
  | some (.own ds) => mk r (fun z => match z with
    | .int z => (match ixN ds.length z with
      | some j => rest D (r.set i (some (.own (ds.set j x))))
      | none => False)
    | _ => False) D.ex
  | _ => False
theorem k_setR (h : m r (fun x => SETP r i mk rest D x) D.ex) : sSeq (oSet i mk m) rest D r := h
theorem ty_set {xs : List α} {v : α} {k : Int} (hl : lk r i = some (.own (xs.map e))) (hk : EV r mk (eI k)) (hn : 0 ≤ k ∧ k < xs.length) (kk : rest D (r.set i (some (.own ((setI xs k v).map e))))) : SETP r i mk rest D (e v) := by
  simp only [SETP, hl]
  refine hk _ _ ?_
  simp only [List.length_map, ixN_in hn]
  rw [setI, List.map_set] at kk
  exact kk
/-! ### the draws -/
def W_draw (m : Int) (k : Int → Prop) : Prop := (0 < m ∧ m ≤ 1000000000000000000) ∧ ∀ r : Int, 0 ≤ r → r < m → k r
theorem w_draw {m : Int} {k : Int → Prop} (h : W_draw m k) (P : PyData → Prop) (X : Xc → Prop) (hk : ∀ v, k v → P (eI v)) : m_draw [eI m] P X := ⟨h.1, fun r h0 h1 => hk r (h.2 r h0 h1)⟩
def W_one (xs : List α) (k : α → Prop) : Prop := (0 < xs.length ∧ xs.length ≤ 100000) ∧ ∀ x ∈ xs, k x
theorem w_one {xs : List α} {k : α → Prop} (h : W_one xs k) (P : PyData → Prop) (X : Xc → Prop) (hk : ∀ v, k v → P (e v)) : m_one [eL e xs] P X := by
  refine ⟨by rw [List.length_map]; exact h.1, fun d hd => ?_⟩
  obtain ⟨x, hx, rfl⟩ := List.mem_map.mp hd
  exact hk x (h.2 x hx)
theorem draw_i {m : Int} {k : Int → Prop} (h : 0 < m ∧ m ≤ 1000000000000000000) (hk : ∀ r : Int, 0 ≤ r → r < m → k r) : W_draw m k := ⟨h, hk⟩
theorem eo_listT {xs : List α} (h : EV r m (eT e xs)) : EO r (eoList m) (xs.map e) := fun P X p => h _ _ p
theorem eo_listL {xs : List α} (h : EV r m (eL e xs)) : EO r (eoList m) (xs.map e) := fun P X p => h _ _ p
end
end TY
namespace TY
open PySem PySem.Spec PyProof.Rows L2 Evl TB DL MI GE
section
variable {r : ME} {a b ma mb : DE} {t u : DT} {P : PyData → Prop} {PB : Bool → Prop} {X : Xc → Prop} {D : DN} {sa sb rest : DS} {A B : Prop} {c : Bool}
def IFB (d : PyData) (A B : Prop) : Prop := match d with
  | .bool true => A
  | .bool false => B
  | _ => False
def IFC (b : Bool) (A B : Prop) : Prop := match b with
  | true => A
  | false => B
def ISB (d : PyData) (P : Bool → Prop) : Prop := match d with
  | .bool b => P b
  | _ => False
def ISI (d : PyData) (P : Int → Prop) : Prop := match d with
  | .int b => P b
  | _ => False
theorem by_bi (h1 : c = true → A) (h2 : c = false → B) : IFB (eB c) A B := by
  cases c with
  | true => exact h1 rfl
  | false => exact h2 rfl
theorem by_bc (h1 : c = true → A) (h2 : c = false → B) : IFC c A B := by
  cases c with
  | true => exact h1 rfl
  | false => exact h2 rfl
theorem isb (h : PB c) : ISB (eB c) PB := h
theorem isi {P : Int → Prop} {i : Int} (h : P i) : ISI (eI i) P := h
theorem ifb_eq {x : PyData} {A B : Prop} : (match x with | .bool b => (match b with | true => A | false => B) | _ => False) = IFB x A B := by
  cases x with
  | bool b => cases b <;> rfl
  | _ => rfl
theorem k_ifT (h : a r (fun x => IFB x (sSeq sa rest D r) (sSeq sb rest D r)) D.ex) : sSeq (sIf (tT a) sa sb) rest D r := by
  show a r (fun x => match x with | .bool b => (match b with | true => sSeq sa rest D r | false => sSeq sb rest D r) | _ => False) D.ex
  simp only [ifb_eq]
  exact h
theorem run_ifT (h : a r (fun x => IFB x (ma r P X) (mb r P X)) X) : mIf (tT a) ma mb r P X := by
  show a r (fun x => match x with | .bool b => (match b with | true => ma r P X | false => mb r P X) | _ => False) X
  simp only [ifb_eq]
  exact h
theorem ifb_eq2 {x : PyData} {A B : Prop} : (match x with | .bool true => A | .bool false => B | _ => False) = IFB x A B := rfl
theorem run_andT (h : a r (fun x => IFB x (b r P X) (P (.bool false))) X) : mAnd a b r P X := h
theorem run_orT (h : a r (fun x => IFB x (P (.bool true)) (b r P X)) X) : mOr a b r P X := h
theorem run_notT (h : a r (fun x => ISB x fun b => P (.bool !b)) X) : mNot a r P X := h
theorem run_tT' (h : a r (fun x => ISB x PB) X) : tT a r PB X := h
theorem run_tAn' (h : t r (fun x => IFC x (u r PB X) (PB false)) X) : tAn t u r PB X := h
theorem run_tOo' (h : t r (fun x => IFC x (PB true) (u r PB X)) X) : tOo t u r PB X := h
theorem k_ifC (h : t r (fun x => IFC x (sSeq sa rest D r) (sSeq sb rest D r)) D.ex) : sSeq (sIf t sa sb) rest D r := h
theorem run_ifC (h : t r (fun x => IFC x (ma r P X) (mb r P X)) X) : mIf t ma mb r P X := h
theorem run_some' {P : Option Int → Prop} (h : a r (fun x => ISI x fun i => P (some i)) X) : oSome a r P X := h
end
end TY
namespace TY
open PySem PySem.Spec PyProof.Rows L2 Evl TB DL MI GE
section
variable {r : ME} {a b : DE} {m m2 : DEO} {D : DN} {rest : DS} {i j : Nat}
theorem k_parDO (h : a r (fun x => m r (fun ds => j < r.length ∧ rest D ((r.set i (some (.dat x))).set j (some (.own ds)))) D.ex) D.ex) : sSeq (sParDO i j a m) rest D r := h
theorem k_parOD (h : m r (fun ds => b r (fun y => i < r.length ∧ rest D ((r.set i (some (.own ds))).set j (some (.dat y)))) fun _ => False) D.ex) : sSeq (sParOD i j m b) rest D r := h
theorem k_parOO (h : m r (fun ds => m2 r (fun es => (i < r.length ∧ j < r.length) ∧ rest D ((r.set i (some (.own ds))).set j (some (.own es)))) fun _ => False) D.ex) : sSeq (sParOO i j m m2) rest D r := h
end
end TY
namespace TY
open PySem PySem.Spec PyProof.Rows L2 Evl TB DL MI GE
theorem k_join {S O : Type} {r : ME} {D : DN} {sd rest : DS} {re : S → O → ME} {W : (S → Prop) → Prop} {k : S → Prop} (h : bindW W k) (hr : ∀ s o, k s → rest D (re s o)) (hi : ∀ kk : S → Prop, (∀ s o, kk s → rest D (re s o)) → W kk → sSeq sd rest D r) : sSeq sd rest D r := hi k hr h
end TY
namespace TY
open PySem PySem.Spec PyProof.Rows L2 Evl TB DL MI GE
theorem ev_run {r : ME} {m : DE} {d : PyData} {P : PyData → Prop} {X : Xc → Prop} (h : EV r m d) (k : P d) : m r P X := h P X k
theorem eb_run {r : ME} {m : DT} {b : Bool} {P : Bool → Prop} {X : Xc → Prop} (h : EB r m b) (k : P b) : m r P X := h P X k
theorem eo_run {r : ME} {m : DEO} {ds : List PyData} {P : List PyData → Prop} {X : Xc → Prop} (h : EO r m ds) (k : P ds) : m r P X := h P X k
end TY
namespace TY
open PySem PySem.Spec PyProof.Rows L2 Evl TB DL MI GE
/-! ### sources that draw -/
def iC (ds : List PyData) : DI := fun _ P _ => P ds
section
variable {α β : Type} {r : ME} {m a b : DE} {X : Xc → Prop} {P : List PyData → Prop}
theorem k_forR1 {L : List Nat} {g : DG} {bd rest : DS} {D : DN} (h : m r (fun x => match x with
  | .int n => (-(2 ^ 62) ≤ n ∧ n < 2 ^ 62) ∧ sSeq (sForK L (iC ((rngI 0 n).map eI)) g bd) rest D r
  | _ => False) D.ex) (hm : ∀ (Q Q' : PyData → Prop), Q = Q' → m r Q D.ex → m r Q' D.ex := fun _ _ e q => e ▸ q) : sSeq (sForK L (iR1 m) g bd) rest D r := by
  refine hm _ _ (funext fun x => ?_) h
  cases x with
  | int n =>
    show ((-(2 ^ 62) ≤ n ∧ n < 2 ^ 62) ∧ _) = ((-(2 ^ 62) ≤ n ∧ n < 2 ^ 62) ∧ _)
    rw [rng0]; rfl
  | _ => rfl
theorem k_forR2 {L : List Nat} {g : DG} {bd rest : DS} {D : DN} (h : a r (fun x => b r (fun y => match x, y with
  | .int i, .int j => (-(2 ^ 62) ≤ i ∧ i < 2 ^ 62 ∧ -(2 ^ 62) ≤ j ∧ j < 2 ^ 62) ∧ sSeq (sForK L (iC ((rngI i j).map eI)) g bd) rest D r
  | _, _ => False) D.ex) D.ex) : sSeq (sForK L (iR2 a b) g bd) rest D r := by
  have e : (fun x : PyData => b r (fun y : PyData => match x, y with
  | .int i, .int j => (-(2 ^ 62) ≤ i ∧ i < 2 ^ 62 ∧ -(2 ^ 62) ≤ j ∧ j < 2 ^ 62) ∧ sSeq (sForK L (iC ((rngI i j).map eI)) g bd) rest D r
  | _, _ => False) D.ex) = (fun x : PyData => b r (fun y : PyData => match x, y with
  | .int i, .int j => (-(2 ^ 62) ≤ i ∧ i < 2 ^ 62 ∧ -(2 ^ 62) ≤ j ∧ j < 2 ^ 62) ∧ forK L g bd { D with nx := rest D } ((List.range (j - i).toNat).map fun (k : Nat) => PyData.int (i + k)) r
  | _, _ => False) D.ex) := by
    refine funext fun x => congrArg (fun Q => b r Q D.ex) (funext fun y => ?_)
    cases x <;> cases y <;> try rfl
    rename_i i j
    show (_ ∧ forK L g bd { D with nx := rest D } ((rngI i j).map eI) r) = _
    rw [rngI, List.map_map]; rfl
  rw [e] at h
  exact h
theorem k_forSq {L : List Nat} {g : DG} {bd rest : DS} {D : DN} (h : m r (fun x => match x with
  | .list ds => sSeq (sForK L (iC ds) g bd) rest D r
  | .tuple ds => sSeq (sForK L (iC ds) g bd) rest D r
  | _ => False) D.ex) : sSeq (sForK L (iSq m) g bd) rest D r := h
section
variable {g : DG} {t : DT} {vs : List Nat} {sub : ME → List PyData → C (List PyData)} {P : List PyData → Prop}
theorem run_lcR1 (h : m r (fun x => match x with
  | .int n => (-(2 ^ 62) ≤ n ∧ n < 2 ^ 62) ∧ mLc (iC ((rngI 0 n).map eI)) g t vs sub r P X
  | _ => False) X) : mLc (iR1 m) g t vs sub r P X := by
  have e : (fun x : PyData => match x with
  | .int n => (-(2 ^ 62) ≤ n ∧ n < 2 ^ 62) ∧ mLc (iC ((rngI 0 n).map eI)) g t vs sub r P X
  | _ => False) = (fun x : PyData => match x with
  | .int n => (-(2 ^ 62) ≤ n ∧ n < 2 ^ 62) ∧ ((∀ j ∈ vs, Free r j) ∧ mIt g t vs sub r ((List.range n.toNat).map fun (i : Nat) => PyData.int i) [] P fun _ => False)
  | _ => False) := by
    refine funext fun x => ?_
    cases x with
    | int n =>
      show ((-(2 ^ 62) ≤ n ∧ n < 2 ^ 62) ∧ _) = ((-(2 ^ 62) ≤ n ∧ n < 2 ^ 62) ∧ _)
      rw [rng0]; rfl
    | _ => rfl
  rw [e] at h
  exact h
theorem run_lcSq (h : m r (fun x => match x with
  | .list ds => mLc (iC ds) g t vs sub r P X
  | .tuple ds => mLc (iC ds) g t vs sub r P X
  | _ => False) X) : mLc (iSq m) g t vs sub r P X := h
end
end
end TY
namespace TY
open PySem PySem.Spec PyProof.Rows L2 Evl TB DL MI GE
section
variable {α β : Type} [Inhabited α] {r : ME} {m : DE} {rest : DS} {D : DN} {i j : Nat}
theorem k_appPop {e : α → PyData} {xs ys : List α} (hi : lk r i = some (.own (xs.map e))) (hj : lk r j = some (.own (ys.map e))) (hne : i ≠ j)
    (h : m r (fun d => match d with
      | .int k => (match (ys.map e)[k.toNat]? with
        | some y => (0 ≤ k ∧ k < 2 ^ 62) ∧ ((xs.map e).length < 100000 ∧ rest D ((r.set j (some (.own ((ys.map e).eraseIdx k.toNat)))).set i (some (.own (xs.map e ++ [y])))))
        | none => False)
      | _ => False) D.ex) : sSeq (oAppPop i j m) rest D r := by
  show (match lk r i with | some (.own ds) => _ | _ => False)
  rw [hi]
  refine ⟨hne, ?_⟩
  unfold oPopP
  rw [hj]
  exact h
theorem map_erase {e : α → β} : ∀ (ys : List α) (k : Nat), (ys.eraseIdx k).map e = (ys.map e).eraseIdx k
  | [], _ => rfl
  | _ :: _, 0 => rfl
  | y :: ys, k + 1 => by
    show e y :: (ys.eraseIdx k).map e = e y :: (ys.map e).eraseIdx k
    rw [map_erase ys k]
theorem ty_pop {e : α → PyData} {xs ys : List α} {v : Int} {Q : ME → Prop} (h : (0 ≤ v ∧ v < ys.length ∧ ys.length ≤ 100000) ∧ xs.length < 100000) (q : Q ((r.set j (some (.own ((ys.eraseIdx v.toNat).map e)))).set i (some (.own ((xs ++ [ix ys v]).map e))))) :
    (match (ys.map e)[v.toNat]? with
      | some y => (0 ≤ v ∧ v < 2 ^ 62) ∧ ((xs.map e).length < 100000 ∧ Q ((r.set j (some (.own ((ys.map e).eraseIdx v.toNat)))).set i (some (.own (xs.map e ++ [y])))))
      | none => False) := by
  obtain ⟨⟨h0, h1, h2⟩, h3⟩ := h
  obtain ⟨k, rfl⟩ := Int.eq_ofNat_of_zero_le h0
  have hk : k < ys.length := by omega
  rw [List.getElem?_map, Int.toNat_natCast, List.getElem?_eq_getElem hk]
  rw [Int.toNat_natCast, map_erase, List.map_append] at q
  have e1 : ix ys (k : Int) = ys[k] := by
    show ys.getD ((k : Int).toNat) default = _
    rw [Int.toNat_natCast, List.getD_eq_getElem?_getD, List.getElem?_eq_getElem hk]; rfl
  rw [e1] at q
  refine ⟨⟨by omega, by omega⟩, by rw [List.length_map]; exact h3, ?_⟩
  exact q
theorem ty_own2 {e : α → PyData} {e' : β → PyData} {Q : ME → Prop} {u v : List α} {u' v' : List β} (h : u = v) (h' : u' = v') (p : Q ((r.set j (some (.own (u'.map e')))).set i (some (.own (u.map e))))) : Q ((r.set j (some (.own (v'.map e')))).set i (some (.own (v.map e)))) := by rw [← h, ← h']; exact p
end
end TY
namespace TY
open PySem PySem.Spec PyProof.Rows L2 Evl TB DL MI GE
theorem c_maxN (ns : List Int) : CB oMaxN [eL eI ns] (eO eI (if ns = [] then none else some (maxI ns))) := fun P X p => by
  show (match intsOf (ns.map PyData.int) with | some ns => P (if ns = [] then .none else .int (maxI ns)) | none => False)
  rw [intsOf_map]
  show P (if ns = [] then .none else .int (maxI ns))
  by_cases h : ns = []
  · rw [if_pos h]; rw [if_pos h] at p; exact p
  · rw [if_neg h]; rw [if_neg h] at p; exact p
end TY
namespace TY
open PySem PySem.Spec PyProof.Rows L2 Evl TB DL MI GE
theorem eo_rng {r : ME} {m : DE} {n : Int} (h : EV r m (eI n)) (hn : 0 ≤ n ∧ n ≤ 100000) : EO r (eoRng m) ((rngI 0 n).map eI) := fun P X p => h _ _ ⟨hn, by rw [rng0]; exact p⟩
theorem run_rng {r : ME} {m : DE} {P : List PyData → Prop} {X : Xc → Prop} (h : m r (fun x => match x with
  | .int n => (0 ≤ n ∧ n ≤ 100000) ∧ P ((rngI 0 n).map eI)
  | _ => False) X) : eoRng m r P X := by
  have e : (fun x : PyData => match x with
  | .int n => (0 ≤ n ∧ n ≤ 100000) ∧ P ((rngI 0 n).map eI)
  | _ => False) = (fun x : PyData => match x with
  | .int n => (0 ≤ n ∧ n ≤ 100000) ∧ P ((List.range n.toNat).map fun (i : Nat) => PyData.int i)
  | _ => False) := by
    refine funext fun x => ?_
    cases x with
    | int n =>
      show ((0 ≤ n ∧ n ≤ 100000) ∧ _) = ((0 ≤ n ∧ n ≤ 100000) ∧ _)
      rw [rng0]
    | _ => rfl
  rw [e] at h
  exact h
end TY
namespace TY
open PySem PySem.Spec PyProof.Rows L2 Evl TB DL MI GE
theorem c_max1A (ns : List Int) (h : ns ≠ []) : CB oMax1A [eL eI ns] (eI (maxI ns)) := fun P X p => c_max1 ns h P X p
theorem c_min1A (ns : List Int) (h : ns ≠ []) : CB oMin1A [eL eI ns] (eI (minI ns)) := fun P X p => c_min1 ns h P X p
theorem c_max1T (ns : List Int) (h : ns ≠ []) : CB oMax1A [eT eI ns] (eI (maxI ns)) := fun P X p => by
  show (match intsOf (ns.map PyData.int) with | some ns => ns ≠ [] ∧ P (.int (maxI ns)) | none => False)
  rw [intsOf_map]; exact ⟨h, p⟩
theorem c_min1T (ns : List Int) (h : ns ≠ []) : CB oMin1A [eT eI ns] (eI (minI ns)) := fun P X p => by
  show (match intsOf (ns.map PyData.int) with | some ns => ns ≠ [] ∧ P (.int (minI ns)) | none => False)
  rw [intsOf_map]; exact ⟨h, p⟩
end TY
namespace TY
open PySem PySem.Spec PyProof.Rows L2 Evl TB DL MI GE
theorem k_rng {r r' : ME} {m : DE} {rest : DS} {D : DN} {i : Nat} {n : Int} (h : EV r m (eI n)) (k : rest D (r.set i (some (.rng 0 n)))) : sSeq (sRng i m) rest D r := h _ _ k
theorem it_rgV {r : ME} {i : Nat} {lo hi : Int} (hl : lk r i = some (.rng lo hi)) (hn : -(2 ^ 62) ≤ lo ∧ lo < 2 ^ 62 ∧ -(2 ^ 62) ≤ hi ∧ hi < 2 ^ 62) : EIt r (iRgV i) ((rngI lo hi).map eI) := fun P X p => by
  show (match lk r i with | some (.rng lo hi) => _ | _ => False)
  rw [hl]
  refine ⟨hn, ?_⟩
  rw [rngI, List.map_map] at p
  exact p
end TY
namespace TY
open PySem PySem.Spec PyProof.Rows L2 Evl TB DL MI GE
theorem k_par3 {r : ME} {as : DA} {rest : DS} {D : DN} {i j l : Nat} {d1 d2 d3 : PyData} (h : EA r as [d1, d2, d3]) (k : rest D (((r.set i (some (.dat d1))).set j (some (.dat d2))).set l (some (.dat d3)))) : sSeq (sPar3 i j l as) rest D r := h _ _ k
theorem k_par3W {r : ME} {as : DA} {rest : DS} {D : DN} {i j l : Nat} (h : as r (fun es => match es with | [x, y, z] => rest D (((r.set i (some (.dat x))).set j (some (.dat y))).set l (some (.dat z))) | _ => False) D.ex) : sSeq (sPar3 i j l as) rest D r := h
end TY
namespace TY
open PySem PySem.Spec PyProof.Rows L2 Evl TB DL MI GE
/-- whole numbers, ascending -/
def sortI (ns : List Int) : List Int := ns.mergeSort fun a b => decide (a ≤ b)
theorem sortI_perm (ns : List Int) : (sortI ns).Perm ns := List.mergeSort_perm ..
theorem sortI_le (ns : List Int) : (sortI ns).Pairwise (· ≤ ·) := by
  have := List.pairwise_mergeSort (le := fun a b : Int => decide (a ≤ b)) (fun a b c h1 h2 => by simp only [decide_eq_true_eq] at *; omega) (fun a b => by simp only [Bool.or_eq_true, decide_eq_true_eq]; omega) ns
  exact this.imp fun h => of_decide_eq_true h
theorem sortI_uniq {ns ms : List Int} (h : ms.Perm ns) (hs : ms.Pairwise (· ≤ ·)) : ms = sortI ns :=
  List.Perm.eq_of_pairwise (le := fun a b : Int => a ≤ b) (fun a b _ _ h1 h2 => Int.le_antisymm h1 h2) hs (sortI_le ns) (h.trans (sortI_perm ns).symm)
theorem c_sorted (ns : List Int) (h : ns.length < 64) : CB oSorted [eL eI ns] (eL eI (sortI ns)) := fun P X p => by
  show (match intsOf (ns.map PyData.int) with | some ns => ns.length < 64 ∧ ∀ ns' : List Int, ns'.Perm ns → ns'.Pairwise (· ≤ ·) → P (.list (ns'.map .int)) | none => False)
  rw [intsOf_map]
  refine ⟨h, fun ns' hp hs => ?_⟩
  rw [sortI_uniq hp hs]; exact p
end TY
namespace TY
open PySem PySem.Spec PyProof.Rows L2 Evl TB DL MI GE
theorem c_intB (b : Bool) : CB oInt [eB b] (eI (if b then 1 else 0)) := fun P X p => p
end TY
namespace TY
open PySem PySem.Spec PyProof.Rows L2 Evl TB DL MI GE
theorem p_ltL {d e f : PyData} (h : OP2 oLt d e f) : OP2 oLtA d e f := fun P X p => .inl (h P X p)
theorem p_leL {d e f : PyData} (h : OP2 oLe d e f) : OP2 oLeA d e f := fun P X p => .inl (h P X p)
theorem p_ltD (d e : PyData) (h : (d.hasDict = false ∧ e.hasDict = false) ∧ PySem.W.alike d e = true ∧ d ≠ .none ∧ d.depth ≤ 62) : OP2 oLtA d e (eB (PySem.W.dataLt d e)) := fun P X p => .inr ⟨h.1, h.2.1, h.2.2.1, h.2.2.2, p⟩
theorem p_leD (d e : PyData) (h : (d.hasDict = false ∧ e.hasDict = false) ∧ PySem.W.alike d e = true ∧ d ≠ .none ∧ d.depth ≤ 62) : OP2 oLeA d e (eB (!PySem.W.dataLt e d)) := fun P X p => .inr ⟨h.1, h.2.1, h.2.2.1, h.2.2.2, p⟩
end TY
namespace TY
open PySem PySem.Spec PyProof.Rows L2 Evl TB DL MI GE
theorem c_sortedLI (a : List Int) (h : a.length ≤ 60) : CB oSortedA [eL eI a] (eL eI (sortI a)) := fun P X p => .inl (c_sorted a (by omega) P X p)
/-- rows of numbers, ascending: the first difference decides -/
def sortT (xs : List (List Int)) : List (List Int) := xs.mergeSort fun a b => decide (a ≤ b)
def SortOk (xs : List (List Int)) : Prop := xs.length ≤ 1000 ∧ ∀ x ∈ xs, x ≠ []
theorem lt_rows (a b : List Int) : PySem.W.dataLt (eT eI a) (eT eI b) = decide (a < b) := (PySem.W.dataLt_tuple _ _).trans (PySem.W.dataLt_ints a b)
theorem sortT_perm (xs : List (List Int)) : (sortT xs).Perm xs := List.mergeSort_perm ..
theorem sortT_D (xs : List (List Int)) : sortD (xs.map (eT eI)) = (sortT xs).map (eT eI) := by
  unfold sortD sortT
  refine (List.map_mergeSort (r := fun a b : List Int => decide (a ≤ b)) (s := PySem.W.dataLe false id) (f := eT eI) (l := xs) fun a _ b _ => ?_).symm
  show decide (a ≤ b) = !PySem.W.dataLt (eT eI b) (eT eI a)
  rw [lt_rows, ← decide_not]
  exact decide_eq_decide.mpr (by rw [List.not_lt])
theorem flat_T (x : List Int) : (eT eI x).hasDict = false ∧ (eT eI x).depth ≤ 60 := by
  have h : ∀ l : List Int, PyData.hasDictAll (l.map eI) = false ∧ PyData.depthAll (l.map eI) = 0 := by
    intro l
    induction l with
    | nil => exact ⟨rfl, by simp [PyData.depthAll]⟩
    | cons a l ih => exact ⟨by rw [List.map_cons, PyData.hasDictAll, ih.1]; rfl, by rw [List.map_cons, PyData.depthAll, ih.2]; simp [PyData.depth]⟩
  exact ⟨by rw [eT, PyData.hasDict]; exact (h x).1, by rw [eT, PyData.depth, (h x).2]; decide⟩
theorem c_sortedLT (xs : List (List Int)) (h : SortOk xs) : CB oSortedA [eL (eT eI) xs] (eL (eT eI) (sortT xs)) := fun P X p => by
  refine .inr ⟨⟨?_, ?_, .inl ?_, by rw [List.length_map]; have := h.1; omega, ?_⟩, ?_⟩
  · have : ∀ l : List (List Int), PyData.hasDictAll (l.map (eT eI)) = false := by
      intro l
      induction l with
      | nil => rfl
      | cons a l ih => rw [List.map_cons, PyData.hasDictAll, (flat_T a).1, ih]; rfl
    exact this xs
  · intro d hd d' hd'
    obtain ⟨x, _, rfl⟩ := List.mem_map.mp hd
    obtain ⟨y, _, rfl⟩ := List.mem_map.mp hd'
    show PySem.W.alike (.tuple _) (.tuple _) = true
    rw [PySem.W.alike]
    exact PySem.W.alike_ints x y
  · intro d hd
    obtain ⟨x, hx, rfl⟩ := List.mem_map.mp hd
    match x, h.2 x hx with
    | a :: r, _ => exact ⟨_, _, rfl⟩
  · intro d hd
    obtain ⟨x, _, rfl⟩ := List.mem_map.mp hd
    exact (flat_T x).2
  · rw [sortT_D]; exact p
end TY

namespace TY
open PySem PySem.Spec PyProof.Rows L2 Evl TB DL MI GE
/-! ### a word and numbers behind it -/
def eR (p : Str × List Int) : PyData := .tuple (.str p.1 :: p.2.map eI)
theorem eqv_R (p q : Str × List Int) : PyData.eqv (eR p) (eR q) = decide (p = q) := by
  obtain ⟨s, l⟩ := p
  obtain ⟨t, k⟩ := q
  rw [eR, eR, PyData.eqv, PyData.eqvAll, cmp_eqs cmpI, PyData.eqv]
  by_cases h1 : s = t <;> by_cases h2 : l = k <;> simp [h1, h2]
theorem eqvs_R : ∀ xs ys : List (Str × List Int), PyData.eqvAll (xs.map eR) (ys.map eR) = decide (xs = ys)
  | [], [] => rfl
  | [], _ :: _ => rfl
  | _ :: _, [] => rfl
  | x :: xs, y :: ys => by
    rw [List.map_cons, List.map_cons, PyData.eqvAll, eqv_R, eqvs_R xs ys]
    by_cases h1 : x = y <;> by_cases h2 : xs = ys <;> simp [h1, h2]
def WordOk (p : Str × List Int) : Prop := PyData.strOk p.1 = true
theorem lay_R {p : Str × List Int} (h : WordOk p) : (eR p).canLay0 = true ∧ (eR p).depth ≤ 1 := by
  obtain ⟨h1, h2⟩ := cmp_all cmpI p.2
  refine ⟨?_, by rw [eR, PyData.depth, PyData.depthAll]; simp only [PyData.depth]; omega⟩
  rw [eR, PyData.canLay0, PyData.canLayAll0, h1, PyData.canLay0]
  unfold WordOk at h
  rw [h]; rfl
theorem lays_R : ∀ {xs : List (Str × List Int)}, (∀ x ∈ xs, WordOk x) → PyData.canLayAll0 (xs.map eR) = true ∧ PyData.depthAll (xs.map eR) ≤ 1
  | [], _ => ⟨rfl, Nat.zero_le _⟩
  | x :: xs, h => by
    obtain ⟨h1, h2⟩ := lays_R fun y hy => h y (List.mem_cons_of_mem _ hy)
    obtain ⟨h3, h4⟩ := lay_R (h x List.mem_cons_self)
    exact ⟨by rw [List.map_cons, PyData.canLayAll0, h1, h3]; rfl, by rw [List.map_cons, PyData.depthAll]; omega⟩
theorem shaped_R {p : Str × List Int} (h : WordOk p) : SeqAt.shaped (eR p) = true := by
  obtain ⟨h1, h2⟩ := lay_R h
  unfold SeqAt.shaped
  rw [h1, decide_eq_true (by omega : (eR p).depth ≤ 64)]; rfl
theorem shaped_TR {xs : List (Str × List Int)} (h : ∀ x ∈ xs, WordOk x) : SeqAt.shaped (eT eR xs) = true := by
  obtain ⟨h1, h2⟩ := lays_R h
  unfold SeqAt.shaped
  rw [eT, PyData.canLay0, h1, decide_eq_true (show (PyData.tuple (xs.map eR)).depth ≤ 64 by rw [PyData.depth]; omega)]; rfl
theorem shaped_LR {xs : List (Str × List Int)} (h : ∀ x ∈ xs, WordOk x) : SeqAt.shaped (eL eR xs) = true := by
  obtain ⟨h1, h2⟩ := lays_R h
  unfold SeqAt.shaped
  rw [eL, PyData.canLay0, h1, decide_eq_true (show (PyData.list (xs.map eR)).depth ≤ 64 by rw [PyData.depth]; omega)]; rfl
theorem any_R (a : Str × List Int) (xs : List (Str × List Int)) : ((xs.map eR).any fun z => PyData.eqv z (eR a)) = decide (a ∈ xs) := by
  rw [Bool.eq_iff_iff, List.any_eq_true, decide_eq_true_eq]
  constructor
  · rintro ⟨d, hd, he⟩
    obtain ⟨x, hx, rfl⟩ := List.mem_map.mp hd
    rw [eqv_R] at he
    rw [← of_decide_eq_true he]; exact hx
  · exact fun hx => ⟨eR a, List.mem_map.mpr ⟨a, hx, rfl⟩, by rw [eqv_R]; exact decide_eq_true rfl⟩
theorem p_inRT (a : Str × List Int) (xs : List (Str × List Int)) (h : WordOk a ∧ ∀ x ∈ xs, WordOk x) : OP2 (oInA false) (eR a) (eT eR xs) (eB (decide (a ∈ xs))) := fun P X p => .inr ⟨xs.map eR, rfl, shaped_R h.1, by have := (lay_R h.1).2; omega, shaped_LR h.2, by rw [if_neg Bool.false_ne_true, any_R]; exact p⟩
theorem p_inRL (a : Str × List Int) (xs : List (Str × List Int)) (h : WordOk a ∧ ∀ x ∈ xs, WordOk x) : OP2 (oInA false) (eR a) (eL eR xs) (eB (decide (a ∈ xs))) := fun P X p => .inr ⟨xs.map eR, rfl, shaped_R h.1, by have := (lay_R h.1).2; omega, shaped_LR h.2, by rw [if_neg Bool.false_ne_true, any_R]; exact p⟩
theorem p_notInRT (a : Str × List Int) (xs : List (Str × List Int)) (h : WordOk a ∧ ∀ x ∈ xs, WordOk x) : OP2 (oInA true) (eR a) (eT eR xs) (eB (!decide (a ∈ xs))) := fun P X p => .inr ⟨xs.map eR, rfl, shaped_R h.1, by have := (lay_R h.1).2; omega, shaped_LR h.2, by rw [if_pos rfl, any_R]; exact p⟩
theorem p_notInRL (a : Str × List Int) (xs : List (Str × List Int)) (h : WordOk a ∧ ∀ x ∈ xs, WordOk x) : OP2 (oInA true) (eR a) (eL eR xs) (eB (!decide (a ∈ xs))) := fun P X p => .inr ⟨xs.map eR, rfl, shaped_R h.1, by have := (lay_R h.1).2; omega, shaped_LR h.2, by rw [if_pos rfl, any_R]; exact p⟩
theorem p_eqR (a b : Str × List Int) (h : WordOk a ∧ WordOk b) : OP2 oEq (eR a) (eR b) (eB (decide (a = b))) := fun P X p => oEq_run (shaped_R h.1) (shaped_R h.2) (by rw [eqv_R]; exact p)
theorem p_neR (a b : Str × List Int) (h : WordOk a ∧ WordOk b) : OP2 oNe (eR a) (eR b) (eB (!decide (a = b))) := fun P X p => oNe_run (shaped_R h.1) (shaped_R h.2) (by rw [eqv_R]; exact p)
theorem p_eqTR (a b : List (Str × List Int)) (h : (∀ x ∈ a, WordOk x) ∧ ∀ x ∈ b, WordOk x) : OP2 oEq (eT eR a) (eT eR b) (eB (decide (a = b))) := fun P X p => oEq_run (shaped_TR h.1) (shaped_TR h.2) (by rw [eT, eT, PyData.eqv, eqvs_R]; exact p)
theorem p_neTR (a b : List (Str × List Int)) (h : (∀ x ∈ a, WordOk x) ∧ ∀ x ∈ b, WordOk x) : OP2 oNe (eT eR a) (eT eR b) (eB (!decide (a = b))) := fun P X p => oNe_run (shaped_TR h.1) (shaped_TR h.2) (by rw [eT, eT, PyData.eqv, eqvs_R]; exact p)
theorem p_eqLR (a b : List (Str × List Int)) (h : (∀ x ∈ a, WordOk x) ∧ ∀ x ∈ b, WordOk x) : OP2 oEq (eL eR a) (eL eR b) (eB (decide (a = b))) := fun P X p => oEq_run (shaped_LR h.1) (shaped_LR h.2) (by rw [eL, eL, PyData.eqv, eqvs_R]; exact p)
theorem p_neLR (a b : List (Str × List Int)) (h : (∀ x ∈ a, WordOk x) ∧ ∀ x ∈ b, WordOk x) : OP2 oNe (eL eR a) (eL eR b) (eB (!decide (a = b))) := fun P X p => oNe_run (shaped_LR h.1) (shaped_LR h.2) (by rw [eL, eL, PyData.eqv, eqvs_R]; exact p)
theorem p_itR0 (p : Str × List Int) : OP2 oIt (eR p) (eI 0) (eS p.1) := fun P X q => r_it_t (atI_nat (j := 0) rfl) q
theorem p_itRk (p : Str × List Int) (k : Nat) (h : k < p.2.length) : OP2 oIt (eR p) (eI ((k + 1 : Nat) : Int)) (eI (ix p.2 (k : Int))) := fun P X q => r_it_t (atI_nat (j := k + 1) (by
  have e : ix p.2 (k : Int) = p.2[k] := by
    simp only [ix, Int.toNat_natCast]
    rw [List.getD_eq_getElem?_getD, List.getElem?_eq_getElem h]; rfl
  rw [List.getElem?_cons_succ, List.getElem?_map, List.getElem?_eq_getElem h, e]; rfl)) q
theorem p_fromR (p : Str × List Int) (P : PyData → Prop) (X : Xc → Prop) (q : P (eT eI p.2)) : oSl (eR p) (some 1) none P X := by
  refine r_sl_t ?_
  rw [show (1 : Int) = ((1 : Nat) : Int) from rfl, cut_from]
  exact q
theorem c_lenR (p : Str × List Int) : CB oLn [eR p] (eI ((p.2.length : Int) + 1)) := fun P X q => by
  refine r_ln_t ?_
  rw [List.length_cons, List.length_map]
  exact q
theorem p_catR (s : Str) (l : List Int) (h : l.length < 100000) : OP2 oAdd (eT eS [s]) (eT eI l) (eR (s, l)) := fun P X q => ⟨by
  rw [List.length_map, List.length_map]
  show 1 + l.length ≤ 100000
  omega, q⟩
theorem p_eqR0 (p : Str × List Int) (h : WordOk p) : OP2 oEq (eR p) (.tuple []) (eB false) := fun P X q => oEq_run (shaped_R h) rfl (by rw [eR, PyData.eqv]; exact q)
theorem p_neR0 (p : Str × List Int) (h : WordOk p) : OP2 oNe (eR p) (.tuple []) (eB true) := fun P X q => oNe_run (shaped_R h) rfl (by rw [eR, PyData.eqv]; exact q)
end TY
set_option Elab.async false
set_option linter.all false
set_option maxRecDepth 100000
namespace K29
open PySem PySem.Spec PyProof.Rows L2 Evl TB
def topS (i : Nat) : Stmt := PySem.Challenge.pw_twobricks_k29_whole_pairs_of_great_brick.main.body.getD i (.Pass ⟨0, 0, 0, 0⟩)
abbrev s_is_int : Stmt := topS 5
abbrev n_is_int : List Str := ["value"]
abbrev p_is_int : List Str := ["value"]
theorem sc_is_int : FnScope n_is_int p_is_int (defScope s_is_int) := ⟨rfl, rfl, rfl, by decide +kernel, rfl, by decide +kernel, by decide +kernel⟩

abbrev s_with_side : Stmt := topS 6
abbrev n_with_side : List Str := ["sides", "axis", "side"]
abbrev p_with_side : List Str := ["sides", "axis", "side"]
theorem sc_with_side : FnScope n_with_side p_with_side (defScope s_with_side) := ⟨rfl, rfl, rfl, by decide +kernel, rfl, by decide +kernel, by decide +kernel⟩

abbrev s_common_share : Stmt := topS 8
abbrev n_common_share : List Str := ["one", "other", "divisor", "times", "rest", "rest_times", "fits"]
abbrev p_common_share : List Str := ["one", "other"]
theorem sc_common_share : FnScope n_common_share p_common_share (defScope s_common_share) := ⟨rfl, rfl, rfl, by decide +kernel, rfl, by decide +kernel, by decide +kernel⟩

abbrev s_least_share : Stmt := topS 9
abbrev n_least_share : List Str := ["one", "other", "whole", "divisor", "times"]
abbrev p_least_share : List Str := ["one", "other", "whole"]
theorem sc_least_share : FnScope n_least_share p_least_share (defScope s_least_share) := ⟨rfl, rfl, rfl, by decide +kernel, rfl, by decide +kernel, by decide +kernel⟩

abbrev s_fills_alone : Stmt := topS 11
abbrev n_fills_alone : List Str := ["brick", "sides", "length", "side"]
abbrev p_fills_alone : List Str := ["brick", "sides"]
theorem sc_fills_alone : FnScope n_fills_alone p_fills_alone (defScope s_fills_alone) := ⟨rfl, rfl, rfl, by decide +kernel, rfl, by decide +kernel, by decide +kernel⟩

abbrev s_fills_across : Stmt := topS 12
abbrev n_fills_across : List Str := ["brick", "box", "axis"]
abbrev p_fills_across : List Str := ["brick", "box", "axis"]
theorem sc_fills_across : FnScope n_fills_across p_fills_across (defScope s_fills_across) := ⟨rfl, rfl, rfl, by decide +kernel, rfl, by decide +kernel, by decide +kernel⟩

abbrev s_is_cut : Stmt := topS 13
abbrev n_is_cut : List Str := ["pair", "box", "value", "first", "axis", "at", "below", "above", "item"]
abbrev p_is_cut : List Str := ["pair", "box", "value"]
theorem sc_is_cut : FnScope n_is_cut p_is_cut (defScope s_is_cut) := ⟨rfl, rfl, rfl, by decide +kernel, rfl, by decide +kernel, by decide +kernel⟩

abbrev s_runs_across : Stmt := topS 14
abbrev n_runs_across : List Str := ["pair", "box", "first", "axis", "low", "high", "side", "share", "start", "step", "ends", "at"]
abbrev p_runs_across : List Str := ["pair", "box", "first", "axis"]
theorem sc_runs_across : FnScope n_runs_across p_runs_across (defScope s_runs_across) := ⟨rfl, rfl, rfl, by decide +kernel, rfl, by decide +kernel, by decide +kernel⟩

abbrev s_cut_runs : Stmt := topS 15
abbrev n_cut_runs : List Str := ["pair", "box", "first", "axis", "run"]
abbrev p_cut_runs : List Str := ["pair", "box"]
theorem sc_cut_runs : FnScope n_cut_runs p_cut_runs (defScope s_cut_runs) := ⟨rfl, rfl, rfl, by decide +kernel, rfl, by decide +kernel, by decide +kernel⟩

abbrev s_is_filled : Stmt := topS 16
abbrev n_is_filled : List Str := ["pair", "box"]
abbrev p_is_filled : List Str := ["pair", "box"]
theorem sc_is_filled : FnScope n_is_filled p_is_filled (defScope s_is_filled) := ⟨rfl, rfl, rfl, by decide +kernel, rfl, by decide +kernel, by decide +kernel⟩

abbrev s_escape : Stmt := topS 18
abbrev n_escape : List Str := ["one", "other", "left", "brick"]
abbrev p_escape : List Str := ["one", "other"]
theorem sc_escape : FnScope n_escape p_escape (defScope s_escape) := ⟨rfl, rfl, rfl, by decide +kernel, rfl, by decide +kernel, by decide +kernel⟩

abbrev s_within : Stmt := topS 19
abbrev n_within : List Str := ["one", "other"]
abbrev p_within : List Str := ["one", "other"]
theorem sc_within : FnScope n_within p_within (defScope s_within) := ⟨rfl, rfl, rfl, by decide +kernel, rfl, by decide +kernel, by decide +kernel⟩

abbrev s_alike : Stmt := topS 20
abbrev n_alike : List Str := ["one", "other"]
abbrev p_alike : List Str := ["one", "other"]
theorem sc_alike : FnScope n_alike p_alike (defScope s_alike) := ⟨rfl, rfl, rfl, by decide +kernel, rfl, by decide +kernel, by decide +kernel⟩

abbrev s_atoms : Stmt := topS 21
abbrev n_atoms : List Str := ["pair", "one", "other"]
abbrev p_atoms : List Str := ["pair"]
theorem sc_atoms : FnScope n_atoms p_atoms (defScope s_atoms) := ⟨rfl, rfl, rfl, by decide +kernel, rfl, by decide +kernel, by decide +kernel⟩

abbrev s__law_deck : Stmt := topS 23
abbrev n__law_deck : List Str := ["_law_script", "_law_cells", "_law_cell"]
abbrev p__law_deck : List Str := ["_law_script"]
theorem sc__law_deck : FnScope n__law_deck p__law_deck (defScope s__law_deck) := ⟨rfl, rfl, rfl, by decide +kernel, rfl, by decide +kernel, by decide +kernel⟩

abbrev s__law_draw : Stmt := topS 24
abbrev n__law_draw : List Str := ["_law_deck_here", "_law_many", "_law_rest", "_law_cell", "_law_mixed"]
abbrev p__law_draw : List Str := ["_law_deck_here", "_law_many"]
theorem sc__law_draw : FnScope n__law_draw p__law_draw (defScope s__law_draw) := ⟨rfl, rfl, rfl, by decide +kernel, rfl, by decide +kernel, by decide +kernel⟩

abbrev s__law_one : Stmt := topS 25
abbrev n__law_one : List Str := ["_law_deck_here", "_law_items"]
abbrev p__law_one : List Str := ["_law_deck_here", "_law_items"]
theorem sc__law_one : FnScope n__law_one p__law_one (defScope s__law_one) := ⟨rfl, rfl, rfl, by decide +kernel, rfl, by decide +kernel, by decide +kernel⟩

abbrev s__law_divisor : Stmt := topS 26
abbrev n__law_divisor : List Str := ["_law_one_here", "_law_other"]
abbrev p__law_divisor : List Str := ["_law_one_here", "_law_other"]
theorem sc__law_divisor : FnScope n__law_divisor p__law_divisor (defScope s__law_divisor) := ⟨rfl, rfl, rfl, by decide +kernel, rfl, by decide +kernel, by decide +kernel⟩

abbrev s__law_lcm : Stmt := topS 27
abbrev n__law_lcm : List Str := ["_law_one_here", "_law_other"]
abbrev p__law_lcm : List Str := ["_law_one_here", "_law_other"]
theorem sc__law_lcm : FnScope n__law_lcm p__law_lcm (defScope s__law_lcm) := ⟨rfl, rfl, rfl, by decide +kernel, rfl, by decide +kernel, by decide +kernel⟩

abbrev s__law_cut_box : Stmt := topS 28
abbrev n__law_cut_box : List Str := ["_law_deck_here", "_law_pair", "_law_many", "_law_axis", "_law_found", "_law_k"]
abbrev p__law_cut_box : List Str := ["_law_deck_here", "_law_pair", "_law_many"]
theorem sc__law_cut_box : FnScope n__law_cut_box p__law_cut_box (defScope s__law_cut_box) := ⟨rfl, rfl, rfl, by decide +kernel, rfl, by decide +kernel, by decide +kernel⟩

abbrev s__law_plain_box : Stmt := topS 29
abbrev n__law_plain_box : List Str := ["_law_deck_here", "_law_pair", "_law_many", "_law_brick", "_law_side"]
abbrev p__law_plain_box : List Str := ["_law_deck_here", "_law_pair", "_law_many"]
theorem sc__law_plain_box : FnScope n__law_plain_box p__law_plain_box (defScope s__law_plain_box) := ⟨rfl, rfl, rfl, by decide +kernel, rfl, by decide +kernel, by decide +kernel⟩

abbrev s__law_with : Stmt := topS 30
abbrev n__law_with : List Str := ["_law_sides", "_law_axis", "_law_side"]
abbrev p__law_with : List Str := ["_law_sides", "_law_axis", "_law_side"]
theorem sc__law_with : FnScope n__law_with p__law_with (defScope s__law_with) := ⟨rfl, rfl, rfl, by decide +kernel, rfl, by decide +kernel, by decide +kernel⟩

abbrev s_law : Stmt := topS 31
abbrev n_law : List Str := ["_law_script", "_law_deck_here", "_law_turn", "_law_axes", "_law_pair", "_law_made", "_law_box", "_law_axis", "_law_many", "_law_rows", "_law_kind", "_law_k", "_law_own", "_law_brick"]
abbrev p_law : List Str := ["_law_script"]
theorem sc_law : FnScope n_law p_law (defScope s_law) := ⟨rfl, rfl, rfl, by decide +kernel, rfl, by decide +kernel, by decide +kernel⟩

structure Txt (mg : Str → Option Value) : Prop where
  n_abs : mg "abs" = none
  n_all : mg "all" = none
  n_bool : mg "bool" = none
  g_gcd : mg "gcd" = some (.builtin "math.gcd")
  n_int : mg "int" = none
  n_isinstance : mg "isinstance" = none
  n_len : mg "len" = none
  n_list : mg "list" = none
  n_max : mg "max" = none
  n_range : mg "range" = none
  n_sorted : mg "sorted" = none
  n_tuple : mg "tuple" = none
  n_zip : mg "zip" = none
section
variable {P : Program} {w : World} {K : PySem.W.Frag} {mg : Str → Option Value} {base : Heap}
/-! ### the deck -/
theorem shaped_ints (ns : List Int) : SeqAt.shaped (.list (ns.map PyData.int)) = true := by
  have h1 : PyData.canLayAll0 (ns.map PyData.int) = true := by
    induction ns with
    | nil => rfl
    | cons n ns ih => rw [List.map_cons, PyData.canLayAll0, ih]; rfl
  have h2 : PyData.depthAll (ns.map PyData.int) = 0 := by
    induction ns with
    | nil => rfl
    | cons n ns ih => rw [List.map_cons, PyData.depthAll, ih (by rw [List.map_cons, PyData.canLayAll0] at h1; exact (Bool.and_eq_true_iff.mp h1).2)]; rfl
  unfold SeqAt.shaped
  rw [PyData.canLay0, h1, PyData.depth, h2]; rfl
theorem dpAll_ints {K : PySem.W.Frag} {H : Hp} (ns : List Int) : DpAll K H (ns.map V.int) (ns.map PyData.int) := by
  induction ns with
  | nil => exact .nil
  | cons n ns ih => exact .cons (.int n) ih
theorem eqv_nil (ns : List Int) : PyData.eqv (.list (ns.map PyData.int)) (.list []) = ns.isEmpty := by
  cases ns <;> rfl
theorem ok__law_draw (T : Txt mg) {f : Addr} {fd : FuncData} (F : Fun K "_law_draw" "_law_draw" s__law_draw f fd) : FnOk P w K mg base CX0 1 f fd p__law_draw spDraw := by
  refine F.ok sc__law_draw (fun vs H Q E h => ?_) (fun cdv A outer s H vs Q E hr h => ?_)
  · obtain ⟨d, g, l, m, rfl, _⟩ := h
    rfl
  obtain ⟨d, g, l, m, rfl, m0, m1, ⟨gs, ls, c, hd, hg, hl, dg, dl, gl, lpos⟩, k⟩ := h
  refine ⟨_, (pss_cons (ps_if (pt_cmpR (op_neD hr.units) (pe_ix ix_list (pv 0) pe_int (fun _ _ => rfl)) (pe_lst pa_nil) (nomark _))
 (pss_cons (ps_set (i := 2) sc__law_draw.nd rfl (.inl rfl) (pe_ix ix_list (pe_ix ix_list (pv 0) pe_int (fun _ _ => rfl)) pe_int (fun _ _ => rfl)))
 (pss_cons (ps_asg (pe_op op_fdivW (pv 2) (pv 1)) (pg_sub (pe_ix ix_list (pv 0) pe_int (fun _ _ => rfl)) pe_int set_list))
 (pss_cons (ps_if (pt_cmpR op_eq (pe_ix ix_list (pe_ix ix_list (pv 0) pe_int (fun _ _ => rfl)) pe_int (fun _ _ => rfl)) pe_int (nomark _))
 (pss_one (ps_expr (pe_bm PySem.F.plainAttrs_list PySem.F.slot_list_pop PySem.F.type_list_pop mt_popAt (pe_ix ix_list (pv 0) pe_int (fun _ _ => rfl)) (pa_cons pe_int pa_nil)))) pss_nil)
 (pss_one (ps_ret (pe_op op_modN (pe_callTy call_int1 (by rfl) T.n_int (by decide +kernel) (pa_cons (pv 2) pa_nil)) (pv 1))))))) pss_nil)
 (pss_cons (ps_asg (pe_op op_add (pe_ix ix_list (pv 0) pe_int (fun _ _ => rfl)) pe_int) (pg_sub (pv 0) pe_int set_list))
 (pss_cons (ps_set (i := 3) sc__law_draw.nd rfl (.inl rfl) (pe_ix ix_list (pe_ix ix_list (pv 0) pe_int (fun _ _ => rfl)) (pe_op op_modN (pe_callTy call_int1 (by rfl) T.n_int (by decide +kernel) (pa_cons (pe_ix ix_list (pv 0) pe_int (fun _ _ => rfl)) pa_nil)) (pe_callB call_len_seq (by rfl) T.n_len (by decide +kernel) (pa_cons (pe_ix ix_list (pv 0) pe_int (fun _ _ => rfl)) pa_nil))) (fun _ _ => rfl)))
 (pss_cons (ps_set (i := 4) sc__law_draw.nd rfl (.inl rfl) (pe_op op_modN (pe_callTy call_int1 (by rfl) T.n_int (by decide +kernel) (pa_cons (pe_op op_add (pe_op op_modN (pe_callTy call_int1 (by rfl) T.n_int (by decide +kernel) (pa_cons (pv 3) pa_nil)) pe_int) (pe_op op_mul pe_int (pe_ix ix_list (pv 0) pe_int (fun _ _ => rfl)))) pa_nil)) pe_int))
 (pss_cons (ps_set (i := 4) sc__law_draw.nd rfl (.inl rfl) (pe_op op_modN (pe_callTy call_int1 (by rfl) T.n_int (by decide +kernel) (pa_cons (pe_op op_add (pe_op op_mul (pv 4) (pv 4)) (pe_op op_mul pe_int (pe_ix ix_list (pv 0) pe_int (fun _ _ => rfl)))) pa_nil)) pe_int))
 (pss_one (ps_ret (pe_op op_modN (pe_op op_fdivW (pe_op op_modN (pe_callTy call_int1 (by rfl) T.n_int (by decide +kernel) (pa_cons (pe_op op_mul (pv 4) (pv 4)) pa_nil)) pe_int) pe_int) (pv 1))))))))), ?_⟩
  refine ⟨_, rfl, d, _, _, _, rfl, rfl, .inl (.inl hd), rfl, Nat.zero_le _, fun p hp => ?_⟩
  have e0 : Ex H (upd H p (.lst [])) := Ex.new hp
  refine ⟨.list (gs.map PyData.int), .list [], .lst (.inl (.inl (e0 _ _ hg))) (dpAll_ints gs), .lst (.inl (.inl upd_same)) .nil, shaped_ints gs, shaped_ints [], _, rfl, ?_⟩
  rw [eqv_nil]
  generalize hH : upd H p (.lst []) = H1 at e0 ⊢
  have hd1 := e0 _ _ hd
  have hg1 := e0 _ _ hg
  have hl1 := e0 _ _ hl
  have off1 : Off d g H H1 := Off.of e0
  have big : (m.natAbs.log2 < 9000) := by
    have : m.natAbs ≤ 1000000000000000000 := by omega
    exact Nat.lt_of_le_of_lt (Nat.log2_le_self m.natAbs |> fun _ => (Nat.log2_lt (by omega)).mpr (show m.natAbs < 2 ^ 61 by omega) |> Nat.le_of_lt) (by decide)
  cases gs with
  | cons a gr =>
    refine (if_pos rfl).mpr ?_
    -- rest = deck[0][0]; deck[0][0] = rest // many
    refine ⟨_, rfl, d, _, _, _, rfl, rfl, .inl (.inl hd1), rfl, g, _, _, _, rfl, rfl, .inl (.inl hg1), atI_nat (j := 0) rfl, ?_⟩
    refine ⟨_, rfl, _, rfl, _, _, rfl, rfl, ⟨m0, big⟩, _, rfl, d, _, _, _, rfl, rfl, .inl (.inl hd1), rfl, g, _, _, 0, rfl, rfl, hg1, ixN_zero (by simp), ?_⟩
    generalize hH2 : upd H1 g _ = H2
    have hg2 : H2 g = some (.lst ((a / m :: gr).map V.int)) := by rw [← hH2, upd_same]; rfl
    have hd2 : H2 d = some (.lst [.ref g, .ref l, .int c]) := by rw [← hH2, upd_ne dg]; exact hd1
    have hl2 : H2 l = some (.lst (ls.map V.int)) := by rw [← hH2, upd_ne gl.symm]; exact hl1
    have off2 : Off d g H H2 := off1.trans fun b o e _ n => by rw [← hH2, upd_ne n]; exact e
    -- if deck[0][0] == 0: deck[0].pop(0)
    refine ⟨_, rfl, d, _, _, _, rfl, rfl, .inl (.inl hd2), rfl, g, _, _, _, rfl, rfl, .inl (.inl hg2), atI_nat (j := 0) rfl, rfl, _, rfl, ite2 (fun _ => ?_) (fun _ => ?_)⟩
    · refine ⟨_, rfl, d, _, _, _, rfl, rfl, .inl (.inl hd2), rfl, .inl ⟨rfl, _, .inl (.inl hg2)⟩, g, _, 0, 0, _, rfl, rfl, hg2, by decide, by decide, ?_, rfl, ?_⟩
      · exact (ixN_seq (ixN_zero (by simp))).1
      · generalize hH3 : upd H2 g _ = H3
        have hg3 : H3 g = some (.lst (gr.map V.int)) := by rw [← hH3, upd_same]; rfl
        have hd3 : H3 d = some (.lst [.ref g, .ref l, .int c]) := by rw [← hH3, upd_ne dg]; exact hd2
        have hl3 : H3 l = some (.lst (ls.map V.int)) := by rw [← hH3, upd_ne gl.symm]; exact hl2
        refine ⟨_, rfl, .inl ⟨_, rfl, _, rfl, _, _, rfl, rfl, by omega, ?_⟩⟩
        exact k _ _ (fmod_rng m0).1 (fmod_rng m0).2 ⟨gr, ls, c, hd3, hg3, hl3, dg, dl, gl, lpos⟩ (off2.trans fun b o e _ n => by rw [← hH3, upd_ne n]; exact e)
    · refine ⟨_, rfl, .inl ⟨_, rfl, _, rfl, _, _, rfl, rfl, by omega, ?_⟩⟩
      exact k _ _ (fmod_rng m0).1 (fmod_rng m0).2 ⟨_, ls, c, hd2, hg2, hl2, dg, dl, gl, lpos⟩ off2
  | nil =>
    refine (if_neg (by decide)).mpr ?_
    -- deck[2] = deck[2] + 1
    refine ⟨_, rfl, d, _, _, _, rfl, rfl, .inl (.inl hd1), rfl, _, _, rfl, rfl, _, rfl, d, _, _, 2, rfl, rfl, hd1, rfl, ?_⟩
    generalize hH2 : upd H1 d _ = H2
    have hd2 : H2 d = some (.lst [.ref g, .ref l, .int (c + 1)]) := by rw [← hH2, upd_same]; rfl
    have hg2 : H2 g = some (.lst (([] : List Int).map V.int)) := by rw [← hH2, upd_ne dg.symm]; exact hg1
    have hl2 : H2 l = some (.lst (ls.map V.int)) := by rw [← hH2, upd_ne dl.symm]; exact hl1
    have off2 : Off d g H H2 := off1.trans fun b o e n _ => by rw [← hH2, upd_ne n]; exact e
    have hD : Deck H2 d g l := ⟨[], ls, c + 1, hd2, hg2, hl2, dg, dl, gl, lpos⟩
    have lp : (0 : Int) < ((ls.map V.int).length : Int) := by rw [List.length_map]; omega
    obtain ⟨i0, i1⟩ := fmod_rng (a := c + 1) lp
    obtain ⟨j, hj⟩ : ∃ j : Nat, (c + 1).fmod ((ls.map V.int).length : Int) = (j : Int) := ⟨_, (Int.toNat_of_nonneg i0).symm⟩
    have jl : j < ls.length := by rw [hj, List.length_map] at i1; omega
    have at_ : atI (ls.map V.int) ((c + 1).fmod ((ls.map V.int).length : Int)) = some (.int ls[j]) := by
      rw [hj]
      refine atI_nat ?_
      rw [List.getElem?_map, List.getElem?_eq_getElem jl]
      rfl
    -- cell = deck[1][int(deck[2]) % len(deck[1])]
    refine ⟨_, rfl, d, _, _, _, rfl, rfl, .inl (.inl hd2), rfl, _, rfl, d, _, _, _, rfl, rfl, .inl (.inl hd2), rfl, .inl ⟨_, rfl, ?_⟩⟩
    refine ⟨_, rfl, d, _, _, _, rfl, rfl, .inl (.inl hd2), rfl, l, _, rfl, .inl (.inl (.inl hl2)), _, _, rfl, rfl, by omega, l, _, _, _, rfl, rfl, .inl (.inl hl2), at_, ?_⟩
    generalize ls[j] = cell
    -- the first mix
    refine ⟨_, rfl, .inl ⟨_, rfl, _, _, rfl, rfl, (show (4294966477 : Int) ≠ 0 by decide), _, rfl, d, _, _, _, rfl, rfl, .inl (.inl hd2), rfl, _, _, rfl, rfl, .inl ⟨by decide, by decide⟩, _, _, rfl, rfl, .inl ⟨_, rfl, _, _, rfl, rfl, (show (4294966477 : Int) ≠ 0 by decide), ?_⟩⟩⟩
    refine ⟨_, rfl, _, rfl, _, _, rfl, rfl, .inl (fmod_small (by decide) (by decide)), _, rfl, d, _, _, _, rfl, rfl, .inl (.inl hd2), rfl, _, _, rfl, rfl, .inl ⟨by decide, by decide⟩, _, _, rfl, rfl, .inl ⟨_, rfl, _, _, rfl, rfl, (show (4294966427 : Int) ≠ 0 by decide), ?_⟩⟩
    refine ⟨_, rfl, _, rfl, _, _, rfl, rfl, .inl (fmod_small (by decide) (by decide)), .inl ⟨_, rfl, _, _, rfl, rfl, (show (4294966373 : Int) ≠ 0 by decide), _, _, rfl, rfl, ⟨by decide, by decide⟩, _, rfl, _, _, rfl, rfl, by omega, ?_⟩⟩
    exact k _ _ (fmod_rng m0).1 (fmod_rng m0).2 hD off2
theorem ok__law_one (T : Txt mg) {f : Addr} {fd : FuncData} (F : Fun K "_law_one" "_law_one" s__law_one f fd) (h__law_draw : Keeps P w K mg base 1 "_law_draw" p__law_draw spDraw) : FnOk P w K mg base CX0 2 f fd p__law_one spOne := by
  refine F.ok sc__law_one (fun vs H Q E h => ?_) (fun cdv A outer s H vs Q E hr h => ?_)
  · obtain ⟨d, g, l, p, xs, rfl, _⟩ := h
    rfl
  obtain ⟨d, g, l, p, xs, rfl, D, hp, pd, pg, x0, x1, k⟩ := h
  refine ⟨_, (pss_one (ps_ret (pe_ix ix_list (pv 1) (TB.pe_own h__law_draw (hr.mono (by decide)) (by rfl) (pa_cons (pv 0) (pa_cons (pe_callB call_len_seq (by rfl) T.n_len (by decide +kernel) (pa_cons (pv 1) pa_nil)) pa_nil))) (fun _ _ => rfl)))), ?_⟩
  refine ⟨_, rfl, _, rfl, _, rfl, p, xs, rfl, .inl (.inl (.inl hp)), d, g, l, _, rfl, by omega, by omega, D, fun r H1 r0 r1 D1 o1 => ?_⟩
  obtain ⟨j, rfl⟩ : ∃ j : Nat, r = (j : Int) := ⟨_, (Int.toNat_of_nonneg r0).symm⟩
  have jl : j < xs.length := by omega
  exact ⟨p, xs, _, xs[j], rfl, rfl, .inl (.inl (o1 _ _ hp pd pg)), atI_nat (List.getElem?_eq_getElem jl), k j _ _ (List.getElem?_eq_getElem jl) D1 o1⟩
theorem cut63 {ns : List V} (h : ns.length ≤ 63) : cutV ns none (some 63) = ns := by
  unfold cutV
  rw [HT.sIx_none, show HT.sIx ns.length ns.length (some 63) = min 63 ns.length from HT.sIx_nat _ _ 63]
  rw [Nat.min_eq_right h, List.drop_zero, Nat.sub_zero, List.take_length]
def absI (n : Int) : Int := if n < 0 then -n else n
theorem ok__law_deck (T : Txt mg) {f : Addr} {fd : FuncData} (F : Fun K "_law_deck" "_law_deck" s__law_deck f fd) : FnOk P w K mg base CX0 1 f fd p__law_deck (spDeck K) := by
  refine F.ok sc__law_deck (fun vs H Q E h => ?_) (fun cdv A outer s H vs Q E hr h => ?_)
  · obtain ⟨a, ns, rfl, _⟩ := h
    rfl
  obtain ⟨a, ns, rfl, hS, hn, k⟩ := h
  refine ⟨_, (pss_cons (ps_setLc (i := 1) (own := [("_law_cell", 2)]) (g := gName 2) rfl sc__law_deck.nd rfl rfl (sw_true rfl rfl rfl (by decide +kernel)) (pi_list (pe_slice sl_list (pv 0) po_none (po_some pe_int))) (blkOk_by (N := n__law_deck) (sc := defScope s__law_deck) (by decide +kernel)) (fun _ _ _ _ _ => pg_name (i := 2) sc__law_deck.nd rfl (.inl rfl)) (fun _ _ _ _ _ => pts_nil) (fun _ _ _ _ _ => (pe_callB call_abs (by rfl) T.n_abs (by decide +kernel) (pa_cons (pv 2) pa_nil))))
 (pss_one (ps_ret (pe_lst (pa_cons (pe_lc (own := [("_law_cell", 2)]) (g := gName 2) rfl sc__law_deck.nd (pi_list (pv 1)) (blkOk_by (N := n__law_deck) (sc := defScope s__law_deck) (by decide +kernel)) (fun _ _ _ _ _ => pg_name (i := 2) sc__law_deck.nd rfl (.inl rfl)) (fun _ _ _ _ _ => (pts_one (pt_cmpR op_ge (pv 2) (pe_op op_pow pe_int pe_int) (nomark _)))) (fun _ _ _ _ _ => (pv 2))) (pa_cons (pe_op op_cat (pv 1) (pe_lst (pa_cons (pe_op op_add pe_int (pe_callB call_len_seq (by rfl) T.n_len (by decide +kernel) (pa_cons (pv 1) pa_nil))) pa_nil))) (pa_cons pe_int pa_nil))))))), ?_⟩
  refine ⟨.ref a, rfl, 63, rfl, a, _, rfl, hS, fun p hp => ⟨p, rfl, ⟨_, .inl (.inl upd_same)⟩, fun D hD => ?_⟩⟩
  rw [cut63 (by rw [List.length_map]; exact hn)] at hD ⊢
  have e1 : Ex H (upd H p (.lst (ns.map V.int))) := Ex.new hp
  have pD : p ≠ D := ne_of_none upd_same hD
  refine lc_list (K := K) (a := p) (xs := ns.map V.int) (fun i H' => Ex H H' ∧ H' p = some (.lst (ns.map V.int)) ∧ H' D = some (.lst (((ns.map absI).take i).map V.int)))
    ⟨e1.trans (Ex.new hD), by rw [upd_ne pD]; exact upd_same, upd_same⟩ (fun i H' _ h => .inl (.inl h.2.1)) (fun i x H' hx h => ?_) (fun H' h => ?_)
  · obtain ⟨e, h1, h2⟩ := h
    rw [List.getElem?_map] at hx
    obtain ⟨n, hn1, rfl⟩ := Option.map_eq_some_iff.mp hx
    have il : i < ns.length := (List.getElem?_eq_some_iff.mp hn1).1
    refine ⟨rfl, _, rfl, n, rfl, _, h2, size_small' (by rw [List.length_map, List.length_take]; omega), e.mut (fresh_back e1 hD), by rw [upd_ne pD]; exact h1, ?_⟩
    rw [upd_same, List.take_add_one, List.getElem?_map, hn1, List.map_append]
    rfl
  obtain ⟨e, h1, h2⟩ := h
  rw [List.length_map, List.take_of_length_le (by rw [List.length_map]; omega)] at h2
  generalize hms : ns.map absI = ms at h2
  have ml : ms.length ≤ 63 := by rw [← hms, List.length_map]; exact hn
  -- the list of the great ones
  refine ⟨.ref D, rfl, D, rfl, ⟨_, .inl (.inl h2)⟩, fun B hB => ?_⟩
  have DB : D ≠ B := ne_of_none h2 hB
  refine lc_list (K := K) (a := D) (xs := ms.map V.int) (fun i H2 => Ex H' H2 ∧ H2 D = some (.lst (ms.map V.int)) ∧ ∃ gs : List Int, gs.length ≤ i ∧ H2 B = some (.lst (gs.map V.int)))
    ⟨Ex.new hB, by rw [upd_ne DB]; exact h2, [], Nat.le_refl _, upd_same⟩ (fun i H2 _ h => .inl (.inl h.2.1)) (fun i x H2 hx h => ?_) (fun H2 h => ?_)
  · obtain ⟨e2, g1, gs, gl, g2⟩ := h
    rw [List.getElem?_map] at hx
    obtain ⟨n, hn1, rfl⟩ := Option.map_eq_some_iff.mp hx
    have il : i < ms.length := (List.getElem?_eq_some_iff.mp hn1).1
    refine ⟨rfl, _, rfl, _, _, rfl, rfl, ⟨by decide, by decide, by decide⟩, _, _, rfl, rfl, _, rfl, ?_⟩
    refine ite2 (fun _ => ?_) (fun _ => ?_)
    · refine ⟨_, rfl, _, g2, size_small' (by rw [List.length_map]; omega), e2.mut hB, by rw [upd_ne DB]; exact g1, gs ++ [n], by rw [List.length_append]; exact Nat.succ_le_succ gl, ?_⟩
      rw [upd_same, List.map_append]
      rfl
    · exact ⟨e2, g1, gs, by omega, g2⟩
  obtain ⟨e2, g1, gs, gl, g2⟩ := h
  rw [List.length_map] at gl
  -- cells + [11228 + len(cells)]
  refine ⟨_, rfl, _, rfl, D, _, rfl, .inl (.inl (.inl g1)), _, _, rfl, rfl, (show 1 ≤ sizeLine by decide), fun c hc => ?_⟩
  have Dc : D ≠ c := ne_of_none g1 hc
  refine ⟨D, c, _, _, rfl, rfl, by rw [upd_ne Dc]; exact g1, upd_same, size_small (by simp; omega), fun L hL => ?_⟩
  have cL : c ≠ L := ne_of_none upd_same hL
  have BD : B ≠ D := DB.symm
  have hBc : B ≠ c := ne_of_none g2 hc
  have hBL : B ≠ L := ne_of_none (by rw [upd_ne hBc]; exact g2) hL
  refine ⟨(show 3 ≤ sizeLine by decide), fun d hd => ?_⟩
  have dL : d ≠ L := fun q => by rw [q, upd_same] at hd; cases hd
  have dB : d ≠ B := fun q => by rw [q, upd_ne hBL, upd_ne hBc, g2] at hd; cases hd
  have ec := Ex.new (o := .lst [.int (11228 + ((ms.map V.int).length : Int))]) hc
  have eL := ec.trans (Ex.new (o := .lst (ms.map V.int ++ [.int (11228 + ((ms.map V.int).length : Int))])) hL)
  refine k d B L _ ((e.trans e2).trans (eL.trans (Ex.new hd))) ?_ (fresh_back e hB) ?_
  · exact fresh_back ((e.trans e2).trans eL) hd
  · refine ⟨gs, ms ++ [11228 + ((ms.map V.int).length : Int)], 0, upd_same, ?_, ?_, dB, dL, hBL, by simp⟩
    · rw [upd_ne dB.symm, upd_ne hBL, upd_ne hBc]; exact g2
    · rw [upd_ne dL.symm, upd_same, List.map_append]
      rfl
end
end K29
set_option Elab.async false
set_option linter.all false
set_option maxRecDepth 100000
namespace TW
open PySem PySem.Spec PyProof.Rows L2 MI GE TY
def b_is_int : DS :=
 (sRet (mAnd (mIsi "int" (mVar 0)) (mNot (mIsi "bool" (mVar 0)))))
def m_is_int : List PyData → C PyData := bodyM b_is_int 1 0
def b_with_side : DS :=
 (sRet (mOp oAdd (mOp oAdd (mSl oSl (mVar 0) oNone (oSome (mVar 1))) (mTup (aCons (mVar 2) aNil))) (mSl oSl (mVar 0) (oSome (mOp oAdd (mVar 1) (mC (PyData.int 1)))) oNone)))
def m_with_side : List PyData → C PyData := bodyM b_with_side 3 0
def b_common_share : DS :=
 (sSeq (sPar 2 3 (aCons (mVar 0) (aCons (mC (PyData.int 1)) aNil)))
 (sSeq (sPar 4 5 (aCons (mVar 1) (aCons (mC (PyData.int 0)) aNil)))
 (sSeq (sWhileK [2, 3, 4, 5] (tT (mOp oGt (mVar 4) (mC (PyData.int 0))))
 (sSeq (sAsg (mOp oFdiv (mVar 2) (mVar 4)) (gNm 6))
 (sSeq (sPar 2 4 (aCons (mVar 4) (aCons (mOp oSub (mVar 2) (mOp oMul (mVar 6) (mVar 4))) aNil)))
 (sPar 3 5 (aCons (mVar 5) (aCons (mOp oSub (mVar 3) (mOp oMul (mVar 6) (mVar 5))) aNil))))))
 (sRet (mTup (aCons (mVar 2) (aCons (mVar 3) aNil)))))))
def m_common_share : List PyData → C PyData := bodyM b_common_share 2 5
def b_least_share : DS :=
 (sSeq (sAsg (mCall m_common_share (aCons (mVar 0) (aCons (mVar 1) aNil))) (gTp 2 (gs1 (gNm 3) (gs1 (gNm 4) gs0))))
 (sSeq (sIf (tT (mOp oNe (mOp oMod (mVar 2) (mVar 3)) (mC (PyData.int 0))))
 (sRet (mC PyData.none))
 sNx)
 (sRet (mOp oMod (mOp oMul (mVar 4) (mOp oFdiv (mVar 2) (mVar 3))) (mOp oFdiv (mVar 1) (mVar 3))))))
def m_least_share : List PyData → C PyData := bodyM b_least_share 3 2
def b_fills_alone : DS :=
 (sRet (mOr (mOp (oInA false) (mC (PyData.int 0)) (mVar 1)) (mCB oAll (aCons (mFr (mLc (iZ2 (mVar 0) (mVar 1)) (gTp 2 (gs1 (gNm 2) (gs1 (gNm 3) gs0))) tOk [2, 3] (mEl (mOp oEq (mOp oMod (mVar 3) (mVar 2)) (mC (PyData.int 0)))))) aNil))))
def m_fills_alone : List PyData → C PyData := bodyM b_fills_alone 2 2
def b_fills_across : DS :=
 (sRet (mCall m_fills_alone (aCons (mVar 0) (aCons (mCall m_with_side (aCons (mVar 1) (aCons (mVar 2) (aCons (mOp oIt (mVar 0) (mVar 2)) aNil)))) aNil))))
def m_fills_across : List PyData → C PyData := bodyM b_fills_across 3 0
def b_is_cut : DS :=
 (sSeq (sIf (tOo (tNo (tT (mIsi "tuple" (mVar 2)))) (tOo (tT (mOp oNe (mCB oLn (aCons (mVar 2) aNil)) (mC (PyData.int 3)))) (tNo (tT (mCB oAll (aCons (mFr (mLc (iSq (mVar 2)) (gNm 8) tOk [8] (mEl (mCall m_is_int (aCons (mVar 8) aNil))))) aNil))))))
 (sRet (mC (PyData.bool false)))
 sNx)
 (sSeq (sAsg (mVar 2) (gTp 3 (gs1 (gNm 3) (gs1 (gNm 4) (gs1 (gNm 5) gs0)))))
 (sSeq (sIf (tOo (tNo (tT (mChain oLe oLe (mC (PyData.int 0)) (mVar 3) (mC (PyData.int 1))))) (tOo (tNo (tT (mChain oLe oLt (mC (PyData.int 0)) (mVar 4) (mCB oLn (aCons (mVar 1) aNil))))) (tNo (tT (mChain oLe oLe (mC (PyData.int 0)) (mVar 5) (mOp oIt (mVar 1) (mVar 4)))))))
 (sRet (mC (PyData.bool false)))
 sNx)
 (sSeq (sAsg (mCall m_with_side (aCons (mVar 1) (aCons (mVar 4) (aCons (mVar 5) aNil)))) (gNm 6))
 (sSeq (sAsg (mCall m_with_side (aCons (mVar 1) (aCons (mVar 4) (aCons (mOp oSub (mOp oIt (mVar 1) (mVar 4)) (mVar 5)) aNil)))) (gNm 7))
 (sRet (mAnd (mCall m_fills_alone (aCons (mOp oIt (mVar 0) (mVar 3)) (aCons (mVar 6) aNil))) (mCall m_fills_alone (aCons (mOp oIt (mVar 0) (mOp oSub (mC (PyData.int 1)) (mVar 3))) (aCons (mVar 7) aNil))))))))))
def m_is_cut : List PyData → C PyData := bodyM b_is_cut 3 6
def b_runs_across : DS :=
 (sSeq (sPar 4 5 (aCons (mOp oIt (mVar 0) (mVar 2)) (aCons (mOp oIt (mVar 0) (mOp oSub (mC (PyData.int 1)) (mVar 2))) aNil)))
 (sSeq (sAsg (mOp oIt (mVar 1) (mVar 3)) (gNm 6))
 (sSeq (sIf (tAn (tT (mCall m_fills_across (aCons (mVar 4) (aCons (mVar 1) (aCons (mVar 3) aNil))))) (tT (mCall m_fills_across (aCons (mVar 5) (aCons (mVar 1) (aCons (mVar 3) aNil))))))
 (sSeq (sAsg (mCall m_least_share (aCons (mOp oIt (mVar 4) (mVar 3)) (aCons (mOp oIt (mVar 5) (mVar 3)) (aCons (mVar 6) aNil)))) (gNm 7))
 (sSeq (sIf (tOo (tT (mOp oIs (mVar 7) (mC PyData.none))) (tT (mOp oGt (mOp oMul (mVar 7) (mOp oIt (mVar 4) (mVar 3))) (mVar 6))))
 (sRet (mLst aNil))
 sNx)
 (sSeq (sAsg (mOp oMul (mVar 7) (mOp oIt (mVar 4) (mVar 3))) (gNm 8))
 (sSeq (sAsg (mOp oFdiv (mOp oMul (mOp oIt (mVar 4) (mVar 3)) (mOp oIt (mVar 5) (mVar 3))) (mCB oGcd (aCons (mOp oIt (mVar 4) (mVar 3)) (aCons (mOp oIt (mVar 5) (mVar 3)) aNil)))) (gNm 9))
 (sRet (mLst (aCons (mTup (aCons (mVar 2) (aCons (mVar 3) (aCons (mVar 8) (aCons (mVar 9) (aCons (mOp oAdd (mOp oFdiv (mOp oSub (mVar 6) (mVar 8)) (mVar 9)) (mC (PyData.int 1))) aNil)))))) aNil)))))))
 sNx)
 (sSeq (sAsg (mFr (mLc (iSq (mTup (aCons (mC (PyData.int 0)) (aCons (mVar 6) aNil)))) (gNm 11) (tT (mCall m_is_cut (aCons (mVar 0) (aCons (mVar 1) (aCons (mTup (aCons (mVar 2) (aCons (mVar 3) (aCons (mVar 11) aNil)))) aNil))))) [11] (mEl (mVar 11)))) (gNm 10))
 (sRet (mFr (mLc (iSq (mVar 10)) (gNm 11) tOk [11] (mEl (mTup (aCons (mVar 2) (aCons (mVar 3) (aCons (mVar 11) (aCons (mC (PyData.int 1)) (aCons (mC (PyData.int 1)) aNil))))))))))))))
def m_runs_across : List PyData → C PyData := bodyM b_runs_across 4 8
def b_cut_runs : DS :=
 (sRet (mFr (mLc (iSq (mTup (aCons (mC (PyData.int 0)) (aCons (mC (PyData.int 1)) aNil)))) (gNm 2) tOk [2, 3, 4] (mCl (iR1 (mCB oLn (aCons (mVar 1) aNil))) (gNm 3) tOk [3, 4] (mCl (iSq (mCall m_runs_across (aCons (mVar 0) (aCons (mVar 1) (aCons (mVar 2) (aCons (mVar 3) aNil)))))) (gNm 4) tOk [4] (mEl (mVar 4)))))))
def m_cut_runs : List PyData → C PyData := bodyM b_cut_runs 2 3
def b_is_filled : DS :=
 (sRet (mOp oGt (mCB oLn (aCons (mCall m_cut_runs (aCons (mVar 0) (aCons (mVar 1) aNil))) aNil)) (mC (PyData.int 0))))
def m_is_filled : List PyData → C PyData := bodyM b_is_filled 2 0

def F_is_int (value : Int) : Bool := (true && (!false))
theorem b_is_int_ok (value : Int) (D : DN) (hp : D.rt (eB (F_is_int value))) : b_is_int D [some (.dat (eI value))] := by
  unfold b_is_int
  unfold F_is_int at hp
  exact (k_ret (ev_and (ev_isi (x := true) (d := (eI value)) rfl (ev_var rfl)) (fun h1 => (ev_not (ev_isi (x := false) (d := (eI value)) rfl (ev_var rfl))))) hp)
theorem f_is_int (value : Int) : CB m_is_int [(eI value)] (eB (F_is_int value)) := fun P X p => ⟨rfl, b_is_int_ok value _ p⟩
def F_with_side (sides : (List Int)) (axis : Int) (side : Int) : (List Int) := (((sides.take (axis : Int).toNat) ++ [side]) ++ (sides.drop ((axis + 1) : Int).toNat))
def D_with_side (sides : (List Int)) (axis : Int) (side : Int) : Prop := ((0 : Int) ≤ axis ∧ ((sides.take (axis : Int).toNat) : (List Int)).length + ([side] : (List Int)).length ≤ 100000 ∧ (0 : Int) ≤ (axis + 1) ∧ (((sides.take (axis : Int).toNat) ++ [side]) : (List Int)).length + ((sides.drop ((axis + 1) : Int).toNat) : (List Int)).length ≤ 100000)
theorem b_with_side_ok (sides : (List Int)) (axis : Int) (side : Int) (h : D_with_side sides axis side) (D : DN) (hp : D.rt ((eT eI) (F_with_side sides axis side))) : b_with_side D [some (.dat ((eT eI) sides)), some (.dat (eI axis)), some (.dat (eI side))] := by
  unfold b_with_side
  unfold F_with_side at hp
  exact (k_ret (ev_op (p_catT eI ((sides.take (axis : Int).toNat) ++ [side]) (sides.drop ((axis + 1) : Int).toNat) h.2.2.2) (ev_op (p_catT eI (sides.take (axis : Int).toNat) [side] h.2.1) (ev_sl (p_toT eI sides axis h.1) (ev_var rfl) ep_none (ep_some (ev_var rfl))) (show EV _ _ ((eT eI) [side]) from ev_tup (ea_cons (ev_var rfl) ea_nil) (Nat.le_of_ble_eq_true rfl))) (ev_sl (p_fromT eI sides (axis + 1) h.2.2.1) (ev_var rfl) (ep_some (ev_op (p_add axis 1) (ev_var rfl) (ev_c _))) ep_none)) hp)
theorem f_with_side (sides : (List Int)) (axis : Int) (side : Int) (h : D_with_side sides axis side) : CB m_with_side [((eT eI) sides), (eI axis), (eI side)] ((eT eI) (F_with_side sides axis side)) := fun P X p => ⟨rfl, b_with_side_ok sides axis side h _ p⟩
def W_common_share (one : Int) (other_ : Int) (k : (Int × Int) → Prop) : Prop := (∃ n, whW (S := (Int × Int × Int × Int)) (fun s1 : (Int × Int × Int × Int) => (decide (0 < s1.2.2.1))) (fun s1 : (Int × Int × Int × Int) => True) (fun s1 nx2 => (CDivW s1.1 s1.2.2.1 ∧ (∀ fits9 : Int, fits9 = (s1.1 / s1.2.2.1) → (CMulW fits9 s1.2.2.1 ∧ (∀ divisor12 : Int, divisor12 = s1.2.2.1 → ∀ rest13 : Int, rest13 = (s1.1 - (fits9 * s1.2.2.1)) → (CMulW fits9 s1.2.2.2 ∧ (∀ times17 : Int, times17 = s1.2.2.2 → ∀ rest_times18 : Int, rest_times18 = (s1.2.1 - (fits9 * s1.2.2.2)) → (nx2 (divisor12, times17, rest13, rest_times18))))))))) (fun s23 => (k (s23.1, s23.2.1))) n (one, 1, other_, 0))
theorem w_common_share_b (one : Int) (other_ : Int) {k : (Int × Int) → Prop} (h : W_common_share one other_ k) (D : DN) (hk : ∀ v, k v → D.rt ((e2 eI eI) v)) : b_common_share D [some (.dat (eI one)), some (.dat (eI other_)), none, none, none, none, none] := by
  unfold b_common_share
  exact (k_par (ea_cons (ev_var rfl) (ea_cons (ev_c _) ea_nil)) (k_par (ea_cons (ev_var rfl) (ea_cons (ev_c _) ea_nil)) (k_while (S := (Int × Int × Int × Int)) (re := fun s1 => [none, none, some (.dat (eI s1.1)), some (.dat (eI s1.2.1)), some (.dat (eI s1.2.2.1)), some (.dat (eI s1.2.2.2)), none]) (c := (fun s1 : (Int × Int × Int × Int) => (decide (0 < s1.2.2.1)))) (dc := (fun s1 : (Int × Int × Int × Int) => True)) (body := (fun s1 nx2 => (CDivW s1.1 s1.2.2.1 ∧ (∀ fits9 : Int, fits9 = (s1.1 / s1.2.2.1) → (CMulW fits9 s1.2.2.1 ∧ (∀ divisor12 : Int, divisor12 = s1.2.2.1 → ∀ rest13 : Int, rest13 = (s1.1 - (fits9 * s1.2.2.1)) → (CMulW fits9 s1.2.2.2 ∧ (∀ times17 : Int, times17 = s1.2.2.2 → ∀ rest_times18 : Int, rest_times18 = (s1.2.1 - (fits9 * s1.2.2.2)) → (nx2 (divisor12, times17, rest13, rest_times18)))))))))) (k := (fun s23 => (k (s23.1, s23.2.1)))) rfl (fun s1 h8 => (eb_t (ev_op (p_gt s1.2.2.1 0) (ev_var rfl) (ev_c _)))) (fun s1 nx2 D3 hr4 hn5 hc6 h7 => (k_let (s1.1 / s1.2.2.1) fun fits9 e10 => (k_asg (r' := [none, none, some (.dat (eI s1.1)), some (.dat (eI s1.2.1)), some (.dat (eI s1.2.2.1)), some (.dat (eI s1.2.2.2)), some (.dat (eI fits9))]) (ev_eq (e := eI) e10 (ev_op (p_fdiv s1.1 s1.2.2.1 h7.1) (ev_var rfl) (ev_var rfl))) (fun P h => h) (k_let s1.2.2.1 fun divisor12 e14 => (k_let (s1.1 - (fits9 * s1.2.2.1)) fun rest13 e15 => (k_par (ea_cons (ev_eq (e := eI) e14 (ev_var rfl)) (ea_cons (ev_eq (e := eI) e15 (ev_op (p_sub s1.1 (fits9 * s1.2.2.1)) (ev_var rfl) (ev_op (p_mul fits9 s1.2.2.1 (h7.2 fits9 e10).1) (ev_var rfl) (ev_var rfl)))) ea_nil)) (show _ from (k_last (k_let s1.2.2.2 fun times17 e19 => (k_let (s1.2.1 - (fits9 * s1.2.2.2)) fun rest_times18 e20 => (k_par (ea_cons (ev_eq (e := eI) e19 (ev_var rfl)) (ea_cons (ev_eq (e := eI) e20 (ev_op (p_sub s1.2.1 (fits9 * s1.2.2.2)) (ev_var rfl) (ev_op (p_mul fits9 s1.2.2.2 ((h7.2 fits9 e10).2 divisor12 e14 rest13 e15).1) (ev_var rfl) (ev_var rfl)))) ea_nil)) (show _ from (k_end (hn5 (divisor12, times17, rest13, rest_times18) _ (((h7.2 fits9 e10).2 divisor12 e14 rest13 e15).2 times17 e19 rest_times18 e20) rfl)))))))))))))) (fun s23 h22 => (k_ret (show EV _ _ ((e2 eI eI) (s23.1, s23.2.1)) from ev_tup (ea_cons (ev_var rfl) (ea_cons (ev_var rfl) ea_nil)) (Nat.le_of_ble_eq_true rfl)) (hk _ h22))) h)))
theorem w_common_share {one : Int} {other_ : Int} {k : (Int × Int) → Prop} (h : W_common_share one other_ k) (P : PyData → Prop) (X : Xc → Prop) (hk : ∀ v, k v → P ((e2 eI eI) v)) : m_common_share [(eI one), (eI other_)] P X := ⟨rfl, w_common_share_b one other_ h _ hk⟩
def W_least_share (one : Int) (other_ : Int) (whole : Int) (k : (Option Int) → Prop) : Prop := (W_common_share one other_ (fun v1 => ((0 : Int) < v1.1 ∧ ((!decide (((whole % v1.1) : Int) = 0)) = true → (k (none : (Option Int)))) ∧ ((!decide (((whole % v1.1) : Int) = 0)) = false → (CDivW whole v1.1 ∧ CMulW v1.2 (whole / v1.1) ∧ CDivW other_ v1.1 ∧ (0 : Int) < (other_ / v1.1) ∧ k (some ((v1.2 * (whole / v1.1)) % (other_ / v1.1))))))))
theorem w_least_share_b (one : Int) (other_ : Int) (whole : Int) {k : (Option Int) → Prop} (h : W_least_share one other_ whole k) (D : DN) (hk : ∀ v, k v → D.rt ((eO eI) v)) : b_least_share D [some (.dat (eI one)), some (.dat (eI other_)), some (.dat (eI whole)), none, none] := by
  unfold b_least_share
  exact (k_asgW (run_call (run_cons (ev_run (d := (eI one)) (ev_var rfl) (run_cons (ev_run (d := (eI other_)) (ev_var rfl) (run_nil (w_common_share h _ _ (fun v1 h2 => (k_gv (r' := [some (.dat (eI one)), some (.dat (eI other_)), some (.dat (eI whole)), some (.dat (eI v1.1)), some (.dat (eI v1.2))]) (fun P h => ⟨rfl, h⟩) (k_if (eb_t (ev_op (p_ne cmpI (by decide) (whole % v1.1) 0) (ev_op (p_mod whole v1.1 h2.1) (ev_var rfl) (ev_var rfl)) (ev_c _))) (fun h3 => (k_retS (show EV _ _ ((eO eI) none) from (ev_c _)) (hk _ (h2.2.1 h3)))) (fun h4 => (k_nx (k_ret (show EV _ _ ((eO eI) (some ((v1.2 * (whole / v1.1)) % (other_ / v1.1)))) from (ev_op (p_mod (v1.2 * (whole / v1.1)) (other_ / v1.1) (h2.2.2 h4).2.2.2.1) (ev_op (p_mul v1.2 (whole / v1.1) (h2.2.2 h4).2.1) (ev_var rfl) (ev_op (p_fdiv whole v1.1 (h2.2.2 h4).1) (ev_var rfl) (ev_var rfl))) (ev_op (p_fdiv other_ v1.1 (h2.2.2 h4).2.2.1) (ev_var rfl) (ev_var rfl)))) (hk _ (h2.2.2 h4).2.2.2.2)))))))))))))))
theorem w_least_share {one : Int} {other_ : Int} {whole : Int} {k : (Option Int) → Prop} (h : W_least_share one other_ whole k) (P : PyData → Prop) (X : Xc → Prop) (hk : ∀ v, k v → P ((eO eI) v)) : m_least_share [(eI one), (eI other_), (eI whole)] P X := ⟨rfl, w_least_share_b one other_ whole h _ hk⟩
def F_fills_alone (brick : (List Int)) (sides : (List Int)) : Bool := ((decide (0 ∈ sides)) || ((((List.zip brick sides).map (fun x2 : (Int × Int) => (decide (((x2.2 % x2.1) : Int) = 0))))).all id))
def D_fills_alone (brick : (List Int)) (sides : (List Int)) : Prop := (((decide (0 ∈ sides)) = false → (((List.zip brick sides)).length ≤ 100000 ∧ (∀ x2 ∈ (List.zip brick sides), ((0 : Int) < x2.1)))))
theorem b_fills_alone_ok (brick : (List Int)) (sides : (List Int)) (h : D_fills_alone brick sides) (D : DN) (hp : D.rt (eB (F_fills_alone brick sides))) : b_fills_alone D [some (.dat ((eT eI) brick)), some (.dat ((eT eI) sides)), none, none] := by
  unfold b_fills_alone
  unfold F_fills_alone at hp
  exact (k_ret (ev_or (ev_op (p_inT 0 sides) (ev_c _) (ev_var rfl)) (fun h1 => (ev_cb (c_allL ((List.zip brick sides).map (fun x2 : (Int × Int) => (decide (((x2.2 % x2.1) : Int) = 0))))) (ea_cons (show EV _ _ ((eL eB) ((List.zip brick sides).map (fun x2 : (Int × Int) => (decide (((x2.2 % x2.1) : Int) = 0))))) from ev_fr (eo_lc (r := [some (.dat ((eT eI) brick)), some (.dat ((eT eI) sides)), none, none]) (vs := [2, 3]) (e := (e2 eI eI)) (e' := eB) (f := fun x2 => (decide (((x2.2 % x2.1) : Int) = 0))) (rx := fun x2 => [some (.dat ((eT eI) brick)), some (.dat ((eT eI) sides)), some (.dat (eI x2.1)), some (.dat (eI x2.2))]) (it_z2 (e := eI) (e' := eI) (ev_var rfl) (ev_var rfl) rfl rfl) ⟨trivial, trivial, trivial⟩ (h h1).1 (fun x2 h3 => (fun P h => ⟨rfl, h⟩)) (fun x2 h3 => (ev_op (p_eq cmpI (by decide) (x2.2 % x2.1) 0) (ev_op (p_mod x2.2 x2.1 ((h h1).2 x2 h3)) (ev_var rfl) (ev_var rfl)) (ev_c _))))) ea_nil)))) hp)
theorem f_fills_alone (brick : (List Int)) (sides : (List Int)) (h : D_fills_alone brick sides) : CB m_fills_alone [((eT eI) brick), ((eT eI) sides)] (eB (F_fills_alone brick sides)) := fun P X p => ⟨rfl, b_fills_alone_ok brick sides h _ p⟩
def F_fills_across (brick : (List Int)) (box : (List Int)) (axis : Int) : Bool := (F_fills_alone brick (F_with_side box axis (ix brick axis)))
def D_fills_across (brick : (List Int)) (box : (List Int)) (axis : Int) : Prop := ((0 ≤ (axis : Int) ∧ (axis : Int) < (brick).length) ∧ D_with_side box axis (ix brick axis) ∧ D_fills_alone brick (F_with_side box axis (ix brick axis)))
theorem b_fills_across_ok (brick : (List Int)) (box : (List Int)) (axis : Int) (h : D_fills_across brick box axis) (D : DN) (hp : D.rt (eB (F_fills_across brick box axis))) : b_fills_across D [some (.dat ((eT eI) brick)), some (.dat ((eT eI) box)), some (.dat (eI axis))] := by
  unfold b_fills_across
  unfold F_fills_across at hp
  exact (k_ret (show EV _ _ (eB (F_fills_alone brick (F_with_side box axis (ix brick axis)))) from ev_call (f_fills_alone brick (F_with_side box axis (ix brick axis)) h.2.2) (ea_cons (ev_var rfl) (ea_cons (show EV _ _ ((eT eI) (F_with_side box axis (ix brick axis))) from ev_call (f_with_side box axis (ix brick axis) h.2.1) (ea_cons (ev_var rfl) (ea_cons (ev_var rfl) (ea_cons (ev_op (p_itT eI brick axis h.1) (ev_var rfl) (ev_var rfl)) ea_nil)))) ea_nil))) hp)
theorem f_fills_across (brick : (List Int)) (box : (List Int)) (axis : Int) (h : D_fills_across brick box axis) : CB m_fills_across [((eT eI) brick), ((eT eI) box), (eI axis)] (eB (F_fills_across brick box axis)) := fun P X p => ⟨rfl, b_fills_across_ok brick box axis h _ p⟩

/-! ### sizes -/
theorem lg {i : Int} (h : -(2 ^ 250) ≤ i ∧ i ≤ 2 ^ 250) : i.natAbs.log2 < 300 := by
  by_cases h0 : i.natAbs = 0
  · rw [h0]; decide
  · have : i.natAbs ≤ 2 ^ 250 := by
      have := h.1; have := h.2
      omega
    exact Nat.lt_of_lt_of_le ((Nat.log2_lt (k := 251) h0).mpr (Nat.lt_of_le_of_lt this (Nat.pow_lt_pow_right (by decide) (by decide)))) (by decide)
theorem cmul {i j : Int} (h : -(2 ^ 250) ≤ i ∧ i ≤ 2 ^ 250) (h2 : -(2 ^ 250) ≤ j ∧ j ≤ 2 ^ 250) : CMulW i j := by
  unfold CMulW
  have := lg h
  have := lg h2
  omega
theorem cdiv {i j : Int} (h : 0 < j) (h2 : j ≤ 2 ^ 250) : CDivW i j := ⟨h, by have := lg (i := j) ⟨by omega, h2⟩; omega⟩
/-! ### shares -/
/-- what the walk keeps: d, r, t, u -/
def Wk (A B : Nat) (d r : Nat) (t u : Int) : Prop :=
  0 < d ∧ d ≤ A + B ∧ r ≤ A + B ∧ Nat.gcd d r = Nat.gcd A B ∧ (B : Int) ∣ d - t * A ∧ (B : Int) ∣ r - u * A ∧
    ∃ T U : Nat, ((t = T ∧ u = -(U : Int)) ∨ (t = -(T : Int) ∧ u = U)) ∧ U * d + T * r = B ∧ T ≤ B ∧ U ≤ B
theorem alg (q U r m : Nat) : q * U * r + U * m = U * (r * q + m) := by rw [Nat.mul_add, ← Nat.mul_assoc U r q, Nat.mul_comm (q * U) r, Nat.mul_comm q U, ← Nat.mul_assoc r U q, Nat.mul_comm r U]
theorem Wk.start {A B : Nat} (ha : 0 < A) (hb : 0 < B) : Wk A B A B 1 0 :=
  ⟨ha, by omega, by omega, rfl, ⟨0, by omega⟩, ⟨1, by omega⟩, 1, 0, .inl ⟨rfl, rfl⟩, by omega, hb, by omega⟩
theorem Wk.step {A B d r : Nat} {t u : Int} (h : Wk A B d r t u) (hr : 0 < r) : Wk A B r (d % r) u (t - (d / r : Nat) * u) := by
  obtain ⟨h1, h2, h3, h4, h5, h6, T, U, h7, h8, h9, h10⟩ := h
  have em : ((d % r : Nat) : Int) = d - (d / r : Nat) * r := by
    have := Nat.div_add_mod d r
    have e : (r : Int) * (d / r : Nat) + (d % r : Nat) = d := by exact_mod_cast this
    rw [Int.mul_comm] at e
    omega
  have ml := Nat.mod_lt d hr
  refine ⟨hr, h3, by omega, ?_, h6, ?_, U, T + d / r * U, ?_, ?_, h10, ?_⟩
  · rw [← h4, Nat.gcd_comm r, ← Nat.gcd_rec, Nat.gcd_comm]
  · have e : ((d % r : Nat) : Int) - (t - (d / r : Nat) * u) * A = (d - t * A) - (d / r : Nat) * (r - u * A) := by
      rw [em, Int.sub_mul, Int.mul_sub, Int.mul_assoc]
      omega
    rw [e]
    exact Int.dvd_sub h5 (Int.dvd_mul_of_dvd_right h6)
  · rcases h7 with ⟨rfl, rfl⟩ | ⟨rfl, rfl⟩
    · exact .inr ⟨rfl, by rw [Int.natCast_add, Int.natCast_mul, Int.mul_neg, Int.sub_neg]⟩
    · exact .inl ⟨rfl, by rw [Int.natCast_add, Int.natCast_mul, Int.neg_add]; omega⟩
  · have e : r * (d / r) + d % r = d := Nat.div_add_mod d r
    rw [Nat.add_mul]
    have e1 : d / r * U * r + U * (d % r) = U * d := (alg _ _ _ _).trans (by rw [e])
    omega
  · have e : r * (d / r) + d % r = d := Nat.div_add_mod d r
    have e1 : d / r * U * r + U * (d % r) = U * d := (alg _ _ _ _).trans (by rw [e])
    have e2 : (T + d / r * U) * r ≤ B := by rw [Nat.add_mul]; omega
    exact Nat.le_trans (Nat.le_mul_of_pos_right _ hr) e2
theorem big_le {n : Nat} (h : n ≤ 2 ^ 130) : (n : Int) ≤ 2 ^ 250 := by
  have : (n : Int) ≤ ((2 ^ 130 : Nat) : Int) := Int.ofNat_le.mpr h
  exact Int.le_trans this (by decide)
theorem W_common {A B : Nat} (ha : 0 < A) (hb : 0 < B) (ha1 : A ≤ 2 ^ 120) (hb1 : B ≤ 2 ^ 120) {k : Int × Int → Prop}
    (h : ∀ t : Int, (B : Int) ∣ (Nat.gcd A B : Nat) - t * A → -(2 ^ 120) ≤ t ∧ t ≤ 2 ^ 120 → k (((Nat.gcd A B : Nat) : Int), t)) : W_common_share A B k := by
  unfold W_common_share
  refine whW_rule (fun k s => ∃ (d : Nat) (t u : Int), Wk A B d k t u ∧ s = ((d : Int), t, (k : Int), u)) (n := B) ⟨A, 1, 0, Wk.start ha hb, rfl⟩ (fun _ _ _ => trivial) (fun n s nx hJ hc hn => ?_) (fun n s hJ hc => ?_)
  · obtain ⟨d, t, u, hw, rfl⟩ := hJ
    have hk : 0 < n := by
      have := of_decide_eq_true hc
      dsimp only at this
      omega
    obtain ⟨h1, h2, h3, h4, h5, h6, T, U, h7, h8, h9, h10⟩ := id hw
    have p3 : (2 : Nat) ^ 120 + 2 ^ 120 ≤ 2 ^ 130 := by decide
    have e2 : (d : Int) - ((d / n : Nat) : Int) * (n : Int) = ((d % n : Nat) : Int) := by
      have := Nat.div_add_mod d n
      have e : (n : Int) * (d / n : Nat) + (d % n : Nat) = d := by exact_mod_cast this
      rw [Int.mul_comm] at e
      omega
    have q1 : d / n ≤ d := Nat.div_le_self d n
    have b1 : ((d / n : Nat) : Int) ≤ 2 ^ 250 := big_le (by omega)
    have b2 : (n : Int) ≤ 2 ^ 250 := big_le (by omega)
    have b3 : (U : Int) ≤ 2 ^ 250 := big_le (by omega)
    have bu : -(2 ^ 250) ≤ u ∧ u ≤ 2 ^ 250 := by omega
    dsimp only
    refine ⟨cdiv (by omega) b2, fun fits hf => ?_⟩
    have hf' : fits = ((d / n : Nat) : Int) := hf
    subst hf'
    have q0 : (0 : Int) ≤ (d : Int) / (n : Int) := Int.ediv_nonneg (by omega) (by omega)
    have b4 : -(2 ^ 250) ≤ ((d / n : Nat) : Int) := by
      have : (0 : Int) ≤ 2 ^ 250 := by decide
      omega
    have b5 : -(2 ^ 250) ≤ (n : Int) := by
      have : (0 : Int) ≤ 2 ^ 250 := by decide
      omega
    refine ⟨cmul ⟨b4, b1⟩ ⟨b5, b2⟩, fun dv hdv rs hrs => ⟨cmul ⟨b4, b1⟩ bu, fun tm htm rt hrt => ?_⟩⟩
    exact hn (d % n) _ (Nat.mod_lt d hk) ⟨n, u, t - (d / n : Nat) * u, hw.step hk, by rw [hdv, hrs, htm, hrt, ← e2]⟩
  · obtain ⟨d, t, u, hw, rfl⟩ := hJ
    have hk : n = 0 := by
      have := of_decide_eq_false hc
      dsimp only at this
      omega
    subst hk
    obtain ⟨h1, h2, h3, h4, h5, h6, T, U, h7, h8, h9, h10⟩ := hw
    rw [Nat.gcd_zero_right] at h4
    subst h4
    refine h t h5 ?_
    have : (T : Int) ≤ ((2 ^ 120 : Nat) : Int) := Int.ofNat_le.mpr (by omega)
    have e : ((2 ^ 120 : Nat) : Int) = 2 ^ 120 := by decide
    omega
/-- the least number s with: B divides W - s A -/
def IsShare (A B W : Nat) (s : Int) : Prop := 0 ≤ s ∧ s < (B / Nat.gcd A B : Nat) ∧ (B : Int) ∣ W - s * A
theorem share_dvd {A B W : Nat} {s : Int} (h : (B : Int) ∣ W - s * A) : Nat.gcd A B ∣ W := by
  have h1 : ((Nat.gcd A B : Nat) : Int) ∣ B := Int.natCast_dvd_natCast.mpr (Nat.gcd_dvd_right A B)
  have h2 : ((Nat.gcd A B : Nat) : Int) ∣ A := Int.natCast_dvd_natCast.mpr (Nat.gcd_dvd_left A B)
  have h3 : ((Nat.gcd A B : Nat) : Int) ∣ W - s * A + s * A := Int.dvd_add (Int.dvd_trans h1 h) (Int.dvd_mul_of_dvd_right h2)
  rw [Int.sub_add_cancel] at h3
  exact Int.natCast_dvd_natCast.mp h3
/-- it is the least one -/
theorem IsShare.least {A B W : Nat} {s : Int} (ha : 0 < A) (hb : 0 < B) (h : IsShare A B W s) {y : Int} (y0 : 0 ≤ y) (hy : (B : Int) ∣ W - y * A) : s ≤ y := by
  obtain ⟨h0, h1, h2⟩ := h
  have hg : 0 < Nat.gcd A B := Nat.gcd_pos_of_pos_left _ ha
  have e : (B : Int) ∣ (s - y) * A := by
    have : (s - y) * (A : Int) = (W - y * A) - (W - s * A) := by rw [Int.sub_mul]; omega
    rw [this]
    exact Int.dvd_sub hy h2
  have e2 : (B : Int).natAbs ∣ ((s - y) * A).natAbs := Int.natAbs_dvd_natAbs.mpr e
  rw [Int.natAbs_mul, Int.natAbs_natCast, Int.natAbs_natCast] at e2
  have e3 : B / Nat.gcd A B ∣ (s - y).natAbs * (A / Nat.gcd A B) := by
    have hB := Nat.div_mul_cancel (Nat.gcd_dvd_right A B)
    have hA := Nat.div_mul_cancel (Nat.gcd_dvd_left A B)
    have : B / Nat.gcd A B * Nat.gcd A B ∣ (s - y).natAbs * (A / Nat.gcd A B) * Nat.gcd A B := by
      rw [hB, Nat.mul_assoc, hA]; exact e2
    exact Nat.dvd_of_mul_dvd_mul_right hg this
  have cop : Nat.Coprime (B / Nat.gcd A B) (A / Nat.gcd A B) := by
    have := Nat.coprime_div_gcd_div_gcd (m := A) (n := B) hg
    exact this.symm
  have e4 : B / Nat.gcd A B ∣ (s - y).natAbs := cop.dvd_of_dvd_mul_right e3
  rcases Nat.eq_zero_or_pos (s - y).natAbs with hz | hz
  · omega
  · have := Nat.le_of_dvd hz e4
    omega
/-- how often one is at least taken so that other divides the whole less that -/
def F_least_share (one other whole : Int) : Option Int := (rngI 0 other).find? fun s => decide ((whole - s * one) % other = 0)
def D_least_share (one other whole : Int) : Prop := (1 ≤ one ∧ one ≤ 2 ^ 120) ∧ (1 ≤ other ∧ other ≤ 2 ^ 120) ∧ 0 ≤ whole ∧ whole ≤ 2 ^ 120
theorem find_first {p : Int → Bool} {s : Int} : ∀ (n : Nat) (a : Int), a ≤ s → s < a + n → p s = true → (∀ y, a ≤ y → y < s → p y = false) → ((List.range n).map fun (k : Nat) => a + (k : Int)).find? p = some s
  | 0, a, h1, h2, _, _ => by omega
  | n + 1, a, h1, h2, h3, h4 => by
    rw [List.range_succ_eq_map, List.map_cons, List.map_map, List.find?_cons]
    by_cases e : a = s
    · subst e
      rw [show a + ((0 : Nat) : Int) = a by omega, h3]
    · rw [show a + ((0 : Nat) : Int) = a by omega, h4 a (Int.le_refl _) (by omega)]
      have := find_first (p := p) (s := s) n (a + 1) (by omega) (by omega) h3 (fun y h5 h6 => h4 y (by omega) h6)
      rw [← this]
      dsimp only
      congr 1
      refine List.map_congr_left fun k _ => ?_
      show a + ((k + 1 : Nat) : Int) = a + 1 + (k : Int)
      omega
theorem share_some {A B W : Nat} (ha : 0 < A) (hb : 0 < B) {s : Int} (h : IsShare A B W s) : F_least_share A B W = some s := by
  have hs := h
  obtain ⟨h0, h1, h2⟩ := h
  have hg : 0 < Nat.gcd A B := Nat.gcd_pos_of_pos_left _ ha
  have hle : B / Nat.gcd A B ≤ B := Nat.div_le_self _ _
  unfold F_least_share rngI
  refine find_first _ _ h0 (by omega) (decide_eq_true (Int.emod_eq_zero_of_dvd h2)) fun y hy0 hy => decide_eq_false fun hz => ?_
  have := hs.least ha hb hy0 (Int.dvd_of_emod_eq_zero hz)
  omega
theorem share_none {A B W : Nat} (h : ¬ Nat.gcd A B ∣ W) : F_least_share A B W = none := by
  unfold F_least_share
  rw [List.find?_eq_none]
  intro s hs
  rw [decide_eq_true_eq]
  exact fun hz => h (share_dvd (Int.dvd_of_emod_eq_zero hz))
theorem W_least {A B W : Nat} (ha : 0 < A) (hb : 0 < B) (ha1 : A ≤ 2 ^ 120) (hb1 : B ≤ 2 ^ 120) (hw : W ≤ 2 ^ 120) {k : Option Int → Prop}
    (h0 : ¬ Nat.gcd A B ∣ W → k none) (h1 : ∀ s : Int, IsShare A B W s → k (some s)) : W_least_share A B W k := by
  have hg : 0 < Nat.gcd A B := Nat.gcd_pos_of_pos_left _ ha
  have gA := Nat.le_of_dvd ha (Nat.gcd_dvd_left A B)
  have gB := Nat.le_of_dvd hb (Nat.gcd_dvd_right A B)
  unfold W_least_share
  refine W_common ha hb ha1 hb1 fun t ht t0 => ?_
  obtain ⟨A', hA⟩ := Nat.gcd_dvd_left A B
  obtain ⟨B', hB⟩ := Nat.gcd_dvd_right A B
  have hB' : B / Nat.gcd A B = B' := Nat.div_eq_of_eq_mul_right hg hB
  unfold IsShare at h1
  rw [hB'] at h1
  generalize Nat.gcd A B = g at *
  dsimp only
  have bg : (g : Int) ≤ 2 ^ 250 := big_le (Nat.le_trans gA (Nat.le_trans ha1 (Nat.pow_le_pow_right (by decide) (by decide))))
  have ef : (W : Int) % (g : Int) = ((W % g : Nat) : Int) := rfl
  rw [ef]
  refine ⟨by omega, fun hc => h0 fun hd => ?_, fun hc => ?_⟩
  · rw [Nat.mod_eq_zero_of_dvd hd] at hc
    revert hc; decide
  · have hz : W % g = 0 := by
      have := hc
      simp only [Bool.not_eq_false', decide_eq_true_eq] at this
      exact_mod_cast this
    obtain ⟨q, hq⟩ := Nat.dvd_of_mod_eq_zero hz
    have e1 : (W : Int) / (g : Int) = (q : Int) := by
      rw [hq, Int.natCast_mul]; exact Int.mul_ediv_cancel_left _ (by omega)
    have e2 : (B : Int) / (g : Int) = (B' : Int) := by
      rw [hB, Int.natCast_mul]; exact Int.mul_ediv_cancel_left _ (by omega)
    have b0 : 0 < B' := by
      rcases Nat.eq_zero_or_pos B' with h | h
      · rw [h, Nat.mul_zero] at hB; omega
      · exact h
    have q1 : q ≤ W := by rw [hq]; exact Nat.le_mul_of_pos_left _ hg
    have bq : (q : Int) ≤ 2 ^ 250 := big_le (Nat.le_trans q1 (Nat.le_trans hw (Nat.pow_le_pow_right (by decide) (by decide))))
    rw [e1, e2]
    refine ⟨cdiv (by omega) bg, cmul ?_ (by omega), cdiv (by omega) bg, by omega, h1 _ ⟨Int.emod_nonneg _ (by omega), Int.emod_lt_of_pos _ (by omega), ?_⟩⟩
    · have : (2 : Int) ^ 120 ≤ 2 ^ 250 := by decide
      omega
    · have em := Int.emod_def (t * q) B'
      rw [em]
      have e3 : (W : Int) - (t * q - B' * (t * q / B')) * A = q * (g - t * A) + B * ((t * q / B') * A') := by
        rw [hA, hq, hB]
        simp only [Int.natCast_mul, Int.sub_mul, Int.mul_sub]
        generalize (t * q / (B' : Int)) = c
        have x1 : (g : Int) * q = q * g := Int.mul_comm _ _
        have x2 : t * q * ((g : Int) * A') = q * (t * ((g : Int) * A')) := by rw [Int.mul_comm t q, Int.mul_assoc]
        have x3 : (B' : Int) * c * ((g : Int) * A') = g * B' * (c * A') := by
          rw [Int.mul_comm (g : Int) B', Int.mul_assoc, Int.mul_assoc]
          congr 1
          rw [← Int.mul_assoc, ← Int.mul_assoc, Int.mul_comm c g]
        omega
      rw [e3]
      exact Int.dvd_add (Int.dvd_mul_of_dvd_right ht) (Int.dvd_mul_right _ _)
theorem f_least_share (one other whole : Int) (h : D_least_share one other whole) : CB m_least_share [eI one, eI other, eI whole] ((eO eI) (F_least_share one other whole)) := fun P X p => by
  obtain ⟨⟨a1, a2⟩, ⟨b1, b2⟩, w1, w2⟩ := h
  obtain ⟨A, rfl⟩ := Int.eq_ofNat_of_zero_le (show 0 ≤ one by omega)
  obtain ⟨B, rfl⟩ := Int.eq_ofNat_of_zero_le (show 0 ≤ other by omega)
  obtain ⟨W, rfl⟩ := Int.eq_ofNat_of_zero_le w1
  have c : ∀ n : Nat, (n : Int) ≤ 2 ^ 120 → n ≤ 2 ^ 120 := fun n h => by
    have e : ((2 ^ 120 : Nat) : Int) = 2 ^ 120 := by decide
    rw [← e] at h
    exact Int.ofNat_le.mp h
  have ha : 0 < A := by omega
  have hb : 0 < B := by omega
  refine w_least_share (k := fun o => o = F_least_share A B W) (W_least ha hb (c _ a2) (c _ b2) (c _ w2) (fun hn => (share_none hn).symm) fun s hs => (share_some ha hb hs).symm) P X fun v hv => ?_
  rw [hv]; exact p

def F_is_cut (pair : (List (List Int))) (box : (List Int)) (value : (List Int)) : Bool := (if ((!true) || ((!decide ((((value).length : Int) : Int) = 3)) || (!(((value.map (fun x3 : Int => (F_is_int x3)))).all id)))) then false else (if ((!((decide ((0 : Int) ≤ (ix value 0))) && (decide ((ix value 0) ≤ 1)))) || ((!((decide ((0 : Int) ≤ (ix value 1))) && (decide ((ix value 1) < ((box).length : Int))))) || (!((decide ((0 : Int) ≤ (ix value 2))) && (decide ((ix value 2) ≤ (ix box (ix value 1)))))))) then false else ((F_fills_alone (ix pair (ix value 0)) (F_with_side box (ix value 1) (ix value 2))) && (F_fills_alone (ix pair (1 - (ix value 0))) (F_with_side box (ix value 1) ((ix box (ix value 1)) - (ix value 2)))))))
def D_is_cut (pair : (List (List Int))) (box : (List Int)) (value : (List Int)) : Prop := (((!true) = false → (((!decide ((((value).length : Int) : Int) = 3)) = false → ((value).length ≤ 100000)))) ∧ (((!true) || ((!decide ((((value).length : Int) : Int) = 3)) || (!(((value.map (fun x3 : Int => (F_is_int x3)))).all id)))) = false → ((value).length = 3 ∧ ((!((decide ((0 : Int) ≤ (ix value 0))) && (decide ((ix value 0) ≤ 1)))) = false → (((!((decide ((0 : Int) ≤ (ix value 1))) && (decide ((ix value 1) < ((box).length : Int))))) = false → (((decide ((0 : Int) ≤ (ix value 2))) = true → ((0 ≤ ((ix value 1) : Int) ∧ ((ix value 1) : Int) < (box).length))))))) ∧ (((!((decide ((0 : Int) ≤ (ix value 0))) && (decide ((ix value 0) ≤ 1)))) || ((!((decide ((0 : Int) ≤ (ix value 1))) && (decide ((ix value 1) < ((box).length : Int))))) || (!((decide ((0 : Int) ≤ (ix value 2))) && (decide ((ix value 2) ≤ (ix box (ix value 1)))))))) = false → (D_with_side box (ix value 1) (ix value 2) ∧ (0 ≤ ((ix value 1) : Int) ∧ ((ix value 1) : Int) < (box).length) ∧ D_with_side box (ix value 1) ((ix box (ix value 1)) - (ix value 2)) ∧ (0 ≤ ((ix value 0) : Int) ∧ ((ix value 0) : Int) < (pair).length) ∧ D_fills_alone (ix pair (ix value 0)) (F_with_side box (ix value 1) (ix value 2)) ∧ ((F_fills_alone (ix pair (ix value 0)) (F_with_side box (ix value 1) (ix value 2))) = true → ((0 ≤ ((1 - (ix value 0)) : Int) ∧ ((1 - (ix value 0)) : Int) < (pair).length) ∧ D_fills_alone (ix pair (1 - (ix value 0))) (F_with_side box (ix value 1) ((ix box (ix value 1)) - (ix value 2))))))))))
theorem b_is_cut_ok (pair : (List (List Int))) (box : (List Int)) (value : (List Int)) (h : D_is_cut pair box value) (D : DN) (hp : D.rt (eB (F_is_cut pair box value))) : b_is_cut D [some (.dat ((eT (eT eI)) pair)), some (.dat ((eT eI) box)), some (.dat ((eT eI) value)), none, none, none, none, none, none] := by
  unfold b_is_cut
  unfold F_is_cut at hp
  exact (k_if (eb_or (eb_no (eb_t (ev_isi (x := true) (d := ((eT eI) value)) rfl (ev_var rfl)))) (fun h1 => (eb_or (eb_t (ev_op (p_ne cmpI (by decide) ((value).length : Int) 3) (ev_cb (c_lenT eI value) (ea_cons (ev_var rfl) ea_nil)) (ev_c _))) (fun h2 => (eb_no (eb_t (ev_cb (c_allL (value.map (fun x3 : Int => (F_is_int x3)))) (ea_cons (show EV _ _ ((eL eB) (value.map (fun x3 : Int => (F_is_int x3)))) from ev_fr (eo_lc (r := [some (.dat ((eT (eT eI)) pair)), some (.dat ((eT eI) box)), some (.dat ((eT eI) value)), none, none, none, none, none, none]) (vs := [8]) (e := eI) (e' := eB) (f := fun x3 => (F_is_int x3)) (rx := fun x3 => [some (.dat ((eT (eT eI)) pair)), some (.dat ((eT eI) box)), some (.dat ((eT eI) value)), none, none, none, none, none, some (.dat (eI x3))]) (it_T (e := eI) (ev_var rfl)) ⟨trivial, trivial⟩ ((h.1 h1) h2) (fun x3 h4 => (fun P h => h)) (fun x3 h4 => (show EV _ _ (eB (F_is_int x3)) from ev_call (f_is_int x3) (ea_cons (ev_var rfl) ea_nil))))) ea_nil)))))))) (fun h5 => (k_retS (ev_c _) (if_t (e := eB) h5 hp))) (fun h6 => (k_nx (k_asg (r' := [some (.dat ((eT (eT eI)) pair)), some (.dat ((eT eI) box)), some (.dat ((eT eI) value)), some (.dat (eI (ix value 0))), some (.dat (eI (ix value 1))), some (.dat (eI (ix value 2))), none, none, none]) (ev_var rfl) (gv_T3 (e := eI) (h.2 h6).1) (k_if (eb_or (eb_no (eb_t (ev_chain (p_le 0 (ix value 0)) (fun h7 => (p_le (ix value 0) 1)) (ev_c _) (ev_var rfl) (fun h7 => (ev_c _))))) (fun h8 => (eb_or (eb_no (eb_t (ev_chain (p_le 0 (ix value 1)) (fun h9 => (p_lt (ix value 1) ((box).length : Int))) (ev_c _) (ev_var rfl) (fun h9 => (ev_cb (c_lenT eI box) (ea_cons (ev_var rfl) ea_nil)))))) (fun h10 => (eb_no (eb_t (ev_chain (p_le 0 (ix value 2)) (fun h11 => (p_le (ix value 2) (ix box (ix value 1)))) (ev_c _) (ev_var rfl) (fun h11 => (ev_op (p_itT eI box (ix value 1) ((((h.2 h6).2.1 h8) h10) h11)) (ev_var rfl) (ev_var rfl)))))))))) (fun h12 => (k_retS (ev_c _) (if_t (e := eB) h12 (if_f (e := eB) h6 hp)))) (fun h13 => (k_nx (k_asg (r' := [some (.dat ((eT (eT eI)) pair)), some (.dat ((eT eI) box)), some (.dat ((eT eI) value)), some (.dat (eI (ix value 0))), some (.dat (eI (ix value 1))), some (.dat (eI (ix value 2))), some (.dat ((eT eI) (F_with_side box (ix value 1) (ix value 2)))), none, none]) (show EV _ _ ((eT eI) (F_with_side box (ix value 1) (ix value 2))) from ev_call (f_with_side box (ix value 1) (ix value 2) ((h.2 h6).2.2 h13).1) (ea_cons (ev_var rfl) (ea_cons (ev_var rfl) (ea_cons (ev_var rfl) ea_nil)))) (fun P h => h) (k_asg (r' := [some (.dat ((eT (eT eI)) pair)), some (.dat ((eT eI) box)), some (.dat ((eT eI) value)), some (.dat (eI (ix value 0))), some (.dat (eI (ix value 1))), some (.dat (eI (ix value 2))), some (.dat ((eT eI) (F_with_side box (ix value 1) (ix value 2)))), some (.dat ((eT eI) (F_with_side box (ix value 1) ((ix box (ix value 1)) - (ix value 2))))), none]) (show EV _ _ ((eT eI) (F_with_side box (ix value 1) ((ix box (ix value 1)) - (ix value 2)))) from ev_call (f_with_side box (ix value 1) ((ix box (ix value 1)) - (ix value 2)) ((h.2 h6).2.2 h13).2.2.1) (ea_cons (ev_var rfl) (ea_cons (ev_var rfl) (ea_cons (ev_op (p_sub (ix box (ix value 1)) (ix value 2)) (ev_op (p_itT eI box (ix value 1) ((h.2 h6).2.2 h13).2.1) (ev_var rfl) (ev_var rfl)) (ev_var rfl)) ea_nil)))) (fun P h => h) (k_ret (ev_and (show EV _ _ (eB (F_fills_alone (ix pair (ix value 0)) (F_with_side box (ix value 1) (ix value 2)))) from ev_call (f_fills_alone (ix pair (ix value 0)) (F_with_side box (ix value 1) (ix value 2)) ((h.2 h6).2.2 h13).2.2.2.2.1) (ea_cons (ev_op (p_itT (eT eI) pair (ix value 0) ((h.2 h6).2.2 h13).2.2.2.1) (ev_var rfl) (ev_var rfl)) (ea_cons (ev_var rfl) ea_nil))) (fun h14 => (show EV _ _ (eB (F_fills_alone (ix pair (1 - (ix value 0))) (F_with_side box (ix value 1) ((ix box (ix value 1)) - (ix value 2))))) from ev_call (f_fills_alone (ix pair (1 - (ix value 0))) (F_with_side box (ix value 1) ((ix box (ix value 1)) - (ix value 2))) (((h.2 h6).2.2 h13).2.2.2.2.2 h14).2) (ea_cons (ev_op (p_itT (eT eI) pair (1 - (ix value 0)) (((h.2 h6).2.2 h13).2.2.2.2.2 h14).1) (ev_var rfl) (ev_op (p_sub 1 (ix value 0)) (ev_c _) (ev_var rfl))) (ea_cons (ev_var rfl) ea_nil))))) (if_f (e := eB) h13 (if_f (e := eB) h6 hp))))))))))))
theorem f_is_cut (pair : (List (List Int))) (box : (List Int)) (value : (List Int)) (h : D_is_cut pair box value) : CB m_is_cut [((eT (eT eI)) pair), ((eT eI) box), ((eT eI) value)] (eB (F_is_cut pair box value)) := fun P X p => ⟨rfl, b_is_cut_ok pair box value h _ p⟩
def F_runs_across (pair : (List (List Int))) (box : (List Int)) (first : Int) (axis : Int) : (List (Int × Int × Int × Int × Int)) := (if ((F_fills_across (ix pair first) box axis) && (F_fills_across (ix pair (1 - first)) box axis)) then (if ((((F_least_share (ix (ix pair first) axis) (ix (ix pair (1 - first)) axis) (ix box axis))).isNone) || (decide ((ix box axis) < (((F_least_share (ix (ix pair first) axis) (ix (ix pair (1 - first)) axis) (ix box axis)).getD default) * (ix (ix pair first) axis))))) then ([] : (List (Int × Int × Int × Int × Int))) else [(first, axis, (((F_least_share (ix (ix pair first) axis) (ix (ix pair (1 - first)) axis) (ix box axis)).getD default) * (ix (ix pair first) axis)), (((ix (ix pair first) axis) * (ix (ix pair (1 - first)) axis)) / ((Nat.gcd ((ix (ix pair first) axis) : Int).natAbs ((ix (ix pair (1 - first)) axis) : Int).natAbs : Nat) : Int)), ((((ix box axis) - (((F_least_share (ix (ix pair first) axis) (ix (ix pair (1 - first)) axis) (ix box axis)).getD default) * (ix (ix pair first) axis))) / (((ix (ix pair first) axis) * (ix (ix pair (1 - first)) axis)) / ((Nat.gcd ((ix (ix pair first) axis) : Int).natAbs ((ix (ix pair (1 - first)) axis) : Int).natAbs : Nat) : Int))) + 1))]) else ((([0, (ix box axis)].filter (fun x7 : Int => (F_is_cut pair box [first, axis, x7]))).map (fun x7 : Int => x7)).map (fun x10 : Int => (first, axis, x10, 1, 1))))
def D_runs_across (pair : (List (List Int))) (box : (List Int)) (first : Int) (axis : Int) : Prop := ((0 ≤ (first : Int) ∧ (first : Int) < (pair).length) ∧ (0 ≤ ((1 - first) : Int) ∧ ((1 - first) : Int) < (pair).length) ∧ (0 ≤ (axis : Int) ∧ (axis : Int) < (box).length) ∧ D_fills_across (ix pair first) box axis ∧ ((F_fills_across (ix pair first) box axis) = true → (D_fills_across (ix pair (1 - first)) box axis)) ∧ (((F_fills_across (ix pair first) box axis) && (F_fills_across (ix pair (1 - first)) box axis)) = true → ((0 ≤ (axis : Int) ∧ (axis : Int) < ((ix pair first)).length) ∧ (0 ≤ (axis : Int) ∧ (axis : Int) < ((ix pair (1 - first))).length) ∧ D_least_share (ix (ix pair first) axis) (ix (ix pair (1 - first)) axis) (ix box axis) ∧ ((((F_least_share (ix (ix pair first) axis) (ix (ix pair (1 - first)) axis) (ix box axis))).isNone) = false → ((0 ≤ (axis : Int) ∧ (axis : Int) < ((ix pair first)).length) ∧ ((F_least_share (ix (ix pair first) axis) (ix (ix pair (1 - first)) axis) (ix box axis))).isSome = true ∧ CMulW ((F_least_share (ix (ix pair first) axis) (ix (ix pair (1 - first)) axis) (ix box axis)).getD default) (ix (ix pair first) axis))) ∧ (((((F_least_share (ix (ix pair first) axis) (ix (ix pair (1 - first)) axis) (ix box axis))).isNone) || (decide ((ix box axis) < (((F_least_share (ix (ix pair first) axis) (ix (ix pair (1 - first)) axis) (ix box axis)).getD default) * (ix (ix pair first) axis))))) = false → ((0 ≤ (axis : Int) ∧ (axis : Int) < ((ix pair first)).length) ∧ ((F_least_share (ix (ix pair first) axis) (ix (ix pair (1 - first)) axis) (ix box axis))).isSome = true ∧ CMulW ((F_least_share (ix (ix pair first) axis) (ix (ix pair (1 - first)) axis) (ix box axis)).getD default) (ix (ix pair first) axis) ∧ (0 ≤ (axis : Int) ∧ (axis : Int) < ((ix pair first)).length) ∧ (0 ≤ (axis : Int) ∧ (axis : Int) < ((ix pair (1 - first))).length) ∧ CMulW (ix (ix pair first) axis) (ix (ix pair (1 - first)) axis) ∧ (0 ≤ (axis : Int) ∧ (axis : Int) < ((ix pair first)).length) ∧ (0 ≤ (axis : Int) ∧ (axis : Int) < ((ix pair (1 - first))).length) ∧ CDivW ((ix (ix pair first) axis) * (ix (ix pair (1 - first)) axis)) ((Nat.gcd ((ix (ix pair first) axis) : Int).natAbs ((ix (ix pair (1 - first)) axis) : Int).natAbs : Nat) : Int) ∧ CDivW ((ix box axis) - (((F_least_share (ix (ix pair first) axis) (ix (ix pair (1 - first)) axis) (ix box axis)).getD default) * (ix (ix pair first) axis))) (((ix (ix pair first) axis) * (ix (ix pair (1 - first)) axis)) / ((Nat.gcd ((ix (ix pair first) axis) : Int).natAbs ((ix (ix pair (1 - first)) axis) : Int).natAbs : Nat) : Int)))))) ∧ (((F_fills_across (ix pair first) box axis) && (F_fills_across (ix pair (1 - first)) box axis)) = false → ((∀ x7 ∈ [0, (ix box axis)], (D_is_cut pair box [first, axis, x7])) ∧ ((([0, (ix box axis)].filter (fun x7 : Int => (F_is_cut pair box [first, axis, x7]))).map (fun x7 : Int => x7))).length ≤ 100000)))
theorem b_runs_across_ok (pair : (List (List Int))) (box : (List Int)) (first : Int) (axis : Int) (h : D_runs_across pair box first axis) (D : DN) (hp : D.rt ((eL (e5 eI eI eI eI eI)) (F_runs_across pair box first axis))) : b_runs_across D [some (.dat ((eT (eT eI)) pair)), some (.dat ((eT eI) box)), some (.dat (eI first)), some (.dat (eI axis)), none, none, none, none, none, none, none, none] := by
  unfold b_runs_across
  unfold F_runs_across at hp
  exact (k_par (ea_cons (ev_op (p_itT (eT eI) pair first h.1) (ev_var rfl) (ev_var rfl)) (ea_cons (ev_op (p_itT (eT eI) pair (1 - first) h.2.1) (ev_var rfl) (ev_op (p_sub 1 first) (ev_c _) (ev_var rfl))) ea_nil)) (k_asg (r' := [some (.dat ((eT (eT eI)) pair)), some (.dat ((eT eI) box)), some (.dat (eI first)), some (.dat (eI axis)), some (.dat ((eT eI) (ix pair first))), some (.dat ((eT eI) (ix pair (1 - first)))), some (.dat (eI (ix box axis))), none, none, none, none, none]) (ev_op (p_itT eI box axis h.2.2.1) (ev_var rfl) (ev_var rfl)) (fun P h => h) (k_if (eb_and (eb_t (show EV _ _ (eB (F_fills_across (ix pair first) box axis)) from ev_call (f_fills_across (ix pair first) box axis h.2.2.2.1) (ea_cons (ev_var rfl) (ea_cons (ev_var rfl) (ea_cons (ev_var rfl) ea_nil))))) (fun h1 => (eb_t (show EV _ _ (eB (F_fills_across (ix pair (1 - first)) box axis)) from ev_call (f_fills_across (ix pair (1 - first)) box axis (h.2.2.2.2.1 h1)) (ea_cons (ev_var rfl) (ea_cons (ev_var rfl) (ea_cons (ev_var rfl) ea_nil))))))) (fun h2 => (k_assoc (k_asg (r' := [some (.dat ((eT (eT eI)) pair)), some (.dat ((eT eI) box)), some (.dat (eI first)), some (.dat (eI axis)), some (.dat ((eT eI) (ix pair first))), some (.dat ((eT eI) (ix pair (1 - first)))), some (.dat (eI (ix box axis))), some (.dat ((eO eI) (F_least_share (ix (ix pair first) axis) (ix (ix pair (1 - first)) axis) (ix box axis)))), none, none, none, none]) (show EV _ _ ((eO eI) (F_least_share (ix (ix pair first) axis) (ix (ix pair (1 - first)) axis) (ix box axis))) from ev_call (f_least_share (ix (ix pair first) axis) (ix (ix pair (1 - first)) axis) (ix box axis) (h.2.2.2.2.2.1 h2).2.2.1) (ea_cons (ev_op (p_itT eI (ix pair first) axis (h.2.2.2.2.2.1 h2).1) (ev_var rfl) (ev_var rfl)) (ea_cons (ev_op (p_itT eI (ix pair (1 - first)) axis (h.2.2.2.2.2.1 h2).2.1) (ev_var rfl) (ev_var rfl)) (ea_cons (ev_var rfl) ea_nil)))) (fun P h => h) (k_assoc (k_if (eb_or (eb_t (ev_op (p_isNoneO (e := eI) (fun _ => rfl) (F_least_share (ix (ix pair first) axis) (ix (ix pair (1 - first)) axis) (ix box axis))) (ev_var rfl) (ev_c _))) (fun h3 => (eb_t (ev_op (p_gt (((F_least_share (ix (ix pair first) axis) (ix (ix pair (1 - first)) axis) (ix box axis)).getD default) * (ix (ix pair first) axis)) (ix box axis)) (ev_op (p_mul ((F_least_share (ix (ix pair first) axis) (ix (ix pair (1 - first)) axis) (ix box axis)).getD default) (ix (ix pair first) axis) ((h.2.2.2.2.2.1 h2).2.2.2.1 h3).2.2) (ev_un_opt (o := (F_least_share (ix (ix pair first) axis) (ix (ix pair (1 - first)) axis) (ix box axis))) (e := eI) (ev_var rfl) ((h.2.2.2.2.2.1 h2).2.2.2.1 h3).2.1) (ev_op (p_itT eI (ix pair first) axis ((h.2.2.2.2.2.1 h2).2.2.2.1 h3).1) (ev_var rfl) (ev_var rfl))) (ev_var rfl))))) (fun h4 => (k_retS (show EV _ _ ((eL (e5 eI eI eI eI eI)) ([] : (List (Int × Int × Int × Int × Int)))) from ev_lst ea_nil (Nat.le_of_ble_eq_true rfl)) (if_t (e := (eL (e5 eI eI eI eI eI))) h4 (if_t (e := (eL (e5 eI eI eI eI eI))) h2 hp)))) (fun h5 => (k_nx (k_assoc (k_asg (r' := [some (.dat ((eT (eT eI)) pair)), some (.dat ((eT eI) box)), some (.dat (eI first)), some (.dat (eI axis)), some (.dat ((eT eI) (ix pair first))), some (.dat ((eT eI) (ix pair (1 - first)))), some (.dat (eI (ix box axis))), some (.dat ((eO eI) (F_least_share (ix (ix pair first) axis) (ix (ix pair (1 - first)) axis) (ix box axis)))), some (.dat (eI (((F_least_share (ix (ix pair first) axis) (ix (ix pair (1 - first)) axis) (ix box axis)).getD default) * (ix (ix pair first) axis)))), none, none, none]) (ev_op (p_mul ((F_least_share (ix (ix pair first) axis) (ix (ix pair (1 - first)) axis) (ix box axis)).getD default) (ix (ix pair first) axis) ((h.2.2.2.2.2.1 h2).2.2.2.2 h5).2.2.1) (ev_un_opt (o := (F_least_share (ix (ix pair first) axis) (ix (ix pair (1 - first)) axis) (ix box axis))) (e := eI) (ev_var rfl) ((h.2.2.2.2.2.1 h2).2.2.2.2 h5).2.1) (ev_op (p_itT eI (ix pair first) axis ((h.2.2.2.2.2.1 h2).2.2.2.2 h5).1) (ev_var rfl) (ev_var rfl))) (fun P h => h) (k_assoc (k_asg (r' := [some (.dat ((eT (eT eI)) pair)), some (.dat ((eT eI) box)), some (.dat (eI first)), some (.dat (eI axis)), some (.dat ((eT eI) (ix pair first))), some (.dat ((eT eI) (ix pair (1 - first)))), some (.dat (eI (ix box axis))), some (.dat ((eO eI) (F_least_share (ix (ix pair first) axis) (ix (ix pair (1 - first)) axis) (ix box axis)))), some (.dat (eI (((F_least_share (ix (ix pair first) axis) (ix (ix pair (1 - first)) axis) (ix box axis)).getD default) * (ix (ix pair first) axis)))), some (.dat (eI (((ix (ix pair first) axis) * (ix (ix pair (1 - first)) axis)) / ((Nat.gcd ((ix (ix pair first) axis) : Int).natAbs ((ix (ix pair (1 - first)) axis) : Int).natAbs : Nat) : Int)))), none, none]) (ev_op (p_fdiv ((ix (ix pair first) axis) * (ix (ix pair (1 - first)) axis)) ((Nat.gcd ((ix (ix pair first) axis) : Int).natAbs ((ix (ix pair (1 - first)) axis) : Int).natAbs : Nat) : Int) ((h.2.2.2.2.2.1 h2).2.2.2.2 h5).2.2.2.2.2.2.2.2.1) (ev_op (p_mul (ix (ix pair first) axis) (ix (ix pair (1 - first)) axis) ((h.2.2.2.2.2.1 h2).2.2.2.2 h5).2.2.2.2.2.1) (ev_op (p_itT eI (ix pair first) axis ((h.2.2.2.2.2.1 h2).2.2.2.2 h5).2.2.2.1) (ev_var rfl) (ev_var rfl)) (ev_op (p_itT eI (ix pair (1 - first)) axis ((h.2.2.2.2.2.1 h2).2.2.2.2 h5).2.2.2.2.1) (ev_var rfl) (ev_var rfl))) (ev_cb (c_gcd (ix (ix pair first) axis) (ix (ix pair (1 - first)) axis)) (ea_cons (ev_op (p_itT eI (ix pair first) axis ((h.2.2.2.2.2.1 h2).2.2.2.2 h5).2.2.2.2.2.2.1) (ev_var rfl) (ev_var rfl)) (ea_cons (ev_op (p_itT eI (ix pair (1 - first)) axis ((h.2.2.2.2.2.1 h2).2.2.2.2 h5).2.2.2.2.2.2.2.1) (ev_var rfl) (ev_var rfl)) ea_nil)))) (fun P h => h) (k_retS (show EV _ _ ((eL (e5 eI eI eI eI eI)) [(first, axis, (((F_least_share (ix (ix pair first) axis) (ix (ix pair (1 - first)) axis) (ix box axis)).getD default) * (ix (ix pair first) axis)), (((ix (ix pair first) axis) * (ix (ix pair (1 - first)) axis)) / ((Nat.gcd ((ix (ix pair first) axis) : Int).natAbs ((ix (ix pair (1 - first)) axis) : Int).natAbs : Nat) : Int)), ((((ix box axis) - (((F_least_share (ix (ix pair first) axis) (ix (ix pair (1 - first)) axis) (ix box axis)).getD default) * (ix (ix pair first) axis))) / (((ix (ix pair first) axis) * (ix (ix pair (1 - first)) axis)) / ((Nat.gcd ((ix (ix pair first) axis) : Int).natAbs ((ix (ix pair (1 - first)) axis) : Int).natAbs : Nat) : Int))) + 1))]) from ev_lst (ea_cons (show EV _ _ ((e5 eI eI eI eI eI) (first, axis, (((F_least_share (ix (ix pair first) axis) (ix (ix pair (1 - first)) axis) (ix box axis)).getD default) * (ix (ix pair first) axis)), (((ix (ix pair first) axis) * (ix (ix pair (1 - first)) axis)) / ((Nat.gcd ((ix (ix pair first) axis) : Int).natAbs ((ix (ix pair (1 - first)) axis) : Int).natAbs : Nat) : Int)), ((((ix box axis) - (((F_least_share (ix (ix pair first) axis) (ix (ix pair (1 - first)) axis) (ix box axis)).getD default) * (ix (ix pair first) axis))) / (((ix (ix pair first) axis) * (ix (ix pair (1 - first)) axis)) / ((Nat.gcd ((ix (ix pair first) axis) : Int).natAbs ((ix (ix pair (1 - first)) axis) : Int).natAbs : Nat) : Int))) + 1))) from ev_tup (ea_cons (ev_var rfl) (ea_cons (ev_var rfl) (ea_cons (ev_var rfl) (ea_cons (ev_var rfl) (ea_cons (ev_op (p_add (((ix box axis) - (((F_least_share (ix (ix pair first) axis) (ix (ix pair (1 - first)) axis) (ix box axis)).getD default) * (ix (ix pair first) axis))) / (((ix (ix pair first) axis) * (ix (ix pair (1 - first)) axis)) / ((Nat.gcd ((ix (ix pair first) axis) : Int).natAbs ((ix (ix pair (1 - first)) axis) : Int).natAbs : Nat) : Int))) 1) (ev_op (p_fdiv ((ix box axis) - (((F_least_share (ix (ix pair first) axis) (ix (ix pair (1 - first)) axis) (ix box axis)).getD default) * (ix (ix pair first) axis))) (((ix (ix pair first) axis) * (ix (ix pair (1 - first)) axis)) / ((Nat.gcd ((ix (ix pair first) axis) : Int).natAbs ((ix (ix pair (1 - first)) axis) : Int).natAbs : Nat) : Int)) ((h.2.2.2.2.2.1 h2).2.2.2.2 h5).2.2.2.2.2.2.2.2.2) (ev_op (p_sub (ix box axis) (((F_least_share (ix (ix pair first) axis) (ix (ix pair (1 - first)) axis) (ix box axis)).getD default) * (ix (ix pair first) axis))) (ev_var rfl) (ev_var rfl)) (ev_var rfl)) (ev_c _)) ea_nil))))) (Nat.le_of_ble_eq_true rfl)) ea_nil) (Nat.le_of_ble_eq_true rfl)) (if_f (e := (eL (e5 eI eI eI eI eI))) h5 (if_t (e := (eL (e5 eI eI eI eI eI))) h2 hp)))))))))))))) (fun h6 => (k_nx (k_asg (r' := [some (.dat ((eT (eT eI)) pair)), some (.dat ((eT eI) box)), some (.dat (eI first)), some (.dat (eI axis)), some (.dat ((eT eI) (ix pair first))), some (.dat ((eT eI) (ix pair (1 - first)))), some (.dat (eI (ix box axis))), none, none, none, some (.dat ((eL eI) (([0, (ix box axis)].filter (fun x7 : Int => (F_is_cut pair box [first, axis, x7]))).map (fun x7 : Int => x7)))), none]) (show EV _ _ ((eL eI) (([0, (ix box axis)].filter (fun x7 : Int => (F_is_cut pair box [first, axis, x7]))).map (fun x7 : Int => x7))) from ev_fr (eo_lcI (r := [some (.dat ((eT (eT eI)) pair)), some (.dat ((eT eI) box)), some (.dat (eI first)), some (.dat (eI axis)), some (.dat ((eT eI) (ix pair first))), some (.dat ((eT eI) (ix pair (1 - first)))), some (.dat (eI (ix box axis))), none, none, none, none, none]) (vs := [11]) (e := eI) (e' := eI) (f := fun x7 => x7) (rx := fun x7 => [some (.dat ((eT (eT eI)) pair)), some (.dat ((eT eI) box)), some (.dat (eI first)), some (.dat (eI axis)), some (.dat ((eT eI) (ix pair first))), some (.dat ((eT eI) (ix pair (1 - first)))), some (.dat (eI (ix box axis))), none, none, none, none, some (.dat (eI x7))]) (c := fun x7 => (F_is_cut pair box [first, axis, x7])) (it_T (e := eI) (show EV _ _ ((eT eI) [0, (ix box axis)]) from ev_tup (ea_cons (ev_c _) (ea_cons (ev_var rfl) ea_nil)) (Nat.le_of_ble_eq_true rfl))) ⟨trivial, trivial⟩ (Nat.le_of_ble_eq_true rfl) (fun x7 h8 => (fun P h => h)) (fun x7 h8 => (eb_t (show EV _ _ (eB (F_is_cut pair box [first, axis, x7])) from ev_call (f_is_cut pair box [first, axis, x7] ((h.2.2.2.2.2.2 h6).1 x7 h8)) (ea_cons (ev_var rfl) (ea_cons (ev_var rfl) (ea_cons (show EV _ _ ((eT eI) [first, axis, x7]) from ev_tup (ea_cons (ev_var rfl) (ea_cons (ev_var rfl) (ea_cons (ev_var rfl) ea_nil))) (Nat.le_of_ble_eq_true rfl)) ea_nil)))))) (fun x7 h8 h9 => (ev_var rfl)))) (fun P h => h) (k_ret (show EV _ _ ((eL (e5 eI eI eI eI eI)) ((([0, (ix box axis)].filter (fun x7 : Int => (F_is_cut pair box [first, axis, x7]))).map (fun x7 : Int => x7)).map (fun x10 : Int => (first, axis, x10, 1, 1)))) from ev_fr (eo_lc (r := [some (.dat ((eT (eT eI)) pair)), some (.dat ((eT eI) box)), some (.dat (eI first)), some (.dat (eI axis)), some (.dat ((eT eI) (ix pair first))), some (.dat ((eT eI) (ix pair (1 - first)))), some (.dat (eI (ix box axis))), none, none, none, some (.dat ((eL eI) (([0, (ix box axis)].filter (fun x7 : Int => (F_is_cut pair box [first, axis, x7]))).map (fun x7 : Int => x7)))), none]) (vs := [11]) (e := eI) (e' := (e5 eI eI eI eI eI)) (f := fun x10 => (first, axis, x10, 1, 1)) (rx := fun x10 => [some (.dat ((eT (eT eI)) pair)), some (.dat ((eT eI) box)), some (.dat (eI first)), some (.dat (eI axis)), some (.dat ((eT eI) (ix pair first))), some (.dat ((eT eI) (ix pair (1 - first)))), some (.dat (eI (ix box axis))), none, none, none, some (.dat ((eL eI) (([0, (ix box axis)].filter (fun x7 : Int => (F_is_cut pair box [first, axis, x7]))).map (fun x7 : Int => x7)))), some (.dat (eI x10))]) (it_L (e := eI) (ev_var rfl)) ⟨trivial, trivial⟩ (h.2.2.2.2.2.2 h6).2 (fun x10 h11 => (fun P h => h)) (fun x10 h11 => (show EV _ _ ((e5 eI eI eI eI eI) (first, axis, x10, 1, 1)) from ev_tup (ea_cons (ev_var rfl) (ea_cons (ev_var rfl) (ea_cons (ev_var rfl) (ea_cons (ev_c _) (ea_cons (ev_c _) ea_nil))))) (Nat.le_of_ble_eq_true rfl))))) (if_f (e := (eL (e5 eI eI eI eI eI))) h6 hp))))))))
theorem f_runs_across (pair : (List (List Int))) (box : (List Int)) (first : Int) (axis : Int) (h : D_runs_across pair box first axis) : CB m_runs_across [((eT (eT eI)) pair), ((eT eI) box), (eI first), (eI axis)] ((eL (e5 eI eI eI eI eI)) (F_runs_across pair box first axis)) := fun P X p => ⟨rfl, b_runs_across_ok pair box first axis h _ p⟩
def F_cut_runs (pair : (List (List Int))) (box : (List Int)) : (List (Int × Int × Int × Int × Int)) := ([0, 1].flatMap (fun x3 => (rngI 0 ((box).length : Int)).flatMap (fun y4 => (F_runs_across pair box x3 y4).map (fun z5 => z5))))
def D_cut_runs (pair : (List (List Int))) (box : (List Int)) : Prop := ((∀ x3 ∈ [0, 1], ((-(2 ^ 62) ≤ (((box).length : Int) : Int) ∧ (((box).length : Int) : Int) < 2 ^ 62) ∧ (∀ y4 ∈ (rngI 0 ((box).length : Int)), (D_runs_across pair box x3 y4)))) ∧ ([0, 1].map (fun x3 => (((rngI 0 ((box).length : Int))).map (fun y4 => ((F_runs_across pair box x3 y4)).length)).sum)).sum ≤ 100000)
theorem b_cut_runs_ok (pair : (List (List Int))) (box : (List Int)) (h : D_cut_runs pair box) (D : DN) (hp : D.rt ((eL (e5 eI eI eI eI eI)) (F_cut_runs pair box))) : b_cut_runs D [some (.dat ((eT (eT eI)) pair)), some (.dat ((eT eI) box)), none, none, none] := by
  unfold b_cut_runs
  unfold F_cut_runs at hp
  exact (k_ret (show EV _ _ ((eL (e5 eI eI eI eI eI)) ([0, 1].flatMap (fun x3 => (rngI 0 ((box).length : Int)).flatMap (fun y4 => (F_runs_across pair box x3 y4).map (fun z5 => z5))))) from ev_fr (eo_lc3 (r := [some (.dat ((eT (eT eI)) pair)), some (.dat ((eT eI) box)), none, none, none]) (vs := [2, 3, 4]) (vs2 := [3, 4]) (vs3 := [4]) (e := eI) (e' := eI) (e'' := (e5 eI eI eI eI eI)) (e3 := (e5 eI eI eI eI eI)) (ys := fun x3 => (rngI 0 ((box).length : Int))) (zs := fun x3 y4 => (F_runs_across pair box x3 y4)) (f := fun x3 y4 z5 => z5) (rx := fun x3 => [some (.dat ((eT (eT eI)) pair)), some (.dat ((eT eI) box)), some (.dat (eI x3)), none, none]) (ry := fun x3 y4 => [some (.dat ((eT (eT eI)) pair)), some (.dat ((eT eI) box)), some (.dat (eI x3)), some (.dat (eI y4)), none]) (rz := fun x3 y4 z5 => [some (.dat ((eT (eT eI)) pair)), some (.dat ((eT eI) box)), some (.dat (eI x3)), some (.dat (eI y4)), some (.dat ((e5 eI eI eI eI eI) z5))]) (it_T (e := eI) (show EV _ _ ((eT eI) [0, 1]) from ev_tup (ea_cons (ev_c _) (ea_cons (ev_c _) ea_nil)) (Nat.le_of_ble_eq_true rfl))) ⟨trivial, trivial, trivial, trivial⟩ h.2 (fun x3 h6 => (fun P h => h)) (fun x3 h6 => (it_r1 (ev_cb (c_lenT eI box) (ea_cons (ev_var rfl) ea_nil)) (h.1 x3 h6).1)) (fun x3 h6 => ⟨trivial, trivial, trivial⟩) (fun x3 h6 y4 h7 => (fun P h => h)) (fun x3 h6 y4 h7 => (it_L (e := (e5 eI eI eI eI eI)) (show EV _ _ ((eL (e5 eI eI eI eI eI)) (F_runs_across pair box x3 y4)) from ev_call (f_runs_across pair box x3 y4 ((h.1 x3 h6).2 y4 h7)) (ea_cons (ev_var rfl) (ea_cons (ev_var rfl) (ea_cons (ev_var rfl) (ea_cons (ev_var rfl) ea_nil))))))) (fun x3 h6 y4 h7 => ⟨trivial, trivial⟩) (fun x3 h6 y4 h7 z5 h8 => (fun P h => h)) (fun x3 h6 y4 h7 z5 h8 => (ev_var rfl)))) hp)
theorem f_cut_runs (pair : (List (List Int))) (box : (List Int)) (h : D_cut_runs pair box) : CB m_cut_runs [((eT (eT eI)) pair), ((eT eI) box)] ((eL (e5 eI eI eI eI eI)) (F_cut_runs pair box)) := fun P X p => ⟨rfl, b_cut_runs_ok pair box h _ p⟩
def F_is_filled (pair : (List (List Int))) (box : (List Int)) : Bool := (decide (0 < (((F_cut_runs pair box)).length : Int)))
def D_is_filled (pair : (List (List Int))) (box : (List Int)) : Prop := (D_cut_runs pair box)
theorem b_is_filled_ok (pair : (List (List Int))) (box : (List Int)) (h : D_is_filled pair box) (D : DN) (hp : D.rt (eB (F_is_filled pair box))) : b_is_filled D [some (.dat ((eT (eT eI)) pair)), some (.dat ((eT eI) box))] := by
  unfold b_is_filled
  unfold F_is_filled at hp
  exact (k_ret (ev_op (p_gt (((F_cut_runs pair box)).length : Int) 0) (ev_cb (c_lenL (e5 eI eI eI eI eI) (F_cut_runs pair box)) (ea_cons (show EV _ _ ((eL (e5 eI eI eI eI eI)) (F_cut_runs pair box)) from ev_call (f_cut_runs pair box h) (ea_cons (ev_var rfl) (ea_cons (ev_var rfl) ea_nil))) ea_nil)) (ev_c _)) hp)
theorem f_is_filled (pair : (List (List Int))) (box : (List Int)) (h : D_is_filled pair box) : CB m_is_filled [((eT (eT eI)) pair), ((eT eI) box)] (eB (F_is_filled pair box)) := fun P X p => ⟨rfl, b_is_filled_ok pair box h _ p⟩

end TW
set_option Elab.async false
set_option linter.all false
set_option maxRecDepth 100000
namespace TW
open PySem PySem.Spec PyProof.Rows L2 MI GE TY
/-- sides: so many numbers from 1 to m -/
structure SL (n : Nat) (m : Int) (l : List Int) : Prop where
  len : l.length = n
  all : ∀ x ∈ l, 1 ≤ x ∧ x ≤ m
theorem SL.mono {n : Nat} {m m' : Int} {l : List Int} (h : SL n m l) (hm : m ≤ m') : SL n m' l := ⟨h.len, fun x hx => ⟨(h.all x hx).1, Int.le_trans (h.all x hx).2 hm⟩⟩
theorem ix_nat {α : Type} [Inhabited α] (l : List α) (i : Nat) : ix l (i : Int) = l.getD i default := by unfold ix; rw [Int.toNat_natCast]
@[simp] theorem ix0 {α : Type} [Inhabited α] (a : α) (l : List α) : ix (a :: l) 0 = a := rfl
@[simp] theorem ix1 {α : Type} [Inhabited α] (a b : α) (l : List α) : ix (a :: b :: l) 1 = b := rfl
@[simp] theorem ix2 {α : Type} [Inhabited α] (a b c : α) (l : List α) : ix (a :: b :: c :: l) 2 = c := rfl
@[simp] theorem ix3 {α : Type} [Inhabited α] (a b c d : α) (l : List α) : ix (a :: b :: c :: d :: l) 3 = d := rfl
/-- the number at a place -/
abbrev gt (l : List Int) (i : Nat) : Int := l.getD i 0
theorem ixg (l : List Int) (i : Nat) : ix l (i : Int) = gt l i := ix_nat l i
theorem gt_some {l : List Int} {i : Nat} (h : i < l.length) : l[i]? = some (gt l i) := by
  rw [gt, List.getD_eq_getElem?_getD, List.getElem?_eq_getElem h]; rfl
theorem gt_mem {l : List Int} {i : Nat} (h : i < l.length) : gt l i ∈ l := List.mem_of_getElem? (gt_some h)
theorem SL.at {n : Nat} {m : Int} {l : List Int} (h : SL n m l) {i : Nat} (hi : i < n) : 1 ≤ gt l i ∧ gt l i ≤ m := h.all _ (gt_mem (by rw [h.len]; exact hi))
theorem gt_set {l : List Int} {i : Nat} (v : Int) (h : i < l.length) (j : Nat) : gt (l.set i v) j = if j = i then v else gt l j := by
  rw [gt, gt, List.getD_eq_getElem?_getD, List.getD_eq_getElem?_getD, List.getElem?_set]
  by_cases e : i = j
  · subst e; rw [if_pos rfl, if_pos rfl, if_pos h]; rfl
  · rw [if_neg e, if_neg fun z => e z.symm]
theorem SL.set {n : Nat} {m : Int} {l : List Int} (h : SL n m l) (i : Nat) {v : Int} (hv : 1 ≤ v ∧ v ≤ m) : SL n m (l.set i v) := ⟨by rw [List.length_set]; exact h.len, fun x hx => by
  rcases List.mem_or_eq_of_mem_set hx with hx | rfl
  · exact h.all x hx
  · exact hv⟩
theorem SL_ext {n : Nat} {l k : List Int} (h1 : l.length = n) (h2 : k.length = n) (h : ∀ i < n, gt l i = gt k i) : l = k := by
  apply List.ext_getElem?
  intro i
  by_cases hi : i < n
  · rw [gt_some (by omega), gt_some (by omega), h i hi]
  · rw [List.getElem?_eq_none (by omega), List.getElem?_eq_none (by omega)]
/-! ### with_side -/
theorem with_set {l : List Int} {i : Nat} (v : Int) (h : i < l.length) : F_with_side l (i : Int) v = l.set i v := by
  unfold F_with_side
  rw [Int.toNat_natCast, show ((i : Int) + 1).toNat = i + 1 by omega, List.set_eq_take_append_cons_drop, if_pos h, List.append_assoc]; rfl
theorem D_with {l : List Int} {i : Nat} (v : Int) (h : i < l.length) (hl : l.length ≤ 1000) : D_with_side l (i : Int) v := by
  unfold D_with_side
  refine ⟨by omega, ?_, by omega, ?_⟩
  · rw [List.length_take]; simp only [List.length_cons, List.length_nil]; omega
  · rw [List.length_append, List.length_take, List.length_drop]; simp only [List.length_cons, List.length_nil]; omega
/-! ### one kind alone -/
/-- each side is a multiple of the brick's -/
def Dv (n : Nat) (b l : List Int) : Prop := ∀ i < n, gt b i ∣ gt l i
/-- along each axis but one -/
def Ac (n : Nat) (b l : List Int) (k : Nat) : Prop := ∀ i < n, i ≠ k → gt b i ∣ gt l i
instance (n : Nat) (b l : List Int) : Decidable (Dv n b l) := Nat.decidableBallLT n _
instance (n : Nat) (b l : List Int) (k : Nat) : Decidable (Ac n b l k) := Nat.decidableBallLT n _
theorem zip_all {b l : List Int} {n : Nat} (hb : b.length = n) (hl : l.length = n) : (((List.zip b l).map fun x => decide ((x.2 % x.1 : Int) = 0)).all id) = decide (Dv n b l) := by
  rw [List.all_map]
  rw [Bool.eq_iff_iff, List.all_eq_true, decide_eq_true_eq]
  constructor
  · intro h i hi
    have hz : (List.zip b l)[i]? = some (gt b i, gt l i) := by rw [List.getElem?_zip_eq_some]; exact ⟨gt_some (by omega), gt_some (by omega)⟩
    have := h _ (List.mem_of_getElem? hz)
    simp only [Function.comp, id, decide_eq_true_eq] at this
    exact Int.dvd_of_emod_eq_zero this
  · intro h x hx
    obtain ⟨i, hi⟩ := List.getElem?_of_mem hx
    rw [List.getElem?_zip_eq_some] at hi
    obtain ⟨h1, h2⟩ := hi
    have hi' := (List.getElem?_eq_some_iff.mp h1).1
    rw [gt_some hi'] at h1
    rw [gt_some (by omega)] at h2
    have := h i (by omega)
    simp only [Function.comp, id, decide_eq_true_eq]
    rw [← Option.some.inj h1, ← Option.some.inj h2]
    exact Int.emod_eq_zero_of_dvd this
theorem fa_eq {b l : List Int} {n : Nat} (hb : b.length = n) (hl : l.length = n) : F_fills_alone b l = (decide (0 ∈ l) || decide (Dv n b l)) := by
  unfold F_fills_alone
  rw [zip_all hb hl]
theorem fa_pos {b l : List Int} {n : Nat} {m : Int} (hb : b.length = n) (hl : SL n m l) : F_fills_alone b l = decide (Dv n b l) := by
  rw [fa_eq hb hl.len, decide_eq_false (fun h => by have := (hl.all 0 h).1; omega), Bool.false_or]
theorem D_fa {b l : List Int} {n : Nat} {m : Int} (hb : SL n m b) (hl : l.length = n) (hn : n ≤ 1000) : D_fills_alone b l := by
  unfold D_fills_alone
  refine fun _ => ⟨by rw [List.length_zip, hb.len, hl]; omega, fun x hx => ?_⟩
  have := List.of_mem_zip (a := x.1) (b := x.2) hx
  have := hb.all _ this.1
  omega
theorem Dv_set {b l : List Int} {n k : Nat} (hb : b.length = n) (hl : l.length = n) (hk : k < n) : Dv n b (l.set k (gt b k)) ↔ Ac n b l k := by
  constructor
  · intro h i hi hik
    have := h i hi
    rw [gt_set _ (by omega), if_neg hik] at this
    exact this
  · intro h i hi
    rw [gt_set _ (by omega)]
    by_cases e : i = k
    · rw [if_pos e, e]; exact Int.dvd_refl _
    · rw [if_neg e]; exact h i hi e
theorem fac_eq {b l : List Int} {n k : Nat} {m m' : Int} (hb : SL n m b) (hl : SL n m' l) (hk : k < n) : F_fills_across b l (k : Int) = decide (Ac n b l k) := by
  unfold F_fills_across
  rw [ixg, with_set _ (by rw [hl.len]; exact hk)]
  have hbk := hb.at hk
  have hs : SL n (max m m') (l.set k (gt b k)) := (hl.mono (by omega)).set k (by omega)
  rw [fa_pos hb.len hs]
  exact decide_eq_decide.mpr (Dv_set hb.len hl.len hk)
theorem D_fac {b l : List Int} {n k : Nat} {m m' : Int} (hb : SL n m b) (hl : SL n m' l) (hk : k < n) (hn : n ≤ 1000) : D_fills_across b l (k : Int) := by
  unfold D_fills_across
  refine ⟨by rw [hb.len]; omega, D_with _ (by rw [hl.len]; exact hk) (by rw [hl.len]; exact hn), ?_⟩
  rw [with_set _ (by rw [hl.len]; exact hk)]
  exact D_fa hb (by rw [List.length_set]; exact hl.len) hn
/-! ### cuts at the ends -/
/-- a pair and a box -/
structure PB (n : Nat) (m m' : Int) (p q l : List Int) : Prop where
  n1 : 1 ≤ n ∧ n ≤ 100
  one : SL n m p
  two : SL n m q
  box : SL n m' l
  hm : m ≤ 2 ^ 120
  hm' : m' ≤ 2 ^ 120
theorem PB.swap {n : Nat} {m m' : Int} {p q l : List Int} (h : PB n m m' p q l) : PB n m m' q p l := ⟨h.n1, h.two, h.one, h.box, h.hm, h.hm'⟩
theorem set_self_gt {l : List Int} {k : Nat} (h : k < l.length) : l.set k (gt l k) = l := by
  apply List.ext_getElem?
  intro i
  rw [List.getElem?_set]
  by_cases e : k = i
  · subst e; rw [if_pos rfl, if_pos h, gt_some h]
  · rw [if_neg e]
theorem zero_mem {l : List Int} {k : Nat} (h : k < l.length) : (0 : Int) ∈ l.set k 0 := List.mem_iff_getElem?.mpr ⟨k, by rw [List.getElem?_set, if_pos rfl, if_pos h]⟩
section
variable {n : Nat} {m m' : Int} {p q l : List Int}
/-- the first one of the pair, the other one -/
def fst (p q : List Int) (f : Int) : List Int := if f = 0 then p else q
theorem pr_at {f : Int} (hf : f = 0 ∨ f = 1) : ix [p, q] f = fst p q f ∧ ix [p, q] (1 - f) = fst q p f := by
  rcases hf with rfl | rfl
  · exact ⟨rfl, rfl⟩
  · exact ⟨rfl, rfl⟩
theorem PB.fst {f : Int} (h : PB n m m' p q l) : PB n m m' (TW.fst p q f) (TW.fst q p f) l := by
  unfold TW.fst
  by_cases e : f = 0
  · rw [if_pos e, if_pos e]; exact h
  · rw [if_neg e, if_neg e]; exact h.swap
theorem isint (v : List Int) : (v.map fun x => F_is_int x).all id = true := by
  rw [List.all_map, List.all_eq_true]
  intro x _; rfl
theorem cut_eq {f a t : Int} (hf : f = 0 ∨ f = 1) {k : Nat} (hk : k < n) (ha : a = k) (h : PB n m m' p q l) (ht : 0 ≤ t ∧ t ≤ gt l k) :
    F_is_cut [p, q] l [f, a, t] = (F_fills_alone (fst p q f) (l.set k t) && F_fills_alone (fst q p f) (l.set k (gt l k - t))) := by
  subst ha
  have hkl : k < l.length := by rw [h.box.len]; exact hk
  unfold F_is_cut
  rw [ix0, ix1, ix2, isint, ixg]
  have e1 : (decide ((0 : Int) ≤ f) && decide (f ≤ 1)) = true := by rcases hf with rfl | rfl <;> rfl
  have e2 : (decide ((0 : Int) ≤ (k : Int)) && decide ((k : Int) < (l.length : Int))) = true := Bool.and_eq_true_iff.mpr ⟨decide_eq_true (by omega), decide_eq_true (by omega)⟩
  have e3 : (decide ((0 : Int) ≤ t) && decide (t ≤ gt l k)) = true := Bool.and_eq_true_iff.mpr ⟨decide_eq_true ht.1, decide_eq_true ht.2⟩
  rw [e1, e2, e3, with_set _ hkl, with_set _ hkl, (pr_at hf).1, (pr_at hf).2]
  rfl
theorem D_cut {f a t : Int} (hf : f = 0 ∨ f = 1) {k : Nat} (hk : k < n) (ha : a = k) (h : PB n m m' p q l) : D_is_cut [p, q] l [f, a, t] := by
  subst ha
  have hkl : k < l.length := by rw [h.box.len]; exact hk
  have hn := h.n1
  have hl := h.box.len
  unfold D_is_cut
  refine ⟨fun _ _ => Nat.le_of_ble_eq_true rfl, fun _ => ⟨rfl, fun _ _ _ => ?_, fun hc => ?_⟩⟩
  · rw [ix1]; omega
  · rw [ix0, ix1, ix2, ixg, with_set _ hkl, with_set _ hkl, (pr_at hf).1, (pr_at hf).2]
    have e0 : (0 ≤ f ∧ f < (([p, q] : List (List Int)).length : Int)) ∧ (0 ≤ 1 - f ∧ 1 - f < (([p, q] : List (List Int)).length : Int)) := by
      rw [show (([p, q] : List (List Int)).length : Int) = 2 from rfl]; omega
    refine ⟨D_with _ hkl (by omega), by omega, D_with _ hkl (by omega), e0.1, ?_, fun _ => ⟨e0.2, ?_⟩⟩
    · exact D_fa h.fst.one (by rw [List.length_set]; exact hl) (by omega)
    · exact D_fa h.fst.two (by rw [List.length_set]; exact hl) (by omega)
theorem fa_zero {b : List Int} {k : Nat} (hb : b.length = n) (hl : l.length = n) (hk : k < n) : F_fills_alone b (l.set k 0) = true := by
  rw [fa_eq hb (by rw [List.length_set]; exact hl), decide_eq_true (zero_mem (by omega))]; rfl
theorem cut_at0 {f : Int} (hf : f = 0 ∨ f = 1) {k : Nat} (hk : k < n) (h : PB n m m' p q l) : F_is_cut [p, q] l [f, k, 0] = decide (Dv n (fst q p f) l) := by
  have hl := h.box.at hk
  rw [cut_eq hf hk rfl h ⟨Int.le_refl _, by omega⟩, fa_zero h.fst.one.len h.box.len hk, Int.sub_zero, set_self_gt (by rw [h.box.len]; exact hk), fa_pos h.fst.two.len h.box, Bool.true_and]
theorem cut_at1 {f : Int} (hf : f = 0 ∨ f = 1) {k : Nat} (hk : k < n) (h : PB n m m' p q l) : F_is_cut [p, q] l [f, k, gt l k] = decide (Dv n (fst p q f) l) := by
  have hl := h.box.at hk
  rw [cut_eq hf hk rfl h ⟨by omega, Int.le_refl _⟩, Int.sub_self, fa_zero h.fst.two.len h.box.len hk, set_self_gt (by rw [h.box.len]; exact hk), fa_pos h.fst.one.len h.box, Bool.and_true]
/-! ### sums -/
def Sum2 (a b w : Int) : Prop := ∃ x y : Nat, w = x * a + y * b
theorem Sum2.swap {a b w : Int} (h : Sum2 a b w) : Sum2 b a w := by
  obtain ⟨x, y, h⟩ := h
  exact ⟨y, x, by omega⟩
theorem share_sum {a b w : Int} (ha : 1 ≤ a) (hb : 1 ≤ b) (hw : 0 ≤ w) : Sum2 a b w ↔ ∃ s, F_least_share a b w = some s ∧ s * a ≤ w := by
  obtain ⟨A, rfl⟩ := Int.eq_ofNat_of_zero_le (show 0 ≤ a by omega)
  obtain ⟨B, rfl⟩ := Int.eq_ofNat_of_zero_le (show 0 ≤ b by omega)
  obtain ⟨W, rfl⟩ := Int.eq_ofNat_of_zero_le hw
  have ha' : 0 < A := by omega
  have hb' : 0 < B := by omega
  constructor
  · rintro ⟨x, y, h⟩
    have hd : (B : Int) ∣ W - x * A := ⟨y, by rw [h, Int.mul_comm (B : Int)]; omega⟩
    -- the least share is at most x
    have hg : 0 < Nat.gcd A B := Nat.gcd_pos_of_pos_left _ ha'
    obtain ⟨A', hA⟩ := Nat.gcd_dvd_left A B
    obtain ⟨B', hB⟩ := Nat.gcd_dvd_right A B
    have hB' : B / Nat.gcd A B = B' := Nat.div_eq_of_eq_mul_right hg hB
    have b0 : 0 < B' := by
      rcases Nat.eq_zero_or_pos B' with h | h
      · rw [h, Nat.mul_zero] at hB; omega
      · exact h
    have hs : IsShare A B W ((x % B' : Nat) : Int) := by
      refine ⟨Int.natCast_nonneg _, by rw [hB']; exact Int.ofNat_lt.mpr (Nat.mod_lt _ b0), ?_⟩
      generalize Nat.gcd A B = g at *
      have e := Nat.div_add_mod x B'
      have e2 : (W : Int) - ((x % B' : Nat) : Int) * A = (W - x * A) + B * ((x / B' : Nat) * A') := by
        have e3 : (x : Int) = B' * (x / B' : Nat) + (x % B' : Nat) := by exact_mod_cast e.symm
        rw [e3, hA, hB]
        simp only [Int.natCast_mul, Int.add_mul]
        generalize ((x / B' : Nat) : Int) = c
        have : (B' : Int) * c * ((g : Int) * A') = g * B' * (c * A') := by
          rw [Int.mul_comm (g : Int) B', Int.mul_assoc, Int.mul_assoc]
          congr 1
          rw [← Int.mul_assoc, ← Int.mul_assoc, Int.mul_comm c g]
        omega
      rw [e2]
      exact Int.dvd_add hd (Int.dvd_mul_right _ _)
    refine ⟨_, share_some ha' hb' hs, ?_⟩
    have h1 : ((x % B' : Nat) : Int) * A ≤ (x : Int) * A := Int.mul_le_mul_of_nonneg_right (Int.ofNat_le.mpr (Nat.mod_le _ _)) (by omega)
    have h2 : (0 : Int) ≤ (y : Int) * B := Int.mul_nonneg (by omega) (by omega)
    omega
  · rintro ⟨s, hs, hle⟩
    have h1 := List.find?_some hs
    have h0 := mem_rngI.mp (List.mem_of_find?_eq_some hs)
    have hd := Int.dvd_of_emod_eq_zero (of_decide_eq_true h1)
    obtain ⟨c, hc⟩ := hd
    have hc0 : 0 ≤ c := by
      rcases Int.lt_or_le c 0 with h | h
      · have : (B : Int) * c ≤ (B : Int) * (-1) := Int.mul_le_mul_of_nonneg_left (by omega) (by omega)
        omega
      · exact h
    refine ⟨s.toNat, c.toNat, ?_⟩
    rw [Int.toNat_of_nonneg h0.1, Int.toNat_of_nonneg hc0, Int.mul_comm c]
    omega
theorem share_rng {a b w s : Int} (h : F_least_share a b w = some s) : 0 ≤ s ∧ s < b := mem_rngI.mp (List.mem_of_find?_eq_some h)
/-! ### runs -/
/-- what runs_across tells -/
theorem runs_eq {f : Int} (hf : f = 0 ∨ f = 1) {k : Nat} (hk : k < n) (h : PB n m m' p q l) : F_runs_across [p, q] l f (k : Int) =
    if Ac n (fst p q f) l k ∧ Ac n (fst q p f) l k then
      match F_least_share (gt (fst p q f) k) (gt (fst q p f) k) (gt l k) with
      | none => []
      | some s => if gt l k < s * gt (fst p q f) k then [] else
        [(f, (k : Int), s * gt (fst p q f) k, gt (fst p q f) k * gt (fst q p f) k / (Nat.gcd (gt (fst p q f) k).natAbs (gt (fst q p f) k).natAbs : Nat), (gt l k - s * gt (fst p q f) k) / (gt (fst p q f) k * gt (fst q p f) k / (Nat.gcd (gt (fst p q f) k).natAbs (gt (fst q p f) k).natAbs : Nat)) + 1)]
    else ([0, gt l k].filter fun x => F_is_cut [p, q] l [f, (k : Int), x]).map fun x => (f, (k : Int), x, 1, 1) := by
  unfold F_runs_across
  rw [(pr_at hf).1, (pr_at hf).2, fac_eq h.fst.one h.box hk, fac_eq h.fst.two h.box hk, ixg, ixg, ixg]
  by_cases hA : Ac n (fst p q f) l k ∧ Ac n (fst q p f) l k
  · rw [if_pos hA, if_pos (by rw [decide_eq_true hA.1, decide_eq_true hA.2]; rfl)]
    cases hs : F_least_share (gt (fst p q f) k) (gt (fst q p f) k) (gt l k) with
    | none => rfl
    | some s =>
      by_cases hc : gt l k < s * gt (fst p q f) k
      · rw [if_pos (show ((some s).isNone || decide (gt l k < (some s).getD default * gt (fst p q f) k)) = true from decide_eq_true hc)]
        dsimp only
        rw [if_pos hc]
      · rw [if_neg (show ¬ ((some s).isNone || decide (gt l k < (some s).getD default * gt (fst p q f) k)) = true from fun z => hc (of_decide_eq_true z))]
        dsimp only
        rw [if_neg hc]; rfl
  · rw [if_neg hA, if_neg (by
      rw [Bool.and_eq_true, decide_eq_true_eq, decide_eq_true_eq]; exact hA), List.map_map]; rfl
theorem gcd_bd {a b : Int} (ha : 1 ≤ a) (hb : 1 ≤ b) : (0 : Int) < (Nat.gcd a.natAbs b.natAbs : Nat) ∧ ((Nat.gcd a.natAbs b.natAbs : Nat) : Int) ≤ a ∧ a ≤ a * b / (Nat.gcd a.natAbs b.natAbs : Nat) ∧ a * b / (Nat.gcd a.natAbs b.natAbs : Nat) ≤ a * b := by
  obtain ⟨A, rfl⟩ := Int.eq_ofNat_of_zero_le (show 0 ≤ a by omega)
  obtain ⟨B, rfl⟩ := Int.eq_ofNat_of_zero_le (show 0 ≤ b by omega)
  have hA : 0 < A := by omega
  have hB : 0 < B := by omega
  rw [Int.natAbs_natCast, Int.natAbs_natCast]
  have hg := Nat.gcd_pos_of_pos_left B hA
  have gA := Nat.le_of_dvd hA (Nat.gcd_dvd_left A B)
  obtain ⟨c, hc⟩ := Nat.gcd_dvd_right A B
  have e : A * B / Nat.gcd A B = A * c := by
    have : A * B = Nat.gcd A B * (A * c) := by
      conv => lhs; rw [hc]
      rw [← Nat.mul_assoc, Nat.mul_comm A, Nat.mul_assoc]
    rw [this]; exact Nat.mul_div_cancel_left _ hg
  have hc0 : 0 < c := by
    rcases Nat.eq_zero_or_pos c with h | h
    · rw [h, Nat.mul_zero] at hc; omega
    · exact h
  have e2 : (A : Int) * B / (Nat.gcd A B : Nat) = ((A * c : Nat) : Int) := by rw [← e]; rfl
  have h1 : A ≤ A * c := Nat.le_mul_of_pos_right _ hc0
  have h2 : A * B / Nat.gcd A B ≤ A * B := Nat.div_le_self _ _
  rw [e] at h2
  refine ⟨by omega, by omega, by rw [e2]; omega, by rw [e2]; exact_mod_cast h2⟩
theorem bd_mul {a b : Int} (ha : 0 ≤ a ∧ a ≤ 2 ^ 120) (hb : 0 ≤ b ∧ b ≤ 2 ^ 120) : 0 ≤ a * b ∧ a * b ≤ 2 ^ 240 := by
  refine ⟨Int.mul_nonneg ha.1 hb.1, ?_⟩
  have := Int.mul_le_mul ha.2 hb.2 hb.1 (by decide)
  have e : (2 : Int) ^ 120 * 2 ^ 120 = 2 ^ 240 := by decide
  omega
theorem D_runs {f : Int} (hf : f = 0 ∨ f = 1) {k : Nat} (hk : k < n) (h : PB n m m' p q l) : D_runs_across [p, q] l f (k : Int) := by
  unfold D_runs_across
  rw [(pr_at hf).1, (pr_at hf).2, ixg, ixg, ixg]
  have h' := h.fst (f := f)
  have hn := h.n1
  have hm := h.hm
  have hm' := h.hm'
  have ha := h'.one.at hk
  have hb := h'.two.at hk
  have hl := h.box.at hk
  have l1 := h'.one.len
  have l2 := h'.two.len
  have l3 := h.box.len
  have e0 : (0 ≤ f ∧ f < (([p, q] : List (List Int)).length : Int)) ∧ (0 ≤ 1 - f ∧ 1 - f < (([p, q] : List (List Int)).length : Int)) := by
    rw [show (([p, q] : List (List Int)).length : Int) = 2 from rfl]; omega
  have k1 : 0 ≤ (k : Int) ∧ (k : Int) < ((fst p q f).length : Int) := by omega
  have k2 : 0 ≤ (k : Int) ∧ (k : Int) < ((fst q p f).length : Int) := by omega
  have hD : D_least_share (gt (fst p q f) k) (gt (fst q p f) k) (gt l k) := ⟨by omega, by omega, by omega, by omega⟩
  have p1 : (2 : Int) ^ 240 ≤ 2 ^ 250 := by decide
  have p2 : (2 : Int) ^ 120 ≤ 2 ^ 250 := by decide
  have hsh : ∀ o : Option Int, o = F_least_share (gt (fst p q f) k) (gt (fst q p f) k) (gt l k) → o.isNone = false → o.isSome = true ∧ CMulW (o.getD default) (gt (fst p q f) k) := by
    intro o ho hi
    cases o with
    | none => cases hi
    | some s =>
      have := share_rng ho.symm
      exact ⟨rfl, cmul (by show _ ≤ s ∧ s ≤ _; omega) (by omega)⟩
  refine ⟨e0.1, e0.2, by omega, D_fac h'.one h'.box hk (by omega), fun _ => D_fac h'.two h'.box hk (by omega), fun _ => ⟨k1, k2, hD, fun hi => ⟨k1, (hsh _ rfl hi).1, (hsh _ rfl hi).2⟩, fun hi => ?_⟩, fun _ => ⟨fun x hx => D_cut hf hk rfl h, ?_⟩⟩
  · rw [Bool.or_eq_false_iff] at hi
    have hs := hsh _ rfl hi.1
    have hg := gcd_bd ha.1 hb.1
    have hab := bd_mul (a := gt (fst p q f) k) (b := gt (fst q p f) k) (by omega) (by omega)
    refine ⟨k1, hs.1, hs.2, k1, k2, cmul (by omega) (by omega), k1, k2, cdiv (by omega) (by omega), cdiv (by omega) (by omega)⟩
  · rw [List.length_map]
    exact Nat.le_trans (List.length_filter_le _ _) (Nat.le_of_ble_eq_true rfl)
/-- whether there are any -/
theorem runs_some {f : Int} (hf : f = 0 ∨ f = 1) {k : Nat} (hk : k < n) (h : PB n m m' p q l) : F_runs_across [p, q] l f (k : Int) ≠ [] ↔
    (Ac n p l k ∧ Ac n q l k ∧ Sum2 (gt p k) (gt q k) (gt l k)) ∨ Dv n p l ∨ Dv n q l := by
  have h' := h.fst (f := f)
  have ha := h'.one.at hk
  have hb := h'.two.at hk
  have hl := h.box.at hk
  have sw : ∀ {T : List Int → List Int → Prop}, (T (fst p q f) (fst q p f) ↔ T (fst q p f) (fst p q f)) → (T (fst p q f) (fst q p f) ↔ T p q) := fun {T} hT => by
    revert hT
    unfold fst
    by_cases e : f = 0
    · rw [if_pos e, if_pos e]; exact fun _ => Iff.rfl
    · rw [if_neg e, if_neg e]; exact fun z => z
  have key : F_runs_across [p, q] l f (k : Int) ≠ [] ↔ (Ac n (fst p q f) l k ∧ Ac n (fst q p f) l k ∧ Sum2 (gt (fst p q f) k) (gt (fst q p f) k) (gt l k)) ∨ Dv n (fst p q f) l ∨ Dv n (fst q p f) l := by
    rw [runs_eq hf hk h]
    by_cases hA : Ac n (fst p q f) l k ∧ Ac n (fst q p f) l k
    · rw [if_pos hA]
      have hsum : Sum2 (gt (fst p q f) k) (gt (fst q p f) k) (gt l k) ↔ _ := share_sum ha.1 hb.1 (by omega)
      have hd1 : Dv n (fst p q f) l → Sum2 (gt (fst p q f) k) (gt (fst q p f) k) (gt l k) := fun hd => by
        obtain ⟨c, hc⟩ := hd k hk
        have hc0 : 0 ≤ c := by
          rcases Int.lt_or_le c 0 with z | z
          · have : gt (fst p q f) k * c ≤ gt (fst p q f) k * (-1) := Int.mul_le_mul_of_nonneg_left (by omega) (by omega)
            omega
          · exact z
        exact ⟨c.toNat, 0, by rw [Int.toNat_of_nonneg hc0, Int.mul_comm c]; omega⟩
      have hd2 : Dv n (fst q p f) l → Sum2 (gt (fst p q f) k) (gt (fst q p f) k) (gt l k) := fun hd => by
        obtain ⟨c, hc⟩ := hd k hk
        have hc0 : 0 ≤ c := by
          rcases Int.lt_or_le c 0 with z | z
          · have : gt (fst q p f) k * c ≤ gt (fst q p f) k * (-1) := Int.mul_le_mul_of_nonneg_left (by omega) (by omega)
            omega
          · exact z
        exact ⟨0, c.toNat, by rw [Int.toNat_of_nonneg hc0, Int.mul_comm c]; omega⟩
      have : (match F_least_share (gt (fst p q f) k) (gt (fst q p f) k) (gt l k) with
        | none => []
        | some s => if gt l k < s * gt (fst p q f) k then [] else
          [(f, (k : Int), s * gt (fst p q f) k, gt (fst p q f) k * gt (fst q p f) k / (Nat.gcd (gt (fst p q f) k).natAbs (gt (fst q p f) k).natAbs : Nat), (gt l k - s * gt (fst p q f) k) / (gt (fst p q f) k * gt (fst q p f) k / (Nat.gcd (gt (fst p q f) k).natAbs (gt (fst q p f) k).natAbs : Nat)) + 1)] : List (Int × Int × Int × Int × Int)) ≠ [] ↔ Sum2 (gt (fst p q f) k) (gt (fst q p f) k) (gt l k) := by
        rw [hsum]
        cases hs : F_least_share (gt (fst p q f) k) (gt (fst q p f) k) (gt l k) with
        | none => simp
        | some s =>
          dsimp only
          by_cases hc : gt l k < s * gt (fst p q f) k
          · rw [if_pos hc]
            simp only [ne_eq, not_true, false_iff]
            rintro ⟨s', e, z⟩
            cases e
            omega
          · rw [if_neg hc]
            simp only [ne_eq, List.cons_ne_self, not_false_eq_true, true_iff, reduceCtorEq]
            exact ⟨s, rfl, by omega⟩
      rw [this]
      exact ⟨fun z => .inl ⟨hA.1, hA.2, z⟩, fun z => by
        rcases z with z | z | z
        · exact z.2.2
        · exact hd1 z
        · exact hd2 z⟩
    · rw [if_neg hA]
      have e0 := cut_at0 hf hk h
      have e1 := cut_at1 hf hk h
      rw [ne_eq, List.map_eq_nil_iff, List.filter_cons, List.filter_cons, List.filter_nil, e0, e1]
      by_cases d1 : Dv n (fst p q f) l
      · rw [decide_eq_true d1]
        simp [d1]
        split <;> simp
      · by_cases d2 : Dv n (fst q p f) l
        · rw [decide_eq_true d2]
          simp [d2]
        · rw [decide_eq_false d1, decide_eq_false d2]
          simp [d1, d2]
          intro a b
          exact (hA ⟨a, b⟩).elim
  rw [key]
  exact sw (T := fun a b => (Ac n a l k ∧ Ac n b l k ∧ Sum2 (gt a k) (gt b k) (gt l k)) ∨ Dv n a l ∨ Dv n b l) ⟨fun z => by
    rcases z with z | z | z
    · exact .inl ⟨z.2.1, z.1, z.2.2.swap⟩
    · exact .inr (.inr z)
    · exact .inr (.inl z), fun z => by
    rcases z with z | z | z
    · exact .inl ⟨z.2.1, z.1, z.2.2.swap⟩
    · exact .inr (.inr z)
    · exact .inr (.inl z)⟩
/-- the pair fills the box -/
def Filled (n : Nat) (p q l : List Int) : Prop := Dv n p l ∨ Dv n q l ∨ ∃ k < n, Ac n p l k ∧ Ac n q l k ∧ Sum2 (gt p k) (gt q k) (gt l k)
theorem Filled.swap (h : Filled n p q l) : Filled n q p l := by
  rcases h with h | h | ⟨k, hk, h1, h2, h3⟩
  · exact .inr (.inl h)
  · exact .inl h
  · exact .inr (.inr ⟨k, hk, h2, h1, h3.swap⟩)
theorem fm_ne {α β : Type} (F : α → List β) (xs : List α) : xs.flatMap F ≠ [] ↔ ∃ x ∈ xs, F x ≠ [] := by
  induction xs with
  | nil => simp
  | cons x xs ih =>
    rw [List.flatMap_cons, ne_eq, List.append_eq_nil_iff, Classical.not_and_iff_not_or_not]
    rw [ne_eq] at ih
    rw [ih]
    simp
theorem rng_len (h : PB n m m' p q l) {y : Int} : y ∈ rngI 0 (l.length : Int) ↔ ∃ k : Nat, k < n ∧ y = k := by
  rw [mem_rngI, h.box.len]
  exact ⟨fun z => ⟨y.toNat, by omega, by omega⟩, fun ⟨k, hk, e⟩ => by omega⟩
theorem cutruns_some (h : PB n m m' p q l) : F_cut_runs [p, q] l ≠ [] ↔ Filled n p q l := by
  unfold F_cut_runs
  rw [fm_ne]
  have e : ∀ f : Int, f = 0 ∨ f = 1 → (((rngI 0 (l.length : Int)).flatMap fun y => (F_runs_across [p, q] l f y).map fun z => z) ≠ [] ↔ Filled n p q l) := by
    intro f hf
    rw [fm_ne]
    constructor
    · rintro ⟨y, hy, hne⟩
      obtain ⟨k, hk, rfl⟩ := (rng_len h).mp hy
      rw [List.map_id'] at hne
      rcases (runs_some hf hk h).mp hne with z | z | z
      · exact .inr (.inr ⟨k, hk, z⟩)
      · exact .inl z
      · exact .inr (.inl z)
    · intro hF
      have : ∃ k < n, (Ac n p l k ∧ Ac n q l k ∧ Sum2 (gt p k) (gt q k) (gt l k)) ∨ Dv n p l ∨ Dv n q l := by
        have := h.n1
        rcases hF with z | z | ⟨k, hk, z⟩
        · exact ⟨0, by omega, .inr (.inl z)⟩
        · exact ⟨0, by omega, .inr (.inr z)⟩
        · exact ⟨k, hk, .inl z⟩
      obtain ⟨k, hk, z⟩ := this
      refine ⟨(k : Int), (rng_len h).mpr ⟨k, hk, rfl⟩, ?_⟩
      rw [List.map_id']
      exact (runs_some hf hk h).mpr z
  constructor
  · rintro ⟨f, hf, hne⟩
    refine (e f ?_).mp hne
    simpa using hf
  · intro hF
    exact ⟨0, by simp, (e 0 (.inl rfl)).mpr hF⟩
theorem runs_len {f : Int} (hf : f = 0 ∨ f = 1) {k : Nat} (hk : k < n) (h : PB n m m' p q l) : (F_runs_across [p, q] l f (k : Int)).length ≤ 2 := by
  rw [runs_eq hf hk h]
  by_cases hA : Ac n (fst p q f) l k ∧ Ac n (fst q p f) l k
  · rw [if_pos hA]
    split
    · simp
    · split <;> simp
  · rw [if_neg hA, List.length_map]
    exact Nat.le_trans (List.length_filter_le _ _) (by simp)
theorem sum_le {α : Type} (F : α → Nat) (B : Nat) : ∀ xs : List α, (∀ x ∈ xs, F x ≤ B) → (xs.map F).sum ≤ xs.length * B
  | [], _ => by simp
  | x :: xs, h => by
    have := sum_le F B xs fun y hy => h y (List.mem_cons_of_mem _ hy)
    have := h x List.mem_cons_self
    rw [List.map_cons, List.sum_cons, List.length_cons, Nat.succ_mul]
    omega
theorem D_cutruns (h : PB n m m' p q l) : D_cut_runs [p, q] l := by
  have hn := h.n1
  have hl := h.box.len
  unfold D_cut_runs
  have hf' : ∀ f : Int, f ∈ ([0, 1] : List Int) → f = 0 ∨ f = 1 := fun f hf => by simpa using hf
  refine ⟨fun f hf => ⟨by omega, fun y hy => ?_⟩, ?_⟩
  · obtain ⟨k, hk, rfl⟩ := (rng_len h).mp hy
    exact D_runs (hf' f hf) hk h
  · refine Nat.le_trans (sum_le _ 1000 _ fun f hf => ?_) (by decide)
    refine Nat.le_trans (sum_le _ 2 _ fun y hy => ?_) ?_
    · obtain ⟨k, hk, rfl⟩ := (rng_len h).mp hy
      exact runs_len (hf' f hf) hk h
    · rw [rngI_len]; omega
theorem filled_iff (h : PB n m m' p q l) : F_is_filled [p, q] l = true ↔ Filled n p q l := by
  unfold F_is_filled
  rw [decide_eq_true_eq, ← cutruns_some h]
  cases F_cut_runs [p, q] l with
  | nil => simp
  | cons a b => simp
theorem D_filled (h : PB n m m' p q l) : D_is_filled [p, q] l := D_cutruns h
end
end TW
set_option Elab.async false
set_option linter.all false
set_option maxRecDepth 100000
set_option maxHeartbeats 4000000
namespace TW
open PySem PySem.Spec PyProof.Rows L2 MI GE TY
def b__law_sides : DS :=
 (sRet (mCB oTuple (aCons (mFr (mLc (iR1 (mVar 1)) (gNm 3) tOk [3] (mEl (mOp oAdd (mC (PyData.int 1)) (mCallW 0 m_draw (aCons (mVar 2) aNil)))))) aNil)))
def m__law_sides : List PyData → C PyData := bodyW b__law_sides 2 1
def b__law_divisor : DS :=
 (sSeq (sWhileK [0, 1] (tT (mOp oGt (mVar 1) (mC (PyData.int 0))))
 (sPar 0 1 (aCons (mVar 1) (aCons (mOp oMod (mVar 0) (mVar 1)) aNil))))
 (sRet (mVar 0)))
def m__law_divisor : List PyData → C PyData := bodyM b__law_divisor 2 0
def b__law_pair : DS :=
 (sSeq (sPar 3 4 (aCons (mCallW 0 m__law_sides (aCons (mVar 1) (aCons (mVar 2) aNil))) (aCons (mCallW 0 m__law_sides (aCons (mVar 1) (aCons (mVar 2) aNil))) aNil)))
 (sSeq (sIf (tT (mOp oEq (mCallW 0 m_draw (aCons (mC (PyData.int 3)) aNil)) (mC (PyData.int 0))))
 (sSeq (sAsg (mCallW 0 m_draw (aCons (mVar 1) aNil)) (gNm 5))
 (sAsg (mOp oAdd (mOp oAdd (mSl oSl (mVar 3) oNone (oSome (mVar 5))) (mTup (aCons (mOp oAdd (mC (PyData.int 1)) (mCallW 0 m_draw (aCons (mVar 2) aNil))) aNil))) (mSl oSl (mVar 3) (oSome (mOp oAdd (mVar 5) (mC (PyData.int 1)))) oNone)) (gNm 4)))
 sNx)
 (sRet (mTup (aCons (mVar 3) (aCons (mVar 4) aNil))))))
def m__law_pair : List PyData → C PyData := bodyW b__law_pair 2 3
def b__law_lcm : DS :=
 (sRet (mOp oFdiv (mOp oMul (mVar 0) (mVar 1)) (mCall m__law_divisor (aCons (mVar 0) (aCons (mVar 1) aNil)))))
def m__law_lcm : List PyData → C PyData := bodyM b__law_lcm 2 0
def b__law_plain_box : DS :=
 (sSeq (sAsg (mCallW 0 m_one (aCons (mCB oList (aCons (mVar 1) aNil)) aNil)) (gNm 3))
 (sRet (mCB oTuple (aCons (mFr (mLc (iSq (mVar 3)) (gNm 4) tOk [4] (mEl (mOp oMul (mVar 4) (mOp oAdd (mC (PyData.int 1)) (mCallW 0 m_draw (aCons (mVar 2) aNil))))))) aNil))))
def m__law_plain_box : List PyData → C PyData := bodyW b__law_plain_box 2 2
def b__law_cut_box : DS :=
 (sSeq (sParDO 3 4 (mCallW 0 m_draw (aCons (mCB oLn (aCons (mOp oIt (mVar 1) (mC (PyData.int 0))) aNil)) aNil)) (eoLst aNil))
 (sSeq (sForK [0, 1, 2, 3, 4] (iR1 (mCB oLn (aCons (mOp oIt (mVar 1) (mC (PyData.int 0))) aNil))) (gNm 5)
 (oApp 4 (mCall m__law_lcm (aCons (mOp oIt (mOp oIt (mVar 1) (mC (PyData.int 0))) (mVar 5)) (aCons (mOp oIt (mOp oIt (mVar 1) (mC (PyData.int 1))) (mVar 5)) aNil)))))
 (sSeq (oSet 4 (mVar 3) (mOp oAdd (mOp oMul (mOp oIt (mOp oIt (mVar 1) (mC (PyData.int 0))) (mVar 3)) (mCallW 0 m_draw (aCons (mVar 2) aNil))) (mOp oMul (mOp oIt (mOp oIt (mVar 1) (mC (PyData.int 1))) (mVar 3)) (mOp oAdd (mC (PyData.int 1)) (mCallW 0 m_draw (aCons (mVar 2) aNil))))))
 (sFz 4 (sRet (mCB oTuple (aCons (mVar 4) aNil)))))))
def m__law_cut_box : List PyData → C PyData := bodyW b__law_cut_box 2 3
def b__law_rests : DS :=
 (sRet (mFr (mLc (iR1 (mCB oLn (aCons (mVar 1) aNil))) (gNm 2) (tT (mOp oNe (mOp oMod (mCB oInt (aCons (mOp oIt (mVar 1) (mVar 2)) aNil)) (mOp oIt (mVar 0) (mVar 2))) (mC (PyData.int 0)))) [2] (mEl (mVar 2)))))
def m__law_rests : List PyData → C PyData := bodyM b__law_rests 2 1
def b__law_volume : DS :=
 (sSeq (sAsg (mC (PyData.int 1)) (gNm 1))
 (sSeq (sForK [1] (iSq (mVar 0)) (gNm 2)
 (sAsg (mOp oMul (mVar 1) (mVar 2)) (gNm 1)))
 (sRet (mVar 1))))
def m__law_volume : List PyData → C PyData := bodyM b__law_volume 1 2
def b__law_with : DS :=
 (sRet (mOp oAdd (mOp oAdd (mSl oSl (mVar 0) oNone (oSome (mVar 1))) (mTup (aCons (mVar 2) aNil))) (mSl oSl (mVar 0) (oSome (mOp oAdd (mVar 1) (mC (PyData.int 1)))) oNone)))
def m__law_with : List PyData → C PyData := bodyM b__law_with 3 0
def b__law_cells : DS :=
 (sSeq (sAsg (mLst (aCons (mTup aNil) aNil)) (gNm 1))
 (sSeq (sForK [1] (iSq (mVar 0)) (gNm 2)
 (sSeq (sNew 3 (eoLst aNil))
 (sSeq (sForK [2, 3] (iSq (mCB oList (aCons (mVar 1) aNil))) (gNm 4)
 (oExt 3 (mFr (mLc (iR1 (mVar 2)) (gNm 5) tOk [5] (mEl (mOp oAdd (mVar 4) (mTup (aCons (mVar 5) aNil))))))))
 (sFz 3 (sAsg (mVar 3) (gNm 1))))))
 (sRet (mVar 1))))
def m__law_cells : List PyData → C PyData := bodyM b__law_cells 1 5
def b__law_is_sum : DS :=
 (sRet (mOp oNe (mFr (mLc (iR1 (mOp oAdd (mOp oFdiv (mVar 0) (mVar 1)) (mC (PyData.int 1)))) (gNm 3) (tT (mOp oEq (mOp oMod (mCB oInt (aCons (mOp oSub (mVar 0) (mOp oMul (mVar 3) (mVar 1))) aNil)) (mVar 2)) (mC (PyData.int 0)))) [3] (mEl (mVar 3)))) (mLst aNil)))
def m__law_is_sum : List PyData → C PyData := bodyM b__law_is_sum 3 1
def b__law_is_filled : DS :=
 (sSeq (sPar 2 3 (aCons (mCall m__law_rests (aCons (mOp oIt (mVar 0) (mC (PyData.int 0))) (aCons (mVar 1) aNil))) (aCons (mCall m__law_rests (aCons (mOp oIt (mVar 0) (mC (PyData.int 1))) (aCons (mVar 1) aNil))) aNil)))
 (sSeq (sIf (tOo (tT (mOp oEq (mVar 2) (mLst aNil))) (tT (mOp oEq (mVar 3) (mLst aNil))))
 (sRet (mC (PyData.bool true)))
 sNx)
 (sSeq (sIf (tOo (tT (mOp oGt (mCB oLn (aCons (mVar 2) aNil)) (mC (PyData.int 1)))) (tT (mOp oNe (mVar 2) (mVar 3))))
 (sRet (mC (PyData.bool false)))
 sNx)
 (sRet (mCall m__law_is_sum (aCons (mOp oIt (mVar 1) (mOp oIt (mVar 2) (mC (PyData.int 0)))) (aCons (mOp oIt (mOp oIt (mVar 0) (mC (PyData.int 0))) (mOp oIt (mVar 2) (mC (PyData.int 0)))) (aCons (mOp oIt (mOp oIt (mVar 0) (mC (PyData.int 1))) (mOp oIt (mVar 2) (mC (PyData.int 0)))) aNil))))))))
def m__law_is_filled : List PyData → C PyData := bodyM b__law_is_filled 2 2
def b__law_box : DS :=
 (sSeq (sForK [0, 1, 2, 3] (iR1 (mC (PyData.int 12))) (gNm 4)
 (sSeq (sAsg (mCallW 0 m_draw (aCons (mC (PyData.int 4)) aNil)) (gNm 5))
 (sSeq (sAsg (mCallW 0 m__law_sides (aCons (mCB oLn (aCons (mOp oIt (mVar 1) (mC (PyData.int 0))) aNil)) (aCons (mVar 2) aNil))) (gNm 6))
 (sSeq (sIf (tT (mOp oEq (mVar 5) (mC (PyData.int 0))))
 (sAsg (mCallW 0 m__law_cut_box (aCons (mVar 1) (aCons (mC (PyData.int 3)) aNil))) (gNm 6))
 sNx)
 (sSeq (sIf (tT (mOp oEq (mVar 5) (mC (PyData.int 1))))
 (sAsg (mCallW 0 m__law_plain_box (aCons (mVar 1) (aCons (mC (PyData.int 3)) aNil))) (gNm 6))
 sNx)
 (sSeq (sIf (tT (mOp oEq (mVar 5) (mC (PyData.int 2))))
 (sSeq (sAsg (mCallW 0 m_draw (aCons (mCB oLn (aCons (mVar 6) aNil)) aNil)) (gNm 7))
 (sSeq (sAsg (mCallW 0 m_one (aCons (mLst (aCons (mCallW 0 m__law_cut_box (aCons (mVar 1) (aCons (mC (PyData.int 3)) aNil))) (aCons (mCallW 0 m__law_plain_box (aCons (mVar 1) (aCons (mC (PyData.int 3)) aNil))) aNil))) aNil)) (gNm 8))
 (sAsg (mOp oAdd (mOp oAdd (mSl oSl (mVar 8) oNone (oSome (mVar 7))) (mTup (aCons (mCB oMax2 (aCons (mC (PyData.int 1)) (aCons (mOp oAdd (mOp oIt (mVar 8) (mVar 7)) (mCallW 0 m_one (aCons (mLst (aCons (mUn oNeg (mC (PyData.int 1))) (aCons (mC (PyData.int 1)) (aCons (mC (PyData.int 2)) aNil)))) aNil))) aNil))) aNil))) (mSl oSl (mVar 8) (oSome (mOp oAdd (mVar 7) (mC (PyData.int 1)))) oNone)) (gNm 6))))
 sNx)
 (sIf (tT (mOp oLeA (mCall m__law_volume (aCons (mVar 6) aNil)) (mVar 3)))
 (sRet (mVar 6))
 sNx)))))))
 (sRet (mOp oMul (mTup (aCons (mC (PyData.int 1)) aNil)) (mCB oLn (aCons (mOp oIt (mVar 1) (mC (PyData.int 0))) aNil)))))
def m__law_box : List PyData → C PyData := bodyW b__law_box 3 5

def W__law_sides (axes : Int) (most : Int) (k : (List Int) → Prop) : Prop := ((-(2 ^ 62) ≤ (axes : Int) ∧ (axes : Int) < 2 ^ 62) ∧ ((rngI 0 axes)).length ≤ 100000 ∧ mapW (rngI 0 axes) (fun x1 k2 => (W_draw most (fun v6 => (k2 (1 + v6))))) [] (fun l8 => (k l8)))
theorem w__law_sides_b (axes : Int) (most : Int) {k : (List Int) → Prop} (h : W__law_sides axes most k) (D : DN) (hk : ∀ v, k v → D.rt ((eT eI) v)) : b__law_sides D [some .dck, some (.dat (eI axes)), some (.dat (eI most)), none] := by
  unfold b__law_sides
  exact (k_retW (run_cb (run_cons (run_fr (run_lc (r := [some .dck, some (.dat (eI axes)), some (.dat (eI most)), none]) (vs := [3]) (e := eI) (e' := eI) (body := (fun x1 k2 => (W_draw most (fun v6 => (k2 (1 + v6)))))) (rx := fun x1 => [some .dck, some (.dat (eI axes)), some (.dat (eI most)), some (.dat (eI x1))]) (it_r1 (ev_var rfl) h.1) ⟨trivial, trivial⟩ h.2.1 (fun x1 => (fun P h => h)) (fun x1 k2 Q3 h4 hk5 => (run_op (ev_run (d := (eI 1)) (ev_c _) (run_callW (i := 0) rfl (run_cons (ev_run (d := (eI most)) (ev_var rfl) (run_nil (w_draw h4 _ _ (fun v6 h7 => ((p_add 1 v6) _ _ (hk5 _ h7))))))))))) h.2.2 (fun l8 h9 => (run_nil ((c_tupL eI l8) _ _ (hk _ h9)))))))))
theorem w__law_sides {axes : Int} {most : Int} {k : (List Int) → Prop} (h : W__law_sides axes most k) (P : PyData → Prop) (X : Xc → Prop) (hk : ∀ v, k v → P ((eT eI) v)) : m__law_sides [(eI axes), (eI most)] P X := ⟨rfl, w__law_sides_b axes most h _ hk⟩
def W__law_pair (axes : Int) (most : Int) (k : (List (List Int)) → Prop) : Prop := (W__law_sides axes most (fun v1 => (W__law_sides axes most (fun v3 => (bindW (fun k7 : (List Int) → Prop => (W_draw 3 (fun v10 => (((decide ((v10 : Int) = 0)) = true → (W_draw axes (fun v13 => ((0 : Int) ≤ v13 ∧ W_draw most (fun v15 => (((v1.take (v13 : Int).toNat) : (List Int)).length + ([(1 + v15)] : (List Int)).length ≤ 100000 ∧ (0 : Int) ≤ (v13 + 1) ∧ (((v1.take (v13 : Int).toNat) ++ [(1 + v15)]) : (List Int)).length + ((v1.drop ((v13 + 1) : Int).toNat) : (List Int)).length ≤ 100000 ∧ (∀ other17 : (List Int), other17 = (((v1.take (v13 : Int).toNat) ++ [(1 + v15)]) ++ (v1.drop ((v13 + 1) : Int).toNat)) → (k7 other17)))))))) ∧ ((decide ((v10 : Int) = 0)) = false → (k7 v3)))))) (fun s5 => (k [v1, s5])))))))
theorem w__law_pair_b (axes : Int) (most : Int) {k : (List (List Int)) → Prop} (h : W__law_pair axes most k) (D : DN) (hk : ∀ v, k v → D.rt ((eT (eT eI)) v)) : b__law_pair D [some .dck, some (.dat (eI axes)), some (.dat (eI most)), none, none, none] := by
  unfold b__law_pair
  exact (k_parW (run_cons (run_callW (i := 0) rfl (run_cons (ev_run (d := (eI axes)) (ev_var rfl) (run_cons (ev_run (d := (eI most)) (ev_var rfl) (run_nil (w__law_sides h _ _ (fun v1 h2 => (run_cons (run_callW (i := 0) rfl (run_cons (ev_run (d := (eI axes)) (ev_var rfl) (run_cons (ev_run (d := (eI most)) (ev_var rfl) (run_nil (w__law_sides h2 _ _ (fun v3 h4 => (run_nil (k_join (S := (List Int)) (O := Option ML) (re := fun s5 o6 => [some .dck, some (.dat (eI axes)), some (.dat (eI most)), some (.dat ((eT eI) v1)), some (.dat ((eT eI) s5)), o6]) h4 (fun s5 o6 h20 => (k_ret (show EV _ _ ((eT (eT eI)) [v1, s5]) from ev_tup (ea_cons (ev_var rfl) (ea_cons (ev_var rfl) ea_nil)) (Nat.le_of_ble_eq_true rfl)) (hk _ h20))) (fun k7 hk8 h9 => (k_ifT (run_op (run_callW (i := 0) rfl (run_cons (ev_run (d := (eI 3)) (ev_c _) (run_nil (w_draw h9 _ _ (fun v10 h11 => (ev_run (d := (eI 0)) (ev_c _) ((p_eq cmpI (by decide) v10 0) _ _ (by_bi (fun h12 => (k_assoc (k_asgW (run_callW (i := 0) rfl (run_cons (ev_run (d := (eI axes)) (ev_var rfl) (run_nil (w_draw (h11.1 h12) _ _ (fun v13 h14 => (k_gv (r' := [some .dck, some (.dat (eI axes)), some (.dat (eI most)), some (.dat ((eT eI) v1)), some (.dat ((eT eI) v3)), some (.dat (eI v13))]) (fun P h => h) (k_asgW (run_op (run_op (ev_run (d := ((eT eI) (v1.take (v13 : Int).toNat))) (ev_sl (p_toT eI v1 v13 h14.1) (ev_var rfl) ep_none (ep_some (ev_var rfl))) (run_tup (run_cons (run_op (ev_run (d := (eI 1)) (ev_c _) (run_callW (i := 0) rfl (run_cons (ev_run (d := (eI most)) (ev_var rfl) (run_nil (w_draw h14.2 _ _ (fun v15 h16 => ((p_add 1 v15) _ _ (run_nil ⟨Nat.le_of_ble_eq_true rfl, ((p_catT eI (v1.take (v13 : Int).toNat) [(1 + v15)] h16.1) _ _ (ev_run (d := ((eT eI) (v1.drop ((v13 + 1) : Int).toNat))) (ev_sl (p_fromT eI v1 (v13 + 1) h16.2.1) (ev_var rfl) (ep_some (ev_op (p_add v13 1) (ev_var rfl) (ev_c _))) ep_none) ((p_catT eI ((v1.take (v13 : Int).toNat) ++ [(1 + v15)]) (v1.drop ((v13 + 1) : Int).toNat) h16.2.2.1) _ _ (k_let (((v1.take (v13 : Int).toNat) ++ [(1 + v15)]) ++ (v1.drop ((v13 + 1) : Int).toNat)) fun other17 e18 => (k_gv (r' := [some .dck, some (.dat (eI axes)), some (.dat (eI most)), some (.dat ((eT eI) v1)), some (.dat ((eT eI) other17)), some (.dat (eI v13))]) (gv_eq (e := (eT eI)) e18) (hk8 other17 (some (.dat (eI v13))) (h16.2.2.2 other17 e18)))))))⟩)))))))))))))))))))))))))) (fun h19 => (k_nx (hk8 v3 (none) (h11.2 h19)))))))))))))))))))))))))))))))))))))
theorem w__law_pair {axes : Int} {most : Int} {k : (List (List Int)) → Prop} (h : W__law_pair axes most k) (P : PyData → Prop) (X : Xc → Prop) (hk : ∀ v, k v → P ((eT (eT eI)) v)) : m__law_pair [(eI axes), (eI most)] P X := ⟨rfl, w__law_pair_b axes most h _ hk⟩
def W__law_divisor (one_here : Int) (other_ : Int) (k : Int → Prop) : Prop := (∃ n, whW (S := (Int × Int)) (fun s1 : (Int × Int) => (decide (0 < s1.2))) (fun s1 : (Int × Int) => True) (fun s1 nx2 => ((0 : Int) < s1.2 ∧ (∀ one_here9 : Int, one_here9 = s1.2 → ∀ other10 : Int, other10 = (s1.1 % s1.2) → (nx2 (one_here9, other10))))) (fun s15 => (k s15.1)) n (one_here, other_))
theorem w__law_divisor_b (one_here : Int) (other_ : Int) {k : Int → Prop} (h : W__law_divisor one_here other_ k) (D : DN) (hk : ∀ v, k v → D.rt (eI v)) : b__law_divisor D [some (.dat (eI one_here)), some (.dat (eI other_))] := by
  unfold b__law_divisor
  exact (k_while (S := (Int × Int)) (re := fun s1 => [some (.dat (eI s1.1)), some (.dat (eI s1.2))]) (c := (fun s1 : (Int × Int) => (decide (0 < s1.2)))) (dc := (fun s1 : (Int × Int) => True)) (body := (fun s1 nx2 => ((0 : Int) < s1.2 ∧ (∀ one_here9 : Int, one_here9 = s1.2 → ∀ other10 : Int, other10 = (s1.1 % s1.2) → (nx2 (one_here9, other10)))))) (k := (fun s15 => (k s15.1))) rfl (fun s1 h8 => (eb_t (ev_op (p_gt s1.2 0) (ev_var rfl) (ev_c _)))) (fun s1 nx2 D3 hr4 hn5 hc6 h7 => (k_last (k_let s1.2 fun one_here9 e11 => (k_let (s1.1 % s1.2) fun other10 e12 => (k_par (ea_cons (ev_eq (e := eI) e11 (ev_var rfl)) (ea_cons (ev_eq (e := eI) e12 (ev_op (p_mod s1.1 s1.2 h7.1) (ev_var rfl) (ev_var rfl))) ea_nil)) (show _ from (k_end (hn5 (one_here9, other10) _ (h7.2 one_here9 e11 other10 e12) rfl)))))))) (fun s15 h14 => (k_ret (ev_var rfl) (hk _ h14))) h)
theorem w__law_divisor {one_here : Int} {other_ : Int} {k : Int → Prop} (h : W__law_divisor one_here other_ k) (P : PyData → Prop) (X : Xc → Prop) (hk : ∀ v, k v → P (eI v)) : m__law_divisor [(eI one_here), (eI other_)] P X := ⟨rfl, w__law_divisor_b one_here other_ h _ hk⟩
def W__law_volume (sides_here : (List Int)) (k : Int → Prop) : Prop := (forW (S := Int) sides_here (fun x1 s2 nx3 => (CMulW s2 x1 ∧ (∀ found9 : Int, found9 = (s2 * x1) → (nx3 found9)))) (fun s13 => (k s13)) 1)
theorem w__law_volume_b (sides_here : (List Int)) {k : Int → Prop} (h : W__law_volume sides_here k) (D : DN) (hk : ∀ v, k v → D.rt (eI v)) : b__law_volume D [some (.dat ((eT eI) sides_here)), none, none] := by
  unfold b__law_volume
  exact (k_asg (r' := [some (.dat ((eT eI) sides_here)), some (.dat (eI 1)), none]) (ev_c _) (fun P h => h) (k_for (S := Int) (e := eI) (re := fun s2 => [none, some (.dat (eI s2)), none]) (body := (fun x1 s2 nx3 => (CMulW s2 x1 ∧ (∀ found9 : Int, found9 = (s2 * x1) → (nx3 found9))))) (k := (fun s13 => (k s13))) (it_T (e := eI) (ev_var rfl)) rfl (fun x1 s2 nx3 D4 hr5 hn6 hc7 h8 => (k_gv (r' := [none, some (.dat (eI s2)), some (.dat (eI x1))]) (fun P h => h) (k_last (k_let (s2 * x1) fun found9 e10 => (k_asg (r' := [none, some (.dat (eI found9)), some (.dat (eI x1))]) (ev_eq (e := eI) e10 (ev_op (p_mul s2 x1 h8.1) (ev_var rfl) (ev_var rfl))) (fun P h => h) (k_end (hn6 found9 _ (h8.2 found9 e10) rfl))))))) (fun s13 h12 => (k_ret (ev_var rfl) (hk _ h12))) h))
theorem w__law_volume {sides_here : (List Int)} {k : Int → Prop} (h : W__law_volume sides_here k) (P : PyData → Prop) (X : Xc → Prop) (hk : ∀ v, k v → P (eI v)) : m__law_volume [((eT eI) sides_here)] P X := ⟨rfl, w__law_volume_b sides_here h _ hk⟩
def W__law_cells (sides_here : (List Int)) (k : (List (List Int)) → Prop) : Prop := ((∀ found1 : (List (List Int)), found1 = [([] : (List Int))] → (forW (S := (List (List Int))) sides_here (fun x4 s5 nx6 => ((∀ longer12 : (List (List Int)), longer12 = ([] : (List (List Int))) → (forW (S := (List (List Int))) s5 (fun x15 s16 nx17 => ((-(2 ^ 62) ≤ (x4 : Int) ∧ (x4 : Int) < 2 ^ 62) ∧ ((rngI 0 x4)).length ≤ 100000 ∧ (∀ x23 ∈ (rngI 0 x4), ((x15 : (List Int)).length + ([x23] : (List Int)).length ≤ 100000)) ∧ (s16).length + (((rngI 0 x4).map (fun x23 : Int => (x15 ++ [x23])))).length ≤ 100000 ∧ (∀ longer25 : (List (List Int)), longer25 = (s16 ++ ((rngI 0 x4).map (fun x23 : Int => (x15 ++ [x23])))) → (nx17 longer25)))) (fun s29 => (nx6 s29)) longer12)))) (fun s31 => (k s31)) found1)))
theorem w__law_cells_b (sides_here : (List Int)) {k : (List (List Int)) → Prop} (h : W__law_cells sides_here k) (D : DN) (hk : ∀ v, k v → D.rt ((eL (eT eI)) v)) : b__law_cells D [some (.dat ((eT eI) sides_here)), none, none, none, none, none] := by
  unfold b__law_cells
  exact (k_let [([] : (List Int))] fun found1 e2 => (k_asg (r' := [some (.dat ((eT eI) sides_here)), some (.dat ((eL (eT eI)) found1)), none, none, none, none]) (ev_eq (e := (eL (eT eI))) e2 (show EV _ _ ((eL (eT eI)) [([] : (List Int))]) from ev_lst (ea_cons (show EV _ _ ((eT eI) ([] : (List Int))) from ev_tup ea_nil (Nat.le_of_ble_eq_true rfl)) ea_nil) (Nat.le_of_ble_eq_true rfl))) (fun P h => h) (k_for (S := (List (List Int))) (e := eI) (re := fun s5 => [none, some (.dat ((eL (eT eI)) s5)), none, none, none, none]) (body := (fun x4 s5 nx6 => ((∀ longer12 : (List (List Int)), longer12 = ([] : (List (List Int))) → (forW (S := (List (List Int))) s5 (fun x15 s16 nx17 => ((-(2 ^ 62) ≤ (x4 : Int) ∧ (x4 : Int) < 2 ^ 62) ∧ ((rngI 0 x4)).length ≤ 100000 ∧ (∀ x23 ∈ (rngI 0 x4), ((x15 : (List Int)).length + ([x23] : (List Int)).length ≤ 100000)) ∧ (s16).length + (((rngI 0 x4).map (fun x23 : Int => (x15 ++ [x23])))).length ≤ 100000 ∧ (∀ longer25 : (List (List Int)), longer25 = (s16 ++ ((rngI 0 x4).map (fun x23 : Int => (x15 ++ [x23])))) → (nx17 longer25)))) (fun s29 => (nx6 s29)) longer12))))) (k := (fun s31 => (k s31))) (it_T (e := eI) (ev_var rfl)) rfl (fun x4 s5 nx6 D7 hr8 hn9 hc10 h11 => (k_gv (r' := [none, some (.dat ((eL (eT eI)) s5)), some (.dat (eI x4)), none, none, none]) (fun P h => h) (k_let ([] : (List (List Int))) fun longer12 e13 => (k_new (eo_eq (e := (eT eI)) e13 (show EO _ _ (([] : (List (List Int))).map (eT eI)) from eo_lst ea_nil (Nat.le_of_ble_eq_true rfl))) (Nat.le_of_ble_eq_true rfl) (show _ from (k_for (S := (List (List Int))) (e := (eT eI)) (re := fun s16 => [none, none, some (.dat (eI x4)), some (.own (s16.map (eT eI))), none, none]) (body := (fun x15 s16 nx17 => ((-(2 ^ 62) ≤ (x4 : Int) ∧ (x4 : Int) < 2 ^ 62) ∧ ((rngI 0 x4)).length ≤ 100000 ∧ (∀ x23 ∈ (rngI 0 x4), ((x15 : (List Int)).length + ([x23] : (List Int)).length ≤ 100000)) ∧ (s16).length + (((rngI 0 x4).map (fun x23 : Int => (x15 ++ [x23])))).length ≤ 100000 ∧ (∀ longer25 : (List (List Int)), longer25 = (s16 ++ ((rngI 0 x4).map (fun x23 : Int => (x15 ++ [x23])))) → (nx17 longer25))))) (k := (fun s29 => (nx6 s29))) (it_L (e := (eT eI)) (ev_cb (c_listL (eT eI) s5) (ea_cons (ev_var rfl) ea_nil))) rfl (fun x15 s16 nx17 D18 hr19 hn20 hc21 h22 => (k_gv (r' := [none, none, some (.dat (eI x4)), some (.own (s16.map (eT eI))), some (.dat ((eT eI) x15)), none]) (fun P h => h) (k_last (k_let (s16 ++ ((rngI 0 x4).map (fun x23 : Int => (x15 ++ [x23])))) fun longer25 e26 => (k_ext (e := (eT eI)) (xs := s16) (ys := ((rngI 0 x4).map (fun x23 : Int => (x15 ++ [x23])))) rfl (show EV _ _ ((eL (eT eI)) ((rngI 0 x4).map (fun x23 : Int => (x15 ++ [x23])))) from ev_fr (eo_lc (r := [none, none, some (.dat (eI x4)), some (.own (s16.map (eT eI))), some (.dat ((eT eI) x15)), none]) (vs := [5]) (e := eI) (e' := (eT eI)) (f := fun x23 => (x15 ++ [x23])) (rx := fun x23 => [none, none, some (.dat (eI x4)), some (.own (s16.map (eT eI))), some (.dat ((eT eI) x15)), some (.dat (eI x23))]) (it_r1 (ev_var rfl) h22.1) ⟨trivial, trivial⟩ h22.2.1 (fun x23 h24 => (fun P h => h)) (fun x23 h24 => (ev_op (p_catT eI x15 [x23] (h22.2.2.1 x23 h24)) (ev_var rfl) (show EV _ _ ((eT eI) [x23]) from ev_tup (ea_cons (ev_var rfl) ea_nil) (Nat.le_of_ble_eq_true rfl)))))) h22.2.2.2.1 (ty_own (e := (eT eI)) e26 (k_end (hn20 longer25 _ (h22.2.2.2.2 longer25 e26) rfl)))))))) (fun s29 h28 => (k_last (k_fz (r' := [none, none, some (.dat (eI x4)), some (.dat ((eL (eT eI)) s29)), none, none]) rfl (k_asg (r' := [none, some (.dat ((eL (eT eI)) s29)), some (.dat (eI x4)), some (.dat ((eL (eT eI)) s29)), none, none]) (ev_var rfl) (fun P h => h) (k_end (hn9 s29 _ h28 rfl)))))) (h11 longer12 e13))))))) (fun s31 h30 => (k_ret (ev_var rfl) (hk _ h30))) (h found1 e2))))
theorem w__law_cells {sides_here : (List Int)} {k : (List (List Int)) → Prop} (h : W__law_cells sides_here k) (P : PyData → Prop) (X : Xc → Prop) (hk : ∀ v, k v → P ((eL (eT eI)) v)) : m__law_cells [((eT eI) sides_here)] P X := ⟨rfl, w__law_cells_b sides_here h _ hk⟩
def F__law_rests (brick : (List Int)) (box_here : (List Int)) : (List Int) := (((rngI 0 ((box_here).length : Int)).filter (fun x1 : Int => (!decide ((((ix box_here x1) % (ix brick x1)) : Int) = 0)))).map (fun x1 : Int => x1))
def D__law_rests (brick : (List Int)) (box_here : (List Int)) : Prop := ((-(2 ^ 62) ≤ (((box_here).length : Int) : Int) ∧ (((box_here).length : Int) : Int) < 2 ^ 62) ∧ ((rngI 0 ((box_here).length : Int))).length ≤ 100000 ∧ (∀ x1 ∈ (rngI 0 ((box_here).length : Int)), ((0 ≤ (x1 : Int) ∧ (x1 : Int) < (box_here).length) ∧ (0 ≤ (x1 : Int) ∧ (x1 : Int) < (brick).length) ∧ (0 : Int) < (ix brick x1))))
theorem b__law_rests_ok (brick : (List Int)) (box_here : (List Int)) (h : D__law_rests brick box_here) (D : DN) (hp : D.rt ((eL eI) (F__law_rests brick box_here))) : b__law_rests D [some (.dat ((eT eI) brick)), some (.dat ((eT eI) box_here)), none] := by
  unfold b__law_rests
  unfold F__law_rests at hp
  exact (k_ret (show EV _ _ ((eL eI) (((rngI 0 ((box_here).length : Int)).filter (fun x1 : Int => (!decide ((((ix box_here x1) % (ix brick x1)) : Int) = 0)))).map (fun x1 : Int => x1))) from ev_fr (eo_lcI (r := [some (.dat ((eT eI) brick)), some (.dat ((eT eI) box_here)), none]) (vs := [2]) (e := eI) (e' := eI) (f := fun x1 => x1) (rx := fun x1 => [some (.dat ((eT eI) brick)), some (.dat ((eT eI) box_here)), some (.dat (eI x1))]) (c := fun x1 => (!decide ((((ix box_here x1) % (ix brick x1)) : Int) = 0))) (it_r1 (ev_cb (c_lenT eI box_here) (ea_cons (ev_var rfl) ea_nil)) h.1) ⟨trivial, trivial⟩ h.2.1 (fun x1 h2 => (fun P h => h)) (fun x1 h2 => (eb_t (ev_op (p_ne cmpI (by decide) ((ix box_here x1) % (ix brick x1)) 0) (ev_op (p_mod (ix box_here x1) (ix brick x1) (h.2.2 x1 h2).2.2) (ev_cb (c_int (ix box_here x1)) (ea_cons (ev_op (p_itT eI box_here x1 (h.2.2 x1 h2).1) (ev_var rfl) (ev_var rfl)) ea_nil)) (ev_op (p_itT eI brick x1 (h.2.2 x1 h2).2.1) (ev_var rfl) (ev_var rfl))) (ev_c _)))) (fun x1 h2 h3 => (ev_var rfl)))) hp)
theorem f__law_rests (brick : (List Int)) (box_here : (List Int)) (h : D__law_rests brick box_here) : CB m__law_rests [((eT eI) brick), ((eT eI) box_here)] ((eL eI) (F__law_rests brick box_here)) := fun P X p => ⟨rfl, b__law_rests_ok brick box_here h _ p⟩
def F__law_with (sides : (List Int)) (axis : Int) (side : Int) : (List Int) := (((sides.take (axis : Int).toNat) ++ [side]) ++ (sides.drop ((axis + 1) : Int).toNat))
def D__law_with (sides : (List Int)) (axis : Int) (side : Int) : Prop := ((0 : Int) ≤ axis ∧ ((sides.take (axis : Int).toNat) : (List Int)).length + ([side] : (List Int)).length ≤ 100000 ∧ (0 : Int) ≤ (axis + 1) ∧ (((sides.take (axis : Int).toNat) ++ [side]) : (List Int)).length + ((sides.drop ((axis + 1) : Int).toNat) : (List Int)).length ≤ 100000)
theorem b__law_with_ok (sides : (List Int)) (axis : Int) (side : Int) (h : D__law_with sides axis side) (D : DN) (hp : D.rt ((eT eI) (F__law_with sides axis side))) : b__law_with D [some (.dat ((eT eI) sides)), some (.dat (eI axis)), some (.dat (eI side))] := by
  unfold b__law_with
  unfold F__law_with at hp
  exact (k_ret (ev_op (p_catT eI ((sides.take (axis : Int).toNat) ++ [side]) (sides.drop ((axis + 1) : Int).toNat) h.2.2.2) (ev_op (p_catT eI (sides.take (axis : Int).toNat) [side] h.2.1) (ev_sl (p_toT eI sides axis h.1) (ev_var rfl) ep_none (ep_some (ev_var rfl))) (show EV _ _ ((eT eI) [side]) from ev_tup (ea_cons (ev_var rfl) ea_nil) (Nat.le_of_ble_eq_true rfl))) (ev_sl (p_fromT eI sides (axis + 1) h.2.2.1) (ev_var rfl) (ep_some (ev_op (p_add axis 1) (ev_var rfl) (ev_c _))) ep_none)) hp)
theorem f__law_with (sides : (List Int)) (axis : Int) (side : Int) (h : D__law_with sides axis side) : CB m__law_with [((eT eI) sides), (eI axis), (eI side)] ((eT eI) (F__law_with sides axis side)) := fun P X p => ⟨rfl, b__law_with_ok sides axis side h _ p⟩
def F__law_is_sum (side : Int) (one_here : Int) (other_ : Int) : Bool := (!decide (((((rngI 0 ((side / one_here) + 1)).filter (fun x4 : Int => (decide ((((side - (x4 * one_here)) % other_) : Int) = 0)))).map (fun x4 : Int => x4)) : (List Int)) = ([] : (List Int))))
def D__law_is_sum (side : Int) (one_here : Int) (other_ : Int) : Prop := (CDivW side one_here ∧ (-(2 ^ 62) ≤ (((side / one_here) + 1) : Int) ∧ (((side / one_here) + 1) : Int) < 2 ^ 62) ∧ ((rngI 0 ((side / one_here) + 1))).length ≤ 100000 ∧ (∀ x4 ∈ (rngI 0 ((side / one_here) + 1)), (CMulW x4 one_here ∧ (0 : Int) < other_)))
theorem b__law_is_sum_ok (side : Int) (one_here : Int) (other_ : Int) (h : D__law_is_sum side one_here other_) (D : DN) (hp : D.rt (eB (F__law_is_sum side one_here other_))) : b__law_is_sum D [some (.dat (eI side)), some (.dat (eI one_here)), some (.dat (eI other_)), none] := by
  unfold b__law_is_sum
  unfold F__law_is_sum at hp
  exact (k_ret (ev_op (p_ne (cmpL cmpI) (by decide) (((rngI 0 ((side / one_here) + 1)).filter (fun x4 : Int => (decide ((((side - (x4 * one_here)) % other_) : Int) = 0)))).map (fun x4 : Int => x4)) ([] : (List Int))) (show EV _ _ ((eL eI) (((rngI 0 ((side / one_here) + 1)).filter (fun x4 : Int => (decide ((((side - (x4 * one_here)) % other_) : Int) = 0)))).map (fun x4 : Int => x4))) from ev_fr (eo_lcI (r := [some (.dat (eI side)), some (.dat (eI one_here)), some (.dat (eI other_)), none]) (vs := [3]) (e := eI) (e' := eI) (f := fun x4 => x4) (rx := fun x4 => [some (.dat (eI side)), some (.dat (eI one_here)), some (.dat (eI other_)), some (.dat (eI x4))]) (c := fun x4 => (decide ((((side - (x4 * one_here)) % other_) : Int) = 0))) (it_r1 (ev_op (p_add (side / one_here) 1) (ev_op (p_fdiv side one_here h.1) (ev_var rfl) (ev_var rfl)) (ev_c _)) h.2.1) ⟨trivial, trivial⟩ h.2.2.1 (fun x4 h5 => (fun P h => h)) (fun x4 h5 => (eb_t (ev_op (p_eq cmpI (by decide) ((side - (x4 * one_here)) % other_) 0) (ev_op (p_mod (side - (x4 * one_here)) other_ (h.2.2.2 x4 h5).2) (ev_cb (c_int (side - (x4 * one_here))) (ea_cons (ev_op (p_sub side (x4 * one_here)) (ev_var rfl) (ev_op (p_mul x4 one_here (h.2.2.2 x4 h5).1) (ev_var rfl) (ev_var rfl))) ea_nil)) (ev_var rfl)) (ev_c _)))) (fun x4 h5 h6 => (ev_var rfl)))) (show EV _ _ ((eL eI) ([] : (List Int))) from ev_lst ea_nil (Nat.le_of_ble_eq_true rfl))) hp)
theorem f__law_is_sum (side : Int) (one_here : Int) (other_ : Int) (h : D__law_is_sum side one_here other_) : CB m__law_is_sum [(eI side), (eI one_here), (eI other_)] (eB (F__law_is_sum side one_here other_)) := fun P X p => ⟨rfl, b__law_is_sum_ok side one_here other_ h _ p⟩
def F__law_is_filled (pair_here : (List (List Int))) (box_here : (List Int)) : Bool := (if ((decide (((F__law_rests (ix pair_here 0) box_here) : (List Int)) = ([] : (List Int)))) || (decide (((F__law_rests (ix pair_here 1) box_here) : (List Int)) = ([] : (List Int))))) then true else (if ((decide (1 < (((F__law_rests (ix pair_here 0) box_here)).length : Int))) || (!decide (((F__law_rests (ix pair_here 0) box_here) : (List Int)) = (F__law_rests (ix pair_here 1) box_here)))) then false else (F__law_is_sum (ix box_here (ix (F__law_rests (ix pair_here 0) box_here) 0)) (ix (ix pair_here 0) (ix (F__law_rests (ix pair_here 0) box_here) 0)) (ix (ix pair_here 1) (ix (F__law_rests (ix pair_here 0) box_here) 0)))))
def D__law_is_filled (pair_here : (List (List Int))) (box_here : (List Int)) : Prop := ((0 ≤ (0 : Int) ∧ (0 : Int) < (pair_here).length) ∧ D__law_rests (ix pair_here 0) box_here ∧ (0 ≤ (1 : Int) ∧ (1 : Int) < (pair_here).length) ∧ D__law_rests (ix pair_here 1) box_here ∧ (((decide (((F__law_rests (ix pair_here 0) box_here) : (List Int)) = ([] : (List Int)))) || (decide (((F__law_rests (ix pair_here 1) box_here) : (List Int)) = ([] : (List Int))))) = false → ((((decide (1 < (((F__law_rests (ix pair_here 0) box_here)).length : Int))) || (!decide (((F__law_rests (ix pair_here 0) box_here) : (List Int)) = (F__law_rests (ix pair_here 1) box_here)))) = false → ((0 ≤ (0 : Int) ∧ (0 : Int) < ((F__law_rests (ix pair_here 0) box_here)).length) ∧ (0 ≤ ((ix (F__law_rests (ix pair_here 0) box_here) 0) : Int) ∧ ((ix (F__law_rests (ix pair_here 0) box_here) 0) : Int) < (box_here).length) ∧ (0 ≤ (0 : Int) ∧ (0 : Int) < (pair_here).length) ∧ (0 ≤ (0 : Int) ∧ (0 : Int) < ((F__law_rests (ix pair_here 0) box_here)).length) ∧ (0 ≤ ((ix (F__law_rests (ix pair_here 0) box_here) 0) : Int) ∧ ((ix (F__law_rests (ix pair_here 0) box_here) 0) : Int) < ((ix pair_here 0)).length) ∧ (0 ≤ (1 : Int) ∧ (1 : Int) < (pair_here).length) ∧ (0 ≤ (0 : Int) ∧ (0 : Int) < ((F__law_rests (ix pair_here 0) box_here)).length) ∧ (0 ≤ ((ix (F__law_rests (ix pair_here 0) box_here) 0) : Int) ∧ ((ix (F__law_rests (ix pair_here 0) box_here) 0) : Int) < ((ix pair_here 1)).length) ∧ D__law_is_sum (ix box_here (ix (F__law_rests (ix pair_here 0) box_here) 0)) (ix (ix pair_here 0) (ix (F__law_rests (ix pair_here 0) box_here) 0)) (ix (ix pair_here 1) (ix (F__law_rests (ix pair_here 0) box_here) 0)))))))
theorem b__law_is_filled_ok (pair_here : (List (List Int))) (box_here : (List Int)) (h : D__law_is_filled pair_here box_here) (D : DN) (hp : D.rt (eB (F__law_is_filled pair_here box_here))) : b__law_is_filled D [some (.dat ((eT (eT eI)) pair_here)), some (.dat ((eT eI) box_here)), none, none] := by
  unfold b__law_is_filled
  unfold F__law_is_filled at hp
  exact (k_par (ea_cons (show EV _ _ ((eL eI) (F__law_rests (ix pair_here 0) box_here)) from ev_call (f__law_rests (ix pair_here 0) box_here h.2.1) (ea_cons (ev_op (p_itT (eT eI) pair_here 0 h.1) (ev_var rfl) (ev_c _)) (ea_cons (ev_var rfl) ea_nil))) (ea_cons (show EV _ _ ((eL eI) (F__law_rests (ix pair_here 1) box_here)) from ev_call (f__law_rests (ix pair_here 1) box_here h.2.2.2.1) (ea_cons (ev_op (p_itT (eT eI) pair_here 1 h.2.2.1) (ev_var rfl) (ev_c _)) (ea_cons (ev_var rfl) ea_nil))) ea_nil)) (k_if (eb_or (eb_t (ev_op (p_eq (cmpL cmpI) (by decide) (F__law_rests (ix pair_here 0) box_here) ([] : (List Int))) (ev_var rfl) (show EV _ _ ((eL eI) ([] : (List Int))) from ev_lst ea_nil (Nat.le_of_ble_eq_true rfl)))) (fun h1 => (eb_t (ev_op (p_eq (cmpL cmpI) (by decide) (F__law_rests (ix pair_here 1) box_here) ([] : (List Int))) (ev_var rfl) (show EV _ _ ((eL eI) ([] : (List Int))) from ev_lst ea_nil (Nat.le_of_ble_eq_true rfl)))))) (fun h2 => (k_retS (ev_c _) (if_t (e := eB) h2 hp))) (fun h3 => (k_nx (k_if (eb_or (eb_t (ev_op (p_gt (((F__law_rests (ix pair_here 0) box_here)).length : Int) 1) (ev_cb (c_lenL eI (F__law_rests (ix pair_here 0) box_here)) (ea_cons (ev_var rfl) ea_nil)) (ev_c _))) (fun h4 => (eb_t (ev_op (p_ne (cmpL cmpI) (by decide) (F__law_rests (ix pair_here 0) box_here) (F__law_rests (ix pair_here 1) box_here)) (ev_var rfl) (ev_var rfl))))) (fun h5 => (k_retS (ev_c _) (if_t (e := eB) h5 (if_f (e := eB) h3 hp)))) (fun h6 => (k_nx (k_ret (show EV _ _ (eB (F__law_is_sum (ix box_here (ix (F__law_rests (ix pair_here 0) box_here) 0)) (ix (ix pair_here 0) (ix (F__law_rests (ix pair_here 0) box_here) 0)) (ix (ix pair_here 1) (ix (F__law_rests (ix pair_here 0) box_here) 0)))) from ev_call (f__law_is_sum (ix box_here (ix (F__law_rests (ix pair_here 0) box_here) 0)) (ix (ix pair_here 0) (ix (F__law_rests (ix pair_here 0) box_here) 0)) (ix (ix pair_here 1) (ix (F__law_rests (ix pair_here 0) box_here) 0)) ((h.2.2.2.2 h3) h6).2.2.2.2.2.2.2.2) (ea_cons (ev_op (p_itT eI box_here (ix (F__law_rests (ix pair_here 0) box_here) 0) ((h.2.2.2.2 h3) h6).2.1) (ev_var rfl) (ev_op (p_itL eI (F__law_rests (ix pair_here 0) box_here) 0 ((h.2.2.2.2 h3) h6).1) (ev_var rfl) (ev_c _))) (ea_cons (ev_op (p_itT eI (ix pair_here 0) (ix (F__law_rests (ix pair_here 0) box_here) 0) ((h.2.2.2.2 h3) h6).2.2.2.2.1) (ev_op (p_itT (eT eI) pair_here 0 ((h.2.2.2.2 h3) h6).2.2.1) (ev_var rfl) (ev_c _)) (ev_op (p_itL eI (F__law_rests (ix pair_here 0) box_here) 0 ((h.2.2.2.2 h3) h6).2.2.2.1) (ev_var rfl) (ev_c _))) (ea_cons (ev_op (p_itT eI (ix pair_here 1) (ix (F__law_rests (ix pair_here 0) box_here) 0) ((h.2.2.2.2 h3) h6).2.2.2.2.2.2.2.1) (ev_op (p_itT (eT eI) pair_here 1 ((h.2.2.2.2 h3) h6).2.2.2.2.2.1) (ev_var rfl) (ev_c _)) (ev_op (p_itL eI (F__law_rests (ix pair_here 0) box_here) 0 ((h.2.2.2.2 h3) h6).2.2.2.2.2.2.1) (ev_var rfl) (ev_c _))) ea_nil)))) (if_f (e := eB) h6 (if_f (e := eB) h3 hp))))))))))
theorem f__law_is_filled (pair_here : (List (List Int))) (box_here : (List Int)) (h : D__law_is_filled pair_here box_here) : CB m__law_is_filled [((eT (eT eI)) pair_here), ((eT eI) box_here)] (eB (F__law_is_filled pair_here box_here)) := fun P X p => ⟨rfl, b__law_is_filled_ok pair_here box_here h _ p⟩

/-! ### sides, pairs -/
theorem s_sides {n : Nat} {most : Int} {k : List Int → Prop} (hn : n ≤ 100) (h0 : 0 < most ∧ most ≤ 1000000000000000000) (hk : ∀ l, SL n most l → k l) : W__law_sides n most k := by
  unfold W__law_sides
  refine ⟨by omega, by rw [rngI_len]; omega, mapW_all (fun y => 1 ≤ y ∧ y ≤ most) (fun x _ nx hx => draw_i h0 fun r r0 r1 => hx _ ⟨by omega, by omega⟩) fun ys hl hy => hk ys ⟨by rw [hl, rngI_len]; omega, hy⟩⟩
theorem SL.mid {n : Nat} {most v : Int} {l : List Int} {i : Nat} (h : SL n most l) (hi : i < n) (hv : 1 ≤ v ∧ v ≤ most) : SL n most (l.take ((i : Int)).toNat ++ [v] ++ l.drop ((i : Int) + 1).toNat) := by
  rw [Int.toNat_natCast, show ((i : Int) + 1).toNat = i + 1 by omega]
  have := h.set i hv
  rwa [List.set_eq_take_append_cons_drop, if_pos (by rw [h.len]; exact hi), List.append_cons] at this
theorem s_pair {n : Nat} {most : Int} {k : List (List Int) → Prop} (hn : 1 ≤ n ∧ n ≤ 100) (h0 : 0 < most ∧ most ≤ 1000000000000000000) (hk : ∀ p q, SL n most p → SL n most q → k [p, q]) : W__law_pair n most k := by
  unfold W__law_pair
  refine s_sides hn.2 h0 fun p hp => s_sides hn.2 h0 fun q hq => draw_i ⟨by decide, by decide⟩ fun r r0 r1 => ⟨fun _ => draw_i ⟨by omega, by omega⟩ fun i i0 i1 => ⟨i0, draw_i h0 fun v v0 v1 => ?_⟩, fun _ => hk p q hp hq⟩
  obtain ⟨j, rfl⟩ := Int.eq_ofNat_of_zero_le i0
  have hl := hp.len
  refine ⟨by rw [List.length_take]; simp only [List.length_cons, List.length_nil]; omega, by omega, by rw [List.length_append, List.length_take, List.length_drop]; simp only [List.length_cons, List.length_nil]; omega, fun o ho => ?_⟩
  rw [ho]
  exact hk p _ hp (SL.mid hp (by omega) ⟨by omega, by omega⟩)
/-! ### cells -/
def F__law_cells (ns : List Int) : List (List Int) := cellsL ns
def D__law_cells (ns : List Int) : Prop := okG 90000 (ns.map fun n => (0, n)) 1 ∧ ns.length ≤ 100
theorem grow_ok (n : Int) (hn : -(2 ^ 60) ≤ n ∧ n ≤ 2 ^ 60) {k : List (List Int) → Prop} : ∀ (rows acc : List (List Int)), (∀ r ∈ rows, r.length ≤ 1000) → acc.length + (stepG 0 n rows).length ≤ 100000 → k (acc ++ stepG 0 n rows) →
    forW (S := List (List Int)) rows (fun x s nx => ((-(2 ^ 62) ≤ n ∧ n < 2 ^ 62) ∧ (rngI 0 n).length ≤ 100000 ∧ (∀ y ∈ rngI 0 n, x.length + ([y] : List Int).length ≤ 100000) ∧ s.length + ((rngI 0 n).map fun y => x ++ [y]).length ≤ 100000 ∧ ∀ l : List (List Int), l = s ++ ((rngI 0 n).map fun y => x ++ [y]) → nx l)) k acc
  | [], acc, _, _, hk => by
    show k acc
    rwa [show stepG 0 n [] = [] from rfl, List.append_nil] at hk
  | r :: rows, acc, hr, hl, hk => by
    have e : stepG 0 n (r :: rows) = ((rngI 0 n).map fun y => r ++ [y]) ++ stepG 0 n rows := by unfold stepG; rw [List.map_cons, List.flatten_cons]
    rw [e, List.length_append, List.length_map] at hl
    refine ⟨by omega, by omega, fun y _ => by have := hr r List.mem_cons_self; simp only [List.length_cons, List.length_nil]; omega, by rw [List.length_map]; omega, fun l hl' => ?_⟩
    rw [hl']
    refine grow_ok n hn rows _ (fun r' h => hr r' (List.mem_cons_of_mem _ h)) (by rw [List.length_append, List.length_map]; omega) ?_
    rw [List.append_assoc, ← e]; exact hk
theorem cells_ok {k : List (List Int) → Prop} : ∀ (ns : List Int) (rows : List (List Int)) (m : Nat), okG 90000 (ns.map fun n => (0, n)) rows.length → (∀ r ∈ rows, r.length = m) → m + ns.length ≤ 1000 → k (gridF (ns.map fun n => (0, n)) rows) →
    forW (S := List (List Int)) ns (fun x4 s5 nx6 => ∀ longer12 : List (List Int), longer12 = [] → forW (S := List (List Int)) s5 (fun x s nx => ((-(2 ^ 62) ≤ x4 ∧ x4 < 2 ^ 62) ∧ (rngI 0 x4).length ≤ 100000 ∧ (∀ y ∈ rngI 0 x4, x.length + ([y] : List Int).length ≤ 100000) ∧ s.length + ((rngI 0 x4).map fun y => x ++ [y]).length ≤ 100000 ∧ ∀ l : List (List Int), l = s ++ ((rngI 0 x4).map fun y => x ++ [y]) → nx l)) (fun s => nx6 s) longer12) k rows
  | [], rows, m, _, _, _, hk => hk
  | n :: ns, rows, m, ok, hm, hl, hk => by
    intro lg hlg
    rw [hlg]
    rw [List.length_cons] at hl
    have hB := okG_hd ok.2.2
    have e : (stepG 0 n rows).length = rows.length * (n - 0).toNat := stepG_len 0 n rows
    refine grow_ok n ⟨ok.2.1.2.2.1, ok.2.1.2.2.2⟩ rows [] (fun r h => by rw [hm r h]; omega) ?_ ?_
    · rw [e, List.length_nil]
      exact Nat.le_trans (by rw [Nat.zero_add]; exact hB) (by decide)
    · rw [List.nil_append]
      refine cells_ok ns _ (m + 1) (by rw [e]; exact ok.2.2) (fun r h => ?_) (by omega) hk
      obtain ⟨r0, h0, x, _, rfl⟩ := stepG_mem.mp h
      rw [List.length_append, hm r0 h0]; rfl
theorem f__law_cells (ns : List Int) (h : D__law_cells ns) : CB m__law_cells [eT eI ns] (eL (eT eI) (F__law_cells ns)) := fun P X p => by
  refine w__law_cells (k := fun l => l = F__law_cells ns) ?_ P X fun v hv => by rw [hv]; exact p
  unfold W__law_cells
  intro found hf
  rw [hf]
  exact cells_ok ns [[]] 0 h.1 (fun r hr => by rw [List.mem_singleton.mp hr]; rfl) (by have := h.2; omega) rfl
def W__law_cellsL (sides_here : (List Int)) (k : (List (List Int)) → Prop) : Prop := ((∀ found1 : (List (List Int)), found1 = [([] : (List Int))] → (forW (S := (List (List Int))) sides_here (fun x4 s5 nx6 => ((∀ longer12 : (List (List Int)), longer12 = ([] : (List (List Int))) → (forW (S := (List (List Int))) s5 (fun x15 s16 nx17 => ((-(2 ^ 62) ≤ (x4 : Int) ∧ (x4 : Int) < 2 ^ 62) ∧ ((rngI 0 x4)).length ≤ 100000 ∧ (∀ x23 ∈ (rngI 0 x4), ((x15 : (List Int)).length + ([x23] : (List Int)).length ≤ 100000)) ∧ (s16).length + (((rngI 0 x4).map (fun x23 : Int => (x15 ++ [x23])))).length ≤ 100000 ∧ (∀ longer25 : (List (List Int)), longer25 = (s16 ++ ((rngI 0 x4).map (fun x23 : Int => (x15 ++ [x23])))) → (nx17 longer25)))) (fun s29 => (nx6 s29)) longer12)))) (fun s31 => (k s31)) found1)))
theorem w__law_cellsL_b (sides_here : (List Int)) {k : (List (List Int)) → Prop} (h : W__law_cellsL sides_here k) (D : DN) (hk : ∀ v, k v → D.rt ((eL (eT eI)) v)) : b__law_cells D [some (.dat ((eL eI) sides_here)), none, none, none, none, none] := by
  unfold b__law_cells
  exact (k_let [([] : (List Int))] fun found1 e2 => (k_asg (r' := [some (.dat ((eL eI) sides_here)), some (.dat ((eL (eT eI)) found1)), none, none, none, none]) (ev_eq (e := (eL (eT eI))) e2 (show EV _ _ ((eL (eT eI)) [([] : (List Int))]) from ev_lst (ea_cons (show EV _ _ ((eT eI) ([] : (List Int))) from ev_tup ea_nil (Nat.le_of_ble_eq_true rfl)) ea_nil) (Nat.le_of_ble_eq_true rfl))) (fun P h => h) (k_for (S := (List (List Int))) (e := eI) (re := fun s5 => [none, some (.dat ((eL (eT eI)) s5)), none, none, none, none]) (body := (fun x4 s5 nx6 => ((∀ longer12 : (List (List Int)), longer12 = ([] : (List (List Int))) → (forW (S := (List (List Int))) s5 (fun x15 s16 nx17 => ((-(2 ^ 62) ≤ (x4 : Int) ∧ (x4 : Int) < 2 ^ 62) ∧ ((rngI 0 x4)).length ≤ 100000 ∧ (∀ x23 ∈ (rngI 0 x4), ((x15 : (List Int)).length + ([x23] : (List Int)).length ≤ 100000)) ∧ (s16).length + (((rngI 0 x4).map (fun x23 : Int => (x15 ++ [x23])))).length ≤ 100000 ∧ (∀ longer25 : (List (List Int)), longer25 = (s16 ++ ((rngI 0 x4).map (fun x23 : Int => (x15 ++ [x23])))) → (nx17 longer25)))) (fun s29 => (nx6 s29)) longer12))))) (k := (fun s31 => (k s31))) (it_L (e := eI) (ev_var rfl)) rfl (fun x4 s5 nx6 D7 hr8 hn9 hc10 h11 => (k_gv (r' := [none, some (.dat ((eL (eT eI)) s5)), some (.dat (eI x4)), none, none, none]) (fun P h => h) (k_let ([] : (List (List Int))) fun longer12 e13 => (k_new (eo_eq (e := (eT eI)) e13 (show EO _ _ (([] : (List (List Int))).map (eT eI)) from eo_lst ea_nil (Nat.le_of_ble_eq_true rfl))) (Nat.le_of_ble_eq_true rfl) (show _ from (k_for (S := (List (List Int))) (e := (eT eI)) (re := fun s16 => [none, none, some (.dat (eI x4)), some (.own (s16.map (eT eI))), none, none]) (body := (fun x15 s16 nx17 => ((-(2 ^ 62) ≤ (x4 : Int) ∧ (x4 : Int) < 2 ^ 62) ∧ ((rngI 0 x4)).length ≤ 100000 ∧ (∀ x23 ∈ (rngI 0 x4), ((x15 : (List Int)).length + ([x23] : (List Int)).length ≤ 100000)) ∧ (s16).length + (((rngI 0 x4).map (fun x23 : Int => (x15 ++ [x23])))).length ≤ 100000 ∧ (∀ longer25 : (List (List Int)), longer25 = (s16 ++ ((rngI 0 x4).map (fun x23 : Int => (x15 ++ [x23])))) → (nx17 longer25))))) (k := (fun s29 => (nx6 s29))) (it_L (e := (eT eI)) (ev_cb (c_listL (eT eI) s5) (ea_cons (ev_var rfl) ea_nil))) rfl (fun x15 s16 nx17 D18 hr19 hn20 hc21 h22 => (k_gv (r' := [none, none, some (.dat (eI x4)), some (.own (s16.map (eT eI))), some (.dat ((eT eI) x15)), none]) (fun P h => h) (k_last (k_let (s16 ++ ((rngI 0 x4).map (fun x23 : Int => (x15 ++ [x23])))) fun longer25 e26 => (k_ext (e := (eT eI)) (xs := s16) (ys := ((rngI 0 x4).map (fun x23 : Int => (x15 ++ [x23])))) rfl (show EV _ _ ((eL (eT eI)) ((rngI 0 x4).map (fun x23 : Int => (x15 ++ [x23])))) from ev_fr (eo_lc (r := [none, none, some (.dat (eI x4)), some (.own (s16.map (eT eI))), some (.dat ((eT eI) x15)), none]) (vs := [5]) (e := eI) (e' := (eT eI)) (f := fun x23 => (x15 ++ [x23])) (rx := fun x23 => [none, none, some (.dat (eI x4)), some (.own (s16.map (eT eI))), some (.dat ((eT eI) x15)), some (.dat (eI x23))]) (it_r1 (ev_var rfl) h22.1) ⟨trivial, trivial⟩ h22.2.1 (fun x23 h24 => (fun P h => h)) (fun x23 h24 => (ev_op (p_catT eI x15 [x23] (h22.2.2.1 x23 h24)) (ev_var rfl) (show EV _ _ ((eT eI) [x23]) from ev_tup (ea_cons (ev_var rfl) ea_nil) (Nat.le_of_ble_eq_true rfl)))))) h22.2.2.2.1 (ty_own (e := (eT eI)) e26 (k_end (hn20 longer25 _ (h22.2.2.2.2 longer25 e26) rfl)))))))) (fun s29 h28 => (k_last (k_fz (r' := [none, none, some (.dat (eI x4)), some (.dat ((eL (eT eI)) s29)), none, none]) rfl (k_asg (r' := [none, some (.dat ((eL (eT eI)) s29)), some (.dat (eI x4)), some (.dat ((eL (eT eI)) s29)), none, none]) (ev_var rfl) (fun P h => h) (k_end (hn9 s29 _ h28 rfl)))))) (h11 longer12 e13))))))) (fun s31 h30 => (k_ret (ev_var rfl) (hk _ h30))) (h found1 e2))))
theorem w__law_cellsL {sides_here : (List Int)} {k : (List (List Int)) → Prop} (h : W__law_cellsL sides_here k) (P : PyData → Prop) (X : Xc → Prop) (hk : ∀ v, k v → P ((eL (eT eI)) v)) : m__law_cells [((eL eI) sides_here)] P X := ⟨rfl, w__law_cellsL_b sides_here h _ hk⟩

def F__law_cellsL (ns : List Int) : List (List Int) := cellsL ns
def D__law_cellsL (ns : List Int) : Prop := okG 90000 (ns.map fun n => (0, n)) 1 ∧ ns.length ≤ 100
theorem f__law_cellsL (ns : List Int) (h : D__law_cellsL ns) : CB m__law_cells [eL eI ns] (eL (eT eI) (F__law_cellsL ns)) := fun P X p => by
  refine w__law_cellsL (k := fun l => l = F__law_cells ns) ?_ P X fun v hv => by rw [hv]; exact p
  unfold W__law_cellsL
  intro found hf
  rw [hf]
  exact cells_ok ns [[]] 0 h.1 (fun r hr => by rw [List.mem_singleton.mp hr]; rfl) (by have := h.2; omega) rfl
theorem cells_mem {ns x : List Int} (h : x ∈ F__law_cells ns) : x.length = ns.length ∧ ∀ i < ns.length, 0 ≤ gt x i ∧ gt x i < gt ns i := by
  obtain ⟨r0, h0, xs, rfl, hl, hx⟩ := gridF_mem h
  rw [List.mem_singleton.mp h0, List.nil_append]
  rw [List.length_map] at hl
  refine ⟨hl, fun i hi => ?_⟩
  exact hx i _ (0, gt ns i) (gt_some (by omega)) (by rw [List.getElem?_map, gt_some hi]; rfl)
theorem grid_of : ∀ (ns xs : List Int) (rows : List (List Int)) (r0 : List Int), r0 ∈ rows → xs.length = ns.length → (∀ i < ns.length, 0 ≤ gt xs i ∧ gt xs i < gt ns i) → r0 ++ xs ∈ gridF (ns.map fun n => (0, n)) rows
  | [], [], rows, r0, h, _, _ => by rw [List.append_nil]; exact h
  | n :: ns, x :: xs, rows, r0, h, hl, hx => by
    have := grid_of ns xs (stepG 0 n rows) (r0 ++ [x]) (stepG_mem.mpr ⟨r0, h, x, hx 0 (by simp), rfl⟩) (by simpa using hl) (fun i hi => hx (i + 1) (by simpa using hi))
    rw [List.append_assoc] at this
    exact this
  | [], _ :: _, _, _, _, hl, _ => by simp at hl
  | _ :: _, [], _, _, _, hl, _ => by simp at hl
theorem cells_of_mem {ns x : List Int} (hl : x.length = ns.length) (hx : ∀ i < ns.length, 0 ≤ gt x i ∧ gt x i < gt ns i) : x ∈ F__law_cells ns := by
  have := grid_of ns x [[]] [] (List.mem_singleton.mpr rfl) hl hx
  rwa [List.nil_append] at this
theorem okG_pow {B C : Nat} (hC : 1 ≤ C) (hC2 : (C : Int) ≤ 2 ^ 60) : ∀ (ns : List Int) (m : Nat), (∀ x ∈ ns, 0 ≤ x ∧ x ≤ C) → m * C ^ ns.length ≤ B → okG B (ns.map fun n => (0, n)) m
  | [], m, _, h => by simpa [okG] using h
  | x :: ns, m, hx, h => by
    have hp := Nat.pow_pos (n := ns.length) (show 0 < C by omega)
    have x0 := hx x List.mem_cons_self
    rw [List.length_cons, Nat.pow_succ, Nat.mul_comm _ C, ← Nat.mul_assoc] at h
    have h1 : m * (x - 0).toNat ≤ m * C := Nat.mul_le_mul_left _ (by omega)
    have h2 : m * C * 1 ≤ m * C * C ^ ns.length := Nat.mul_le_mul_left _ hp
    have h3 : m * 1 ≤ m * C := Nat.mul_le_mul_left _ hC
    have q : -(2 ^ 60) ≤ (0 : Int) ∧ (0 : Int) ≤ 2 ^ 60 := by decide
    refine ⟨by omega, ⟨q.1, q.2, by show -(2 ^ 60) ≤ x; omega, by show x ≤ 2 ^ 60; omega⟩, ?_⟩
    exact okG_pow hC hC2 ns _ (fun y hy => hx y (List.mem_cons_of_mem _ hy)) (Nat.le_trans (Nat.mul_le_mul_right _ h1) h)
/-! ### numbers -/
def F__law_divisor (a b : Int) : Int := (Nat.gcd a.natAbs b.natAbs : Nat)
def D__law_divisor (a b : Int) : Prop := 0 ≤ a ∧ 0 ≤ b
theorem f__law_divisor (a b : Int) (h : D__law_divisor a b) : CB m__law_divisor [eI a, eI b] (eI (F__law_divisor a b)) := fun P X p => by
  refine w__law_divisor (k := fun v => v = F__law_divisor a b) ?_ P X fun v hv => by rw [hv]; exact p
  unfold W__law_divisor
  refine whW_rule (fun n s => s.2 = (n : Int) ∧ 0 ≤ s.1 ∧ Nat.gcd s.1.natAbs s.2.natAbs = Nat.gcd a.natAbs b.natAbs) (n := b.toNat) ⟨(Int.toNat_of_nonneg h.2).symm, h.1, rfl⟩ (fun _ _ _ => trivial) (fun n s nx hJ hc hn => ?_) (fun n s hJ hc => ?_)
  · obtain ⟨x, y⟩ := s
    obtain ⟨h1, h2, h3⟩ := hJ
    have hc' := of_decide_eq_true hc
    dsimp only at h1 h2 h3 hc' ⊢
    refine ⟨hc', fun u hu v hv => ?_⟩
    have m1 := Int.emod_nonneg x (show y ≠ 0 by omega)
    have m2 := Int.emod_lt_of_pos x hc'
    refine hn (x % y).toNat _ (by omega) ⟨by rw [hv, Int.toNat_of_nonneg m1], by rw [hu]; omega, ?_⟩
    rw [hu, hv, ← h3]
    obtain ⟨X, rfl⟩ := Int.eq_ofNat_of_zero_le h2
    obtain ⟨Y, rfl⟩ := Int.eq_ofNat_of_zero_le (show 0 ≤ y by omega)
    show Nat.gcd Y (X % Y) = Nat.gcd X Y
    rw [Nat.gcd_comm Y, ← Nat.gcd_rec, Nat.gcd_comm]
  · obtain ⟨x, y⟩ := s
    obtain ⟨h1, h2, h3⟩ := hJ
    have hc' := of_decide_eq_false hc
    dsimp only at h1 h2 h3 hc' ⊢
    have : y = 0 := by omega
    subst this
    unfold F__law_divisor
    rw [← h3]
    show x = ((Nat.gcd x.natAbs 0 : Nat) : Int)
    rw [Nat.gcd_zero_right]
    omega

def F__law_lcm (one_here : Int) (other_ : Int) : Int := ((one_here * other_) / (F__law_divisor one_here other_))
def D__law_lcm (one_here : Int) (other_ : Int) : Prop := (CMulW one_here other_ ∧ D__law_divisor one_here other_ ∧ CDivW (one_here * other_) (F__law_divisor one_here other_))
theorem b__law_lcm_ok (one_here : Int) (other_ : Int) (h : D__law_lcm one_here other_) (D : DN) (hp : D.rt (eI (F__law_lcm one_here other_))) : b__law_lcm D [some (.dat (eI one_here)), some (.dat (eI other_))] := by
  unfold b__law_lcm
  unfold F__law_lcm at hp
  exact (k_ret (ev_op (p_fdiv (one_here * other_) (F__law_divisor one_here other_) h.2.2) (ev_op (p_mul one_here other_ h.1) (ev_var rfl) (ev_var rfl)) (show EV _ _ (eI (F__law_divisor one_here other_)) from ev_call (f__law_divisor one_here other_ h.2.1) (ea_cons (ev_var rfl) (ea_cons (ev_var rfl) ea_nil)))) hp)
theorem f__law_lcm (one_here : Int) (other_ : Int) (h : D__law_lcm one_here other_) : CB m__law_lcm [(eI one_here), (eI other_)] (eI (F__law_lcm one_here other_)) := fun P X p => ⟨rfl, b__law_lcm_ok one_here other_ h _ p⟩

theorem D_lcm {a b : Int} (ha : 1 ≤ a ∧ a ≤ 2 ^ 120) (hb : 1 ≤ b ∧ b ≤ 2 ^ 120) : D__law_lcm a b := by
  have p : (2 : Int) ^ 120 ≤ 2 ^ 250 := by decide
  have g := gcd_bd ha.1 hb.1
  exact ⟨cmul (by omega) (by omega), ⟨by omega, by omega⟩, cdiv (by show 0 < F__law_divisor a b; unfold F__law_divisor; omega) (by show F__law_divisor a b ≤ _; unfold F__law_divisor; omega)⟩
theorem lcm_eq (a b : Int) : F__law_lcm a b = a * b / (Nat.gcd a.natAbs b.natAbs : Nat) := rfl
theorem lcm_nat (A B : Nat) : F__law_lcm A B = (Nat.lcm A B : Nat) := by
  rw [lcm_eq, Int.natAbs_natCast, Int.natAbs_natCast]; rfl
theorem lcm_facts {a b : Int} (ha : 1 ≤ a) (hb : 1 ≤ b) : a ∣ F__law_lcm a b ∧ b ∣ F__law_lcm a b ∧ a ≤ F__law_lcm a b ∧ F__law_lcm a b ≤ a * b := by
  have g := gcd_bd ha hb
  rw [lcm_eq]
  refine ⟨?_, ?_, g.2.2.1, g.2.2.2⟩
  all_goals
    obtain ⟨A, rfl⟩ := Int.eq_ofNat_of_zero_le (show 0 ≤ a by omega)
    obtain ⟨B, rfl⟩ := Int.eq_ofNat_of_zero_le (show 0 ≤ b by omega)
    have e : (A : Int) * B / (Nat.gcd (A : Int).natAbs (B : Int).natAbs : Nat) = (Nat.lcm A B : Nat) := rfl
    rw [e]
  · exact Int.natCast_dvd_natCast.mpr (Nat.dvd_lcm_left A B)
  · exact Int.natCast_dvd_natCast.mpr (Nat.dvd_lcm_right A B)
/-! ### with -/
theorem lwith {l : List Int} {i : Nat} (v : Int) (h : i < l.length) : F__law_with l (i : Int) v = l.set i v := with_set v h
theorem D_lwith {l : List Int} {i : Nat} (v : Int) (h : i < l.length) (hl : l.length ≤ 1000) : D__law_with l (i : Int) v := D_with v h hl
/-! ### volume -/
def F__law_volume (l : List Int) : Int := l.foldl (· * ·) 1
def D__law_volume (l : List Int) : Prop := l.length ≤ 4 ∧ ∀ x ∈ l, 1 ≤ x ∧ x ≤ 2 ^ 50
theorem vol_fold : ∀ (l : List Int) (s : Int) (j : Nat), 0 ≤ s → s ≤ 2 ^ (50 * j) → j + l.length ≤ 4 → (∀ x ∈ l, 1 ≤ x ∧ x ≤ 2 ^ 50) → ∀ k : Int → Prop, k (l.foldl (· * ·) s) → forW (S := Int) l (fun x1 s2 nx3 => (CMulW s2 x1 ∧ (∀ found9 : Int, found9 = (s2 * x1) → (nx3 found9)))) k s
  | [], s, j, _, _, _, _, k, hk => hk
  | x :: l, s, j, h0, h1, h2, h3, k, hk => by
    rw [List.length_cons] at h2
    have hx := h3 x List.mem_cons_self
    have hj : j = 0 ∨ j = 1 ∨ j = 2 ∨ j = 3 := by omega
    have hs : s ≤ 2 ^ 150 := by rcases hj with rfl | rfl | rfl | rfl <;> exact Int.le_trans h1 (by decide)
    have p1 : (2 : Int) ^ 150 ≤ 2 ^ 250 := by decide
    have p2 : (2 : Int) ^ 50 ≤ 2 ^ 250 := by decide
    refine ⟨cmul (by omega) (by omega), fun f hf => ?_⟩
    rw [hf]
    refine vol_fold l (s * x) (j + 1) (Int.mul_nonneg h0 (by omega)) ?_ (by omega) (fun y hy => h3 y (List.mem_cons_of_mem _ hy)) k hk
    have := Int.mul_le_mul h1 hx.2 (by omega) (by exact Int.le_of_lt (Int.pow_pos (by decide)))
    rw [show 50 * (j + 1) = 50 * j + 50 by omega, Int.pow_add]
    exact this
theorem f__law_volume (l : List Int) (h : D__law_volume l) : CB m__law_volume [eT eI l] (eI (F__law_volume l)) := fun P X p => by
  refine w__law_volume (k := fun v => v = F__law_volume l) ?_ P X fun v hv => by rw [hv]; exact p
  unfold W__law_volume
  exact vol_fold l 1 0 (by decide) (by decide) (by have := h.1; omega) h.2 _ rfl
theorem foldl_mul (l : List Int) : ∀ s : Int, l.foldl (· * ·) s = s * l.prod := by
  induction l with
  | nil => intro s; simp
  | cons x l ih => intro s; rw [List.foldl_cons, ih, List.prod_cons, Int.mul_assoc]
theorem vol_prod (l : List Int) : F__law_volume l = l.prod := by unfold F__law_volume; rw [foldl_mul, Int.one_mul]

/-! ### rests -/
theorem dmod {a b : Int} : decide (a % b = 0) = decide (b ∣ a) := decide_eq_decide.mpr ⟨Int.dvd_of_emod_eq_zero, Int.emod_eq_zero_of_dvd⟩
section
variable {n : Nat} {m m' : Int} {p q l : List Int}
theorem D_rests (hp : SL n m p) (hl : l.length = n) (hn : n ≤ 1000) : D__law_rests p l := by
  refine ⟨by omega, by rw [rngI_len]; omega, fun x hx => ?_⟩
  obtain ⟨h0, h1⟩ := mem_rngI.mp hx
  obtain ⟨j, rfl⟩ := Int.eq_ofNat_of_zero_le h0
  have hj : j < n := by omega
  have := hp.at hj
  exact ⟨by omega, by rw [hp.len]; omega, by rw [ixg]; omega⟩
theorem rests_mem (hl : l.length = n) {x : Int} : x ∈ F__law_rests p l ↔ ∃ i : Nat, i < n ∧ x = i ∧ ¬ gt p i ∣ gt l i := by
  unfold F__law_rests
  rw [List.map_id', List.mem_filter, mem_rngI]
  constructor
  · rintro ⟨⟨h0, h1⟩, h2⟩
    obtain ⟨j, rfl⟩ := Int.eq_ofNat_of_zero_le h0
    refine ⟨j, by omega, rfl, fun hd => ?_⟩
    rw [ixg, ixg, dmod, decide_eq_true hd] at h2
    cases h2
  · rintro ⟨i, hi, rfl, hd⟩
    refine ⟨by omega, ?_⟩
    rw [ixg, ixg, dmod, decide_eq_false hd]; rfl
theorem rests_nil (hl : l.length = n) : F__law_rests p l = [] ↔ Dv n p l := by
  rw [List.eq_nil_iff_forall_not_mem]
  constructor
  · intro h i hi
    rcases Classical.em (gt p i ∣ gt l i) with z | z
    · exact z
    · exact (h i ((rests_mem hl).mpr ⟨i, hi, rfl, z⟩)).elim
  · intro h x hx
    obtain ⟨i, hi, _, z⟩ := (rests_mem hl).mp hx
    exact z (h i hi)
theorem rests_nodup (p l : List Int) : (F__law_rests p l).Nodup := by
  unfold F__law_rests
  rw [List.map_id']
  refine List.Pairwise.filter _ ?_
  unfold rngI
  rw [List.pairwise_map]
  refine List.Pairwise.imp (fun {a b} h z => h (by omega)) List.nodup_range
theorem rests_one (hl : l.length = n) {k : Nat} (h : F__law_rests p l = [(k : Int)]) : k < n ∧ ¬ gt p k ∣ gt l k ∧ Ac n p l k := by
  have hk : (k : Int) ∈ F__law_rests p l := by rw [h]; exact List.mem_singleton.mpr rfl
  obtain ⟨i, hi, e, z⟩ := (rests_mem hl).mp hk
  have : i = k := by omega
  subst this
  refine ⟨hi, z, fun j hj hjk => ?_⟩
  rcases Classical.em (gt p j ∣ gt l j) with w | w
  · exact w
  · have : (j : Int) ∈ F__law_rests p l := (rests_mem hl).mpr ⟨j, hj, rfl, w⟩
    rw [h, List.mem_singleton] at this
    omega
theorem rests_of (hl : l.length = n) {k : Nat} (hk : k < n) (h1 : ¬ gt p k ∣ gt l k) (h2 : Ac n p l k) : F__law_rests p l = [(k : Int)] := by
  have hm : ∀ x ∈ F__law_rests p l, x = (k : Int) := fun x hx => by
    obtain ⟨i, hi, e, z⟩ := (rests_mem hl).mp hx
    by_cases hik : i = k
    · rw [e, hik]
    · exact (z (h2 i hi hik)).elim
  have hin : (k : Int) ∈ F__law_rests p l := (rests_mem hl).mpr ⟨k, hk, rfl, h1⟩
  have nd := rests_nodup p l
  match hF : F__law_rests p l with
  | [] => rw [hF] at hin; cases hin
  | [x] => rw [hF] at hm; rw [hm x List.mem_cons_self]
  | x :: y :: r =>
    rw [hF] at hm nd
    rw [hm x List.mem_cons_self, hm y (List.mem_cons_of_mem _ List.mem_cons_self)] at nd
    simp at nd
theorem ne_nil_mem {α : Type} {l : List α} : l ≠ [] ↔ ∃ x, x ∈ l := ⟨fun h => List.exists_mem_of_ne_nil l h, fun ⟨x, hx⟩ e => by rw [e] at hx; cases hx⟩
/-! ### sums, told by going through all -/
theorem sum_of_dvd {a b w : Int} (ha : 1 ≤ a) (hw : 0 ≤ w) (h : a ∣ w) : Sum2 a b w := by
  obtain ⟨c, hc⟩ := h
  have hc0 : 0 ≤ c := by
    rcases Int.lt_or_le c 0 with z | z
    · have : a * c ≤ a * (-1) := Int.mul_le_mul_of_nonneg_left (by omega) (by omega)
      omega
    · exact z
  exact ⟨c.toNat, 0, by rw [Int.toNat_of_nonneg hc0, Int.mul_comm c]; omega⟩
theorem is_sum_iff {a b w : Int} (ha : 1 ≤ a) (hb : 1 ≤ b) (hw : 0 ≤ w) : F__law_is_sum w a b = true ↔ Sum2 a b w := by
  unfold F__law_is_sum
  rw [List.map_id', Bool.not_eq_true', decide_eq_false_iff_not, ← ne_eq, ne_nil_mem]
  have hq : 0 ≤ w / a := Int.ediv_nonneg hw (by omega)
  have hqm : w / a * a ≤ w := Int.ediv_mul_le w (by omega)
  constructor
  · rintro ⟨x, hx⟩
    obtain ⟨h1, h2⟩ := List.mem_filter.mp hx
    obtain ⟨h3, h4⟩ := mem_rngI.mp h1
    obtain ⟨c, hc⟩ := Int.dvd_of_emod_eq_zero (of_decide_eq_true h2)
    have hxa : x * a ≤ w / a * a := Int.mul_le_mul_of_nonneg_right (by omega) (by omega)
    have hc0 : 0 ≤ c := by
      rcases Int.lt_or_le c 0 with z | z
      · have : b * c ≤ b * (-1) := Int.mul_le_mul_of_nonneg_left (by omega) (by omega)
        omega
      · exact z
    exact ⟨x.toNat, c.toNat, by rw [Int.toNat_of_nonneg h3, Int.toNat_of_nonneg hc0, Int.mul_comm c]; omega⟩
  · rintro ⟨x, y, h⟩
    have h2 : (0 : Int) ≤ (y : Int) * b := Int.mul_nonneg (by omega) (by omega)
    have hx : (x : Int) ≤ w / a := (Int.le_ediv_iff_mul_le (by omega)).mpr (by omega)
    refine ⟨x, List.mem_filter.mpr ⟨mem_rngI.mpr ⟨by omega, by omega⟩, decide_eq_true ?_⟩⟩
    rw [h, show (x : Int) * a + y * b - x * a = y * b by omega]
    exact Int.mul_emod_left _ _
theorem D_is_sum {a b w : Int} (ha : 1 ≤ a ∧ a ≤ 2 ^ 60) (hb : 1 ≤ b ∧ b ≤ 2 ^ 60) (hw : 0 ≤ w ∧ w ≤ 90000) : D__law_is_sum w a b := by
  have h1 : w / a ≤ w := Int.ediv_le_self _ hw.1
  have h0 : 0 ≤ w / a := Int.ediv_nonneg hw.1 (by omega)
  have p2 : (2 : Int) ^ 60 ≤ 2 ^ 250 := by decide
  refine ⟨cdiv (by omega) (by omega), by omega, by rw [rngI_len]; omega, fun x hx => ?_⟩
  obtain ⟨x0, x1⟩ := mem_rngI.mp hx
  exact ⟨cmul (by omega) (by omega), by omega⟩
/-! ### is_filled, told by the rests -/
theorem eqv_sh {d1 d2 : PyData} : True := trivial
theorem lfil_iff (h : PB n m m' p q l) (hb : m' ≤ 90000) (hm : m ≤ 2 ^ 60) : F__law_is_filled [p, q] l = true ↔ Filled n p q l := by
  have hl := h.box.len
  have n1 := rests_nil (p := p) hl
  have n2 := rests_nil (p := q) hl
  unfold F__law_is_filled
  rw [ix0, ix1]
  by_cases c1 : Dv n p l
  · rw [if_pos (by rw [decide_eq_true (n1.mpr c1)]; rfl)]
    exact ⟨fun _ => .inl c1, fun _ => rfl⟩
  by_cases c2 : Dv n q l
  · rw [if_pos (by rw [decide_eq_true (n2.mpr c2), Bool.or_true])]
    exact ⟨fun _ => .inr (.inl c2), fun _ => rfl⟩
  rw [if_neg (by rw [decide_eq_false (fun z => c1 (n1.mp z)), decide_eq_false (fun z => c2 (n2.mp z))]; decide)]
  have key : Filled n p q l ↔ ∃ k : Nat, F__law_rests p l = [(k : Int)] ∧ F__law_rests q l = [(k : Int)] ∧ Sum2 (gt p k) (gt q k) (gt l k) := by
    constructor
    · rintro (z | z | ⟨k, hk, z1, z2, z3⟩)
      · exact (c1 z).elim
      · exact (c2 z).elim
      · have f1 : ¬ gt p k ∣ gt l k := fun z => c1 fun i hi => by
          by_cases e : i = k
          · rw [e]; exact z
          · exact z1 i hi e
        have f2 : ¬ gt q k ∣ gt l k := fun z => c2 fun i hi => by
          by_cases e : i = k
          · rw [e]; exact z
          · exact z2 i hi e
        exact ⟨k, rests_of hl hk f1 z1, rests_of hl hk f2 z2, z3⟩
    · rintro ⟨k, e1, e2, z⟩
      obtain ⟨hk, _, a1⟩ := rests_one hl e1
      exact .inr (.inr ⟨k, hk, a1, (rests_one hl e2).2.2, z⟩)
  rw [key]
  by_cases c3 : ∃ k : Nat, F__law_rests p l = [(k : Int)] ∧ F__law_rests q l = [(k : Int)]
  · obtain ⟨k, e1, e2⟩ := c3
    have hk := (rests_one hl e1).1
    rw [if_neg (by rw [e1, e2]; simp), e1, ix0, ixg, ixg, ixg, is_sum_iff (h.one.at hk).1 (h.two.at hk).1 (by have := h.box.at hk; omega)]
    constructor
    · exact fun z => ⟨k, rfl, e2, z⟩
    · rintro ⟨k', f1, f2, z⟩
      have : (k' : Int) = k := by simpa using f1.symm
      have : k' = k := by omega
      rw [← this]; exact z
  · rw [if_pos ?_]
    · constructor
      · intro z; cases z
      · rintro ⟨k, f1, f2, _⟩
        exact (c3 ⟨k, f1, f2⟩).elim
    · rw [Bool.or_eq_true, decide_eq_true_eq, Bool.not_eq_true', decide_eq_false_iff_not]
      rcases Classical.em (F__law_rests p l = F__law_rests q l) with e | e
      · left
        match hF : F__law_rests p l with
        | [] => exact (c1 (n1.mp hF)).elim
        | [x] =>
          have hx : x ∈ F__law_rests p l := by rw [hF]; exact List.mem_singleton.mpr rfl
          obtain ⟨i, hi, rfl, _⟩ := (rests_mem hl).mp hx
          exact (c3 ⟨i, hF, by rw [← e]; exact hF⟩).elim
        | x :: y :: r => simp only [List.length_cons]; omega
      · exact .inr e
theorem D_lfil (h : PB n m m' p q l) (hb : m' ≤ 90000) (hm : m ≤ 2 ^ 60) : D__law_is_filled [p, q] l := by
  have hl := h.box.len
  have hn := h.n1
  unfold D__law_is_filled
  rw [ix0, ix1]
  have d1 := D_rests h.one hl (by omega)
  have d2 := D_rests h.two hl (by omega)
  have i0 : 0 ≤ (0 : Int) ∧ (0 : Int) < (([p, q] : List (List Int)).length : Int) := ⟨by decide, by simp⟩
  have i1 : 0 ≤ (1 : Int) ∧ (1 : Int) < (([p, q] : List (List Int)).length : Int) := ⟨by decide, by simp⟩
  refine ⟨i0, d1, i1, d2, fun hc => ?_⟩
  rw [Bool.or_eq_false_iff, decide_eq_false_iff_not, decide_eq_false_iff_not] at hc
  refine fun hc2 => ?_
  rw [Bool.or_eq_false_iff, decide_eq_false_iff_not] at hc2
  match hF : F__law_rests p l with
  | [] => exact (hc.1 hF).elim
  | x :: r =>
    have hx : x ∈ F__law_rests p l := by rw [hF]; exact List.mem_cons_self
    obtain ⟨i, hi, rfl, _⟩ := (rests_mem hl).mp hx
    have a := h.one.at hi
    have b := h.two.at hi
    have c := h.box.at hi
    have l1 := h.one.len
    have l2 := h.two.len
    rw [ix0, ixg, ixg, ixg]
    refine ⟨⟨by decide, by simp only [List.length_cons]; omega⟩, by omega, i0, ⟨by decide, by simp only [List.length_cons]; omega⟩, by omega, i1, ⟨by decide, by simp only [List.length_cons]; omega⟩, by omega, D_is_sum (by omega) (by omega) (by omega)⟩
end
def W__law_plain_box (pair_here : (List (List Int))) (many : Int) (k : (List Int) → Prop) : Prop := (W_one pair_here (fun v1 => ((v1).length ≤ 100000 ∧ mapW v1 (fun x3 k4 => (W_draw many (fun v8 => (CMulW x3 (1 + v8) ∧ k4 (x3 * (1 + v8)))))) [] (fun l10 => (k l10)))))
theorem w__law_plain_box_b (pair_here : (List (List Int))) (many : Int) {k : (List Int) → Prop} (h : W__law_plain_box pair_here many k) (D : DN) (hk : ∀ v, k v → D.rt ((eT eI) v)) : b__law_plain_box D [some .dck, some (.dat ((eT (eT eI)) pair_here)), some (.dat (eI many)), none, none] := by
  unfold b__law_plain_box
  exact (k_asgW (run_callW (i := 0) rfl (run_cons (ev_run (d := ((eL (eT eI)) pair_here)) (ev_cb (c_listT (eT eI) pair_here) (ea_cons (ev_var rfl) ea_nil)) (run_nil (w_one (e := (eT eI)) h _ _ (fun v1 h2 => (k_gv (r' := [some .dck, some (.dat ((eT (eT eI)) pair_here)), some (.dat (eI many)), some (.dat ((eT eI) v1)), none]) (fun P h => h) (k_retW (run_cb (run_cons (run_fr (run_lc (r := [some .dck, some (.dat ((eT (eT eI)) pair_here)), some (.dat (eI many)), some (.dat ((eT eI) v1)), none]) (vs := [4]) (e := eI) (e' := eI) (body := (fun x3 k4 => (W_draw many (fun v8 => (CMulW x3 (1 + v8) ∧ k4 (x3 * (1 + v8))))))) (rx := fun x3 => [some .dck, some (.dat ((eT (eT eI)) pair_here)), some (.dat (eI many)), some (.dat ((eT eI) v1)), some (.dat (eI x3))]) (it_T (e := eI) (ev_var rfl)) ⟨trivial, trivial⟩ h2.1 (fun x3 => (fun P h => h)) (fun x3 k4 Q5 h6 hk7 => (run_op (ev_run (d := (eI x3)) (ev_var rfl) (run_op (ev_run (d := (eI 1)) (ev_c _) (run_callW (i := 0) rfl (run_cons (ev_run (d := (eI many)) (ev_var rfl) (run_nil (w_draw h6 _ _ (fun v8 h9 => ((p_add 1 v8) _ _ ((p_mul x3 (1 + v8) h9.1) _ _ (hk7 _ h9.2)))))))))))))) h2.2 (fun l10 h11 => (run_nil ((c_tupL eI l10) _ _ (hk _ h11)))))))))))))))))
theorem w__law_plain_box {pair_here : (List (List Int))} {many : Int} {k : (List Int) → Prop} (h : W__law_plain_box pair_here many k) (P : PyData → Prop) (X : Xc → Prop) (hk : ∀ v, k v → P ((eT eI) v)) : m__law_plain_box [((eT (eT eI)) pair_here), (eI many)] P X := ⟨rfl, w__law_plain_box_b pair_here many h _ hk⟩
def W__law_cut_box (pair_here : (List (List Int))) (many : Int) (k : (List Int) → Prop) : Prop := ((0 ≤ (0 : Int) ∧ (0 : Int) < (pair_here).length) ∧ W_draw (((ix pair_here 0)).length : Int) (fun v1 => ((0 ≤ (0 : Int) ∧ (0 : Int) < (pair_here).length) ∧ (-(2 ^ 62) ≤ ((((ix pair_here 0)).length : Int) : Int) ∧ ((((ix pair_here 0)).length : Int) : Int) < 2 ^ 62) ∧ forW (S := (List Int)) (rngI 0 (((ix pair_here 0)).length : Int)) (fun x3 s4 nx5 => ((s4).length < 100000 ∧ (0 ≤ (0 : Int) ∧ (0 : Int) < (pair_here).length) ∧ (0 ≤ (x3 : Int) ∧ (x3 : Int) < ((ix pair_here 0)).length) ∧ (0 ≤ (1 : Int) ∧ (1 : Int) < (pair_here).length) ∧ (0 ≤ (x3 : Int) ∧ (x3 : Int) < ((ix pair_here 1)).length) ∧ D__law_lcm (ix (ix pair_here 0) x3) (ix (ix pair_here 1) x3) ∧ (∀ found11 : (List Int), found11 = (s4 ++ [(F__law_lcm (ix (ix pair_here 0) x3) (ix (ix pair_here 1) x3))]) → (nx5 found11)))) (fun s15 => ((0 ≤ (0 : Int) ∧ (0 : Int) < (pair_here).length) ∧ (0 ≤ (v1 : Int) ∧ (v1 : Int) < ((ix pair_here 0)).length) ∧ W_draw many (fun v16 => (CMulW (ix (ix pair_here 0) v1) v16 ∧ (0 ≤ (1 : Int) ∧ (1 : Int) < (pair_here).length) ∧ (0 ≤ (v1 : Int) ∧ (v1 : Int) < ((ix pair_here 1)).length) ∧ W_draw many (fun v18 => (CMulW (ix (ix pair_here 1) v1) (1 + v18) ∧ (0 ≤ (v1 : Int) ∧ (v1 : Int) < (s15).length) ∧ (∀ found20 : (List Int), found20 = (setI s15 v1 (((ix (ix pair_here 0) v1) * v16) + ((ix (ix pair_here 1) v1) * (1 + v18)))) → (k found20)))))))) ([] : (List Int)))))
theorem w__law_cut_box_b (pair_here : (List (List Int))) (many : Int) {k : (List Int) → Prop} (h : W__law_cut_box pair_here many k) (D : DN) (hk : ∀ v, k v → D.rt ((eT eI) v)) : b__law_cut_box D [some .dck, some (.dat ((eT (eT eI)) pair_here)), some (.dat (eI many)), none, none, none] := by
  unfold b__law_cut_box
  exact (k_parDO (run_callW (i := 0) rfl (run_cons (ev_run (d := (eI (((ix pair_here 0)).length : Int))) (ev_cb (c_lenT eI (ix pair_here 0)) (ea_cons (ev_op (p_itT (eT eI) pair_here 0 h.1) (ev_var rfl) (ev_c _)) ea_nil)) (run_nil (w_draw h.2 _ _ (fun v1 h2 => (eo_run (ds := ([] : (List Int)).map eI) (show EO _ _ (([] : (List Int)).map eI) from eo_lst ea_nil (Nat.le_of_ble_eq_true rfl)) ⟨Nat.le_of_ble_eq_true rfl, (k_for (S := (List Int)) (e := eI) (re := fun s4 => [some .dck, some (.dat ((eT (eT eI)) pair_here)), some (.dat (eI many)), some (.dat (eI v1)), some (.own (s4.map eI)), none]) (body := (fun x3 s4 nx5 => ((s4).length < 100000 ∧ (0 ≤ (0 : Int) ∧ (0 : Int) < (pair_here).length) ∧ (0 ≤ (x3 : Int) ∧ (x3 : Int) < ((ix pair_here 0)).length) ∧ (0 ≤ (1 : Int) ∧ (1 : Int) < (pair_here).length) ∧ (0 ≤ (x3 : Int) ∧ (x3 : Int) < ((ix pair_here 1)).length) ∧ D__law_lcm (ix (ix pair_here 0) x3) (ix (ix pair_here 1) x3) ∧ (∀ found11 : (List Int), found11 = (s4 ++ [(F__law_lcm (ix (ix pair_here 0) x3) (ix (ix pair_here 1) x3))]) → (nx5 found11))))) (k := (fun s15 => ((0 ≤ (0 : Int) ∧ (0 : Int) < (pair_here).length) ∧ (0 ≤ (v1 : Int) ∧ (v1 : Int) < ((ix pair_here 0)).length) ∧ W_draw many (fun v16 => (CMulW (ix (ix pair_here 0) v1) v16 ∧ (0 ≤ (1 : Int) ∧ (1 : Int) < (pair_here).length) ∧ (0 ≤ (v1 : Int) ∧ (v1 : Int) < ((ix pair_here 1)).length) ∧ W_draw many (fun v18 => (CMulW (ix (ix pair_here 1) v1) (1 + v18) ∧ (0 ≤ (v1 : Int) ∧ (v1 : Int) < (s15).length) ∧ (∀ found20 : (List Int), found20 = (setI s15 v1 (((ix (ix pair_here 0) v1) * v16) + ((ix (ix pair_here 1) v1) * (1 + v18)))) → (k found20))))))))) (it_r1 (ev_cb (c_lenT eI (ix pair_here 0)) (ea_cons (ev_op (p_itT (eT eI) pair_here 0 h2.1) (ev_var rfl) (ev_c _)) ea_nil)) h2.2.1) rfl (fun x3 s4 nx5 D6 hr7 hn8 hc9 h10 => (k_gv (r' := [some .dck, some (.dat ((eT (eT eI)) pair_here)), some (.dat (eI many)), some (.dat (eI v1)), some (.own (s4.map eI)), some (.dat (eI x3))]) (fun P h => h) (k_last (k_let (s4 ++ [(F__law_lcm (ix (ix pair_here 0) x3) (ix (ix pair_here 1) x3))]) fun found11 e12 => (k_app (e := eI) (xs := s4) (v := (F__law_lcm (ix (ix pair_here 0) x3) (ix (ix pair_here 1) x3))) rfl (show EV _ _ (eI (F__law_lcm (ix (ix pair_here 0) x3) (ix (ix pair_here 1) x3))) from ev_call (f__law_lcm (ix (ix pair_here 0) x3) (ix (ix pair_here 1) x3) h10.2.2.2.2.2.1) (ea_cons (ev_op (p_itT eI (ix pair_here 0) x3 h10.2.2.1) (ev_op (p_itT (eT eI) pair_here 0 h10.2.1) (ev_var rfl) (ev_c _)) (ev_var rfl)) (ea_cons (ev_op (p_itT eI (ix pair_here 1) x3 h10.2.2.2.2.1) (ev_op (p_itT (eT eI) pair_here 1 h10.2.2.2.1) (ev_var rfl) (ev_c _)) (ev_var rfl)) ea_nil))) h10.1 (ty_own (e := eI) e12 (k_end (hn8 found11 _ (h10.2.2.2.2.2.2 found11 e12) rfl)))))))) (fun s15 h14 => (k_setR (run_op (run_op (ev_run (d := (eI (ix (ix pair_here 0) v1))) (ev_op (p_itT eI (ix pair_here 0) v1 h14.2.1) (ev_op (p_itT (eT eI) pair_here 0 h14.1) (ev_var rfl) (ev_c _)) (ev_var rfl)) (run_callW (i := 0) rfl (run_cons (ev_run (d := (eI many)) (ev_var rfl) (run_nil (w_draw h14.2.2 _ _ (fun v16 h17 => ((p_mul (ix (ix pair_here 0) v1) v16 h17.1) _ _ (run_op (ev_run (d := (eI (ix (ix pair_here 1) v1))) (ev_op (p_itT eI (ix pair_here 1) v1 h17.2.2.1) (ev_op (p_itT (eT eI) pair_here 1 h17.2.1) (ev_var rfl) (ev_c _)) (ev_var rfl)) (run_op (ev_run (d := (eI 1)) (ev_c _) (run_callW (i := 0) rfl (run_cons (ev_run (d := (eI many)) (ev_var rfl) (run_nil (w_draw h17.2.2.2 _ _ (fun v18 h19 => ((p_add 1 v18) _ _ ((p_mul (ix (ix pair_here 1) v1) (1 + v18) h19.1) _ _ ((p_add ((ix (ix pair_here 0) v1) * v16) ((ix (ix pair_here 1) v1) * (1 + v18))) _ _ (k_let (setI s15 v1 (((ix (ix pair_here 0) v1) * v16) + ((ix (ix pair_here 1) v1) * (1 + v18)))) fun found20 e21 => (ty_set (e := eI) (xs := s15) (v := (((ix (ix pair_here 0) v1) * v16) + ((ix (ix pair_here 1) v1) * (1 + v18)))) rfl (ev_var rfl) h19.2.1 (ty_own (e := eI) e21 (k_last (k_fz (r' := [some .dck, some (.dat ((eT (eT eI)) pair_here)), some (.dat (eI many)), some (.dat (eI v1)), some (.dat ((eL eI) found20)), none]) rfl (k_retS (ev_cb (c_tupL eI found20) (ea_cons (ev_var rfl) ea_nil)) (hk _ (h19.2.2 found20 e21))))))))))))))))))))))))))))))))) h2.2.2)⟩))))))))
theorem w__law_cut_box {pair_here : (List (List Int))} {many : Int} {k : (List Int) → Prop} (h : W__law_cut_box pair_here many k) (P : PyData → Prop) (X : Xc → Prop) (hk : ∀ v, k v → P ((eT eI) v)) : m__law_cut_box [((eT (eT eI)) pair_here), (eI many)] P X := ⟨rfl, w__law_cut_box_b pair_here many h _ hk⟩

theorem R2L_get {α β : Type} {R : α → β → Prop} {as : List α} {bs : List β} (h : R2L R as bs) : ∀ i : Nat, ∀ b, bs[i]? = some b → ∃ a, as[i]? = some a ∧ R a b := by
  induction h with
  | nil => intro i b hb; simp at hb
  | cons h1 _ ih =>
    intro i b hb
    cases i with
    | zero => simp at hb; exact ⟨_, rfl, by rw [← hb]; exact h1⟩
    | succ i => simpa using ih i b (by simpa using hb)
theorem rng_cons {i j : Int} (h : i < j) : rngI i j = i :: rngI (i + 1) j := by
  unfold rngI
  rw [show (j - i).toNat = (j - (i + 1)).toNat + 1 by omega, List.range_succ_eq_map, List.map_cons, List.map_map]
  rw [show i + ((0 : Nat) : Int) = i by omega]
  congr 1
  refine List.map_congr_left fun k _ => ?_
  show i + ((k + 1 : Nat) : Int) = i + 1 + (k : Int)
  omega
theorem rng_nil {i j : Int} (h : j ≤ i) : rngI i j = [] := List.eq_nil_of_length_eq_zero (by rw [rngI_len]; omega)
/-- a loop over numbers, the state told by how far it has come -/
theorem forW_rng {S : Type} {n : Nat} {body : Int → S → (S → Prop) → Prop} {k : S → Prop} (J : Nat → S → Prop) {s0 : S} (h0 : J 0 s0) (hb : ∀ (j : Nat) s (nx : S → Prop), j < n → J j s → (∀ s', J (j + 1) s' → nx s') → body j s nx) (hk : ∀ s, J n s → k s) : forW (rngI 0 (n : Int)) body k s0 := by
  refine forW_inv (J := fun l s => ∃ j : Nat, l = rngI j n ∧ j ≤ n ∧ J j s) ⟨0, rfl, by omega, h0⟩ (fun x l s nx hJ hn => ?_) fun s hJ => ?_
  · obtain ⟨j, e, hj, hs⟩ := hJ
    have hjn : j < n := by
      rcases Nat.lt_or_ge j n with h | h
      · exact h
      · rw [rng_nil (by omega)] at e; cases e
    rw [rng_cons (by omega)] at e
    cases e
    exact hb j s nx hjn hs fun s' h' => hn s' ⟨j + 1, rfl, by omega, h'⟩
  · obtain ⟨j, e, hj, hs⟩ := hJ
    have : j = n := by
      rcases Nat.lt_or_ge j n with h | h
      · rw [rng_cons (by omega)] at e; cases e
      · omega
    subst this
    exact hk s hs
section
variable {n : Nat} {m : Int} {p q : List Int} {many : Int}
theorem mul_rng {a b m k : Int} (ha : 1 ≤ a ∧ a ≤ m) (hb : 1 ≤ b ∧ b ≤ k) : 1 ≤ a * b ∧ a * b ≤ m * k := by
  constructor
  · have := Int.mul_le_mul ha.1 hb.1 (by omega) (by omega)
    omega
  · exact Int.mul_le_mul ha.2 hb.2 (by omega) (by omega)
theorem s_plain (hn : n ≤ 100) (hp : SL n m p) (hq : SL n m q) (hm : m ≤ 2 ^ 120) (h0 : 1 ≤ many ∧ many ≤ 1000000000000) {k : List Int → Prop} (hk : ∀ b l, b = p ∨ b = q → SL n (m * many) l → Dv n b l → k l) : W__law_plain_box [p, q] many k := by
  unfold W__law_plain_box
  refine ⟨⟨by simp, by simp⟩, fun b hb => ?_⟩
  have hb' : b = p ∨ b = q := by simpa using hb
  have hs : SL n m b := by rcases hb' with rfl | rfl <;> assumption
  have p1 : (2 : Int) ^ 120 ≤ 2 ^ 250 := by decide
  refine ⟨by rw [hs.len]; omega, mapW_rel (fun x y => ∃ c : Int, 1 ≤ c ∧ c ≤ many ∧ y = x * c) (fun x hx nx hn' => draw_i (by omega) fun r r0 r1 => ⟨cmul (by have := hs.all x hx; omega) (by omega), hn' _ ⟨1 + r, by omega, by omega, rfl⟩⟩) fun ys hys => hk b ys hb' ⟨by rw [hys.len, hs.len], fun y hy => ?_⟩ fun i hi => ?_⟩
  · obtain ⟨i, hi⟩ := List.getElem?_of_mem hy
    obtain ⟨x, hx, c, c0, c1, rfl⟩ := R2L_get hys i y hi
    exact mul_rng (hs.all x (List.mem_of_getElem? hx)) ⟨c0, c1⟩
  · have hl : ys.length = n := by rw [hys.len, hs.len]
    obtain ⟨x, hx, c, c0, c1, e⟩ := R2L_get hys i _ (gt_some (by omega))
    have hbi := gt_some (l := b) (i := i) (by rw [hs.len]; exact hi)
    rw [hx] at hbi
    cases hbi
    rw [e]
    exact Int.dvd_mul_right _ _
/-- what a plane cuts -/
structure CutL (n : Nat) (p q : List Int) (many : Int) (l : List Int) : Prop where
  len : l.length = n
  ex : ∃ a < n, (∀ i < n, i ≠ a → gt l i = F__law_lcm (gt p i) (gt q i)) ∧ ∃ x y, 0 ≤ x ∧ x < many ∧ 1 ≤ y ∧ y ≤ many ∧ gt l a = gt p a * x + gt q a * y
theorem CutL.filled (h : CutL n p q many l) (hp : SL n m p) (hq : SL n m q) : Filled n p q l := by
  obtain ⟨a, ha, h1, x, y, x0, x1, y0, y1, e⟩ := h.ex
  refine .inr (.inr ⟨a, ha, fun i hi hia => ?_, fun i hi hia => ?_, x.toNat, y.toNat, ?_⟩)
  · rw [h1 i hi hia]; exact (lcm_facts (hp.at hi).1 (hq.at hi).1).1
  · rw [h1 i hi hia]; exact (lcm_facts (hp.at hi).1 (hq.at hi).1).2.1
  · rw [e, Int.toNat_of_nonneg x0, Int.toNat_of_nonneg (by omega), Int.mul_comm x, Int.mul_comm y]
theorem CutL.sl (h : CutL n p q many l) (hp : SL n m p) (hq : SL n m q) {B : Int} (h1 : m * m ≤ B) (h2 : m * many + m * many ≤ B) : SL n B l := by
  obtain ⟨a, ha, h3, x, y, x0, x1, y0, y1, e⟩ := h.ex
  refine ⟨h.len, fun v hv => ?_⟩
  obtain ⟨i, hi⟩ := List.getElem?_of_mem hv
  have hil := (List.getElem?_eq_some_iff.mp hi).1
  rw [gt_some hil] at hi
  cases hi
  rw [h.len] at hil
  have hpi := hp.at hil
  have hqi := hq.at hil
  by_cases hia : i = a
  · subst hia
    rw [e]
    have a1 := mul_rng hqi ⟨y0, y1⟩
    have a2 : 0 ≤ gt p i * x := Int.mul_nonneg (by omega) x0
    have a3 : gt p i * x ≤ m * many := Int.mul_le_mul hpi.2 (by omega) x0 (by omega)
    omega
  · rw [h3 i hil hia]
    have f := lcm_facts hpi.1 hqi.1
    have a1 := mul_rng hpi hqi
    omega
theorem s_cut (hn : 1 ≤ n ∧ n ≤ 100) (hp : SL n m p) (hq : SL n m q) (hm : m ≤ 2 ^ 120) (h0 : 1 ≤ many ∧ many ≤ 1000000000000) {k : List Int → Prop} (hk : ∀ l, CutL n p q many l → k l) : W__law_cut_box [p, q] many k := by
  have lp := hp.len
  have lq := hq.len
  have p1 : (2 : Int) ^ 120 ≤ 2 ^ 250 := by decide
  have i0 : 0 ≤ (0 : Int) ∧ (0 : Int) < (([p, q] : List (List Int)).length : Int) := ⟨by decide, by simp⟩
  have i1 : 0 ≤ (1 : Int) ∧ (1 : Int) < (([p, q] : List (List Int)).length : Int) := ⟨by decide, by simp⟩
  unfold W__law_cut_box
  rw [ix0, ix1, lp]
  refine ⟨i0, draw_i (by omega) fun a a0 a1 => ⟨i0, by omega, ?_⟩⟩
  obtain ⟨a, rfl⟩ := Int.eq_ofNat_of_zero_le a0
  have ha : a < n := by omega
  refine forW_rng (fun j s => s.length = j ∧ ∀ i < j, gt s i = F__law_lcm (gt p i) (gt q i)) ⟨rfl, fun i hi => by omega⟩ (fun j s nx hj hJ hnx => ?_) fun s hJ => ?_
  · obtain ⟨hl, hs⟩ := hJ
    have hpj := hp.at hj
    have hqj := hq.at hj
    rw [ixg, ixg]
    refine ⟨by omega, i0, by omega, i1, by omega, D_lcm (by omega) (by omega), fun f hf => ?_⟩
    rw [hf]
    refine hnx _ ⟨by rw [List.length_append, hl]; rfl, fun i hi => ?_⟩
    rw [gt, List.getD_eq_getElem?_getD]
    by_cases hij : i < j
    · rw [List.getElem?_append_left (by omega), ← List.getD_eq_getElem?_getD]
      exact hs i hij
    · have : i = j := by omega
      subst this
      rw [List.getElem?_append_right (by omega), hl, Nat.sub_self]; rfl
  · obtain ⟨hl, hs⟩ := hJ
    have hpa := hp.at ha
    have hqa := hq.at ha
    rw [ixg, ixg]
    refine ⟨i0, by omega, draw_i (by omega) fun x x0 x1 => ⟨cmul (by omega) (by omega), i1, by omega, draw_i (by omega) fun y y0 y1 => ⟨cmul (by omega) (by omega), by omega, fun f hf => ?_⟩⟩⟩
    rw [hf]
    unfold setI
    rw [Int.toNat_natCast]
    refine hk _ ⟨by rw [List.length_set, hl], a, ha, fun i hi hia => ?_, x, 1 + y, x0, x1, by omega, by omega, ?_⟩
    · rw [gt_set _ (by omega), if_neg hia]; exact hs i hi
    · rw [gt_set _ (by omega), if_pos rfl]
end
def W__law_box (pair_here : (List (List Int))) (most : Int) (cells_here : Int) (k : (List Int) → Prop) : Prop := (forW (S := Unit) (rngI 0 12) (fun x1 s2 nx3 => (W_draw 4 (fun v9 => ((0 ≤ (0 : Int) ∧ (0 : Int) < (pair_here).length) ∧ W__law_sides (((ix pair_here 0)).length : Int) most (fun v11 => (bindW (fun k15 : (List Int) → Prop => (((decide ((v9 : Int) = 0)) = true → (W__law_cut_box pair_here 3 (fun v19 => (k15 v19)))) ∧ ((decide ((v9 : Int) = 0)) = false → (k15 v11)))) (fun s13 => (bindW (fun k25 : (List Int) → Prop => (((decide ((v9 : Int) = 1)) = true → (W__law_plain_box pair_here 3 (fun v29 => (k25 v29)))) ∧ ((decide ((v9 : Int) = 1)) = false → (k25 s13)))) (fun s23 => (bindW (fun k35 : (List Int) → Prop => (((decide ((v9 : Int) = 2)) = true → (W_draw ((s23).length : Int) (fun v39 => (W__law_cut_box pair_here 3 (fun v41 => (W__law_plain_box pair_here 3 (fun v43 => (W_one [v41, v43] (fun v45 => ((0 : Int) ≤ v39 ∧ (0 ≤ (v39 : Int) ∧ (v39 : Int) < (v45).length) ∧ W_one [(-1), 1, 2] (fun v47 => (((v45.take (v39 : Int).toNat) : (List Int)).length + ([(if ((ix v45 v39) + v47) > 1 then ((ix v45 v39) + v47) else 1)] : (List Int)).length ≤ 100000 ∧ (0 : Int) ≤ (v39 + 1) ∧ (((v45.take (v39 : Int).toNat) ++ [(if ((ix v45 v39) + v47) > 1 then ((ix v45 v39) + v47) else 1)]) : (List Int)).length + ((v45.drop ((v39 + 1) : Int).toNat) : (List Int)).length ≤ 100000 ∧ (∀ found49 : (List Int), found49 = (((v45.take (v39 : Int).toNat) ++ [(if ((ix v45 v39) + v47) > 1 then ((ix v45 v39) + v47) else 1)]) ++ (v45.drop ((v39 + 1) : Int).toNat)) → (k35 found49)))))))))))))) ∧ ((decide ((v9 : Int) = 2)) = false → (k35 s23)))) (fun s33 => (D__law_volume s33 ∧ ((decide ((F__law_volume s33) ≤ cells_here)) = true → (k s33)) ∧ ((decide ((F__law_volume s33) ≤ cells_here)) = false → (nx3 ())))))))))))))) (fun s56 => ((0 ≤ (0 : Int) ∧ (0 : Int) < (pair_here).length) ∧ ((([1] : (List Int)) ≠ [] ∧ ([1] : (List Int)).length ≤ 1000) ∧ 0 ≤ ((((ix pair_here 0)).length : Int) : Int) ∧ ((((ix pair_here 0)).length : Int) : Int) ≤ 1000) ∧ k (rep [1] (((ix pair_here 0)).length : Int)))) ())
theorem w__law_box_b (pair_here : (List (List Int))) (most : Int) (cells_here : Int) {k : (List Int) → Prop} (h : W__law_box pair_here most cells_here k) (D : DN) (hk : ∀ v, k v → D.rt ((eT eI) v)) : b__law_box D [some .dck, some (.dat ((eT (eT eI)) pair_here)), some (.dat (eI most)), some (.dat (eI cells_here)), none, none, none, none, none] := by
  unfold b__law_box
  exact (k_for (S := Unit) (e := eI) (re := fun s2 => [some .dck, some (.dat ((eT (eT eI)) pair_here)), some (.dat (eI most)), some (.dat (eI cells_here)), none, none, none, none, none]) (body := (fun x1 s2 nx3 => (W_draw 4 (fun v9 => ((0 ≤ (0 : Int) ∧ (0 : Int) < (pair_here).length) ∧ W__law_sides (((ix pair_here 0)).length : Int) most (fun v11 => (bindW (fun k15 : (List Int) → Prop => (((decide ((v9 : Int) = 0)) = true → (W__law_cut_box pair_here 3 (fun v19 => (k15 v19)))) ∧ ((decide ((v9 : Int) = 0)) = false → (k15 v11)))) (fun s13 => (bindW (fun k25 : (List Int) → Prop => (((decide ((v9 : Int) = 1)) = true → (W__law_plain_box pair_here 3 (fun v29 => (k25 v29)))) ∧ ((decide ((v9 : Int) = 1)) = false → (k25 s13)))) (fun s23 => (bindW (fun k35 : (List Int) → Prop => (((decide ((v9 : Int) = 2)) = true → (W_draw ((s23).length : Int) (fun v39 => (W__law_cut_box pair_here 3 (fun v41 => (W__law_plain_box pair_here 3 (fun v43 => (W_one [v41, v43] (fun v45 => ((0 : Int) ≤ v39 ∧ (0 ≤ (v39 : Int) ∧ (v39 : Int) < (v45).length) ∧ W_one [(-1), 1, 2] (fun v47 => (((v45.take (v39 : Int).toNat) : (List Int)).length + ([(if ((ix v45 v39) + v47) > 1 then ((ix v45 v39) + v47) else 1)] : (List Int)).length ≤ 100000 ∧ (0 : Int) ≤ (v39 + 1) ∧ (((v45.take (v39 : Int).toNat) ++ [(if ((ix v45 v39) + v47) > 1 then ((ix v45 v39) + v47) else 1)]) : (List Int)).length + ((v45.drop ((v39 + 1) : Int).toNat) : (List Int)).length ≤ 100000 ∧ (∀ found49 : (List Int), found49 = (((v45.take (v39 : Int).toNat) ++ [(if ((ix v45 v39) + v47) > 1 then ((ix v45 v39) + v47) else 1)]) ++ (v45.drop ((v39 + 1) : Int).toNat)) → (k35 found49)))))))))))))) ∧ ((decide ((v9 : Int) = 2)) = false → (k35 s23)))) (fun s33 => (D__law_volume s33 ∧ ((decide ((F__law_volume s33) ≤ cells_here)) = true → (k s33)) ∧ ((decide ((F__law_volume s33) ≤ cells_here)) = false → (nx3 ()))))))))))))))) (k := (fun s56 => ((0 ≤ (0 : Int) ∧ (0 : Int) < (pair_here).length) ∧ ((([1] : (List Int)) ≠ [] ∧ ([1] : (List Int)).length ≤ 1000) ∧ 0 ≤ ((((ix pair_here 0)).length : Int) : Int) ∧ ((((ix pair_here 0)).length : Int) : Int) ≤ 1000) ∧ k (rep [1] (((ix pair_here 0)).length : Int))))) (it_r1 (ev_c _) (by decide)) rfl (fun x1 s2 nx3 D4 hr5 hn6 hc7 h8 => (k_gv (r' := [some .dck, some (.dat ((eT (eT eI)) pair_here)), some (.dat (eI most)), some (.dat (eI cells_here)), some (.dat (eI x1)), none, none, none, none]) (fun P h => h) (k_asgW (run_callW (i := 0) rfl (run_cons (ev_run (d := (eI 4)) (ev_c _) (run_nil (w_draw h8 _ _ (fun v9 h10 => (k_gv (r' := [some .dck, some (.dat ((eT (eT eI)) pair_here)), some (.dat (eI most)), some (.dat (eI cells_here)), some (.dat (eI x1)), some (.dat (eI v9)), none, none, none]) (fun P h => h) (k_asgW (run_callW (i := 0) rfl (run_cons (ev_run (d := (eI (((ix pair_here 0)).length : Int))) (ev_cb (c_lenT eI (ix pair_here 0)) (ea_cons (ev_op (p_itT (eT eI) pair_here 0 h10.1) (ev_var rfl) (ev_c _)) ea_nil)) (run_cons (ev_run (d := (eI most)) (ev_var rfl) (run_nil (w__law_sides h10.2 _ _ (fun v11 h12 => (k_gv (r' := [some .dck, some (.dat ((eT (eT eI)) pair_here)), some (.dat (eI most)), some (.dat (eI cells_here)), some (.dat (eI x1)), some (.dat (eI v9)), some (.dat ((eT eI) v11)), none, none]) (fun P h => h) (k_join (S := (List Int)) (O := Unit) (re := fun s13 o14 => [some .dck, some (.dat ((eT (eT eI)) pair_here)), some (.dat (eI most)), some (.dat (eI cells_here)), some (.dat (eI x1)), some (.dat (eI v9)), some (.dat ((eT eI) s13)), none, none]) h12 (fun s13 o14 h22 => (k_join (S := (List Int)) (O := Unit) (re := fun s23 o24 => [some .dck, some (.dat ((eT (eT eI)) pair_here)), some (.dat (eI most)), some (.dat (eI cells_here)), some (.dat (eI x1)), some (.dat (eI v9)), some (.dat ((eT eI) s23)), none, none]) h22 (fun s23 o24 h32 => (k_join (S := (List Int)) (O := Option ML × Option ML) (re := fun s33 o34 => [some .dck, some (.dat ((eT (eT eI)) pair_here)), some (.dat (eI most)), some (.dat (eI cells_here)), some (.dat (eI x1)), some (.dat (eI v9)), some (.dat ((eT eI) s33)), o34.1, o34.2]) h32 (fun s33 o34 h52 => (k_last (k_if (eb_t (ev_op (p_leL (p_le (F__law_volume s33) cells_here)) (show EV _ _ (eI (F__law_volume s33)) from ev_call (f__law_volume s33 h52.1) (ea_cons (ev_var rfl) ea_nil)) (ev_var rfl))) (fun h53 => (k_retS (ev_var rfl) (rt_of hr5 (hk _ (h52.2.1 h53))))) (fun h54 => (k_nx (k_end (hn6 () _ (h52.2.2 h54) rfl))))))) (fun k35 hk36 h37 => (k_if (eb_t (ev_op (p_eq cmpI (by decide) v9 2) (ev_var rfl) (ev_c _))) (fun h38 => (k_assoc (k_asgW (run_callW (i := 0) rfl (run_cons (ev_run (d := (eI ((s23).length : Int))) (ev_cb (c_lenT eI s23) (ea_cons (ev_var rfl) ea_nil)) (run_nil (w_draw (h37.1 h38) _ _ (fun v39 h40 => (k_gv (r' := [some .dck, some (.dat ((eT (eT eI)) pair_here)), some (.dat (eI most)), some (.dat (eI cells_here)), some (.dat (eI x1)), some (.dat (eI v9)), some (.dat ((eT eI) s23)), some (.dat (eI v39)), none]) (fun P h => h) (k_assoc (k_asgW (run_callW (i := 0) rfl (run_cons (run_lst (run_cons (run_callW (i := 0) rfl (run_cons (ev_run (d := ((eT (eT eI)) pair_here)) (ev_var rfl) (run_cons (ev_run (d := (eI 3)) (ev_c _) (run_nil (w__law_cut_box h40 _ _ (fun v41 h42 => (run_cons (run_callW (i := 0) rfl (run_cons (ev_run (d := ((eT (eT eI)) pair_here)) (ev_var rfl) (run_cons (ev_run (d := (eI 3)) (ev_c _) (run_nil (w__law_plain_box h42 _ _ (fun v43 h44 => (run_nil ⟨Nat.le_of_ble_eq_true rfl, (run_nil (w_one (e := (eT eI)) h44 _ _ (fun v45 h46 => (k_gv (r' := [some .dck, some (.dat ((eT (eT eI)) pair_here)), some (.dat (eI most)), some (.dat (eI cells_here)), some (.dat (eI x1)), some (.dat (eI v9)), some (.dat ((eT eI) s23)), some (.dat (eI v39)), some (.dat ((eT eI) v45))]) (fun P h => h) (k_asgW (run_op (run_op (ev_run (d := ((eT eI) (v45.take (v39 : Int).toNat))) (ev_sl (p_toT eI v45 v39 h46.1) (ev_var rfl) ep_none (ep_some (ev_var rfl))) (run_tup (run_cons (run_cb (run_cons (ev_run (d := (eI 1)) (ev_c _) (run_cons (run_op (ev_run (d := (eI (ix v45 v39))) (ev_op (p_itT eI v45 v39 h46.2.1) (ev_var rfl) (ev_var rfl)) (run_callW (i := 0) rfl (run_cons (ev_run (d := ((eL eI) [(-1), 1, 2])) (show EV _ _ ((eL eI) [(-1), 1, 2]) from ev_lst (ea_cons (ev_un (p_neg 1) (ev_c _)) (ea_cons (ev_c _) (ea_cons (ev_c _) ea_nil))) (Nat.le_of_ble_eq_true rfl)) (run_nil (w_one (e := eI) h46.2.2 _ _ (fun v47 h48 => ((p_add (ix v45 v39) v47) _ _ (run_nil ((c_max2 1 ((ix v45 v39) + v47)) _ _ (run_nil ⟨Nat.le_of_ble_eq_true rfl, ((p_catT eI (v45.take (v39 : Int).toNat) [(if ((ix v45 v39) + v47) > 1 then ((ix v45 v39) + v47) else 1)] h48.1) _ _ (ev_run (d := ((eT eI) (v45.drop ((v39 + 1) : Int).toNat))) (ev_sl (p_fromT eI v45 (v39 + 1) h48.2.1) (ev_var rfl) (ep_some (ev_op (p_add v39 1) (ev_var rfl) (ev_c _))) ep_none) ((p_catT eI ((v45.take (v39 : Int).toNat) ++ [(if ((ix v45 v39) + v47) > 1 then ((ix v45 v39) + v47) else 1)]) (v45.drop ((v39 + 1) : Int).toNat) h48.2.2.1) _ _ (k_let (((v45.take (v39 : Int).toNat) ++ [(if ((ix v45 v39) + v47) > 1 then ((ix v45 v39) + v47) else 1)]) ++ (v45.drop ((v39 + 1) : Int).toNat)) fun found49 e50 => (k_gv (r' := [some .dck, some (.dat ((eT (eT eI)) pair_here)), some (.dat (eI most)), some (.dat (eI cells_here)), some (.dat (eI x1)), some (.dat (eI v9)), some (.dat ((eT eI) found49)), some (.dat (eI v39)), some (.dat ((eT eI) v45))]) (gv_eq (e := (eT eI)) e50) (hk36 found49 (some (.dat (eI v39)), some (.dat ((eT eI) v45))) (h48.2.2.2 found49 e50)))))))⟩))))))))))))))))))))))))))⟩)))))))))))))))))))))))))))))))))) (fun h51 => (k_nx (hk36 s23 (none, none) (h37.2 h51)))))))) (fun k25 hk26 h27 => (k_if (eb_t (ev_op (p_eq cmpI (by decide) v9 1) (ev_var rfl) (ev_c _))) (fun h28 => (k_asgW (run_callW (i := 0) rfl (run_cons (ev_run (d := ((eT (eT eI)) pair_here)) (ev_var rfl) (run_cons (ev_run (d := (eI 3)) (ev_c _) (run_nil (w__law_plain_box (h27.1 h28) _ _ (fun v29 h30 => (k_gv (r' := [some .dck, some (.dat ((eT (eT eI)) pair_here)), some (.dat (eI most)), some (.dat (eI cells_here)), some (.dat (eI x1)), some (.dat (eI v9)), some (.dat ((eT eI) v29)), none, none]) (fun P h => h) (hk26 v29 () h30)))))))))))) (fun h31 => (k_nx (hk26 s13 () (h27.2 h31)))))))) (fun k15 hk16 h17 => (k_if (eb_t (ev_op (p_eq cmpI (by decide) v9 0) (ev_var rfl) (ev_c _))) (fun h18 => (k_asgW (run_callW (i := 0) rfl (run_cons (ev_run (d := ((eT (eT eI)) pair_here)) (ev_var rfl) (run_cons (ev_run (d := (eI 3)) (ev_c _) (run_nil (w__law_cut_box (h17.1 h18) _ _ (fun v19 h20 => (k_gv (r' := [some .dck, some (.dat ((eT (eT eI)) pair_here)), some (.dat (eI most)), some (.dat (eI cells_here)), some (.dat (eI x1)), some (.dat (eI v9)), some (.dat ((eT eI) v19)), none, none]) (fun P h => h) (hk16 v19 () h20)))))))))))) (fun h21 => (k_nx (hk16 v11 () (h17.2 h21))))))))))))))))))))))))))) (fun s56 h55 => (k_ret (ev_op (p_repT eI [1] (((ix pair_here 0)).length : Int) h55.2.1) (show EV _ _ ((eT eI) [1]) from ev_tup (ea_cons (ev_c _) ea_nil) (Nat.le_of_ble_eq_true rfl)) (ev_cb (c_lenT eI (ix pair_here 0)) (ea_cons (ev_op (p_itT (eT eI) pair_here 0 h55.1) (ev_var rfl) (ev_c _)) ea_nil))) (hk _ h55.2.2))) h)
theorem w__law_box {pair_here : (List (List Int))} {most : Int} {cells_here : Int} {k : (List Int) → Prop} (h : W__law_box pair_here most cells_here k) (P : PyData → Prop) (X : Xc → Prop) (hk : ∀ v, k v → P ((eT eI) v)) : m__law_box [((eT (eT eI)) pair_here), (eI most), (eI cells_here)] P X := ⟨rfl, w__law_box_b pair_here most cells_here h _ hk⟩

theorem rep_len {α : Type} (a : α) (n : Nat) : rep [a] (n : Int) = List.replicate n a := by
  unfold rep
  rw [Int.toNat_natCast]
  induction n with
  | zero => rfl
  | succ n ih => rw [List.replicate_succ, List.flatten_cons, ih]; rfl
theorem max1 {x : Int} : 1 ≤ (if x > 1 then x else 1) ∧ ((if x > 1 then x else 1) = x ∨ (if x > 1 then x else 1) = 1) := by
  split <;> omega
theorem D_vol {n : Nat} {M : Int} {l : List Int} (h : SL n M l) (hn : n ≤ 4) (hM : M ≤ 2 ^ 50) : D__law_volume l := ⟨by rw [h.len]; exact hn, fun x hx => ⟨(h.all x hx).1, Int.le_trans (h.all x hx).2 hM⟩⟩
theorem prod_one (n : Nat) : (List.replicate n (1 : Int)).prod = 1 := by
  induction n with
  | zero => rfl
  | succ n ih => rw [List.replicate_succ, List.prod_cons, ih]; rfl
theorem s_box {n : Nat} {m M most C : Int} {p q : List Int} (hn : 1 ≤ n ∧ n ≤ 4) (hp : SL n m p) (hq : SL n m q) (h0 : 1 ≤ most ∧ most ≤ 1000000000000000000) (h1 : most ≤ M) (h2 : m * m + 2 ≤ M) (h3 : 6 * m + 2 ≤ M) (hM : M ≤ 2 ^ 50) (hC : 1 ≤ C) {k : List Int → Prop}
    (hk : ∀ l, SL n M l → F__law_volume l ≤ C → k l) : W__law_box [p, q] most C k := by
  have lp := hp.len
  have hm : m ≤ 2 ^ 120 := by
    have e : (2 : Int) ^ 50 ≤ 2 ^ 120 := by decide
    omega
  unfold W__law_box
  simp only [bindW, ix0, lp]
  have fin : ∀ {nx : Unit → Prop} {l : List Int}, nx () → SL n M l → D__law_volume l ∧ (decide (F__law_volume l ≤ C) = true → k l) ∧ (decide (F__law_volume l ≤ C) = false → nx ()) := fun hnx hl => ⟨D_vol hl hn.2 hM, fun hc => hk _ hl (of_decide_eq_true hc), fun _ => hnx⟩
  have i0 : 0 ≤ (0 : Int) ∧ (0 : Int) < (([p, q] : List (List Int)).length : Int) := ⟨by decide, by simp⟩
  refine forW_each (fun x _ nx hnx => draw_i ⟨by decide, by decide⟩ fun w w0 w1 => ⟨i0, s_sides (by omega) (by omega) fun a ha => ?_⟩) ⟨i0, ⟨⟨by simp, by simp⟩, by omega, by omega⟩, ?_⟩
  · have cutS : ∀ l, CutL n p q 3 l → SL n (M - 2) l := fun l hl => hl.sl hp hq (by omega) (by omega)
    have plS : ∀ l, SL n (m * 3) l → SL n (M - 2) l := fun l hl => hl.mono (by omega)
    have hnear : ∀ {kk : List Int → Prop} {s : List Int}, SL n M s → (∀ l, SL n M l → kk l) → W_draw (s.length : Int) fun v39 => W__law_cut_box [p, q] 3 fun v41 => W__law_plain_box [p, q] 3 fun v43 => W_one [v41, v43] fun v45 => (0 : Int) ≤ v39 ∧ (0 ≤ (v39 : Int) ∧ (v39 : Int) < v45.length) ∧ W_one [(-1), 1, 2] fun v47 =>
        (v45.take (v39 : Int).toNat).length + ([(if (ix v45 v39 + v47) > 1 then (ix v45 v39 + v47) else 1)] : List Int).length ≤ 100000 ∧ (0 : Int) ≤ v39 + 1 ∧ (v45.take (v39 : Int).toNat ++ [(if (ix v45 v39 + v47) > 1 then (ix v45 v39 + v47) else 1)]).length + (v45.drop ((v39 + 1) : Int).toNat).length ≤ 100000 ∧
        ∀ found49 : List Int, found49 = ((v45.take (v39 : Int).toNat ++ [(if (ix v45 v39 + v47) > 1 then (ix v45 v39 + v47) else 1)]) ++ v45.drop ((v39 + 1) : Int).toNat) → kk found49 := by
      intro kk s hs hkk
      have ls := hs.len
      rw [ls]
      refine draw_i (by omega) fun i i0 i1 => s_cut (by omega) hp hq hm (by decide) fun u hu => s_plain (by omega) hp hq hm (by decide) fun b v _ hv _ => ⟨⟨by simp, by simp⟩, fun y hy => ?_⟩
      have hy' : y = u ∨ y = v := by simpa using hy
      have sy : SL n (M - 2) y := by
        rcases hy' with rfl | rfl
        · exact cutS _ hu
        · exact plS _ hv
      have ly := sy.len
      refine ⟨i0, by omega, ⟨by simp, by simp⟩, fun d hd => ?_⟩
      have hd' : d = -1 ∨ d = 1 ∨ d = 2 := by simpa using hd
      obtain ⟨j, rfl⟩ := Int.eq_ofNat_of_zero_le i0
      have hj : j < n := by omega
      have hyj := sy.at hj
      have mx := max1 (x := ix y (j : Int) + d)
      rw [ixg] at mx ⊢
      refine ⟨by rw [List.length_take]; simp only [List.length_cons, List.length_nil]; omega, by omega, by rw [List.length_append, List.length_take, List.length_drop]; simp only [List.length_cons, List.length_nil]; omega, fun f hf => ?_⟩
      rw [hf]
      exact hkk _ (SL.mid (sy.mono (by omega)) hj (by omega))
    have step3 : ∀ s, SL n M s → (decide ((w : Int) = 2) = true → _) ∧ (decide ((w : Int) = 2) = false → _) := fun s hs => ⟨fun _ => hnear hs fun l hl => fin hnx hl, fun _ => fin hnx hs⟩
    have step2 : ∀ s, SL n M s → (decide ((w : Int) = 1) = true → _) ∧ (decide ((w : Int) = 1) = false → _) := fun s hs => ⟨fun _ => s_plain (by omega) hp hq hm (by decide) fun b l _ hl _ => step3 l ((plS l hl).mono (by omega)), fun _ => step3 s hs⟩
    exact ⟨fun _ => s_cut (by omega) hp hq hm (by decide) fun l hl => step2 l ((cutS l hl).mono (by omega)), fun _ => step2 a (ha.mono h1)⟩
  · rw [rep_len]
    refine hk _ ⟨List.length_replicate, fun x hx => ?_⟩ (by rw [vol_prod, prod_one]; exact hC)
    rw [(List.mem_replicate.mp hx).2]
    omega
end TW
set_option Elab.async false
set_option linter.all false
set_option maxRecDepth 100000
namespace TW
open PySem PySem.Spec PyProof.Rows L2 MI GE TY TB DL
theorem bindW_rule {S : Type} {A : (S → Prop) → Prop} {C : S → Prop} (Inv : S → Prop) (hA : ∀ k : S → Prop, (∀ s, Inv s → k s) → A k) (hC : ∀ s, Inv s → C s) : bindW A C := hA C hC
/-! ### what may be shown -/
/-- without a dict, and of this size -/
def Nd (n k : Nat) (d : PyData) : Prop := d.hasDict = false ∧ Fit n k d
theorem Nd.mono {n m k j : Nat} {e : PyData} (h : Nd n k e) (h1 : n ≤ m) (h2 : k ≤ j) : Nd m j e := ⟨h.1, h.2.mono h1 h2⟩
theorem Nd.rp {n k : Nat} {d : PyData} (h : Nd n k d) (h1 : n ≤ 2 ^ 24) (h2 : k < 60) : RP d := ⟨by unfold okD; rw [h.1]; rfl, h.2.sh, Nat.lt_of_le_of_lt h.2.dp h2, Nat.le_trans h.2.len h1⟩
theorem nd_I {i : Int} (h : 0 ≤ i) (h2 : i < 10 ^ 40) : Nd 40 0 (eI i) := ⟨rfl, fit_nat h h2⟩
theorem fit_negI {m : Nat} (h : m + 1 < 10 ^ 40) : Fit 41 0 (.int (Int.negSucc m)) := by
  refine ⟨?_, ?_, Nat.le_refl _⟩
  · rw [PyData.showable]
    refine decide_eq_true ?_
    rw [Int.natAbs_negSucc]
    exact Nat.lt_of_lt_of_le ((Nat.log2_lt (Nat.succ_ne_zero m)).mpr (show m.succ < 2 ^ 133 by
      have : (10 : Nat) ^ 40 < 2 ^ 133 := by decide
      omega)) (by decide)
  · show (numS (Int.negSucc m)).length ≤ 41
    unfold numS
    rw [Str.ofString_eq_toList]
    show ((("-" ++ Nat.repr (m + 1)).toList.map Char.toNat).toArray).size ≤ 41
    rw [List.size_toArray, List.length_map, String.toList_append, List.length_append, Nat.toList_repr]
    have := digits10_le (n := m + 1) (k := 40) (by decide) (by omega)
    have e : "-".toList.length = 1 := by decide
    omega
theorem nd_J {i : Int} (h : -(10 ^ 40) < i ∧ i < 10 ^ 40) : Nd 41 0 (eI i) := by
  refine ⟨rfl, ?_⟩
  cases i with
  | ofNat m => exact (fit_nat (i := (m : Int)) (by omega) h.2).mono (by decide) (Nat.le_refl _)
  | negSucc m => exact fit_negI (by have := h.1; omega)
theorem nd_B (b : Bool) : Nd 40 0 (eB b) := ⟨rfl, (gdB b).2⟩
theorem nd_N : Nd 40 0 (PyData.none) := ⟨rfl, by decide +kernel, by decide +kernel, by decide +kernel⟩
theorem nd_all {n k : Nat} {ds : List PyData} (h : ∀ d ∈ ds, Nd n k d) : PyData.hasDictAll ds = false := by
  induction ds with
  | nil => rfl
  | cons a l ih => rw [PyData.hasDictAll, (h a List.mem_cons_self).1, ih fun x hx => h x (List.mem_cons_of_mem _ hx)]; rfl
theorem nd_tup {n k : Nat} {ds : List PyData} (h : ∀ d ∈ ds, Nd n k d) : Nd (ds.length * n + 2 * ds.length + 3) (k + 1) (.tuple ds) := ⟨by rw [PyData.hasDict]; exact nd_all h, Fit.tuple fun x hx => (h x hx).2⟩
theorem nd_lst {n k : Nat} {ds : List PyData} (h : ∀ d ∈ ds, Nd n k d) : Nd (ds.length * n + 2 * ds.length + 3) (k + 1) (.list ds) := ⟨by rw [PyData.hasDict]; exact nd_all h, Fit.list fun x hx => (h x hx).2⟩
theorem nd_T {α : Type} {e : α → PyData} {n k : Nat} {xs : List α} (h : ∀ x ∈ xs, Nd n k (e x)) : Nd (xs.length * n + 2 * xs.length + 3) (k + 1) (eT e xs) := by
  have := nd_tup (ds := xs.map e) (n := n) (k := k) fun d hd => by
    obtain ⟨x, hx, rfl⟩ := List.mem_map.mp hd
    exact h x hx
  rwa [List.length_map] at this
theorem nd_L {α : Type} {e : α → PyData} {n k : Nat} {xs : List α} (h : ∀ x ∈ xs, Nd n k (e x)) : Nd (xs.length * n + 2 * xs.length + 3) (k + 1) (eL e xs) := by
  have := nd_lst (ds := xs.map e) (n := n) (k := k) fun d hd => by
    obtain ⟨x, hx, rfl⟩ := List.mem_map.mp hd
    exact h x hx
  rwa [List.length_map] at this
theorem nd_Tm {α : Type} {e : α → PyData} {n k m : Nat} {xs : List α} (h : ∀ x ∈ xs, Nd n k (e x)) (hl : xs.length ≤ m) : Nd (m * n + 2 * m + 3) (k + 1) (eT e xs) := (nd_T h).mono (by have := Nat.mul_le_mul_right n hl; omega) (Nat.le_refl _)
theorem nd_Lm {α : Type} {e : α → PyData} {n k m : Nat} {xs : List α} (h : ∀ x ∈ xs, Nd n k (e x)) (hl : xs.length ≤ m) : Nd (m * n + 2 * m + 3) (k + 1) (eL e xs) := (nd_L h).mono (by have := Nat.mul_le_mul_right n hl; omega) (Nat.le_refl _)
theorem nd_O {α : Type} {e : α → PyData} {n k : Nat} {x : Option α} (hn : 40 ≤ n) (h : ∀ y, x = some y → Nd n k (e y)) : Nd n k (eO e x) := by
  cases x with
  | none => exact nd_N.mono hn (Nat.zero_le _)
  | some y => exact h y rfl
theorem nd_2 {α β : Type} {a : α → PyData} {b : β → PyData} {n k : Nat} {p : α × β} (h1 : Nd n k (a p.1)) (h2 : Nd n k (b p.2)) : Nd (2 * n + 7) (k + 1) (e2 a b p) := by
  have := nd_tup (ds := [a p.1, b p.2]) (n := n) (k := k) fun d hd => by
    have hd' : d = a p.1 ∨ d = b p.2 := by simpa using hd
    rcases hd' with rfl | rfl
    · exact h1
    · exact h2
  exact this.mono (by show 2 * n + 2 * 2 + 3 ≤ _; omega) (Nat.le_refl _)
/-- sides -/
theorem nd_SL {n : Nat} {m : Int} {l : List Int} (h : SL n m l) (hm : m < 10 ^ 40) : Nd (n * 42 + 3) 1 (eT eI l) := (nd_Tm (n := 40) (m := n) (fun x hx => nd_I (by have := (h.all x hx).1; omega) (by have := (h.all x hx).2; omega)) (by rw [h.len]; exact Nat.le_refl _)).mono (by omega) (Nat.le_refl _)
/-! ### how many cells -/
theorem prod_pos : ∀ l : List Int, (∀ x ∈ l, 1 ≤ x) → 1 ≤ l.prod
  | [], _ => by decide
  | a :: l, h => by
    rw [List.prod_cons]
    have h1 := h a List.mem_cons_self
    have h2 := prod_pos l fun x hx => h x (List.mem_cons_of_mem _ hx)
    have : 1 * 1 ≤ a * l.prod := Int.mul_le_mul h1 h2 (by decide) (by omega)
    omega
theorem okG_prod {B : Nat} : ∀ (l : List Int) (m : Nat), (∀ x ∈ l, 1 ≤ x ∧ x ≤ 2 ^ 60) → (m : Int) * l.prod ≤ B → okG B (l.map fun n => (0, n)) m
  | [], m, _, h => by
    rw [List.prod_nil, Int.mul_one] at h
    show m ≤ B
    omega
  | a :: l, m, hx, h => by
    have ha := hx a List.mem_cons_self
    have hl := prod_pos l fun x hm => (hx x (List.mem_cons_of_mem _ hm)).1
    rw [List.prod_cons, ← Int.mul_assoc] at h
    have h1 : (m : Int) * 1 ≤ (m : Int) * a := Int.mul_le_mul_of_nonneg_left ha.1 (by omega)
    have h2 : (m : Int) * a * 1 ≤ (m : Int) * a * l.prod := Int.mul_le_mul_of_nonneg_left hl (by omega)
    refine ⟨by omega, by dsimp only; omega, ?_⟩
    have e : ((m * (a - 0).toNat : Nat) : Int) = m * a := by
      rw [Int.natCast_mul, Int.toNat_of_nonneg (by omega), Int.sub_zero]
    exact okG_prod l _ (fun x hm => hx x (List.mem_cons_of_mem _ hm)) (by dsimp only; rw [e]; exact h)
theorem cells_len {B : Nat} {n : Nat} {M : Int} {l : List Int} (h : SL n M l) (hM : M ≤ 2 ^ 60) (hv : F__law_volume l ≤ B) : okG B (l.map fun n => (0, n)) 1 ∧ (F__law_cells l).length ≤ B := by
  have ok : okG B (l.map fun n => (0, n)) 1 := okG_prod l 1 (fun x hx => by have := h.all x hx; omega) (by rw [← vol_prod]; omega)
  exact ⟨ok, okG_last (rows := [[]]) ok⟩
end TW
set_option Elab.async false
set_option linter.all false
set_option maxRecDepth 100000
set_option maxHeartbeats 4000000
namespace TW
open PySem PySem.Spec PyProof.Rows L2 MI GE TY
/-! ### which cuts the runs tell -/
section
variable {n : Nat} {m m' : Int} {p q l : List Int}
/-- a cut, with kind f below the place t of axis k -/
def CutP (n : Nat) (p q l : List Int) (k : Nat) (t : Int) : Prop := (0 ≤ t ∧ t ≤ gt l k) ∧ (t = 0 ∨ Dv n p (l.set k t)) ∧ (gt l k - t = 0 ∨ Dv n q (l.set k (gt l k - t)))
theorem Dv_at {b l : List Int} {k : Nat} (hl : l.length = n) (hk : k < n) {t : Int} : Dv n b (l.set k t) ↔ Ac n b l k ∧ gt b k ∣ t := by
  constructor
  · intro h
    refine ⟨fun i hi hik => ?_, ?_⟩
    · have := h i hi
      rwa [gt_set _ (by omega), if_neg hik] at this
    · have := h k hk
      rwa [gt_set _ (by omega), if_pos rfl] at this
  · rintro ⟨h1, h2⟩ i hi
    rw [gt_set _ (by omega)]
    by_cases e : i = k
    · rw [if_pos e, e]; exact h2
    · rw [if_neg e]; exact h1 i hi e
theorem fa_set {b : List Int} {k : Nat} {M : Int} (hb : SL n m b) (hl : SL n M l) (hk : k < n) {t : Int} (ht : 0 ≤ t) : F_fills_alone b (l.set k t) = decide (t = 0 ∨ Dv n b (l.set k t)) := by
  rw [fa_eq hb.len (by rw [List.length_set]; exact hl.len), Bool.eq_iff_iff, Bool.or_eq_true, decide_eq_true_eq, decide_eq_true_eq, decide_eq_true_eq]
  have : (0 : Int) ∈ l.set k t ↔ t = 0 := by
    constructor
    · intro h
      rcases List.mem_or_eq_of_mem_set h with h | h
      · have := (hl.all 0 h).1; omega
      · exact h.symm
    · intro h
      rw [h]
      exact zero_mem (by rw [hl.len]; exact hk)
  rw [this]
theorem cut_iff {f t : Int} (hf : f = 0 ∨ f = 1) {k : Nat} (hk : k < n) (h : PB n m m' p q l) (ht : 0 ≤ t ∧ t ≤ gt l k) : F_is_cut [p, q] l [f, (k : Int), t] = true ↔ CutP n (fst p q f) (fst q p f) l k t := by
  rw [cut_eq hf hk rfl h ht, fa_set h.fst.one h.box hk ht.1, fa_set h.fst.two h.box hk (by omega), Bool.and_eq_true, decide_eq_true_eq, decide_eq_true_eq]
  exact ⟨fun z => ⟨ht, z.1, z.2⟩, fun z => ⟨z.2.1, z.2.2⟩⟩
/-- the law's own look -/
theorem part_iff {b : List Int} {k : Nat} (hb : SL n m b) (hl : l.length = n) {t : Int} : F__law_rests b (l.set k t) = [] ↔ Dv n b (l.set k t) := rests_nil (by rw [List.length_set]; exact hl)
/-- where both fit across, the places are multiples -/
theorem cutP_across {k : Nat} (hl : SL n m' l) (hk : k < n) (h1 : Ac n p l k) (h2 : Ac n q l k) {t : Int} : CutP n p q l k t ↔ (0 ≤ t ∧ t ≤ gt l k) ∧ gt p k ∣ t ∧ gt q k ∣ gt l k - t := by
  unfold CutP
  rw [Dv_at hl.len hk, Dv_at hl.len hk]
  constructor
  · rintro ⟨a, b, c⟩
    refine ⟨a, ?_, ?_⟩
    · rcases b with b | b
      · rw [b]; exact Int.dvd_zero _
      · exact b.2
    · rcases c with c | c
      · rw [c]; exact Int.dvd_zero _
      · exact c.2
  · rintro ⟨a, b, c⟩
    exact ⟨a, .inr ⟨h1, b⟩, .inr ⟨h2, c⟩⟩
theorem cutP_ends {k : Nat} (hl : SL n m' l) (hk : k < n) (hA : ¬ (Ac n p l k ∧ Ac n q l k)) {t : Int} (h : CutP n p q l k t) : t = 0 ∨ t = gt l k := by
  obtain ⟨a, b, c⟩ := h
  rw [Dv_at hl.len hk] at b c
  rcases b with b | b
  · exact .inl b
  · rcases c with c | c
    · right; omega
    · exact (hA ⟨b.1, c.1⟩).elim
/-- the solutions, from the least one on -/
theorem share_all {a b w s : Int} (ha : 1 ≤ a) (hb : 1 ≤ b) (hw : 0 ≤ w) (hs : F_least_share a b w = some s) {t : Int} (ht : 0 ≤ t) :
    (a ∣ t ∧ b ∣ w - t) ↔ ∃ j : Int, 0 ≤ j ∧ t = s * a + j * (a * b / (Nat.gcd a.natAbs b.natAbs : Nat)) := by
  obtain ⟨A, rfl⟩ := Int.eq_ofNat_of_zero_le (show 0 ≤ a by omega)
  obtain ⟨B, rfl⟩ := Int.eq_ofNat_of_zero_le (show 0 ≤ b by omega)
  obtain ⟨W, rfl⟩ := Int.eq_ofNat_of_zero_le hw
  rw [Int.natAbs_natCast, Int.natAbs_natCast]
  have hA : 0 < A := by omega
  have hB : 0 < B := by omega
  have hg := Nat.gcd_pos_of_pos_left B hA
  obtain ⟨A', B', hco, eA, eB⟩ := Nat.exists_coprime A B
  have hB0 : 0 < B' := by
    rcases Nat.eq_zero_or_pos B' with h | h
    · rw [h, Nat.zero_mul] at eB; omega
    · exact h
  have eq1 : B / Nat.gcd A B = B' := Nat.div_eq_of_eq_mul_left hg eB
  have est : (A : Int) * B / (Nat.gcd A B : Nat) = (A : Int) * B' := by
    have : A * B / Nat.gcd A B = A * B' := by
      rw [Nat.mul_div_assoc _ (Nat.gcd_dvd_right A B), eq1]
    exact_mod_cast this
  rw [est]
  have h0 := share_rng hs
  have h1 := List.find?_some hs
  have hd : (B : Int) ∣ W - s * A := Int.dvd_of_emod_eq_zero (of_decide_eq_true h1)
  have key : ∀ c : Int, (B : Int) ∣ W - c * A ↔ (B' : Int) ∣ c - s := by
    intro c
    have e : (W : Int) - c * A = (W - s * A) - (c - s) * A := by rw [Int.sub_mul]; omega
    have e0 : (B : Int) ∣ (W - s * A) - (c - s) * A ↔ (B : Int) ∣ (c - s) * A := ⟨fun z => by
      have := Int.dvd_sub hd z
      rwa [show (W : Int) - s * A - (W - s * A - (c - s) * A) = (c - s) * A by omega] at this, fun z => Int.dvd_sub hd z⟩
    rw [e, e0]
    have e1 : (A : Int) = A' * (Nat.gcd A B : Nat) := by exact_mod_cast eA
    have e2 : (B : Int) = B' * (Nat.gcd A B : Nat) := by exact_mod_cast eB
    have g0 : ((Nat.gcd A B : Nat) : Int) ≠ 0 := by omega
    generalize ((Nat.gcd A B : Nat) : Int) = g at e1 e2 g0
    rw [e1, e2, ← Int.mul_assoc, Int.mul_dvd_mul_iff_right g0]
    constructor
    · intro hh
      have h2 := Int.natAbs_dvd_natAbs.mpr hh
      rw [Int.natAbs_mul, Int.natAbs_natCast, Int.natAbs_natCast] at h2
      exact Int.natAbs_dvd_natAbs.mp (by rw [Int.natAbs_natCast]; exact hco.symm.dvd_of_dvd_mul_right h2)
    · exact fun hh => Int.dvd_mul_of_dvd_left hh
  have hsB : s < B' := by
    have hm : IsShare A B W (s % B') := by
      refine ⟨Int.emod_nonneg _ (by omega), by rw [eq1]; exact Int.emod_lt_of_pos _ (by omega), (key _).mpr ?_⟩
      exact ⟨-(s / B'), by have := Int.emod_add_mul_ediv s B'; rw [Int.mul_neg]; omega⟩
    have := share_some hA hB hm
    rw [hs] at this
    rw [Option.some.inj this]
    exact Int.emod_lt_of_pos _ (by omega)
  constructor
  · rintro ⟨⟨c, hc⟩, h2⟩
    rw [hc, Int.mul_comm (A : Int), key] at h2
    obtain ⟨d, hd⟩ := h2
    have hc0 : 0 ≤ c := by
      rcases Int.lt_or_le c 0 with z | z
      · have : (A : Int) * c ≤ A * (-1) := Int.mul_le_mul_of_nonneg_left (by omega) (by omega)
        omega
      · exact z
    have hd0 : 0 ≤ d := by
      rcases Int.lt_or_le d 0 with z | z
      · have : (B' : Int) * d ≤ B' * (-1) := Int.mul_le_mul_of_nonneg_left (by omega) (by omega)
        omega
      · exact z
    refine ⟨d, hd0, ?_⟩
    rw [hc, show c = s + B' * d by omega, Int.mul_add, Int.mul_comm (A : Int) s]
    congr 1
    rw [Int.mul_comm d, Int.mul_assoc]
  · rintro ⟨j, hj, ht⟩
    have e : t = (s + B' * j) * A := by
      rw [ht, Int.add_mul]
      congr 1
      rw [Int.mul_comm j, Int.mul_comm (A : Int), Int.mul_assoc, Int.mul_assoc, Int.mul_comm (A : Int)]
    refine ⟨⟨s + B' * j, by rw [e, Int.mul_comm]⟩, ?_⟩
    rw [e, key]
    exact ⟨j, by omega⟩
theorem share_no {a b w : Int} (ha : 1 ≤ a) (hb : 1 ≤ b) (hw : 0 ≤ w) (hs : F_least_share a b w = none) {t : Int} (ht : 0 ≤ t) : ¬ (a ∣ t ∧ b ∣ w - t) := by
  rintro ⟨⟨c, hc⟩, h2⟩
  have hc0 : 0 ≤ c := by
    rcases Int.lt_or_le c 0 with z | z
    · have : a * c ≤ a * (-1) := Int.mul_le_mul_of_nonneg_left (by omega) (by omega)
      omega
    · exact z
  have := List.find?_eq_none.mp hs (c % b) (mem_rngI.mpr ⟨Int.emod_nonneg _ (by omega), by have := Int.emod_lt_of_pos c (show 0 < b by omega); omega⟩)
  refine this (decide_eq_true (Int.emod_eq_zero_of_dvd ?_))
  have e : w - c % b * a = (w - t) + b * (c / b * a) := by
    have h3 := Int.emod_add_mul_ediv c b
    have h4 : c % b = c - b * (c / b) := by omega
    rw [h4, Int.sub_mul, hc, Int.mul_comm a c, Int.mul_assoc]
    omega
  rw [e]
  exact Int.dvd_add h2 (Int.dvd_mul_right _ _)
/-- what a run is -/
structure RunOk (f : Int) (k : Nat) (L S : Int) (r : Int × Int × Int × Int × Int) : Prop where
  f : r.1 = f
  k : r.2.1 = k
  start : 0 ≤ r.2.2.1
  step : 1 ≤ r.2.2.2.1
  step2 : r.2.2.2.1 ≤ S
  many : 1 ≤ r.2.2.2.2
  last : r.2.2.1 + (r.2.2.2.2 - 1) * r.2.2.2.1 ≤ L
theorem runs_spec {f : Int} (hf : f = 0 ∨ f = 1) {k : Nat} (hk : k < n) (h : PB n m m' p q l) :
    (∀ r ∈ F_runs_across [p, q] l f (k : Int), RunOk f k (gt l k) (gt (fst p q f) k * gt (fst q p f) k) r) ∧
    ∀ t : Int, CutP n (fst p q f) (fst q p f) l k t ↔ ∃ r ∈ F_runs_across [p, q] l f (k : Int), ∃ j : Int, 0 ≤ j ∧ j < r.2.2.2.2 ∧ t = r.2.2.1 + j * r.2.2.2.1 := by
  have h' := h.fst (f := f)
  have ha := h'.one.at hk
  have hb := h'.two.at hk
  have hl := h.box.at hk
  rw [runs_eq hf hk h]
  by_cases hA : Ac n (fst p q f) l k ∧ Ac n (fst q p f) l k
  · rw [if_pos hA]
    have cp := fun t => cutP_across (t := t) h.box hk hA.1 hA.2
    have hg := gcd_bd ha.1 hb.1
    cases hs : F_least_share (gt (fst p q f) k) (gt (fst q p f) k) (gt l k) with
    | none =>
      refine ⟨fun r hr => (by cases hr), fun t => ⟨fun hc => ?_, fun ⟨r, hr, _⟩ => by cases hr⟩⟩
      obtain ⟨c1, c2⟩ := (cp t).mp hc
      exact (share_no ha.1 hb.1 (by omega) hs c1.1 c2).elim
    | some s =>
      dsimp only
      have s0 := share_rng hs
      have sa : 0 ≤ s * gt (fst p q f) k := Int.mul_nonneg s0.1 (by omega)
      have al := fun t (ht : 0 ≤ t) => share_all (t := t) ha.1 hb.1 (by omega) hs ht
      generalize gt (fst p q f) k * gt (fst q p f) k / (Nat.gcd (gt (fst p q f) k).natAbs (gt (fst q p f) k).natAbs : Nat) = st at *
      have st1 : 1 ≤ st := by omega
      generalize s * gt (fst p q f) k = S at *
      by_cases hc : gt l k < S
      · rw [if_pos hc]
        refine ⟨fun r hr => (by cases hr), fun t => ⟨fun hc' => ?_, fun ⟨r, hr, _⟩ => by cases hr⟩⟩
        obtain ⟨c1, c2⟩ := (cp t).mp hc'
        obtain ⟨j, hj, e⟩ := (al t c1.1).mp c2
        have : 0 ≤ j * st := Int.mul_nonneg hj (by omega)
        omega
      · rw [if_neg hc]
        have dv : ∀ j : Int, j < (gt l k - S) / st + 1 ↔ S + j * st ≤ gt l k := fun j => by
          rw [Int.lt_add_one_iff, Int.le_ediv_iff_mul_le (by omega)]
          omega
        have dv0 : 0 ≤ (gt l k - S) / st := Int.ediv_nonneg (by omega) (by omega)
        refine ⟨fun r hr => ?_, fun t => ?_⟩
        · rw [List.mem_singleton.mp hr]
          refine ⟨rfl, rfl, sa, st1, hg.2.2.2, by show 1 ≤ (gt l k - S) / st + 1; omega, ?_⟩
          show S + ((gt l k - S) / st + 1 - 1) * st ≤ gt l k
          exact (dv _).mp (by omega)
        · rw [cp]
          constructor
          · rintro ⟨c1, c2⟩
            obtain ⟨j, hj, e⟩ := (al t c1.1).mp c2
            exact ⟨_, List.mem_singleton.mpr rfl, j, hj, (dv j).mpr (by omega), e⟩
          · rintro ⟨r, hr, j, hj, hj2, e⟩
            rw [List.mem_singleton.mp hr] at hj2 e
            have e' : t = S + j * st := e
            have hle := (dv j).mp hj2
            have : 0 ≤ j * st := Int.mul_nonneg hj (by omega)
            exact ⟨by omega, (al t (by omega)).mpr ⟨j, hj, e'⟩⟩
  · rw [if_neg hA]
    have mem : ∀ x, x ∈ ([0, gt l k].filter fun x => F_is_cut [p, q] l [f, (k : Int), x]) ↔ CutP n (fst p q f) (fst q p f) l k x := fun x => by
      rw [List.mem_filter]
      constructor
      · rintro ⟨hx, hc⟩
        have hx' : x = 0 ∨ x = gt l k := by simpa using hx
        exact (cut_iff hf hk h (by omega)).mp hc
      · intro hc
        have hx' := cutP_ends h.box hk hA hc
        exact ⟨by rcases hx' with z | z <;> simp [z], (cut_iff hf hk h hc.1).mpr hc⟩
    refine ⟨fun r hr => ?_, fun t => ⟨fun hc => ⟨(f, (k : Int), t, 1, 1), List.mem_map.mpr ⟨t, (mem t).mpr hc, rfl⟩, 0, by decide, Int.zero_lt_one, by show t = t + 0 * 1; omega⟩, ?_⟩⟩
    · obtain ⟨x, hx, rfl⟩ := List.mem_map.mp hr
      have hc := (mem x).mp hx
      exact ⟨rfl, rfl, hc.1.1, Int.le_refl _, (mul_rng ha hb).1, Int.le_refl _, by show x + (1 - 1) * 1 ≤ gt l k; have := hc.1.2; omega⟩
    · rintro ⟨r, hr, j, hj, hj2, e⟩
      obtain ⟨x, hx, rfl⟩ := List.mem_map.mp hr
      have hj2' : j < 1 := hj2
      have e' : t = x + j * 1 := e
      have : t = x := by omega
      rw [this]
      exact (mem x).mp hx
end
end TW
set_option Elab.async false
set_option linter.all false
set_option maxRecDepth 100000
namespace TW
open PySem PySem.Spec PyProof.Rows L2 MI GE TY
def b_escape : DS :=
 (sSeq (sIf (tT (mOp oNe (mCB oLn (aCons (mOp oIt (mVar 0) (mC (PyData.int 0))) aNil)) (mCB oLn (aCons (mOp oIt (mVar 1) (mC (PyData.int 0))) aNil))))
 sNo
 sNx)
 (sSeq (sAsg (mFr (mLc (iSq (mVar 0)) (gNm 3) (tNo (tT (mCall m_is_filled (aCons (mVar 1) (aCons (mVar 3) aNil))))) [3] (mEl (mVar 3)))) (gNm 2))
 (sRet (mIf (tT (mOp oGt (mCB oLn (aCons (mVar 2) aNil)) (mC (PyData.int 0)))) (mOp oIt (mVar 2) (mC (PyData.int 0))) (mC PyData.none)))))
def m_escape : List PyData → C PyData := bodyM b_escape 2 2
def b_within : DS :=
 (sRet (mOp oIs (mCall m_escape (aCons (mVar 0) (aCons (mVar 1) aNil))) (mC PyData.none)))
def m_within : List PyData → C PyData := bodyM b_within 2 0
def b_alike : DS :=
 (sRet (mAnd (mCall m_within (aCons (mVar 0) (aCons (mVar 1) aNil))) (mCall m_within (aCons (mVar 1) (aCons (mVar 0) aNil)))))
def m_alike : List PyData → C PyData := bodyM b_alike 2 0

def F_escape (one : (List (List Int))) (other_ : (List (List Int))) : (Option (List Int)) := (if (!decide (((((ix one 0)).length : Int) : Int) = (((ix other_ 0)).length : Int))) then default else (if (decide (0 < ((((one.filter (fun x3 : (List Int) => (!(F_is_filled other_ x3)))).map (fun x3 : (List Int) => x3))).length : Int))) then (some (ix ((one.filter (fun x3 : (List Int) => (!(F_is_filled other_ x3)))).map (fun x3 : (List Int) => x3)) 0)) else (none : (Option (List Int)))))
def D_escape (one : (List (List Int))) (other_ : (List (List Int))) : Prop := ((0 ≤ (0 : Int) ∧ (0 : Int) < (one).length) ∧ (0 ≤ (0 : Int) ∧ (0 : Int) < (other_).length) ∧ ((!decide (((((ix one 0)).length : Int) : Int) = (((ix other_ 0)).length : Int))) = true → (False)) ∧ ((!decide (((((ix one 0)).length : Int) : Int) = (((ix other_ 0)).length : Int))) = false → ((one).length ≤ 100000 ∧ (∀ x3 ∈ one, (D_is_filled other_ x3)) ∧ ((decide (0 < ((((one.filter (fun x3 : (List Int) => (!(F_is_filled other_ x3)))).map (fun x3 : (List Int) => x3))).length : Int))) = true → ((0 ≤ (0 : Int) ∧ (0 : Int) < (((one.filter (fun x3 : (List Int) => (!(F_is_filled other_ x3)))).map (fun x3 : (List Int) => x3))).length))))))
theorem b_escape_ok (one : (List (List Int))) (other_ : (List (List Int))) (h : D_escape one other_) (D : DN) (hp : D.rt ((eO (eT eI)) (F_escape one other_))) : b_escape D [some (.dat ((eT (eT eI)) one)), some (.dat ((eT (eT eI)) other_)), none, none] := by
  unfold b_escape
  unfold F_escape at hp
  exact (k_if (eb_t (ev_op (p_ne cmpI (by decide) (((ix one 0)).length : Int) (((ix other_ 0)).length : Int)) (ev_cb (c_lenT eI (ix one 0)) (ea_cons (ev_op (p_itT (eT eI) one 0 h.1) (ev_var rfl) (ev_c _)) ea_nil)) (ev_cb (c_lenT eI (ix other_ 0)) (ea_cons (ev_op (p_itT (eT eI) other_ 0 h.2.1) (ev_var rfl) (ev_c _)) ea_nil)))) (fun h1 => ((h.2.2.1 h1)).elim) (fun h2 => (k_nx (k_asg (r' := [some (.dat ((eT (eT eI)) one)), some (.dat ((eT (eT eI)) other_)), some (.dat ((eL (eT eI)) ((one.filter (fun x3 : (List Int) => (!(F_is_filled other_ x3)))).map (fun x3 : (List Int) => x3)))), none]) (show EV _ _ ((eL (eT eI)) ((one.filter (fun x3 : (List Int) => (!(F_is_filled other_ x3)))).map (fun x3 : (List Int) => x3))) from ev_fr (eo_lcI (r := [some (.dat ((eT (eT eI)) one)), some (.dat ((eT (eT eI)) other_)), none, none]) (vs := [3]) (e := (eT eI)) (e' := (eT eI)) (f := fun x3 => x3) (rx := fun x3 => [some (.dat ((eT (eT eI)) one)), some (.dat ((eT (eT eI)) other_)), none, some (.dat ((eT eI) x3))]) (c := fun x3 => (!(F_is_filled other_ x3))) (it_T (e := (eT eI)) (ev_var rfl)) ⟨trivial, trivial⟩ (h.2.2.2 h2).1 (fun x3 h4 => (fun P h => h)) (fun x3 h4 => (eb_no (eb_t (show EV _ _ (eB (F_is_filled other_ x3)) from ev_call (f_is_filled other_ x3 ((h.2.2.2 h2).2.1 x3 h4)) (ea_cons (ev_var rfl) (ea_cons (ev_var rfl) ea_nil)))))) (fun x3 h4 h5 => (ev_var rfl)))) (fun P h => h) (k_ret (ev_if (e := (eO (eT eI))) (eb_t (ev_op (p_gt ((((one.filter (fun x3 : (List Int) => (!(F_is_filled other_ x3)))).map (fun x3 : (List Int) => x3))).length : Int) 0) (ev_cb (c_lenL (eT eI) ((one.filter (fun x3 : (List Int) => (!(F_is_filled other_ x3)))).map (fun x3 : (List Int) => x3))) (ea_cons (ev_var rfl) ea_nil)) (ev_c _))) (fun h6 => (show EV _ _ ((eO (eT eI)) (some (ix ((one.filter (fun x3 : (List Int) => (!(F_is_filled other_ x3)))).map (fun x3 : (List Int) => x3)) 0))) from (ev_op (p_itL (eT eI) ((one.filter (fun x3 : (List Int) => (!(F_is_filled other_ x3)))).map (fun x3 : (List Int) => x3)) 0 ((h.2.2.2 h2).2.2 h6)) (ev_var rfl) (ev_c _)))) (fun h6 => (show EV _ _ ((eO (eT eI)) none) from (ev_c _)))) (if_f (e := (eO (eT eI))) h2 hp))))))
theorem f_escape (one : (List (List Int))) (other_ : (List (List Int))) (h : D_escape one other_) : CB m_escape [((eT (eT eI)) one), ((eT (eT eI)) other_)] ((eO (eT eI)) (F_escape one other_)) := fun P X p => ⟨rfl, b_escape_ok one other_ h _ p⟩
def F_within (one : (List (List Int))) (other_ : (List (List Int))) : Bool := (((F_escape one other_)).isNone)
def D_within (one : (List (List Int))) (other_ : (List (List Int))) : Prop := (D_escape one other_)
theorem b_within_ok (one : (List (List Int))) (other_ : (List (List Int))) (h : D_within one other_) (D : DN) (hp : D.rt (eB (F_within one other_))) : b_within D [some (.dat ((eT (eT eI)) one)), some (.dat ((eT (eT eI)) other_))] := by
  unfold b_within
  unfold F_within at hp
  exact (k_ret (ev_op (p_isNoneO (e := (eT eI)) (fun _ => rfl) (F_escape one other_)) (show EV _ _ ((eO (eT eI)) (F_escape one other_)) from ev_call (f_escape one other_ h) (ea_cons (ev_var rfl) (ea_cons (ev_var rfl) ea_nil))) (ev_c _)) hp)
theorem f_within (one : (List (List Int))) (other_ : (List (List Int))) (h : D_within one other_) : CB m_within [((eT (eT eI)) one), ((eT (eT eI)) other_)] (eB (F_within one other_)) := fun P X p => ⟨rfl, b_within_ok one other_ h _ p⟩
def F_alike (one : (List (List Int))) (other_ : (List (List Int))) : Bool := ((F_within one other_) && (F_within other_ one))
def D_alike (one : (List (List Int))) (other_ : (List (List Int))) : Prop := (D_within one other_ ∧ ((F_within one other_) = true → (D_within other_ one)))
theorem b_alike_ok (one : (List (List Int))) (other_ : (List (List Int))) (h : D_alike one other_) (D : DN) (hp : D.rt (eB (F_alike one other_))) : b_alike D [some (.dat ((eT (eT eI)) one)), some (.dat ((eT (eT eI)) other_))] := by
  unfold b_alike
  unfold F_alike at hp
  exact (k_ret (ev_and (show EV _ _ (eB (F_within one other_)) from ev_call (f_within one other_ h.1) (ea_cons (ev_var rfl) (ea_cons (ev_var rfl) ea_nil))) (fun h1 => (show EV _ _ (eB (F_within other_ one)) from ev_call (f_within other_ one (h.2 h1)) (ea_cons (ev_var rfl) (ea_cons (ev_var rfl) ea_nil))))) hp)
theorem f_alike (one : (List (List Int))) (other_ : (List (List Int))) (h : D_alike one other_) : CB m_alike [((eT (eT eI)) one), ((eT (eT eI)) other_)] (eB (F_alike one other_)) := fun P X p => ⟨rfl, b_alike_ok one other_ h _ p⟩

section
variable {n : Nat} {m m' : Int} {p q r s : List Int}
/-- two pairs of one dimension -/
structure PP (n : Nat) (m : Int) (p q r s : List Int) : Prop where
  n1 : 1 ≤ n ∧ n ≤ 100
  one : SL n m p
  two : SL n m q
  three : SL n m r
  four : SL n m s
  hm : m ≤ 2 ^ 120
theorem PP.swap (h : PP n m p q r s) : PP n m r s p q := ⟨h.n1, h.three, h.four, h.one, h.two, h.hm⟩
theorem PP.b1 (h : PP n m p q r s) : PB n m m r s p := ⟨h.n1, h.three, h.four, h.one, h.hm, h.hm⟩
theorem PP.b2 (h : PP n m p q r s) : PB n m m r s q := ⟨h.n1, h.three, h.four, h.two, h.hm, h.hm⟩
/-- whether each box of the first pair is filled by the second -/
def In2 (n : Nat) (p q r s : List Int) : Prop := Filled n r s p ∧ Filled n r s q
theorem escape_eq (h : PP n m p q r s) : F_escape [p, q] [r, s] = if F_is_filled [r, s] p = true then (if F_is_filled [r, s] q = true then none else some q) else some p := by
  unfold F_escape
  rw [ix0, ix0, h.one.len, h.three.len]
  rw [if_neg (by simp), List.map_id', List.filter_cons, List.filter_cons, List.filter_nil]
  cases F_is_filled [r, s] p <;> cases F_is_filled [r, s] q <;> simp
theorem D_escape_ok (h : PP n m p q r s) : D_escape [p, q] [r, s] := by
  unfold D_escape
  rw [ix0, ix0, h.one.len, h.three.len]
  refine ⟨⟨by decide, by simp⟩, ⟨by decide, by simp⟩, fun hc => by simp at hc, fun _ => ⟨by simp, fun x hx => ?_, fun hc => ?_⟩⟩
  · have hx' : x = p ∨ x = q := by simpa using hx
    rcases hx' with rfl | rfl
    · exact D_filled h.b1
    · exact D_filled h.b2
  · have := of_decide_eq_true hc
    omega
theorem within_iff (h : PP n m p q r s) : F_within [p, q] [r, s] = true ↔ In2 n p q r s := by
  unfold F_within
  rw [escape_eq h]
  unfold In2
  rw [← filled_iff h.b1, ← filled_iff h.b2]
  cases F_is_filled [r, s] p <;> cases F_is_filled [r, s] q <;> simp
theorem D_within_ok (h : PP n m p q r s) : D_within [p, q] [r, s] := D_escape_ok h
theorem alike_iff (h : PP n m p q r s) : F_alike [p, q] [r, s] = true ↔ In2 n p q r s ∧ In2 n r s p q := by
  unfold F_alike
  rw [Bool.and_eq_true, within_iff h, within_iff h.swap]
/-! ### what is put together of filled boxes is filled -/
theorem Sum2.add {a b v w : Int} (h : Sum2 a b v) (h' : Sum2 a b w) : Sum2 a b (v + w) := by
  obtain ⟨x, y, rfl⟩ := h
  obtain ⟨x', y', rfl⟩ := h'
  exact ⟨x + x', y + y', by rw [Int.natCast_add, Int.natCast_add, Int.add_mul, Int.add_mul]; omega⟩
theorem Sum2.mul {a b v : Int} (h : Sum2 a b v) (c : Nat) : Sum2 a b (c * v) := by
  obtain ⟨x, y, rfl⟩ := h
  exact ⟨c * x, c * y, by rw [Int.mul_add, Int.natCast_mul, Int.natCast_mul, Int.mul_assoc, Int.mul_assoc]⟩
theorem sum_l {a b v : Int} (ha : 1 ≤ a) (hv : 0 ≤ v) (h : a ∣ v) : Sum2 a b v := by
  obtain ⟨c, hc⟩ := h
  have hc0 : 0 ≤ c := by
    rcases Int.lt_or_le c 0 with z | z
    · have : a * c ≤ a * (-1) := Int.mul_le_mul_of_nonneg_left (by omega) (by omega)
      omega
    · exact z
  exact ⟨c.toNat, 0, by rw [Int.toNat_of_nonneg hc0, Int.mul_comm c]; omega⟩
theorem dv_sum {a p q l : Int} (hp : a ∣ p) (hq : a ∣ q) (h : Sum2 p q l) : a ∣ l := by
  obtain ⟨x, y, rfl⟩ := h
  exact Int.dvd_add (Int.dvd_mul_of_dvd_right hp) (Int.dvd_mul_of_dvd_right hq)
/-- sums of sums -/
theorem sum_sum {a b p q l : Int} (hp : Sum2 a b p) (hq : Sum2 a b q) (h : Sum2 p q l) : Sum2 a b l := by
  obtain ⟨x, y, rfl⟩ := h
  exact (hp.mul x).add (hq.mul y)
theorem sum_dvd {a b p l : Int} (hp : Sum2 a b p) (p1 : 1 ≤ p) (l0 : 0 ≤ l) (h : p ∣ l) : Sum2 a b l := by
  obtain ⟨c, hc⟩ := h
  have hc0 : 0 ≤ c := by
    rcases Int.lt_or_le c 0 with z | z
    · have : p * c ≤ p * (-1) := Int.mul_le_mul_of_nonneg_left (by omega) (by omega)
      omega
    · exact z
  have := hp.mul c.toNat
  rwa [Int.toNat_of_nonneg hc0, Int.mul_comm, ← hc] at this
section
variable {l : List Int} {k : Nat} {M : Int}
theorem tr_dv (hr : SL n m r) (hs : SL n m s) (hp : SL n m p) (hl : SL n M l) (h : Filled n r s p) (hd : Dv n p l) : Filled n r s l := by
  rcases h with h | h | ⟨a, ha, h1, h2, h3⟩
  · exact .inl fun i hi => Int.dvd_trans (h i hi) (hd i hi)
  · exact .inr (.inl fun i hi => Int.dvd_trans (h i hi) (hd i hi))
  · exact .inr (.inr ⟨a, ha, fun i hi hia => Int.dvd_trans (h1 i hi hia) (hd i hi), fun i hi hia => Int.dvd_trans (h2 i hi hia) (hd i hi), sum_dvd h3 (hp.at ha).1 (by have := hl.at ha; omega) (hd a ha)⟩)
theorem tr_1 (h1 : Dv n r p) (h2 : Dv n r q) (hk : k < n) (hp : Ac n p l k) (h : Sum2 (gt p k) (gt q k) (gt l k)) : Dv n r l := fun i hi => by
  by_cases e : i = k
  · rw [e]; exact dv_sum (h1 k hk) (h2 k hk) h
  · exact Int.dvd_trans (h1 i hi) (hp i hi e)
theorem tr_2 (hr : SL n m r) (hs : SL n m s) (hpp : SL n m p) (hqq : SL n m q) (h1 : Dv n r p) (h2 : Dv n s q) (hk : k < n) (hp : Ac n p l k) (hq : Ac n q l k) (h : Sum2 (gt p k) (gt q k) (gt l k)) : Filled n r s l :=
  .inr (.inr ⟨k, hk, fun i hi e => Int.dvd_trans (h1 i hi) (hp i hi e), fun i hi e => Int.dvd_trans (h2 i hi) (hq i hi e),
    sum_sum (sum_l (hr.at hk).1 (by have := hpp.at hk; omega) (h1 k hk)) (sum_l (hs.at hk).1 (by have := hqq.at hk; omega) (h2 k hk)).swap h⟩)
theorem tr_3 (hr : SL n m r) (hpp : SL n m p) (h1 : Dv n r p) {b : Nat} (hb : b < n) (r1 : Ac n r q b) (s1 : Ac n s q b) (s2 : Sum2 (gt r b) (gt s b) (gt q b)) (hk : k < n) (hp : Ac n p l k) (hq : Ac n q l k) (h : Sum2 (gt p k) (gt q k) (gt l k)) : Filled n r s l := by
  by_cases e : b = k
  · subst e
    exact .inr (.inr ⟨b, hk, fun i hi e => Int.dvd_trans (h1 i hi) (hp i hi e), fun i hi e => Int.dvd_trans (s1 i hi e) (hq i hi e), sum_sum (sum_l (hr.at hk).1 (by have := hpp.at hk; omega) (h1 b hk)) s2 h⟩)
  · refine .inl fun i hi => ?_
    by_cases e2 : i = k
    · rw [e2]; exact dv_sum (h1 k hk) (r1 k hk fun z => e z.symm) h
    · exact Int.dvd_trans (h1 i hi) (hp i hi e2)
theorem tr_4 (hr : SL n m r) (hs : SL n m s) (hpp : SL n m p) (hqq : SL n m q) (hl : SL n M l) {a b : Nat} (ha : a < n) (r1 : Ac n r p a) (s1 : Ac n s p a) (s2 : Sum2 (gt r a) (gt s a) (gt p a)) (hb : b < n) (r3 : Ac n r q b) (s3 : Ac n s q b) (s4 : Sum2 (gt r b) (gt s b) (gt q b)) (hk : k < n) (hp : Ac n p l k) (hq : Ac n q l k) (h : Sum2 (gt p k) (gt q k) (gt l k)) : Filled n r s l := by
  by_cases ea : a = k
  · subst ea
    by_cases eb : b = a
    · subst eb
      exact .inr (.inr ⟨b, hk, fun i hi e => Int.dvd_trans (r1 i hi e) (hp i hi e), fun i hi e => Int.dvd_trans (s1 i hi e) (hp i hi e), sum_sum s2 s4 h⟩)
    · exact .inr (.inr ⟨a, hk, fun i hi e => Int.dvd_trans (r1 i hi e) (hp i hi e), fun i hi e => Int.dvd_trans (s1 i hi e) (hp i hi e), sum_sum s2 (sum_l (hr.at hk).1 (by have := hqq.at hk; omega) (r3 a hk fun z => eb z.symm)) h⟩)
  · by_cases eb : b = k
    · subst eb
      exact .inr (.inr ⟨b, hk, fun i hi e => Int.dvd_trans (r3 i hi e) (hq i hi e), fun i hi e => Int.dvd_trans (s3 i hi e) (hq i hi e), sum_sum (sum_l (hr.at hk).1 (by have := hpp.at hk; omega) (r1 b hk fun z => ea z.symm)) s4 h⟩)
    · have rk : gt r k ∣ gt l k := dv_sum (r1 k hk fun z => ea z.symm) (r3 k hk fun z => eb z.symm) h
      have sk : gt s k ∣ gt l k := dv_sum (s1 k hk fun z => ea z.symm) (s3 k hk fun z => eb z.symm) h
      by_cases eab : a = b
      · subst eab
        refine .inr (.inr ⟨a, ha, fun i hi e => ?_, fun i hi e => ?_, sum_dvd s2 (hpp.at ha).1 (by have := hl.at ha; omega) (hp a ha ea)⟩)
        · by_cases ei : i = k
          · rw [ei]; exact rk
          · exact Int.dvd_trans (r1 i hi e) (hp i hi ei)
        · by_cases ei : i = k
          · rw [ei]; exact sk
          · exact Int.dvd_trans (s1 i hi e) (hp i hi ei)
      · refine .inl fun i hi => ?_
        by_cases ei : i = k
        · rw [ei]; exact rk
        · by_cases e : i = a
          · exact Int.dvd_trans (r3 i hi fun z => eab (e.symm.trans z)) (hq i hi ei)
          · exact Int.dvd_trans (r1 i hi e) (hp i hi ei)
theorem filled_trans (h : PP n m p q r s) (hl : SL n M l) (hi : In2 n p q r s) (hf : Filled n p q l) : Filled n r s l := by
  rcases hf with hf | hf | ⟨k, hk, hp, hq, hsum⟩
  · exact tr_dv h.three h.four h.one hl hi.1 hf
  · exact tr_dv h.three h.four h.two hl hi.2 hf
  · obtain ⟨i1, i2⟩ := hi
    rcases i1 with a1 | a1 | ⟨a, ha, r1, s1, s2⟩
    · rcases i2 with b1 | b1 | ⟨b, hb, r3, s3, s4⟩
      · exact .inl (tr_1 a1 b1 hk hp hsum)
      · exact tr_2 h.three h.four h.one h.two a1 b1 hk hp hq hsum
      · exact tr_3 h.three h.one a1 hb r3 s3 s4 hk hp hq hsum
    · rcases i2 with b1 | b1 | ⟨b, hb, r3, s3, s4⟩
      · exact (tr_2 h.four h.three h.one h.two a1 b1 hk hp hq hsum).swap
      · exact .inr (.inl (tr_1 a1 b1 hk hp hsum))
      · exact (tr_3 h.four h.one a1 hb s3 r3 s4.swap hk hp hq hsum).swap
    · rcases i2 with b1 | b1 | ⟨b, hb, r3, s3, s4⟩
      · exact tr_3 h.three h.two b1 ha r1 s1 s2 hk hq hp hsum.swap
      · exact (tr_3 h.four h.two b1 ha s1 r1 s2.swap hk hq hp hsum.swap).swap
      · exact tr_4 h.three h.four h.one h.two hl ha r1 s1 s2 hb r3 s3 s4 hk hp hq hsum
end
theorem D_alike_ok (h : PP n m p q r s) : D_alike [p, q] [r, s] := ⟨D_within_ok h, fun _ => D_within_ok h.swap⟩
end
end TW
set_option Elab.async false
set_option linter.all false
set_option maxRecDepth 100000
set_option maxHeartbeats 4000000
namespace TW
open PySem PySem.Spec PyProof.Rows L2 MI GE TY
/-! ### which boxes are filled, seen from one axis -/
section
variable {n : Nat} {p q l : List Int}
/-- filled across another axis -/
def Bx (n : Nat) (p q l : List Int) (a : Nat) : Prop := ∃ k < n, k ≠ a ∧ (∀ i < n, i ≠ a → i ≠ k → gt p i ∣ gt l i ∧ gt q i ∣ gt l i) ∧ Sum2 (gt p k) (gt q k) (gt l k)
def Fa (n : Nat) (p q l : List Int) (a : Nat) (w : Int) : Prop := (Ac n p l a ∧ gt p a ∣ w) ∨ (Ac n q l a ∧ gt q a ∣ w) ∨ (Ac n p l a ∧ Ac n q l a ∧ Sum2 (gt p a) (gt q a) w) ∨ (Bx n p q l a ∧ gt p a ∣ w ∧ gt q a ∣ w)
theorem fa_iff {a : Nat} (hl : l.length = n) (ha : a < n) (w : Int) : Filled n p q (l.set a w) ↔ Fa n p q l a w := by
  have g : ∀ i, gt (l.set a w) i = if i = a then w else gt l i := gt_set w (by omega)
  have ac : ∀ b : List Int, Ac n b (l.set a w) a ↔ Ac n b l a := fun b => by
    constructor
    · intro h i hi hia
      have := h i hi hia
      rwa [g, if_neg hia] at this
    · intro h i hi hia
      rw [g, if_neg hia]; exact h i hi hia
  unfold Filled
  rw [Dv_at hl ha, Dv_at hl ha]
  constructor
  · rintro (h | h | ⟨k, hk, h1, h2, h3⟩)
    · exact .inl h
    · exact .inr (.inl h)
    · by_cases e : k = a
      · subst e
        rw [g, if_pos rfl] at h3
        exact .inr (.inr (.inl ⟨(ac p).mp h1, (ac q).mp h2, h3⟩))
      · rw [g, if_neg e] at h3
        have w1 := h1 a ha (Ne.symm e)
        have w2 := h2 a ha (Ne.symm e)
        rw [g, if_pos rfl] at w1 w2
        refine .inr (.inr (.inr ⟨⟨k, hk, e, fun i hi hia hik => ?_, h3⟩, w1, w2⟩))
        have e1 := h1 i hi hik
        have e2 := h2 i hi hik
        rw [g, if_neg hia] at e1 e2
        exact ⟨e1, e2⟩
  · rintro (h | h | ⟨h1, h2, h3⟩ | ⟨⟨k, hk, e, h1, h3⟩, w1, w2⟩)
    · exact .inl h
    · exact .inr (.inl h)
    · refine .inr (.inr ⟨a, ha, (ac p).mpr h1, (ac q).mpr h2, ?_⟩)
      rw [g, if_pos rfl]; exact h3
    · refine .inr (.inr ⟨k, hk, fun i hi hik => ?_, fun i hi hik => ?_, ?_⟩)
      · rw [g]
        by_cases hia : i = a
        · rw [if_pos hia, hia]; exact w1
        · rw [if_neg hia]; exact (h1 i hi hia hik).1
      · rw [g]
        by_cases hia : i = a
        · rw [if_pos hia, hia]; exact w2
        · rw [if_neg hia]; exact (h1 i hi hia hik).2
      · rw [g, if_neg e]; exact h3
theorem fa_add {a : Nat} (pa : 1 ≤ gt p a) (qa : 1 ≤ gt q a) {v w : Int} (hv : 0 ≤ v) (hw : 0 ≤ w) (h : Fa n p q l a v) (h' : Fa n p q l a w) : Fa n p q l a (v + w) := by
  have sp : ∀ {x : Int}, 0 ≤ x → gt p a ∣ x → Sum2 (gt p a) (gt q a) x := fun hx hd => sum_of_dvd pa hx hd
  have sq : ∀ {x : Int}, 0 ≤ x → gt q a ∣ x → Sum2 (gt p a) (gt q a) x := fun hx hd => (sum_of_dvd qa hx hd).swap
  rcases h with ⟨a1, a2⟩ | ⟨a1, a2⟩ | ⟨a1, a2, a3⟩ | ⟨a1, a2, a3⟩ <;> rcases h' with ⟨b1, b2⟩ | ⟨b1, b2⟩ | ⟨b1, b2, b3⟩ | ⟨b1, b2, b3⟩
  · exact .inl ⟨a1, Int.dvd_add a2 b2⟩
  · exact .inr (.inr (.inl ⟨a1, b1, (sp hv a2).add (sq hw b2)⟩))
  · exact .inr (.inr (.inl ⟨a1, b2, (sp hv a2).add b3⟩))
  · exact .inl ⟨a1, Int.dvd_add a2 b2⟩
  · exact .inr (.inr (.inl ⟨b1, a1, (sq hv a2).add (sp hw b2)⟩))
  · exact .inr (.inl ⟨a1, Int.dvd_add a2 b2⟩)
  · exact .inr (.inr (.inl ⟨b1, a1, (sq hv a2).add b3⟩))
  · exact .inr (.inl ⟨a1, Int.dvd_add a2 b3⟩)
  · exact .inr (.inr (.inl ⟨a1, a2, a3.add (sp hw b2)⟩))
  · exact .inr (.inr (.inl ⟨a1, a2, a3.add (sq hw b2)⟩))
  · exact .inr (.inr (.inl ⟨a1, a2, a3.add b3⟩))
  · exact .inr (.inr (.inl ⟨a1, a2, a3.add (sp hw b2)⟩))
  · exact .inl ⟨b1, Int.dvd_add a2 b2⟩
  · exact .inr (.inl ⟨b1, Int.dvd_add a3 b2⟩)
  · exact .inr (.inr (.inl ⟨b1, b2, (sp hv a2).add b3⟩))
  · exact .inr (.inr (.inr ⟨a1, Int.dvd_add a2 b2, Int.dvd_add a3 b3⟩))
theorem fa_mul {a : Nat} {w : Int} (c : Nat) (h : Fa n p q l a w) : Fa n p q l a (w * c) := by
  rcases h with ⟨a1, a2⟩ | ⟨a1, a2⟩ | ⟨a1, a2, a3⟩ | ⟨a1, a2, a3⟩
  · exact .inl ⟨a1, Int.dvd_mul_of_dvd_left a2⟩
  · exact .inr (.inl ⟨a1, Int.dvd_mul_of_dvd_left a2⟩)
  · exact .inr (.inr (.inl ⟨a1, a2, by rw [Int.mul_comm]; exact a3.mul c⟩))
  · exact .inr (.inr (.inr ⟨a1, Int.dvd_mul_of_dvd_left a2, Int.dvd_mul_of_dvd_left a3⟩))
theorem sum_scale {a b w c : Int} (hc : 1 ≤ c) : Sum2 (a * c) (b * c) (w * c) ↔ Sum2 a b w := by
  constructor
  · rintro ⟨x, y, h⟩
    refine ⟨x, y, ?_⟩
    rw [← Int.mul_assoc, ← Int.mul_assoc, ← Int.add_mul] at h
    exact Int.eq_of_mul_eq_mul_right (by omega) h
  · rintro ⟨x, y, h⟩
    refine ⟨x, y, ?_⟩
    rw [h, Int.add_mul, Int.mul_assoc, Int.mul_assoc]
theorem fa_scale {a : Nat} (hp : p.length = n) (hq : q.length = n) (ha : a < n) {c w : Int} (hc : 1 ≤ c) : Fa n (p.set a (gt p a * c)) (q.set a (gt q a * c)) l a (w * c) ↔ Fa n p q l a w := by
  have g : ∀ {b : List Int} (hb : b.length = n) (i : Nat), gt (b.set a (gt b a * c)) i = if i = a then gt b a * c else gt b i := fun hb i => gt_set _ (by omega) i
  have ac : ∀ {b : List Int} (hb : b.length = n), Ac n (b.set a (gt b a * c)) l a ↔ Ac n b l a := fun hb => by
    constructor
    · intro h i hi hia
      have := h i hi hia
      rwa [g hb, if_neg hia] at this
    · intro h i hi hia
      rw [g hb, if_neg hia]; exact h i hi hia
  have bx : Bx n (p.set a (gt p a * c)) (q.set a (gt q a * c)) l a ↔ Bx n p q l a := by
    unfold Bx
    constructor
    · rintro ⟨k, hk, e, h1, h2⟩
      rw [g hp, g hq, if_neg e, if_neg e] at h2
      refine ⟨k, hk, e, fun i hi hia hik => ?_, h2⟩
      have := h1 i hi hia hik
      rwa [g hp, g hq, if_neg hia, if_neg hia] at this
    · rintro ⟨k, hk, e, h1, h2⟩
      refine ⟨k, hk, e, fun i hi hia hik => ?_, ?_⟩
      · rw [g hp, g hq, if_neg hia, if_neg hia]; exact h1 i hi hia hik
      · rw [g hp, g hq, if_neg e, if_neg e]; exact h2
  unfold Fa
  rw [ac hp, ac hq, bx, g hp, g hq, if_pos rfl, if_pos rfl, sum_scale hc, Int.mul_dvd_mul_iff_right (by omega : c ≠ 0), Int.mul_dvd_mul_iff_right (by omega : c ≠ 0)]
theorem filled_scale {a : Nat} (hp : p.length = n) (hq : q.length = n) (hl : l.length = n) (ha : a < n) {c : Int} (hc : 1 ≤ c) : Filled n (p.set a (gt p a * c)) (q.set a (gt q a * c)) (l.set a (gt l a * c)) ↔ Filled n p q l := by
  have e : Filled n p q l ↔ Fa n p q l a (gt l a) := by
    rw [← fa_iff hl ha, set_self_gt (by omega)]
  rw [fa_iff hl ha, fa_scale hp hq ha hc, e]
/-! ### one more axis -/
theorem gt_app {l : List Int} (x : Int) (hl : l.length = n) (i : Nat) (hi : i ≤ n) : gt (l ++ [x]) i = if i = n then x else gt l i := by
  rw [gt, List.getD_eq_getElem?_getD]
  by_cases e : i = n
  · subst e
    rw [if_pos rfl, List.getElem?_append_right (by omega), hl, Nat.sub_self]; rfl
  · rw [if_neg e, List.getElem?_append_left (by omega), ← List.getD_eq_getElem?_getD]
theorem filled_wide (hp : p.length = n) (hq : q.length = n) (hl : l.length = n) {f w : Int} : Filled (n + 1) (p ++ [f]) (q ++ [f]) (l ++ [w]) ↔ Filled n p q l ∧ f ∣ w ∨ (Dv n p l ∧ Dv n q l ∧ Sum2 f f w) := by
  have dv : ∀ {b : List Int}, b.length = n → (Dv (n + 1) (b ++ [f]) (l ++ [w]) ↔ Dv n b l ∧ f ∣ w) := fun {b} hb => by
    constructor
    · intro h
      refine ⟨fun i hi => ?_, ?_⟩
      · have := h i (by omega)
        rwa [gt_app f hb i (by omega), gt_app w hl i (by omega), if_neg (by omega), if_neg (by omega)] at this
      · have := h n (by omega)
        rwa [gt_app f hb n (by omega), gt_app w hl n (by omega), if_pos rfl, if_pos rfl] at this
    · rintro ⟨h1, h2⟩ i hi
      rw [gt_app f hb i (by omega), gt_app w hl i (by omega)]
      by_cases e : i = n
      · rw [if_pos e, if_pos e]; exact h2
      · rw [if_neg e, if_neg e]; exact h1 i (by omega)
  have ac : ∀ {b : List Int}, b.length = n → ∀ k < n, (Ac (n + 1) (b ++ [f]) (l ++ [w]) k ↔ Ac n b l k ∧ f ∣ w) := fun {b} hb k hk => by
    constructor
    · intro h
      refine ⟨fun i hi hik => ?_, ?_⟩
      · have := h i (by omega) hik
        rwa [gt_app f hb i (by omega), gt_app w hl i (by omega), if_neg (by omega), if_neg (by omega)] at this
      · have := h n (by omega) (by omega)
        rwa [gt_app f hb n (by omega), gt_app w hl n (by omega), if_pos rfl, if_pos rfl] at this
    · rintro ⟨h1, h2⟩ i hi hik
      rw [gt_app f hb i (by omega), gt_app w hl i (by omega)]
      by_cases e : i = n
      · rw [if_pos e, if_pos e]; exact h2
      · rw [if_neg e, if_neg e]; exact h1 i (by omega) hik
  have acn : ∀ {b : List Int}, b.length = n → (Ac (n + 1) (b ++ [f]) (l ++ [w]) n ↔ Dv n b l) := fun {b} hb => by
    constructor
    · intro h i hi
      have := h i (by omega) (by omega)
      rwa [gt_app f hb i (by omega), gt_app w hl i (by omega), if_neg (by omega), if_neg (by omega)] at this
    · intro h i hi hin
      rw [gt_app f hb i (by omega), gt_app w hl i (by omega), if_neg hin, if_neg hin]
      exact h i (by omega)
  have gk : ∀ {b : List Int} (x : Int), b.length = n → ∀ k < n, gt (b ++ [x]) k = gt b k := fun {b} x hb k hk => by
    rw [gt_app x hb k (by omega), if_neg (by omega)]
  have gn : ∀ {b : List Int} (x : Int), b.length = n → gt (b ++ [x]) n = x := fun {b} x hb => by
    rw [gt_app x hb n (by omega), if_pos rfl]
  unfold Filled
  rw [dv hp, dv hq]
  constructor
  · rintro (h | h | ⟨k, hk, h1, h2, h3⟩)
    · exact .inl ⟨.inl h.1, h.2⟩
    · exact .inl ⟨.inr (.inl h.1), h.2⟩
    · by_cases e : k = n
      · subst e
        rw [gn f hp, gn f hq, gn w hl] at h3
        exact .inr ⟨(acn hp).mp h1, (acn hq).mp h2, h3⟩
      · have hk' : k < n := by omega
        rw [gk f hp k hk', gk f hq k hk', gk w hl k hk'] at h3
        obtain ⟨c1, c2⟩ := (ac hp k hk').mp h1
        obtain ⟨c3, _⟩ := (ac hq k hk').mp h2
        exact .inl ⟨.inr (.inr ⟨k, hk', c1, c3, h3⟩), c2⟩
  · rintro (⟨h | h | ⟨k, hk, h1, h2, h3⟩, hd⟩ | ⟨h1, h2, h3⟩)
    · exact .inl ⟨h, hd⟩
    · exact .inr (.inl ⟨h, hd⟩)
    · refine .inr (.inr ⟨k, by omega, (ac hp k hk).mpr ⟨h1, hd⟩, (ac hq k hk).mpr ⟨h2, hd⟩, ?_⟩)
      rw [gk f hp k hk, gk f hq k hk, gk w hl k hk]; exact h3
    · refine .inr (.inr ⟨n, by omega, (acn hp).mpr h1, (acn hq).mpr h2, ?_⟩)
      rw [gn f hp, gn f hq, gn w hl]; exact h3
/-! ### turned axes -/
def tn (l o : List Int) : List Int := o.map fun x => ix l x
theorem tn_at {o : List Int} (ho : o.length = n) {i : Nat} (hi : i < n) (h0 : 0 ≤ gt o i) : gt (tn l o) i = gt l (gt o i).toNat := by
  rw [gt, List.getD_eq_getElem?_getD]
  unfold tn
  rw [List.getElem?_map, gt_some (by omega)]
  show ix l (gt o i) = _
  obtain ⟨j, hj⟩ := Int.eq_ofNat_of_zero_le h0
  rw [hj, ixg, Int.toNat_natCast]
theorem filled_turn {o : List Int} (ho : o.Perm (rngI 0 (n : Int))) : Filled n (tn p o) (tn q o) (tn l o) ↔ Filled n p q l := by
  have lo : o.length = n := by rw [ho.length_eq, rngI_len]; omega
  have mem : ∀ x : Int, x ∈ o ↔ 0 ≤ x ∧ x < n := fun x => by rw [ho.mem_iff, mem_rngI]
  have nd : o.Nodup := ho.nodup_iff.mpr (by
    unfold rngI
    exact List.Pairwise.map _ (fun a b (h : a ≠ b) z => h (by omega)) List.nodup_range)
  have rg : ∀ i < n, 0 ≤ gt o i ∧ gt o i < n := fun i hi => (mem _).mp (gt_mem (by omega))
  have on : ∀ j < n, ∃ i < n, (gt o i).toNat = j := fun j hj => by
    obtain ⟨i, hi⟩ := List.getElem?_of_mem ((mem j).mpr (by omega))
    have il := (List.getElem?_eq_some_iff.mp hi).1
    rw [gt_some il] at hi
    exact ⟨i, by omega, by rw [Option.some.inj hi]; simp⟩
  have inj : ∀ i < n, ∀ j < n, (gt o i).toNat = (gt o j).toNat → i = j := fun i hi j hj e => by
    have e1 : gt o i = gt o j := by have := rg i hi; have := rg j hj; omega
    have h1 := gt_some (l := o) (i := i) (by omega)
    have h2 := gt_some (l := o) (i := j) (by omega)
    rw [e1, ← h2] at h1
    exact (List.getElem?_inj (i := i) (j := j) (by omega) nd).mp h1
  have at' : ∀ (b : List Int) (i : Nat), i < n → gt (tn b o) i = gt b (gt o i).toNat := fun b i hi => tn_at lo hi (rg i hi).1
  have dv : ∀ b : List Int, Dv n (tn b o) (tn l o) ↔ Dv n b l := fun b => by
    constructor
    · intro h j hj
      obtain ⟨i, hi, e⟩ := on j hj
      have := h i hi
      rwa [at' b i hi, at' l i hi, e] at this
    · intro h i hi
      rw [at' b i hi, at' l i hi]
      have := rg i hi
      exact h _ (by omega)
  have ac : ∀ (b : List Int) (k : Nat), k < n → (Ac n (tn b o) (tn l o) k ↔ Ac n b l (gt o k).toNat) := fun b k hk => by
    constructor
    · intro h j hj hjk
      obtain ⟨i, hi, e⟩ := on j hj
      have := h i hi fun z => hjk (by rw [← e, z])
      rwa [at' b i hi, at' l i hi, e] at this
    · intro h i hi hik
      rw [at' b i hi, at' l i hi]
      have := rg i hi
      exact h _ (by omega) fun z => hik (inj i hi k hk z)
  unfold Filled
  rw [dv, dv]
  constructor
  · rintro (h | h | ⟨k, hk, h1, h2, h3⟩)
    · exact .inl h
    · exact .inr (.inl h)
    · have := rg k hk
      rw [at' p k hk, at' q k hk, at' l k hk] at h3
      exact .inr (.inr ⟨_, by omega, (ac p k hk).mp h1, (ac q k hk).mp h2, h3⟩)
  · rintro (h | h | ⟨j, hj, h1, h2, h3⟩)
    · exact .inl h
    · exact .inr (.inl h)
    · obtain ⟨k, hk, e⟩ := on j hj
      subst e
      refine .inr (.inr ⟨k, hk, (ac p k hk).mpr h1, (ac q k hk).mpr h2, ?_⟩)
      rw [at' p k hk, at' q k hk, at' l k hk]; exact h3
theorem tn_sl {m : Int} {o : List Int} (h : SL n m l) (ho : o.Perm (rngI 0 (n : Int))) : SL n m (tn l o) := by
  refine ⟨by unfold tn; rw [List.length_map, ho.length_eq, rngI_len]; omega, fun x hx => ?_⟩
  obtain ⟨y, hy, rfl⟩ := List.mem_map.mp hx
  obtain ⟨h0, h1⟩ := mem_rngI.mp (ho.mem_iff.mp hy)
  obtain ⟨j, rfl⟩ := Int.eq_ofNat_of_zero_le h0
  rw [ixg]
  exact h.at (by omega)
theorem app_sl {m : Int} (h : SL n m l) {x : Int} (hx : 1 ≤ x ∧ x ≤ m) : SL (n + 1) m (l ++ [x]) := ⟨by rw [List.length_append, h.len]; rfl, fun y hy => by
  rcases List.mem_append.mp hy with hy | hy
  · exact h.all y hy
  · rw [List.mem_singleton.mp hy]; exact hx⟩
end
end TW
set_option Elab.async false
set_option linter.all false
set_option maxRecDepth 100000
set_option maxHeartbeats 4000000
namespace TW
open PySem PySem.Spec PyProof.Rows L2 MI GE TY
def b_atoms : DS :=
 (sSeq (sAsg (mVar 0) (gTp 2 (gs1 (gNm 1) (gs1 (gNm 2) gs0))))
 (sSeq (sIf (tT (mCall m_fills_alone (aCons (mVar 2) (aCons (mVar 1) aNil))))
 (sRet (mTup (aCons (mVar 2) aNil)))
 sNx)
 (sSeq (sIf (tT (mCall m_fills_alone (aCons (mVar 1) (aCons (mVar 2) aNil))))
 (sRet (mTup (aCons (mVar 1) aNil)))
 sNx)
 (sRet (mCB oTuple (aCons (mCB oSortedA (aCons (mLst (aCons (mVar 1) (aCons (mVar 2) aNil))) aNil)) aNil))))))
def m_atoms : List PyData → C PyData := bodyM b_atoms 1 2

def F_atoms (pair : (List (List Int))) : (List (List Int)) := (if (F_fills_alone (ix pair 1) (ix pair 0)) then [(ix pair 1)] else (if (F_fills_alone (ix pair 0) (ix pair 1)) then [(ix pair 0)] else (sortT [(ix pair 0), (ix pair 1)])))
def D_atoms (pair : (List (List Int))) : Prop := ((pair).length = 2 ∧ D_fills_alone (ix pair 1) (ix pair 0) ∧ ((F_fills_alone (ix pair 1) (ix pair 0)) = false → (D_fills_alone (ix pair 0) (ix pair 1) ∧ ((F_fills_alone (ix pair 0) (ix pair 1)) = false → (SortOk [(ix pair 0), (ix pair 1)])))))
theorem b_atoms_ok (pair : (List (List Int))) (h : D_atoms pair) (D : DN) (hp : D.rt ((eT (eT eI)) (F_atoms pair))) : b_atoms D [some (.dat ((eT (eT eI)) pair)), none, none] := by
  unfold b_atoms
  unfold F_atoms at hp
  exact (k_asg (r' := [some (.dat ((eT (eT eI)) pair)), some (.dat ((eT eI) (ix pair 0))), some (.dat ((eT eI) (ix pair 1)))]) (ev_var rfl) (gv_T2 (e := (eT eI)) h.1) (k_if (eb_t (show EV _ _ (eB (F_fills_alone (ix pair 1) (ix pair 0))) from ev_call (f_fills_alone (ix pair 1) (ix pair 0) h.2.1) (ea_cons (ev_var rfl) (ea_cons (ev_var rfl) ea_nil)))) (fun h1 => (k_retS (show EV _ _ ((eT (eT eI)) [(ix pair 1)]) from ev_tup (ea_cons (ev_var rfl) ea_nil) (Nat.le_of_ble_eq_true rfl)) (if_t (e := (eT (eT eI))) h1 hp))) (fun h2 => (k_nx (k_if (eb_t (show EV _ _ (eB (F_fills_alone (ix pair 0) (ix pair 1))) from ev_call (f_fills_alone (ix pair 0) (ix pair 1) (h.2.2 h2).1) (ea_cons (ev_var rfl) (ea_cons (ev_var rfl) ea_nil)))) (fun h3 => (k_retS (show EV _ _ ((eT (eT eI)) [(ix pair 0)]) from ev_tup (ea_cons (ev_var rfl) ea_nil) (Nat.le_of_ble_eq_true rfl)) (if_t (e := (eT (eT eI))) h3 (if_f (e := (eT (eT eI))) h2 hp)))) (fun h4 => (k_nx (k_ret (ev_cb (c_tupL (eT eI) (sortT [(ix pair 0), (ix pair 1)])) (ea_cons (ev_cb (c_sortedLT [(ix pair 0), (ix pair 1)] ((h.2.2 h2).2 h4)) (ea_cons (show EV _ _ ((eL (eT eI)) [(ix pair 0), (ix pair 1)]) from ev_lst (ea_cons (ev_var rfl) (ea_cons (ev_var rfl) ea_nil)) (Nat.le_of_ble_eq_true rfl)) ea_nil)) ea_nil)) (if_f (e := (eT (eT eI))) h4 (if_f (e := (eT (eT eI))) h2 hp))))))))))
theorem f_atoms (pair : (List (List Int))) (h : D_atoms pair) : CB m_atoms [((eT (eT eI)) pair)] ((eT (eT eI)) (F_atoms pair)) := fun P X p => ⟨rfl, b_atoms_ok pair h _ p⟩

/-! ### in order -/
theorem le_rows_total (a b : List Int) : a ≤ b ∨ b ≤ a := List.le_total a b
theorem sortT_le (xs : List (List Int)) : (sortT xs).Pairwise (· ≤ ·) := by
  have := List.pairwise_mergeSort (le := fun a b : List Int => decide (a ≤ b)) (fun a b c h1 h2 => by
    simp only [decide_eq_true_eq] at *
    exact List.le_trans h1 h2) (fun a b => by
    simp only [Bool.or_eq_true, decide_eq_true_eq]
    exact le_rows_total a b) xs
  exact this.imp fun h => of_decide_eq_true h
theorem sortT_uniq {ns ms : List (List Int)} (h : ms.Perm ns) (hs : ms.Pairwise (· ≤ ·)) : ms = sortT ns :=
  List.Perm.eq_of_pairwise (le := fun a b : List Int => a ≤ b) (fun a b _ _ h1 h2 => List.le_antisymm h1 h2) hs (sortT_le ns) (h.trans (sortT_perm ns).symm)
theorem sortT_of_perm {ns ms : List (List Int)} (h : ms.Perm ns) : sortT ms = sortT ns := sortT_uniq ((sortT_perm ms).trans h) (sortT_le ms)
theorem sortT_one (x : List Int) : sortT [x] = [x] := (sortT_uniq (.refl _) (List.pairwise_singleton _ _)).symm
section
variable {n : Nat} {m M : Int} {p q r s x : List Int}
/-! ### what fills what alone -/
theorem Dv.refl (p : List Int) : Dv n p p := fun i _ => Int.dvd_refl _
theorem Dv.tr (h : Dv n p q) (h' : Dv n q r) : Dv n p r := fun i hi => Int.dvd_trans (h i hi) (h' i hi)
theorem Dv.le (hq : SL n m q) (h : Dv n p q) : ∀ i < n, gt p i ≤ gt q i := fun i hi => Int.le_of_dvd (by have := hq.at hi; omega) (h i hi)
theorem Dv.anti (hp : SL n m p) (hq : SL n m q) (h : Dv n p q) (h' : Dv n q p) : p = q := SL_ext hp.len hq.len fun i hi => by
  have := h.le hq i hi
  have := h'.le hp i hi
  omega
theorem atoms_eq (hp : SL n m p) (hq : SL n m q) : F_atoms [p, q] = if Dv n q p then [q] else if Dv n p q then [p] else sortT [p, q] := by
  unfold F_atoms
  rw [ix0, ix1]
  rw [fa_pos hq.len hp, fa_pos hp.len hq]
  by_cases h1 : Dv n q p
  · rw [if_pos h1, if_pos (decide_eq_true h1)]
  · rw [if_neg h1, if_neg (by rw [decide_eq_true_eq]; exact h1)]
    by_cases h2 : Dv n p q
    · rw [if_pos h2, if_pos (decide_eq_true h2)]
    · rw [if_neg h2, if_neg (by rw [decide_eq_true_eq]; exact h2)]
theorem mem_atoms (hp : SL n m p) (hq : SL n m q) : x ∈ F_atoms [p, q] ↔ (x = p ∧ (Dv n q p → p = q)) ∨ (x = q ∧ (Dv n p q → p = q)) := by
  rw [atoms_eq hp hq]
  by_cases h1 : Dv n q p
  · rw [if_pos h1, List.mem_singleton]
    constructor
    · exact fun e => .inr ⟨e, fun h2 => h2.anti hp hq h1⟩
    · rintro (⟨e, z⟩ | ⟨e, _⟩)
      · rw [e]; exact z h1
      · exact e
  · rw [if_neg h1]
    by_cases h2 : Dv n p q
    · rw [if_pos h2, List.mem_singleton]
      constructor
      · exact fun e => .inl ⟨e, fun z => (h1 z).elim⟩
      · rintro (⟨e, _⟩ | ⟨e, z⟩)
        · exact e
        · exact (h1 (by rw [z h2]; exact Dv.refl q)).elim
    · rw [if_neg h2, (sortT_perm _).mem_iff]
      simp [h1, h2]
theorem atoms_len (hp : SL n m p) (hq : SL n m q) : (F_atoms [p, q]).length ≤ 2 := by
  rw [atoms_eq hp hq]
  split
  · simp
  · split
    · simp
    · rw [(sortT_perm _).length_eq]; simp
/-- the same atoms, the same rows -/
theorem atoms_ext (h : PP n m p q r s) (hx : ∀ x, x ∈ F_atoms [p, q] ↔ x ∈ F_atoms [r, s]) : F_atoms [p, q] = F_atoms [r, s] := by
  have two : ∀ {p q : List Int}, SL n m p → SL n m q → (∃ y, F_atoms [p, q] = [y]) ∨ (F_atoms [p, q] = sortT [p, q] ∧ p ≠ q) := fun {p q} hp hq => by
    rw [atoms_eq hp hq]
    by_cases h1 : Dv n q p
    · rw [if_pos h1]; exact .inl ⟨_, rfl⟩
    · rw [if_neg h1]
      by_cases h2 : Dv n p q
      · rw [if_pos h2]; exact .inl ⟨_, rfl⟩
      · rw [if_neg h2]
        exact .inr ⟨rfl, fun e => h1 (by rw [e]; exact Dv.refl q)⟩
  rcases two h.one h.two with ⟨y, e⟩ | ⟨e, ne⟩ <;> rcases two h.three h.four with ⟨z, f⟩ | ⟨f, nf⟩
  · rw [e, f] at hx ⊢
    have := (hx y).mp (List.mem_singleton.mpr rfl)
    rw [List.mem_singleton.mp this]
  · rw [e, f] at hx
    have h1 := (hx r).mpr ((sortT_perm _).mem_iff.mpr (by simp))
    have h2 := (hx s).mpr ((sortT_perm _).mem_iff.mpr (by simp))
    exact (nf ((List.mem_singleton.mp h1).trans (List.mem_singleton.mp h2).symm)).elim
  · rw [e, f] at hx
    have h1 := (hx p).mp ((sortT_perm _).mem_iff.mpr (by simp))
    have h2 := (hx q).mp ((sortT_perm _).mem_iff.mpr (by simp))
    exact (ne ((List.mem_singleton.mp h1).trans (List.mem_singleton.mp h2).symm)).elim
  · rw [e, f] at hx ⊢
    have m1 : p = r ∨ p = s := by
      have := (sortT_perm _).mem_iff.mp ((hx p).mp ((sortT_perm _).mem_iff.mpr (by simp)))
      simpa using this
    have m2 : q = r ∨ q = s := by
      have := (sortT_perm _).mem_iff.mp ((hx q).mp ((sortT_perm _).mem_iff.mpr (by simp)))
      simpa using this
    rcases m1 with e1 | e1 <;> rcases m2 with e2 | e2
    · exact (ne (e1.trans e2.symm)).elim
    · rw [e1, e2]
    · rw [e1, e2]; exact sortT_of_perm (List.Perm.swap _ _ _)
    · exact (ne (e1.trans e2.symm)).elim
/-- what is no greater than an atom and filled is it, or of the other kind alone -/
theorem atom_min (hp : SL n m p) (hq : SL n m q) (hc : SL n m x) (hle : ∀ i < n, gt x i ≤ gt p i) (h : Filled n p q x) : x = p ∨ Dv n q x := by
  have eqp : Dv n p x → x = p := fun z => SL_ext hc.len hp.len fun i hi => by
    have := z.le hc i hi
    have := hle i hi
    omega
  rcases h with z | z | ⟨k, hk, a1, a2, u, v, e⟩
  · exact .inl (eqp z)
  · exact .inr z
  · have pk := hp.at hk
    have qk := hq.at hk
    have xk := hc.at hk
    have lk := hle k hk
    have v0 : 0 ≤ (v : Int) * gt q k := Int.mul_nonneg (by omega) (by omega)
    rcases Nat.eq_zero_or_pos u with u0 | u0
    · refine .inr fun i hi => ?_
      by_cases ik : i = k
      · rw [ik, e, u0]
        exact ⟨v, by rw [Int.mul_comm (gt q k)]; omega⟩
      · exact a2 i hi ik
    · refine .inl (eqp fun i hi => ?_)
      by_cases ik : i = k
      · have : 1 * gt p k ≤ (u : Int) * gt p k := Int.mul_le_mul_of_nonneg_right (by omega) (by omega)
        rw [ik, show gt x k = gt p k by omega]
        exact Int.dvd_refl _
      · exact a1 i hi ik
/-- an atom is one of the other pair's bricks, where each pair fills the other one's -/
theorem atom_in (h : PP n m p q r s) (h1 : Filled n r s p) (h2 : Filled n p q r) (h3 : Filled n p q s) (ha : Dv n q p → p = q) : (p = r ∧ (Dv n s r → r = s)) ∨ (p = s ∧ (Dv n r s → r = s)) := by
  obtain ⟨_, hp, hq, hr, hs, _⟩ := h
  -- a brick that fills p alone is p
  have key : ∀ {c : List Int}, SL n m c → Filled n p q c → Dv n c p → c = p := fun {c} hc hf hd => by
    rcases atom_min hp hq hc (hd.le hp) hf with z | z
    · exact z
    · have e := ha (z.tr hd)
      rw [← e] at z
      exact (z.anti hp hc hd).symm
  have fin : Dv n r p ∨ Dv n s p → (p = r ∧ (Dv n s r → r = s)) ∨ (p = s ∧ (Dv n r s → r = s)) := by
    rintro (z | z)
    · have e := key hr h2 z
      exact .inl ⟨e.symm, fun y => by rw [e] at y ⊢; exact (key hs h3 y).symm⟩
    · have e := key hs h3 z
      exact .inr ⟨e.symm, fun y => by rw [e] at y ⊢; exact key hr h2 y⟩
  rcases h1 with z | z | ⟨k, hk, a1, a2, u, v, e⟩
  · exact fin (.inl z)
  · exact fin (.inr z)
  · have pk := hp.at hk
    have rk := hr.at hk
    have sk := hs.at hk
    rcases Nat.eq_zero_or_pos u with u0 | u0
    · refine fin (.inr fun i hi => ?_)
      by_cases ik : i = k
      · rw [ik, e, u0]
        exact ⟨v, by rw [Int.mul_comm (gt s k)]; omega⟩
      · exact a2 i hi ik
    · rcases Nat.eq_zero_or_pos v with v0 | v0
      · refine fin (.inl fun i hi => ?_)
        by_cases ik : i = k
        · rw [ik, e, v0]
          exact ⟨u, by rw [Int.mul_comm (gt r k)]; omega⟩
        · exact a1 i hi ik
      · have y1 : 1 * gt r k ≤ (u : Int) * gt r k := Int.mul_le_mul_of_nonneg_right (by omega) (by omega)
        have y2 : 1 * gt s k ≤ (v : Int) * gt s k := Int.mul_le_mul_of_nonneg_right (by omega) (by omega)
        have le1 : ∀ {c : List Int}, SL n m c → Ac n c p k → gt c k < gt p k → ∀ i < n, gt c i ≤ gt p i := fun {c} hc ac hck i hi => by
          by_cases ik : i = k
          · rw [ik]; omega
          · exact Int.le_of_dvd (by have := hp.at hi; omega) (ac i hi ik)
        have ne1 : ∀ {c : List Int}, gt c k < gt p k → c ≠ p := fun {c} z e => by rw [e] at z; omega
        have d1 : Dv n q r := (atom_min hp hq hr (le1 hr a1 (by omega)) h2).resolve_left (ne1 (by omega))
        have d2 : Dv n q s := (atom_min hp hq hs (le1 hs a2 (by omega)) h3).resolve_left (ne1 (by omega))
        have dp : Dv n q p := fun i hi => by
          by_cases ik : i = k
          · rw [ik, e]
            exact Int.dvd_add (Int.dvd_mul_of_dvd_right (d1 k hk)) (Int.dvd_mul_of_dvd_right (d2 k hk))
          · exact Int.dvd_trans (d1 i hi) (a1 i hi ik)
        have e1 := ha dp
        rw [← e1] at d1
        have := Int.le_of_dvd (by omega) (d1 k hk)
        omega
theorem atoms_sub (h : PP n m p q r s) (hi : In2 n p q r s) (hj : In2 n r s p q) : ∀ x, x ∈ F_atoms [p, q] → x ∈ F_atoms [r, s] := fun x hx => by
  rw [mem_atoms h.three h.four]
  rcases (mem_atoms h.one h.two).mp hx with ⟨rfl, ha⟩ | ⟨rfl, ha⟩
  · exact atom_in h hi.1 hj.1 hj.2 ha
  · exact atom_in (p := x) (q := p) ⟨h.n1, h.two, h.one, h.three, h.four, h.hm⟩ hi.2 hj.1.swap hj.2.swap fun z => (ha z).symm
theorem atom_of (hp : SL n m p) (hq : SL n m q) : ∃ x ∈ F_atoms [p, q], Dv n x p := by
  by_cases h : Dv n q p
  · by_cases h2 : Dv n p q
    · exact ⟨q, (mem_atoms hp hq).mpr (.inr ⟨rfl, fun z => z.anti hp hq h⟩), h⟩
    · exact ⟨q, (mem_atoms hp hq).mpr (.inr ⟨rfl, fun z => (h2 z).elim⟩), h⟩
  · exact ⟨p, (mem_atoms hp hq).mpr (.inl ⟨rfl, fun z => (h z).elim⟩), Dv.refl p⟩
theorem atom_of2 (hp : SL n m p) (hq : SL n m q) : ∃ x ∈ F_atoms [p, q], Dv n x q := by
  by_cases h : Dv n p q
  · by_cases h2 : Dv n q p
    · exact ⟨p, (mem_atoms hp hq).mpr (.inl ⟨rfl, fun z => h.anti hp hq z⟩), h⟩
    · exact ⟨p, (mem_atoms hp hq).mpr (.inl ⟨rfl, fun z => (h2 z).elim⟩), h⟩
  · exact ⟨q, (mem_atoms hp hq).mpr (.inr ⟨rfl, fun z => (h z).elim⟩), Dv.refl q⟩
theorem In2_of_atoms (h : PP n m p q r s) (e : F_atoms [p, q] = F_atoms [r, s]) : In2 n p q r s := by
  have key : ∀ {c : List Int}, (∃ x ∈ F_atoms [p, q], Dv n x c) → Filled n r s c := fun {c} ⟨x, hx, hd⟩ => by
    rw [e] at hx
    rcases (mem_atoms h.three h.four).mp hx with ⟨rfl, _⟩ | ⟨rfl, _⟩
    · exact .inl hd
    · exact .inr (.inl hd)
  exact ⟨key (atom_of h.one h.two), key (atom_of2 h.one h.two)⟩
/-- alike just if the atoms are the same -/
theorem atoms_iff (h : PP n m p q r s) : F_atoms [p, q] = F_atoms [r, s] ↔ F_alike [p, q] [r, s] = true := by
  rw [alike_iff h]
  constructor
  · exact fun e => ⟨In2_of_atoms h e, In2_of_atoms h.swap e.symm⟩
  · rintro ⟨h1, h2⟩
    exact atoms_ext h fun x => ⟨atoms_sub h h1 h2 x, atoms_sub h.swap h2 h1 x⟩
theorem D_atoms_ok (hp : SL n m p) (hq : SL n m q) (hn : 1 ≤ n ∧ n ≤ 1000) : D_atoms [p, q] := by
  have lp := hp.len
  have lq := hq.len
  unfold D_atoms
  rw [ix0, ix1]
  have so : SortOk [p, q] := ⟨by simp, fun x hx => by
    have : x = p ∨ x = q := by simpa using hx
    rcases this with rfl | rfl
    · exact List.ne_nil_of_length_pos (by omega)
    · exact List.ne_nil_of_length_pos (by omega)⟩
  exact ⟨rfl, D_fa hq lp hn.2, fun _ => ⟨D_fa hp lq hn.2, fun _ => so⟩⟩
end
end TW
set_option Elab.async false
set_option linter.all false
set_option maxRecDepth 100000
namespace K29
open PySem PySem.Spec PyProof.Rows L2 Evl TB DL MI TW
def b_law : DS :=
 (sSeq (sForK [1] (iR1 (mC (PyData.int 8))) (gNm 2)
 (sSeq (sAsg (mOp oAdd (mC (PyData.int 1)) (mCallW 1 m_draw (aCons (mC (PyData.int 3)) aNil))) (gNm 3))
 (sSeq (sAsg (mCB oTuple (aCons (mFr (mLc (iSq (mTup (aCons (mC (PyData.int 0)) (aCons (mC (PyData.int 1)) aNil)))) (gNm 10) tOk [10] (mEl (mCB oTuple (aCons (mFr (mLc (iR1 (mVar 3)) (gNm 11) tOk [11] (mEl (mOp oAdd (mC (PyData.int 1)) (mCallW 1 m_draw (aCons (mC (PyData.int 900)) aNil)))))) aNil))))) aNil)) (gNm 4))
 (sSeq (sAsg (mTup (aCons (mCallW 1 m_one (aCons (mLst (aCons (mCallW 1 m__law_cut_box (aCons (mVar 4) (aCons (mC (PyData.int 9)) aNil))) (aCons (mCallW 1 m__law_plain_box (aCons (mVar 4) (aCons (mC (PyData.int 9)) aNil))) aNil))) aNil)) (aCons (mCallW 1 m__law_cut_box (aCons (mVar 4) (aCons (mC (PyData.int 9)) aNil))) aNil))) (gNm 5))
 (sSeq (sIf (tOo (tNo (tT (mCall m_within (aCons (mVar 5) (aCons (mVar 4) aNil))))) (tT (mOp oIsNot (mCall m_escape (aCons (mVar 5) (aCons (mVar 4) aNil))) (mC PyData.none))))
 (sRet (mC (PyData.bool false)))
 sNx)
 (sSeq (sAsg (mCallW 1 m_one (aCons (mLst (aCons (mCallW 1 m__law_plain_box (aCons (mVar 5) (aCons (mC (PyData.int 9)) aNil))) (aCons (mOp oIt (mVar 5) (mC (PyData.int 0))) aNil))) aNil)) (gNm 6))
 (sSeq (sIf (tOo (tNo (tT (mCall m_is_filled (aCons (mVar 5) (aCons (mVar 6) aNil))))) (tNo (tT (mCall m_is_filled (aCons (mVar 4) (aCons (mVar 6) aNil))))))
 (sRet (mC (PyData.bool false)))
 sNx)
 (sSeq (sIf (tT (mOp oNe (mCall m_alike (aCons (mVar 5) (aCons (mVar 4) aNil))) (mOp oEq (mCall m_atoms (aCons (mVar 5) aNil)) (mCall m_atoms (aCons (mVar 4) aNil)))))
 (sRet (mC (PyData.bool false)))
 sNx)
 (sSeq (sAsg (mTup (aCons (mCallW 1 m_draw (aCons (mVar 3) aNil)) (aCons (mOp oAdd (mC (PyData.int 1)) (mCallW 1 m_draw (aCons (mC (PyData.int 99)) aNil))) aNil))) (gTp 2 (gs1 (gNm 7) (gs1 (gNm 8) gs0))))
 (sSeq (sAsg (mFr (mLc (iSq (mTup (aCons (mVar 5) (aCons (mVar 4) aNil)))) (gNm 12) tOk [12] (mEl (mFr (mLc (iSq (mVar 12)) (gNm 13) tOk [13] (mEl (mCall m__law_with (aCons (mVar 13) (aCons (mVar 7) (aCons (mOp oMul (mOp oIt (mVar 13) (mVar 7)) (mVar 8)) aNil)))))))))) (gNm 9))
 (sIf (tT (mOp oLeA (mCB oMax1A (aCons (mFr (mLc (iSq (mOp oAdd (mOp oIt (mVar 9) (mC (PyData.int 0))) (mOp oIt (mVar 9) (mC (PyData.int 1))))) (gNm 13) tOk [13] (mEl (mCB oMax1A (aCons (mVar 13) aNil))))) aNil)) (mOp oPow (mC (PyData.int 10)) (mC (PyData.int 12)))))
 (sIf (tT (mOp oNe (mCall m_within (aCons (mCB oTuple (aCons (mOp oIt (mVar 9) (mC (PyData.int 1))) aNil)) (aCons (mCB oTuple (aCons (mOp oIt (mVar 9) (mC (PyData.int 0))) aNil)) aNil))) (mCall m_within (aCons (mVar 4) (aCons (mVar 5) aNil)))))
 (sRet (mC (PyData.bool false)))
 sNx)
 sNx)))))))))))
 (sRet (mC (PyData.bool true))))
def m_law : Prop := b_law { nx := fun _ => False, rt := fun e => e = .bool true, ex := fun _ => False } (lawEnv 12)
end K29
set_option Elab.async false
set_option linter.all false
set_option maxRecDepth 100000
namespace K29
open PySem PySem.Spec PyProof.Rows L2 Evl TB DL MI TW
section
variable {P : Program} {w : World} {K : PySem.W.Frag} {mg : Str → Option Value} {base : Heap}
theorem ok_is_int (T : Txt mg) {f : Addr} {fd : FuncData} (F : Fun K "is_int" "is_int" s_is_int f fd)  : FnOk P w K mg base CX0 1 f fd p_is_int (SpM m_is_int) := by
  refine F.ok sc_is_int (fun vs H Q E h => ?_) (fun cdv A outer s H vs Q E hr h => ?_)
  · obtain ⟨N, es, Pd, _, r, ⟨hl, _⟩, _⟩ := h
    rw [r.len, hl]; rfl
  obtain ⟨N, es, Pd, ok, r, ⟨hl, h⟩, q⟩ := h
  refine ⟨_, (pss_one (ps_ret (pe_and (pe_callB (r := rIsi K) call_isi (by rfl) T.n_isinstance (by decide +kernel) (pa_cons (pv 0) (pa_cons (pe_bltn (v := .ty "int") (u := .type "int") (by rfl) T.n_int (by decide +kernel) rfl) pa_nil))) (pe_one (pe_not (pe_callB (r := rIsi K) call_isi (by rfl) T.n_isinstance (by decide +kernel) (pa_cons (pv 0) (pa_cons (pe_bltn (v := .ty "bool") (u := .type "bool") (by rfl) T.n_bool (by decide +kernel) rfl) pa_nil)))))))), ?_⟩
  rw [start_eq (n := 1) (k := 0) (r.len.trans hl) rfl]
  exact run_F (fun c =>
    (ss_ret (se_and (se_isi kit_int (se_var 0)) (se_not (se_isi kit_bool (se_var 0)))))) ok r h q
theorem ok_with_side (T : Txt mg) {f : Addr} {fd : FuncData} (F : Fun K "with_side" "with_side" s_with_side f fd)  : FnOk P w K mg base CX0 1 f fd p_with_side (SpM m_with_side) := by
  refine F.ok sc_with_side (fun vs H Q E h => ?_) (fun cdv A outer s H vs Q E hr h => ?_)
  · obtain ⟨N, es, Pd, _, r, ⟨hl, _⟩, _⟩ := h
    rw [r.len, hl]; rfl
  obtain ⟨N, es, Pd, ok, r, ⟨hl, h⟩, q⟩ := h
  refine ⟨_, (pss_one (ps_ret (pe_op (r := MI.rAddA K) MI.op_addA (pe_op (r := MI.rAddA K) MI.op_addA (pe_slice (r := MI.rSlX' K) MI.sl_any (pv 0) po_none (po_some (pv 1))) (pe_tup (pa_cons (pv 2) pa_nil))) (pe_slice (r := MI.rSlX' K) MI.sl_any (pv 0) (po_some (pe_op (r := MI.rAddA K) MI.op_addA (pv 1) pe_int)) po_none)))), ?_⟩
  rw [start_eq (n := 3) (k := 0) (r.len.trans hl) rfl]
  exact run_F (fun c =>
    (ss_ret (se_op (os_add (K := K)) (se_op (os_add (K := K)) (se_sl (sls_any (K := K)) (se_var 0) so_none (so_some (se_var 1))) (se_tup (sa_cons (se_var 2) sa_nil))) (se_sl (sls_any (K := K)) (se_var 0) (so_some (se_op (os_add (K := K)) (se_var 1) (se_int 1))) so_none)))) ok r h q
theorem ok_common_share (T : Txt mg) {f : Addr} {fd : FuncData} (F : Fun K "common_share" "common_share" s_common_share f fd)  : FnOk P w K mg base CX0 1 f fd p_common_share (SpM m_common_share) := by
  refine F.ok sc_common_share (fun vs H Q E h => ?_) (fun cdv A outer s H vs Q E hr h => ?_)
  · obtain ⟨N, es, Pd, _, r, ⟨hl, _⟩, _⟩ := h
    rw [r.len, hl]; rfl
  obtain ⟨N, es, Pd, ok, r, ⟨hl, h⟩, q⟩ := h
  refine ⟨_, (pss_cons (ps_par (i := 2) (j := 3) (by rfl) sc_common_share.nd rfl rfl (by decide) rfl rfl (pa_cons (pv 0) (pa_cons pe_int pa_nil)) (by rfl))
 (pss_cons (ps_par (i := 4) (j := 5) (by rfl) sc_common_share.nd rfl rfl (by decide) rfl rfl (pa_cons (pv 1) (pa_cons pe_int pa_nil)) (by rfl))
 (pss_cons (ps_while PassesOwn.never (pt_cmpR op_gt (pv 4) pe_int (nomark _))
 (pss_cons (ps_set (i := 6) sc_common_share.nd rfl (.inl rfl) (pe_op op_fdivW (pv 2) (pv 4)))
 (pss_cons (ps_par (i := 2) (j := 4) (by rfl) sc_common_share.nd rfl rfl (by decide) rfl rfl (pa_cons (pv 4) (pa_cons (pe_op op_sub (pv 2) (pe_op (r := MI.rMulA K) MI.op_mulA (pv 6) (pv 4))) pa_nil)) (by rfl))
 (pss_one (ps_par (i := 3) (j := 5) (by rfl) sc_common_share.nd rfl rfl (by decide) rfl rfl (pa_cons (pv 5) (pa_cons (pe_op op_sub (pv 3) (pe_op (r := MI.rMulA K) MI.op_mulA (pv 6) (pv 5))) pa_nil)) (by rfl))))))
 (pss_one (ps_ret (pe_tup (pa_cons (pv 2) (pa_cons (pv 3) pa_nil)))))))), ?_⟩
  rw [start_eq (n := 2) (k := 5) (r.len.trans hl) rfl]
  exact run_F (fun c =>
    (ss_seq (ss_par (i := 2) (j := 3) (sa_cons (se_var 0) (sa_cons (se_int 1) sa_nil)))
 (ss_seq (ss_par (i := 4) (j := 5) (sa_cons (se_var 1) (sa_cons (se_int 0) sa_nil)))
 (ss_seq (ss_whileK (L := [2, 3, 4, 5]) (st_val (se_op os_gt (se_var 4) (se_int 0)))
 (ss_seq (ss_asg (se_op os_fdiv (se_var 2) (se_var 4)) (sg_name (vs := [6]) (by decide)))
 (ss_seq (ss_par (i := 2) (j := 4) (sa_cons (se_var 4) (sa_cons (se_op os_sub (se_var 2) (se_op (os_mul (K := K)) (se_var 6) (se_var 4))) sa_nil)))
 (ss_par (i := 3) (j := 5) (sa_cons (se_var 5) (sa_cons (se_op os_sub (se_var 3) (se_op (os_mul (K := K)) (se_var 6) (se_var 5))) sa_nil))))))
 (ss_ret (se_tup (sa_cons (se_var 2) (sa_cons (se_var 3) sa_nil)))))))) ok r h q
theorem ok_least_share (T : Txt mg) {f : Addr} {fd : FuncData} (F : Fun K "least_share" "least_share" s_least_share f fd) (h_common_share : Keeps P w K mg base 1 "common_share" p_common_share (SpM m_common_share)) : FnOk P w K mg base CX0 2 f fd p_least_share (SpM m_least_share) := by
  refine F.ok sc_least_share (fun vs H Q E h => ?_) (fun cdv A outer s H vs Q E hr h => ?_)
  · obtain ⟨N, es, Pd, _, r, ⟨hl, _⟩, _⟩ := h
    rw [r.len, hl]; rfl
  obtain ⟨N, es, Pd, ok, r, ⟨hl, h⟩, q⟩ := h
  refine ⟨_, (pss_cons (ps_asg (TB.pe_own h_common_share (hr.mono (by decide)) (by rfl) (pa_cons (pv 0) (pa_cons (pv 1) pa_nil))) (pg_tup rfl (pgs_cons (pg_name (i := 3) sc_least_share.nd rfl (.inl rfl)) (pgs_cons (pg_name (i := 4) sc_least_share.nd rfl (.inl rfl)) pgs_nil))))
 (pss_cons (ps_if (pt_cmpR (r := MI.rNeA K) (MI.op_neA hr.units) (pe_op op_modN (pv 2) (pv 3)) pe_int (nomark _))
 (pss_one (ps_ret pe_non)) pss_nil)
 (pss_one (ps_ret (pe_op op_modN (pe_op (r := MI.rMulA K) MI.op_mulA (pv 4) (pe_op op_fdivW (pv 2) (pv 3))) (pe_op op_fdivW (pv 1) (pv 3))))))), ?_⟩
  rw [start_eq (n := 3) (k := 2) (r.len.trans hl) rfl]
  exact run_F (fun c =>
    (ss_seq (ss_asg (se_call (sa_cons (se_var 0) (sa_cons (se_var 1) sa_nil))) (show SGv c [3, 4] _ _ from (sg_tup (K := K) (sgs_cons (sg_name (by decide)) (sgs_cons (sg_name (by decide)) sgs_nil)))))
 (ss_seq (ss_if (st_val (se_op (os_ne (K := K)) (se_op os_mod (se_var 2) (se_var 3)) (se_int 0)))
 (ss_ret se_non)
 ss_nx)
 (ss_ret (se_op os_mod (se_op (os_mul (K := K)) (se_var 4) (se_op os_fdiv (se_var 2) (se_var 3))) (se_op os_fdiv (se_var 1) (se_var 3))))))) ok r h q
theorem ok_fills_alone (T : Txt mg) {f : Addr} {fd : FuncData} (F : Fun K "fills_alone" "fills_alone" s_fills_alone f fd)  : FnOk P w K mg base CX0 1 f fd p_fills_alone (SpM m_fills_alone) := by
  refine F.ok sc_fills_alone (fun vs H Q E h => ?_) (fun cdv A outer s H vs Q E hr h => ?_)
  · obtain ⟨N, es, Pd, _, r, ⟨hl, _⟩, _⟩ := h
    rw [r.len, hl]; rfl
  obtain ⟨N, es, Pd, ok, r, ⟨hl, h⟩, q⟩ := h
  refine ⟨_, (pss_one (ps_ret (pe_or (pe_cmpR (r := MI.rInA K false) (MI.op_inA hr.units) pe_int (pv 1) rfl) (pe_one (pe_callB (r := rAll K) (cr_all rfl) (by rfl) T.n_all (by decide +kernel) (pa_cons (pe_lc (own := [("length", 2), ("side", 3)]) (g := gTup K 2 (gCons (gName 2) (gCons (gName 3) gNil))) rfl sc_fills_alone.nd (show PI _ _ _ (ZP.iZip2 K _) from ZP.pi_zip2 (by rfl) T.n_zip (pa_cons (pv 0) (pa_cons (pv 1) pa_nil))) (blkOk_by (N := n_fills_alone) (sc := defScope s_fills_alone) (by decide +kernel)) (fun _ _ _ _ _ => (pg_tup rfl (pgs_cons (pg_name (i := 2) sc_fills_alone.nd rfl (.inl rfl)) (pgs_cons (pg_name (i := 3) sc_fills_alone.nd rfl (.inl rfl)) pgs_nil)))) (fun _ _ _ _ _ => pts_nil) (fun _ _ _ _ _ => (pe_cmpR (r := MI.rEqA K) (MI.op_eqA hr.units) (pe_op op_modN (pv 3) (pv 2)) pe_int (nomark _)))) pa_nil)))))), ?_⟩
  rw [start_eq (n := 2) (k := 2) (r.len.trans hl) rfl]
  exact run_F (fun c =>
    (ss_ret (se_or (se_op (os_inA (K := K)) (se_int 0) (se_var 1)) (se_cb (cas_all (K := K)) (sa_cons (se_fr (seo_lc (si_zip2 (K := K) (se_var 0) (se_var 1)) (sg_tup (K := K) (sgs_cons (sg_name (by decide)) (sgs_cons (sg_name (by decide)) sgs_nil))) st_ok (se_op (os_eq (K := K)) (se_op os_mod (se_var 3) (se_var 2)) (se_int 0)))) sa_nil))))) ok r h q
theorem ok_fills_across (T : Txt mg) {f : Addr} {fd : FuncData} (F : Fun K "fills_across" "fills_across" s_fills_across f fd) (h_with_side : Keeps P w K mg base 1 "with_side" p_with_side (SpM m_with_side)) (h_fills_alone : Keeps P w K mg base 1 "fills_alone" p_fills_alone (SpM m_fills_alone)) : FnOk P w K mg base CX0 2 f fd p_fills_across (SpM m_fills_across) := by
  refine F.ok sc_fills_across (fun vs H Q E h => ?_) (fun cdv A outer s H vs Q E hr h => ?_)
  · obtain ⟨N, es, Pd, _, r, ⟨hl, _⟩, _⟩ := h
    rw [r.len, hl]; rfl
  obtain ⟨N, es, Pd, ok, r, ⟨hl, h⟩, q⟩ := h
  refine ⟨_, (pss_one (ps_ret (TB.pe_own h_fills_alone (hr.mono (by decide)) (by rfl) (pa_cons (pv 0) (pa_cons (TB.pe_own h_with_side (hr.mono (by decide)) (by rfl) (pa_cons (pv 1) (pa_cons (pv 2) (pa_cons (pe_ix (r := rIx K) ix_seq (pv 0) (pv 2) (fun _ _ => rfl)) pa_nil)))) pa_nil))))), ?_⟩
  rw [start_eq (n := 3) (k := 0) (r.len.trans hl) rfl]
  exact run_F (fun c =>
    (ss_ret (se_call (sa_cons (se_var 0) (sa_cons (se_call (sa_cons (se_var 1) (sa_cons (se_var 2) (sa_cons (se_op (os_it (K := K)) (se_var 0) (se_var 2)) sa_nil)))) sa_nil))))) ok r h q
theorem ok_is_cut (T : Txt mg) {f : Addr} {fd : FuncData} (F : Fun K "is_cut" "is_cut" s_is_cut f fd) (h_is_int : Keeps P w K mg base 1 "is_int" p_is_int (SpM m_is_int)) (h_with_side : Keeps P w K mg base 1 "with_side" p_with_side (SpM m_with_side)) (h_fills_alone : Keeps P w K mg base 1 "fills_alone" p_fills_alone (SpM m_fills_alone)) : FnOk P w K mg base CX0 2 f fd p_is_cut (SpM m_is_cut) := by
  refine F.ok sc_is_cut (fun vs H Q E h => ?_) (fun cdv A outer s H vs Q E hr h => ?_)
  · obtain ⟨N, es, Pd, _, r, ⟨hl, _⟩, _⟩ := h
    rw [r.len, hl]; rfl
  obtain ⟨N, es, Pd, ok, r, ⟨hl, h⟩, q⟩ := h
  refine ⟨_, (pss_cons (ps_if (PW.pt (pw_or (pt_not (pt_val (pe_callB (r := rIsi K) call_isi (by rfl) T.n_isinstance (by decide +kernel) (pa_cons (pv 2) (pa_cons (pe_bltn (v := .ty "tuple") (u := .type "tuple") (by rfl) T.n_tuple (by decide +kernel) rfl) pa_nil))))) (pw_or (pt_cmpR (r := MI.rNeA K) (MI.op_neA hr.units) (pe_callB (r := MI.rLenA K) MI.call_lenA (by rfl) T.n_len (by decide +kernel) (pa_cons (pv 2) pa_nil)) pe_int (nomark _)) (pw_or1 (pt_not (pt_val (pe_callB (r := rAll K) (cr_all rfl) (by rfl) T.n_all (by decide +kernel) (pa_cons (pe_lc (own := [("item", 8)]) (g := gName 8) rfl sc_is_cut.nd (show PI _ _ _ (MI.iSeq K _) from MI.pi_seq (pv 2)) (blkOk_by (N := n_is_cut) (sc := defScope s_is_cut) (by decide +kernel)) (fun _ _ _ _ _ => pg_name (i := 8) sc_is_cut.nd rfl (.inl rfl)) (fun _ _ _ _ _ => pts_nil) (fun _ _ _ _ _ => (TB.pe_own h_is_int (hr.mono (by decide)) (by rfl) (pa_cons (pv 8) pa_nil)))) pa_nil))))))))
 (pss_one (ps_ret pe_bl)) pss_nil)
 (pss_cons (ps_asg (pv 2) (pg_tup rfl (pgs_cons (pg_name (i := 3) sc_is_cut.nd rfl (.inl rfl)) (pgs_cons (pg_name (i := 4) sc_is_cut.nd rfl (.inl rfl)) (pgs_cons (pg_name (i := 5) sc_is_cut.nd rfl (.inl rfl)) pgs_nil)))))
 (pss_cons (ps_if (PW.pt (pw_or (pt_not (pt_chain op_le op_le pe_int (pv 3) pe_int)) (pw_or (pt_not (pt_chain op_le op_lt pe_int (pv 4) (pe_callB (r := MI.rLenA K) MI.call_lenA (by rfl) T.n_len (by decide +kernel) (pa_cons (pv 1) pa_nil)))) (pw_or1 (pt_not (pt_chain op_le op_le pe_int (pv 5) (pe_ix (r := rIx K) ix_seq (pv 1) (pv 4) (fun _ _ => rfl))))))))
 (pss_one (ps_ret pe_bl)) pss_nil)
 (pss_cons (ps_set (i := 6) sc_is_cut.nd rfl (.inl rfl) (TB.pe_own h_with_side (hr.mono (by decide)) (by rfl) (pa_cons (pv 1) (pa_cons (pv 4) (pa_cons (pv 5) pa_nil)))))
 (pss_cons (ps_set (i := 7) sc_is_cut.nd rfl (.inl rfl) (TB.pe_own h_with_side (hr.mono (by decide)) (by rfl) (pa_cons (pv 1) (pa_cons (pv 4) (pa_cons (pe_op op_sub (pe_ix (r := rIx K) ix_seq (pv 1) (pv 4) (fun _ _ => rfl)) (pv 5)) pa_nil)))))
 (pss_one (ps_ret (pe_and (TB.pe_own h_fills_alone (hr.mono (by decide)) (by rfl) (pa_cons (pe_ix (r := rIx K) ix_seq (pv 0) (pv 3) (fun _ _ => rfl)) (pa_cons (pv 6) pa_nil))) (pe_one (TB.pe_own h_fills_alone (hr.mono (by decide)) (by rfl) (pa_cons (pe_ix (r := rIx K) ix_seq (pv 0) (pe_op op_sub pe_int (pv 3)) (fun _ _ => rfl)) (pa_cons (pv 7) pa_nil)))))))))))), ?_⟩
  rw [start_eq (n := 3) (k := 6) (r.len.trans hl) rfl]
  exact run_F (fun c =>
    (ss_seq (ss_if (st_oo (st_no (st_val (se_isi kit_tuple (se_var 2)))) (st_oo (st_val (se_op (os_ne (K := K)) (se_cb (cas_len (K := K)) (sa_cons (se_var 2) sa_nil)) (se_int 3))) (st_no (st_val (se_cb (cas_all (K := K)) (sa_cons (se_fr (seo_lc (si_seq (K := K) (se_var 2)) (sg_name (by decide)) st_ok (se_call (sa_cons (se_var 8) sa_nil)))) sa_nil))))))
 (ss_ret (se_bl false))
 ss_nx)
 (ss_seq (ss_asg (se_var 2) (show SGv c [3, 4, 5] _ _ from (sg_tup (K := K) (sgs_cons (sg_name (by decide)) (sgs_cons (sg_name (by decide)) (sgs_cons (sg_name (by decide)) sgs_nil))))))
 (ss_seq (ss_if (st_oo (st_no (st_val (se_chain os_le os_le (se_int 0) (se_var 3) (se_int 1)))) (st_oo (st_no (st_val (se_chain os_le os_lt (se_int 0) (se_var 4) (se_cb (cas_len (K := K)) (sa_cons (se_var 1) sa_nil))))) (st_no (st_val (se_chain os_le os_le (se_int 0) (se_var 5) (se_op (os_it (K := K)) (se_var 1) (se_var 4)))))))
 (ss_ret (se_bl false))
 ss_nx)
 (ss_seq (ss_asg (se_call (sa_cons (se_var 1) (sa_cons (se_var 4) (sa_cons (se_var 5) sa_nil)))) (sg_name (vs := [6]) (by decide)))
 (ss_seq (ss_asg (se_call (sa_cons (se_var 1) (sa_cons (se_var 4) (sa_cons (se_op os_sub (se_op (os_it (K := K)) (se_var 1) (se_var 4)) (se_var 5)) sa_nil)))) (sg_name (vs := [7]) (by decide)))
 (ss_ret (se_and (se_call (sa_cons (se_op (os_it (K := K)) (se_var 0) (se_var 3)) (sa_cons (se_var 6) sa_nil))) (se_call (sa_cons (se_op (os_it (K := K)) (se_var 0) (se_op os_sub (se_int 1) (se_var 3))) (sa_cons (se_var 7) sa_nil))))))))))) ok r h q
theorem ok_runs_across (T : Txt mg) {f : Addr} {fd : FuncData} (F : Fun K "runs_across" "runs_across" s_runs_across f fd) (h_least_share : Keeps P w K mg base 2 "least_share" p_least_share (SpM m_least_share)) (h_fills_across : Keeps P w K mg base 2 "fills_across" p_fills_across (SpM m_fills_across)) (h_is_cut : Keeps P w K mg base 2 "is_cut" p_is_cut (SpM m_is_cut)) : FnOk P w K mg base CX0 3 f fd p_runs_across (SpM m_runs_across) := by
  refine F.ok sc_runs_across (fun vs H Q E h => ?_) (fun cdv A outer s H vs Q E hr h => ?_)
  · obtain ⟨N, es, Pd, _, r, ⟨hl, _⟩, _⟩ := h
    rw [r.len, hl]; rfl
  obtain ⟨N, es, Pd, ok, r, ⟨hl, h⟩, q⟩ := h
  refine ⟨_, (pss_cons (ps_par (i := 4) (j := 5) (by rfl) sc_runs_across.nd rfl rfl (by decide) rfl rfl (pa_cons (pe_ix (r := rIx K) ix_seq (pv 0) (pv 2) (fun _ _ => rfl)) (pa_cons (pe_ix (r := rIx K) ix_seq (pv 0) (pe_op op_sub pe_int (pv 2)) (fun _ _ => rfl)) pa_nil)) (by rfl))
 (pss_cons (ps_set (i := 6) sc_runs_across.nd rfl (.inl rfl) (pe_ix (r := rIx K) ix_seq (pv 1) (pv 3) (fun _ _ => rfl)))
 (pss_cons (ps_if (PW.pt (pw_and (pt_val (TB.pe_own h_fills_across (hr.mono (by decide)) (by rfl) (pa_cons (pv 4) (pa_cons (pv 1) (pa_cons (pv 3) pa_nil))))) (pw_and1 (pt_val (TB.pe_own h_fills_across (hr.mono (by decide)) (by rfl) (pa_cons (pv 5) (pa_cons (pv 1) (pa_cons (pv 3) pa_nil))))))))
 (pss_cons (ps_set (i := 7) sc_runs_across.nd rfl (.inl rfl) (TB.pe_own h_least_share (hr.mono (by decide)) (by rfl) (pa_cons (pe_ix (r := rIx K) ix_seq (pv 4) (pv 3) (fun _ _ => rfl)) (pa_cons (pe_ix (r := rIx K) ix_seq (pv 5) (pv 3) (fun _ _ => rfl)) (pa_cons (pv 6) pa_nil)))))
 (pss_cons (ps_if (PW.pt (pw_or (pt_cmpR MI.op_isA (pv 7) pe_non (nomark _)) (pw_or1 (pt_cmpR op_gt (pe_op (r := MI.rMulA K) MI.op_mulA (pv 7) (pe_ix (r := rIx K) ix_seq (pv 4) (pv 3) (fun _ _ => rfl))) (pv 6) (nomark _)))))
 (pss_one (ps_ret (pe_lst pa_nil))) pss_nil)
 (pss_cons (ps_set (i := 8) sc_runs_across.nd rfl (.inl rfl) (pe_op (r := MI.rMulA K) MI.op_mulA (pv 7) (pe_ix (r := rIx K) ix_seq (pv 4) (pv 3) (fun _ _ => rfl))))
 (pss_cons (ps_set (i := 9) sc_runs_across.nd rfl (.inl rfl) (pe_op op_fdivW (pe_op (r := MI.rMulA K) MI.op_mulA (pe_ix (r := rIx K) ix_seq (pv 4) (pv 3) (fun _ _ => rfl)) (pe_ix (r := rIx K) ix_seq (pv 5) (pv 3) (fun _ _ => rfl))) (pe_callBfun (r := rGcd) cr_gcd (by rfl) T.g_gcd (pa_cons (pe_ix (r := rIx K) ix_seq (pv 4) (pv 3) (fun _ _ => rfl)) (pa_cons (pe_ix (r := rIx K) ix_seq (pv 5) (pv 3) (fun _ _ => rfl)) pa_nil)))))
 (pss_one (ps_ret (pe_lst (pa_cons (pe_tup (pa_cons (pv 2) (pa_cons (pv 3) (pa_cons (pv 8) (pa_cons (pv 9) (pa_cons (pe_op (r := MI.rAddA K) MI.op_addA (pe_op op_fdivW (pe_op op_sub (pv 6) (pv 8)) (pv 9)) pe_int) pa_nil)))))) pa_nil)))))))) pss_nil)
 (pss_cons (ps_setLc (i := 10) (own := [("at", 11)]) (g := gName 11) rfl sc_runs_across.nd rfl rfl (sw_true rfl rfl rfl (by decide +kernel)) (show PI _ _ _ (MI.iSeq K _) from MI.pi_seq (pe_tup (pa_cons pe_int (pa_cons (pv 6) pa_nil)))) (blkOk_by (N := n_runs_across) (sc := defScope s_runs_across) (by decide +kernel)) (fun _ _ _ _ _ => pg_name (i := 11) sc_runs_across.nd rfl (.inl rfl)) (fun _ _ _ _ _ => (pts_one (pt_val (TB.pe_own h_is_cut (hr.mono (by decide)) (by rfl) (pa_cons (pv 0) (pa_cons (pv 1) (pa_cons (pe_tup (pa_cons (pv 2) (pa_cons (pv 3) (pa_cons (pv 11) pa_nil)))) pa_nil))))))) (fun _ _ _ _ _ => (pv 11)))
 (pss_one (ps_ret (pe_lc (own := [("at", 11)]) (g := gName 11) rfl sc_runs_across.nd (show PI _ _ _ (MI.iSeq K _) from MI.pi_seq (pv 10)) (blkOk_by (N := n_runs_across) (sc := defScope s_runs_across) (by decide +kernel)) (fun _ _ _ _ _ => pg_name (i := 11) sc_runs_across.nd rfl (.inl rfl)) (fun _ _ _ _ _ => pts_nil) (fun _ _ _ _ _ => (pe_tup (pa_cons (pv 2) (pa_cons (pv 3) (pa_cons (pv 11) (pa_cons pe_int (pa_cons pe_int pa_nil)))))))))))))), ?_⟩
  rw [start_eq (n := 4) (k := 8) (r.len.trans hl) rfl]
  exact run_F (fun c =>
    (ss_seq (ss_par (i := 4) (j := 5) (sa_cons (se_op (os_it (K := K)) (se_var 0) (se_var 2)) (sa_cons (se_op (os_it (K := K)) (se_var 0) (se_op os_sub (se_int 1) (se_var 2))) sa_nil)))
 (ss_seq (ss_asg (se_op (os_it (K := K)) (se_var 1) (se_var 3)) (sg_name (vs := [6]) (by decide)))
 (ss_seq (ss_if (st_an (st_val (se_call (sa_cons (se_var 4) (sa_cons (se_var 1) (sa_cons (se_var 3) sa_nil))))) (st_val (se_call (sa_cons (se_var 5) (sa_cons (se_var 1) (sa_cons (se_var 3) sa_nil))))))
 (ss_seq (ss_asg (se_call (sa_cons (se_op (os_it (K := K)) (se_var 4) (se_var 3)) (sa_cons (se_op (os_it (K := K)) (se_var 5) (se_var 3)) (sa_cons (se_var 6) sa_nil)))) (sg_name (vs := [7]) (by decide)))
 (ss_seq (ss_if (st_oo (st_val (se_op os_is (se_var 7) se_non)) (st_val (se_op os_gt (se_op (os_mul (K := K)) (se_var 7) (se_op (os_it (K := K)) (se_var 4) (se_var 3))) (se_var 6))))
 (ss_ret (se_lst sa_nil))
 ss_nx)
 (ss_seq (ss_asg (se_op (os_mul (K := K)) (se_var 7) (se_op (os_it (K := K)) (se_var 4) (se_var 3))) (sg_name (vs := [8]) (by decide)))
 (ss_seq (ss_asg (se_op os_fdiv (se_op (os_mul (K := K)) (se_op (os_it (K := K)) (se_var 4) (se_var 3)) (se_op (os_it (K := K)) (se_var 5) (se_var 3))) (se_cb cas_gcd (sa_cons (se_op (os_it (K := K)) (se_var 4) (se_var 3)) (sa_cons (se_op (os_it (K := K)) (se_var 5) (se_var 3)) sa_nil)))) (sg_name (vs := [9]) (by decide)))
 (ss_ret (se_lst (sa_cons (se_tup (sa_cons (se_var 2) (sa_cons (se_var 3) (sa_cons (se_var 8) (sa_cons (se_var 9) (sa_cons (se_op (os_add (K := K)) (se_op os_fdiv (se_op os_sub (se_var 6) (se_var 8)) (se_var 9)) (se_int 1)) sa_nil)))))) sa_nil)))))))
 ss_nx)
 (ss_seq (ss_asg (se_fr (seo_lc (si_seq (K := K) (se_tup (sa_cons (se_int 0) (sa_cons (se_var 6) sa_nil)))) (sg_name (by decide)) (st_val (se_call (sa_cons (se_var 0) (sa_cons (se_var 1) (sa_cons (se_tup (sa_cons (se_var 2) (sa_cons (se_var 3) (sa_cons (se_var 11) sa_nil)))) sa_nil))))) (se_var 11))) (sg_name (vs := [10]) (by decide)))
 (ss_ret (se_fr (seo_lc (si_seq (K := K) (se_var 10)) (sg_name (by decide)) st_ok (se_tup (sa_cons (se_var 2) (sa_cons (se_var 3) (sa_cons (se_var 11) (sa_cons (se_int 1) (sa_cons (se_int 1) sa_nil)))))))))))))) ok r h q
theorem ok_cut_runs (T : Txt mg) {f : Addr} {fd : FuncData} (F : Fun K "cut_runs" "cut_runs" s_cut_runs f fd) (h_runs_across : Keeps P w K mg base 3 "runs_across" p_runs_across (SpM m_runs_across)) : FnOk P w K mg base CX0 4 f fd p_cut_runs (SpM m_cut_runs) := by
  refine F.ok sc_cut_runs (fun vs H Q E h => ?_) (fun cdv A outer s H vs Q E hr h => ?_)
  · obtain ⟨N, es, Pd, _, r, ⟨hl, _⟩, _⟩ := h
    rw [r.len, hl]; rfl
  obtain ⟨N, es, Pd, ok, r, ⟨hl, h⟩, q⟩ := h
  refine ⟨_, (pss_one (ps_ret (L3.pe_lc3 (own := [("first", 2), ("axis", 3), ("run", 4)]) (vs1 := [3, 4]) (vs2 := [4]) (g := gName 2) (g1 := gName 3) (g2 := gName 4) rfl sc_cut_runs.nd (show PI _ _ _ (MI.iSeq K _) from MI.pi_seq (pe_tup (pa_cons pe_int (pa_cons pe_int pa_nil)))) (blkOk_by (N := n_cut_runs) (sc := defScope s_cut_runs) (by decide +kernel)) (by decide) (by decide) (fun _ _ _ _ _ => pg_name (i := 2) sc_cut_runs.nd rfl (.inl rfl)) (fun _ _ _ _ _ => pts_nil) (fun _ _ _ _ _ => (pi_range1 (by rfl) T.n_range (pa_cons (pe_callB (r := MI.rLenA K) MI.call_lenA (by rfl) T.n_len (by decide +kernel) (pa_cons (pv 1) pa_nil)) pa_nil))) (fun _ _ _ _ _ => (show PI _ _ _ (MI.iSeq K _) from MI.pi_seq (TB.pe_own h_runs_across (hr.mono (by decide)) (by rfl) (pa_cons (pv 0) (pa_cons (pv 1) (pa_cons (pv 2) (pa_cons (pv 3) pa_nil))))))) (fun _ _ _ _ _ => pg_name (i := 3) sc_cut_runs.nd rfl (.inl rfl)) (fun _ _ _ _ _ => pg_name (i := 4) sc_cut_runs.nd rfl (.inl rfl)) (fun _ _ _ _ _ => pts_nil) (fun _ _ _ _ _ => pts_nil) (fun _ _ _ _ _ => (pv 4))))), ?_⟩
  rw [start_eq (n := 2) (k := 3) (r.len.trans hl) rfl]
  exact run_F (fun c =>
    (ss_ret (se_fr (seo_lc3 (si_seq (K := K) (se_tup (sa_cons (se_int 0) (sa_cons (se_int 1) sa_nil)))) (sg_name (by decide)) st_ok (si_range1 (se_cb (cas_len (K := K)) (sa_cons (se_var 1) sa_nil))) (sg_name (by decide)) st_ok (si_seq (K := K) (se_call (sa_cons (se_var 0) (sa_cons (se_var 1) (sa_cons (se_var 2) (sa_cons (se_var 3) sa_nil)))))) (sg_name (by decide)) st_ok (se_var 4))))) ok r h q
theorem ok_is_filled (T : Txt mg) {f : Addr} {fd : FuncData} (F : Fun K "is_filled" "is_filled" s_is_filled f fd) (h_cut_runs : Keeps P w K mg base 4 "cut_runs" p_cut_runs (SpM m_cut_runs)) : FnOk P w K mg base CX0 5 f fd p_is_filled (SpM m_is_filled) := by
  refine F.ok sc_is_filled (fun vs H Q E h => ?_) (fun cdv A outer s H vs Q E hr h => ?_)
  · obtain ⟨N, es, Pd, _, r, ⟨hl, _⟩, _⟩ := h
    rw [r.len, hl]; rfl
  obtain ⟨N, es, Pd, ok, r, ⟨hl, h⟩, q⟩ := h
  refine ⟨_, (pss_one (ps_ret (pe_cmpR op_gt (pe_callB (r := MI.rLenA K) MI.call_lenA (by rfl) T.n_len (by decide +kernel) (pa_cons (TB.pe_own h_cut_runs (hr.mono (by decide)) (by rfl) (pa_cons (pv 0) (pa_cons (pv 1) pa_nil))) pa_nil)) pe_int (nomark _)))), ?_⟩
  rw [start_eq (n := 2) (k := 0) (r.len.trans hl) rfl]
  exact run_F (fun c =>
    (ss_ret (se_op os_gt (se_cb (cas_len (K := K)) (sa_cons (se_call (sa_cons (se_var 0) (sa_cons (se_var 1) sa_nil))) sa_nil)) (se_int 0)))) ok r h q
theorem ok_escape (T : Txt mg) {f : Addr} {fd : FuncData} (F : Fun K "escape" "escape" s_escape f fd) (h_is_filled : Keeps P w K mg base 5 "is_filled" p_is_filled (SpM m_is_filled)) : FnOk P w K mg base CX0 6 f fd p_escape (SpM m_escape) := by
  refine F.ok sc_escape (fun vs H Q E h => ?_) (fun cdv A outer s H vs Q E hr h => ?_)
  · obtain ⟨N, es, Pd, _, r, ⟨hl, _⟩, _⟩ := h
    rw [r.len, hl]; rfl
  obtain ⟨N, es, Pd, ok, r, ⟨hl, h⟩, q⟩ := h
  refine ⟨_, (pss_cons (ps_if (pt_cmpR (r := MI.rNeA K) (MI.op_neA hr.units) (pe_callB (r := MI.rLenA K) MI.call_lenA (by rfl) T.n_len (by decide +kernel) (pa_cons (pe_ix (r := rIx K) ix_seq (pv 0) pe_int (fun _ _ => rfl)) pa_nil)) (pe_callB (r := MI.rLenA K) MI.call_lenA (by rfl) T.n_len (by decide +kernel) (pa_cons (pe_ix (r := rIx K) ix_seq (pv 1) pe_int (fun _ _ => rfl)) pa_nil)) (nomark _))
 (pss_one MI.ps_dead) pss_nil)
 (pss_cons (ps_setLc (i := 2) (own := [("brick", 3)]) (g := gName 3) rfl sc_escape.nd rfl rfl (sw_true rfl rfl rfl (by decide +kernel)) (show PI _ _ _ (MI.iSeq K _) from MI.pi_seq (pv 0)) (blkOk_by (N := n_escape) (sc := defScope s_escape) (by decide +kernel)) (fun _ _ _ _ _ => pg_name (i := 3) sc_escape.nd rfl (.inl rfl)) (fun _ _ _ _ _ => (pts_one (pt_not (pt_val (TB.pe_own h_is_filled (hr.mono (by decide)) (by rfl) (pa_cons (pv 1) (pa_cons (pv 3) pa_nil))))))) (fun _ _ _ _ _ => (pv 3)))
 (pss_one (ps_ret (pe_ifExp (pt_cmpR op_gt (pe_callB (r := MI.rLenA K) MI.call_lenA (by rfl) T.n_len (by decide +kernel) (pa_cons (pv 2) pa_nil)) pe_int (nomark _)) (pe_ix (r := rIx K) ix_seq (pv 2) pe_int (fun _ _ => rfl)) pe_non))))), ?_⟩
  rw [start_eq (n := 2) (k := 2) (r.len.trans hl) rfl]
  exact run_F (fun c =>
    (ss_seq (ss_if (st_val (se_op (os_ne (K := K)) (se_cb (cas_len (K := K)) (sa_cons (se_op (os_it (K := K)) (se_var 0) (se_int 0)) sa_nil)) (se_cb (cas_len (K := K)) (sa_cons (se_op (os_it (K := K)) (se_var 1) (se_int 0)) sa_nil))))
 ss_no
 ss_nx)
 (ss_seq (ss_asg (se_fr (seo_lc (si_seq (K := K) (se_var 0)) (sg_name (by decide)) (st_no (st_val (se_call (sa_cons (se_var 1) (sa_cons (se_var 3) sa_nil))))) (se_var 3))) (sg_name (vs := [2]) (by decide)))
 (ss_ret (se_if (st_val (se_op os_gt (se_cb (cas_len (K := K)) (sa_cons (se_var 2) sa_nil)) (se_int 0))) (se_op (os_it (K := K)) (se_var 2) (se_int 0)) se_non))))) ok r h q
theorem ok_within (T : Txt mg) {f : Addr} {fd : FuncData} (F : Fun K "within" "within" s_within f fd) (h_escape : Keeps P w K mg base 6 "escape" p_escape (SpM m_escape)) : FnOk P w K mg base CX0 7 f fd p_within (SpM m_within) := by
  refine F.ok sc_within (fun vs H Q E h => ?_) (fun cdv A outer s H vs Q E hr h => ?_)
  · obtain ⟨N, es, Pd, _, r, ⟨hl, _⟩, _⟩ := h
    rw [r.len, hl]; rfl
  obtain ⟨N, es, Pd, ok, r, ⟨hl, h⟩, q⟩ := h
  refine ⟨_, (pss_one (ps_ret (pe_cmpR MI.op_isA (TB.pe_own h_escape (hr.mono (by decide)) (by rfl) (pa_cons (pv 0) (pa_cons (pv 1) pa_nil))) pe_non (nomark _)))), ?_⟩
  rw [start_eq (n := 2) (k := 0) (r.len.trans hl) rfl]
  exact run_F (fun c =>
    (ss_ret (se_op os_is (se_call (sa_cons (se_var 0) (sa_cons (se_var 1) sa_nil))) se_non))) ok r h q
theorem ok_alike (T : Txt mg) {f : Addr} {fd : FuncData} (F : Fun K "alike" "alike" s_alike f fd) (h_within : Keeps P w K mg base 7 "within" p_within (SpM m_within)) : FnOk P w K mg base CX0 8 f fd p_alike (SpM m_alike) := by
  refine F.ok sc_alike (fun vs H Q E h => ?_) (fun cdv A outer s H vs Q E hr h => ?_)
  · obtain ⟨N, es, Pd, _, r, ⟨hl, _⟩, _⟩ := h
    rw [r.len, hl]; rfl
  obtain ⟨N, es, Pd, ok, r, ⟨hl, h⟩, q⟩ := h
  refine ⟨_, (pss_one (ps_ret (pe_and (TB.pe_own h_within (hr.mono (by decide)) (by rfl) (pa_cons (pv 0) (pa_cons (pv 1) pa_nil))) (pe_one (TB.pe_own h_within (hr.mono (by decide)) (by rfl) (pa_cons (pv 1) (pa_cons (pv 0) pa_nil))))))), ?_⟩
  rw [start_eq (n := 2) (k := 0) (r.len.trans hl) rfl]
  exact run_F (fun c =>
    (ss_ret (se_and (se_call (sa_cons (se_var 0) (sa_cons (se_var 1) sa_nil))) (se_call (sa_cons (se_var 1) (sa_cons (se_var 0) sa_nil)))))) ok r h q
theorem ok_atoms (T : Txt mg) {f : Addr} {fd : FuncData} (F : Fun K "atoms" "atoms" s_atoms f fd) (h_fills_alone : Keeps P w K mg base 1 "fills_alone" p_fills_alone (SpM m_fills_alone)) : FnOk P w K mg base CX0 2 f fd p_atoms (SpM m_atoms) := by
  refine F.ok sc_atoms (fun vs H Q E h => ?_) (fun cdv A outer s H vs Q E hr h => ?_)
  · obtain ⟨N, es, Pd, _, r, ⟨hl, _⟩, _⟩ := h
    rw [r.len, hl]; rfl
  obtain ⟨N, es, Pd, ok, r, ⟨hl, h⟩, q⟩ := h
  refine ⟨_, (pss_cons (ps_asg (pv 0) (pg_tup rfl (pgs_cons (pg_name (i := 1) sc_atoms.nd rfl (.inl rfl)) (pgs_cons (pg_name (i := 2) sc_atoms.nd rfl (.inl rfl)) pgs_nil))))
 (pss_cons (ps_if (pt_val (TB.pe_own h_fills_alone (hr.mono (by decide)) (by rfl) (pa_cons (pv 2) (pa_cons (pv 1) pa_nil))))
 (pss_one (ps_ret (pe_tup (pa_cons (pv 2) pa_nil)))) pss_nil)
 (pss_cons (ps_if (pt_val (TB.pe_own h_fills_alone (hr.mono (by decide)) (by rfl) (pa_cons (pv 1) (pa_cons (pv 2) pa_nil))))
 (pss_one (ps_ret (pe_tup (pa_cons (pv 1) pa_nil)))) pss_nil)
 (pss_one (ps_ret (pe_callTy (r := TB.rTupQ K) call_tuple_of (by rfl) T.n_tuple (by decide +kernel) (pa_cons (pe_callB (r := MI.rSortedA K) (MI.cr_sortedA hr.units) (by rfl) T.n_sorted (by decide +kernel) (pa_cons (pe_lst (pa_cons (pv 1) (pa_cons (pv 2) pa_nil))) pa_nil)) pa_nil))))))), ?_⟩
  rw [start_eq (n := 1) (k := 2) (r.len.trans hl) rfl]
  exact run_F (fun c =>
    (ss_seq (ss_asg (se_var 0) (show SGv c [1, 2] _ _ from (sg_tup (K := K) (sgs_cons (sg_name (by decide)) (sgs_cons (sg_name (by decide)) sgs_nil)))))
 (ss_seq (ss_if (st_val (se_call (sa_cons (se_var 2) (sa_cons (se_var 1) sa_nil))))
 (ss_ret (se_tup (sa_cons (se_var 2) sa_nil)))
 ss_nx)
 (ss_seq (ss_if (st_val (se_call (sa_cons (se_var 1) (sa_cons (se_var 2) sa_nil))))
 (ss_ret (se_tup (sa_cons (se_var 1) sa_nil)))
 ss_nx)
 (ss_ret (se_cb (cas_tuple (K := K)) (sa_cons (se_cb (cas_sortedA (K := K)) (sa_cons (se_lst (sa_cons (se_var 1) (sa_cons (se_var 2) sa_nil))) sa_nil)) sa_nil))))))) ok r h q
theorem ok__law_divisor (T : Txt mg) {f : Addr} {fd : FuncData} (F : Fun K "_law_divisor" "_law_divisor" s__law_divisor f fd)  : FnOk P w K mg base CX0 1 f fd p__law_divisor (SpM m__law_divisor) := by
  refine F.ok sc__law_divisor (fun vs H Q E h => ?_) (fun cdv A outer s H vs Q E hr h => ?_)
  · obtain ⟨N, es, Pd, _, r, ⟨hl, _⟩, _⟩ := h
    rw [r.len, hl]; rfl
  obtain ⟨N, es, Pd, ok, r, ⟨hl, h⟩, q⟩ := h
  refine ⟨_, (pss_cons (ps_while PassesOwn.never (pt_cmpR op_gt (pv 1) pe_int (nomark _))
 (pss_one (ps_par (i := 0) (j := 1) (by rfl) sc__law_divisor.nd rfl rfl (by decide) rfl rfl (pa_cons (pv 1) (pa_cons (pe_op op_modN (pv 0) (pv 1)) pa_nil)) (by rfl))))
 (pss_one (ps_ret (pv 0)))), ?_⟩
  rw [start_eq (n := 2) (k := 0) (r.len.trans hl) rfl]
  exact run_F (fun c =>
    (ss_seq (ss_whileK (L := [0, 1]) (st_val (se_op os_gt (se_var 1) (se_int 0)))
 (ss_par (i := 0) (j := 1) (sa_cons (se_var 1) (sa_cons (se_op os_mod (se_var 0) (se_var 1)) sa_nil))))
 (ss_ret (se_var 0)))) ok r h q
theorem ok__law_lcm (T : Txt mg) {f : Addr} {fd : FuncData} (F : Fun K "_law_lcm" "_law_lcm" s__law_lcm f fd) (h__law_divisor : Keeps P w K mg base 1 "_law_divisor" p__law_divisor (SpM m__law_divisor)) : FnOk P w K mg base CX0 2 f fd p__law_lcm (SpM m__law_lcm) := by
  refine F.ok sc__law_lcm (fun vs H Q E h => ?_) (fun cdv A outer s H vs Q E hr h => ?_)
  · obtain ⟨N, es, Pd, _, r, ⟨hl, _⟩, _⟩ := h
    rw [r.len, hl]; rfl
  obtain ⟨N, es, Pd, ok, r, ⟨hl, h⟩, q⟩ := h
  refine ⟨_, (pss_one (ps_ret (pe_op op_fdivW (pe_op (r := MI.rMulA K) MI.op_mulA (pv 0) (pv 1)) (TB.pe_own h__law_divisor (hr.mono (by decide)) (by rfl) (pa_cons (pv 0) (pa_cons (pv 1) pa_nil)))))), ?_⟩
  rw [start_eq (n := 2) (k := 0) (r.len.trans hl) rfl]
  exact run_F (fun c =>
    (ss_ret (se_op os_fdiv (se_op (os_mul (K := K)) (se_var 0) (se_var 1)) (se_call (sa_cons (se_var 0) (sa_cons (se_var 1) sa_nil)))))) ok r h q
theorem ok__law_cut_box (T : Txt mg) {f : Addr} {fd : FuncData} (F : Fun K "_law_cut_box" "_law_cut_box" s__law_cut_box f fd) (h__law_draw : Keeps P w K mg base 1 "_law_draw" p__law_draw (SpMW m_draw)) (h__law_lcm : Keeps P w K mg base 2 "_law_lcm" p__law_lcm (SpM m__law_lcm)) : FnOk P w K mg base CX0 3 f fd p__law_cut_box (SpMW m__law_cut_box) := by
  refine F.ok sc__law_cut_box (fun vs H Q E h => ?_) (fun cdv A outer s H vs Q E hr h => ?_)
  · obtain ⟨d, g, l, N, es, vs', Pd, rfl, _, _, _, _, _, r, ⟨hl, _⟩, _⟩ := h
    show vs'.length + 1 = _
    rw [r.len, hl]; rfl
  obtain ⟨d, g, l, N, es, vs', Pd, rfl, ok, h1, h2, h3, D, r, ⟨hl, h⟩, q⟩ := h
  refine ⟨_, (pss_cons (ps_par (i := 3) (j := 4) (by rfl) sc__law_cut_box.nd rfl rfl (by decide) rfl rfl (pa_cons (TB.pe_own h__law_draw (hr.mono (by decide)) (by rfl) (pa_cons (pv 0) (pa_cons (pe_callB (r := MI.rLenA K) MI.call_lenA (by rfl) T.n_len (by decide +kernel) (pa_cons (pe_ix (r := rIx K) ix_seq (pv 1) pe_int (fun _ _ => rfl)) pa_nil)) pa_nil))) (pa_cons (pe_lst pa_nil) pa_nil)) (by rfl))
 (pss_cons (ps_for PassesOwn.never rfl (pi_range1 (by rfl) T.n_range (pa_cons (pe_callB (r := MI.rLenA K) MI.call_lenA (by rfl) T.n_len (by decide +kernel) (pa_cons (pe_ix (r := rIx K) ix_seq (pv 1) pe_int (fun _ _ => rfl)) pa_nil)) pa_nil)) (pg_name (i := 5) sc__law_cut_box.nd rfl (.inl rfl))
 (pss_one (ps_expr (pe_bm PySem.F.plainAttrs_list PySem.F.slot_list_append PySem.F.type_list_append (r := rAppend) mt_append (pv 4) (pa_cons (TB.pe_own h__law_lcm (hr.mono (by decide)) (by rfl) (pa_cons (pe_ix (r := rIx K) ix_seq (pe_ix (r := rIx K) ix_seq (pv 1) pe_int (fun _ _ => rfl)) (pv 5) (fun _ _ => rfl)) (pa_cons (pe_ix (r := rIx K) ix_seq (pe_ix (r := rIx K) ix_seq (pv 1) pe_int (fun _ _ => rfl)) (pv 5) (fun _ _ => rfl)) pa_nil))) pa_nil)))))
 (pss_cons (ps_asg (pe_op (r := MI.rAddA K) MI.op_addA (pe_op (r := MI.rMulA K) MI.op_mulA (pe_ix (r := rIx K) ix_seq (pe_ix (r := rIx K) ix_seq (pv 1) pe_int (fun _ _ => rfl)) (pv 3) (fun _ _ => rfl)) (TB.pe_own h__law_draw (hr.mono (by decide)) (by rfl) (pa_cons (pv 0) (pa_cons (pv 2) pa_nil)))) (pe_op (r := MI.rMulA K) MI.op_mulA (pe_ix (r := rIx K) ix_seq (pe_ix (r := rIx K) ix_seq (pv 1) pe_int (fun _ _ => rfl)) (pv 3) (fun _ _ => rfl)) (pe_op (r := MI.rAddA K) MI.op_addA pe_int (TB.pe_own h__law_draw (hr.mono (by decide)) (by rfl) (pa_cons (pv 0) (pa_cons (pv 2) pa_nil)))))) (pg_sub (pv 4) (pv 3) set_list))
 (pss_one (ps_ret (pe_callTy (r := TB.rTupQ K) call_tuple_of (by rfl) T.n_tuple (by decide +kernel) (pa_cons (pv 4) pa_nil))))))), ?_⟩
  rw [start_eqW (n := 2) (k := 3) (r.len.trans hl) rfl]
  exact run_W (fun c hc =>
    (ss_seq (ss_parDO (i := 3) (j := 4) (se_callW hc (sa_cons (se_cb (cas_len (K := K)) (sa_cons (se_op (os_it (K := K)) (se_var 1) (se_int 0)) sa_nil)) sa_nil)) (seo_lst sa_nil))
 (ss_seq (ss_forK (L := [0, 1, 2, 3, 4]) (si_range1 (se_cb (cas_len (K := K)) (sa_cons (se_op (os_it (K := K)) (se_var 1) (se_int 0)) sa_nil))) (show SGv c [5] _ _ from (sg_name (by decide)))
 (ss_app (K := K) (i := 4) (se_call (sa_cons (se_op (os_it (K := K)) (se_op (os_it (K := K)) (se_var 1) (se_int 0)) (se_var 5)) (sa_cons (se_op (os_it (K := K)) (se_op (os_it (K := K)) (se_var 1) (se_int 1)) (se_var 5)) sa_nil)))))
 (ss_seq (ss_set (i := 4) (se_op (os_add (K := K)) (se_op (os_mul (K := K)) (se_op (os_it (K := K)) (se_op (os_it (K := K)) (se_var 1) (se_int 0)) (se_var 3)) (se_callW hc (sa_cons (se_var 2) sa_nil))) (se_op (os_mul (K := K)) (se_op (os_it (K := K)) (se_op (os_it (K := K)) (se_var 1) (se_int 1)) (se_var 3)) (se_op (os_add (K := K)) (se_int 1) (se_callW hc (sa_cons (se_var 2) sa_nil))))) (se_var 3))
 (ss_fz (i := 4) (ss_ret (se_cb (cas_tuple (K := K)) (sa_cons (se_var 4) sa_nil)))))))) ok h1 h2 h3 D r h q
theorem ok__law_plain_box (T : Txt mg) {f : Addr} {fd : FuncData} (F : Fun K "_law_plain_box" "_law_plain_box" s__law_plain_box f fd) (h__law_draw : Keeps P w K mg base 1 "_law_draw" p__law_draw (SpMW m_draw)) (h__law_one : Keeps P w K mg base 2 "_law_one" p__law_one (SpMW m_one)) : FnOk P w K mg base CX0 3 f fd p__law_plain_box (SpMW m__law_plain_box) := by
  refine F.ok sc__law_plain_box (fun vs H Q E h => ?_) (fun cdv A outer s H vs Q E hr h => ?_)
  · obtain ⟨d, g, l, N, es, vs', Pd, rfl, _, _, _, _, _, r, ⟨hl, _⟩, _⟩ := h
    show vs'.length + 1 = _
    rw [r.len, hl]; rfl
  obtain ⟨d, g, l, N, es, vs', Pd, rfl, ok, h1, h2, h3, D, r, ⟨hl, h⟩, q⟩ := h
  refine ⟨_, (pss_cons (ps_set (i := 3) sc__law_plain_box.nd rfl (.inl rfl) (TB.pe_own h__law_one (hr.mono (by decide)) (by rfl) (pa_cons (pv 0) (pa_cons (pe_callTy (r := TB.rListQ K) call_list_of (by rfl) T.n_list (by decide +kernel) (pa_cons (pv 1) pa_nil)) pa_nil))))
 (pss_one (ps_ret (pe_callTy (r := TB.rTupQ K) call_tuple_of (by rfl) T.n_tuple (by decide +kernel) (pa_cons (pe_lc (own := [("_law_side", 4)]) (g := gName 4) rfl sc__law_plain_box.nd (show PI _ _ _ (MI.iSeq K _) from MI.pi_seq (pv 3)) (blkOk_by (N := n__law_plain_box) (sc := defScope s__law_plain_box) (by decide +kernel)) (fun _ _ _ _ _ => pg_name (i := 4) sc__law_plain_box.nd rfl (.inl rfl)) (fun _ _ _ _ _ => pts_nil) (fun _ _ _ _ _ => (pe_op (r := MI.rMulA K) MI.op_mulA (pv 4) (pe_op (r := MI.rAddA K) MI.op_addA pe_int (TB.pe_own h__law_draw (hr.mono (by decide)) (by rfl) (pa_cons (pv 0) (pa_cons (pv 2) pa_nil))))))) pa_nil))))), ?_⟩
  rw [start_eqW (n := 2) (k := 2) (r.len.trans hl) rfl]
  exact run_W (fun c hc =>
    (ss_seq (ss_asg (se_callW hc (sa_cons (se_cb (cas_list (K := K)) (sa_cons (se_var 1) sa_nil)) sa_nil)) (sg_name (vs := [3]) (by decide)))
 (ss_ret (se_cb (cas_tuple (K := K)) (sa_cons (se_fr (seo_lc (si_seq (K := K) (se_var 3)) (sg_name (by decide)) st_ok (se_op (os_mul (K := K)) (se_var 4) (se_op (os_add (K := K)) (se_int 1) (se_callW hc (sa_cons (se_var 2) sa_nil)))))) sa_nil))))) ok h1 h2 h3 D r h q
theorem ok__law_with (T : Txt mg) {f : Addr} {fd : FuncData} (F : Fun K "_law_with" "_law_with" s__law_with f fd)  : FnOk P w K mg base CX0 1 f fd p__law_with (SpM m__law_with) := by
  refine F.ok sc__law_with (fun vs H Q E h => ?_) (fun cdv A outer s H vs Q E hr h => ?_)
  · obtain ⟨N, es, Pd, _, r, ⟨hl, _⟩, _⟩ := h
    rw [r.len, hl]; rfl
  obtain ⟨N, es, Pd, ok, r, ⟨hl, h⟩, q⟩ := h
  refine ⟨_, (pss_one (ps_ret (pe_op (r := MI.rAddA K) MI.op_addA (pe_op (r := MI.rAddA K) MI.op_addA (pe_slice (r := MI.rSlX' K) MI.sl_any (pv 0) po_none (po_some (pv 1))) (pe_tup (pa_cons (pv 2) pa_nil))) (pe_slice (r := MI.rSlX' K) MI.sl_any (pv 0) (po_some (pe_op (r := MI.rAddA K) MI.op_addA (pv 1) pe_int)) po_none)))), ?_⟩
  rw [start_eq (n := 3) (k := 0) (r.len.trans hl) rfl]
  exact run_F (fun c =>
    (ss_ret (se_op (os_add (K := K)) (se_op (os_add (K := K)) (se_sl (sls_any (K := K)) (se_var 0) so_none (so_some (se_var 1))) (se_tup (sa_cons (se_var 2) sa_nil))) (se_sl (sls_any (K := K)) (se_var 0) (so_some (se_op (os_add (K := K)) (se_var 1) (se_int 1))) so_none)))) ok r h q
end
end K29
set_option Elab.async false
set_option linter.all false
set_option maxRecDepth 100000
namespace K29
open PySem PySem.Spec PyProof.Rows L2 Evl TB DL MI TW
section
variable {P : Program} {w : World} {K : PySem.W.Frag} {mg : Str → Option Value} {base : Heap}
theorem ok_law (T : Txt mg) {f : Addr} {fd : FuncData} (F : Fun K "law" "law" s_law f fd) (h__law_deck : Keeps P w K mg base 1 "_law_deck" p__law_deck (spDeck K)) (h_is_filled : Keeps P w K mg base 5 "is_filled" p_is_filled (SpM m_is_filled)) (h_escape : Keeps P w K mg base 6 "escape" p_escape (SpM m_escape)) (h_within : Keeps P w K mg base 7 "within" p_within (SpM m_within)) (h_alike : Keeps P w K mg base 8 "alike" p_alike (SpM m_alike)) (h_atoms : Keeps P w K mg base 2 "atoms" p_atoms (SpM m_atoms)) (h__law_draw : Keeps P w K mg base 1 "_law_draw" p__law_draw (SpMW m_draw)) (h__law_one : Keeps P w K mg base 2 "_law_one" p__law_one (SpMW m_one)) (h__law_cut_box : Keeps P w K mg base 3 "_law_cut_box" p__law_cut_box (SpMW m__law_cut_box)) (h__law_plain_box : Keeps P w K mg base 3 "_law_plain_box" p__law_plain_box (SpMW m__law_plain_box)) (h__law_with : Keeps P w K mg base 1 "_law_with" p__law_with (SpM m__law_with))
    (lt : m_law) : AtTop P w K mg base f fd "_law_script" (spLaw K) := by
  refine atTop_of F sc_law ⟨rfl, by decide, by decide⟩ (k := 9) (fun cdv s H v Q E hr h => ?_)
  obtain ⟨a, ns, ⟨⟩, hS, hn, q⟩ := h
  refine ⟨_, (pss_cons (ps_set (i := 1) sc_law.nd rfl (.inr rfl) (TB.pe_own h__law_deck (hr.mono (by decide)) (by rfl) (pa_cons (pv 0) pa_nil)))
 (pss_cons (ps_for PassesOwn.never rfl (pi_range1 (by rfl) T.n_range (pa_cons pe_int pa_nil)) (pg_name (i := 2) sc_law.nd rfl (.inl rfl))
 (pss_cons (ps_set (i := 3) sc_law.nd rfl (.inr rfl) (pe_op (r := MI.rAddA K) MI.op_addA pe_int (TB.pe_own h__law_draw (hr.mono (by decide)) (by rfl) (pa_cons (pv 1) (pa_cons pe_int pa_nil)))))
 (pss_cons (ps_set (i := 4) sc_law.nd rfl (.inl rfl) (pe_callTy (r := TB.rTupQ K) call_tuple_of (by rfl) T.n_tuple (by decide +kernel) (pa_cons (pe_lc (own := [("_law_kind", 10)]) (g := gName 10) rfl sc_law.nd (show PI _ _ _ (MI.iSeq K _) from MI.pi_seq (pe_tup (pa_cons pe_int (pa_cons pe_int pa_nil)))) (blkOk_by (N := n_law) (sc := defScope s_law) (by decide +kernel)) (fun _ _ _ _ _ => pg_name (i := 10) sc_law.nd rfl (.inl rfl)) (fun _ _ _ _ _ => pts_nil) (fun _ _ _ _ _ => (pe_callTy (r := TB.rTupQ K) call_tuple_of (by rfl) T.n_tuple (by decide +kernel) (pa_cons (pe_lc (own := [("_law_k", 11)]) (g := gName 11) rfl sc_law.nd (pi_range1 (by rfl) T.n_range (pa_cons (pv 3) pa_nil)) (blkOk_by (N := n_law) (sc := ({ kind := .function, names := [(".0", .local), ("_law_kind", .local), ("tuple", .globalImplicit), ("range", .globalImplicit), ("_law_axes", .cell), ("_law_deck_here", .cell)], isGenerator := false, isCoroutine := false })) (by decide +kernel)) (fun _ _ _ _ _ => pg_name (i := 11) sc_law.nd rfl (.inl rfl)) (fun _ _ _ _ _ => pts_nil) (fun _ _ _ _ _ => (pe_op (r := MI.rAddA K) MI.op_addA pe_int (TB.pe_own h__law_draw (hr.mono (by decide)) (by rfl) (pa_cons (pv 1) (pa_cons pe_int pa_nil)))))) pa_nil)))) pa_nil)))
 (pss_cons (ps_set (i := 5) sc_law.nd rfl (.inl rfl) (pe_tup (pa_cons (TB.pe_own h__law_one (hr.mono (by decide)) (by rfl) (pa_cons (pv 1) (pa_cons (pe_lst (pa_cons (TB.pe_own h__law_cut_box (hr.mono (by decide)) (by rfl) (pa_cons (pv 1) (pa_cons (pv 4) (pa_cons pe_int pa_nil)))) (pa_cons (TB.pe_own h__law_plain_box (hr.mono (by decide)) (by rfl) (pa_cons (pv 1) (pa_cons (pv 4) (pa_cons pe_int pa_nil)))) pa_nil))) pa_nil))) (pa_cons (TB.pe_own h__law_cut_box (hr.mono (by decide)) (by rfl) (pa_cons (pv 1) (pa_cons (pv 4) (pa_cons pe_int pa_nil)))) pa_nil))))
 (pss_cons (ps_if (PW.pt (pw_or (pt_not (pt_val (TB.pe_own h_within (hr.mono (by decide)) (by rfl) (pa_cons (pv 5) (pa_cons (pv 4) pa_nil))))) (pw_or1 (pt_cmpR MI.op_isNotA (TB.pe_own h_escape (hr.mono (by decide)) (by rfl) (pa_cons (pv 5) (pa_cons (pv 4) pa_nil))) pe_non (nomark _)))))
 (pss_one (ps_ret pe_bl)) pss_nil)
 (pss_cons (ps_set (i := 6) sc_law.nd rfl (.inl rfl) (TB.pe_own h__law_one (hr.mono (by decide)) (by rfl) (pa_cons (pv 1) (pa_cons (pe_lst (pa_cons (TB.pe_own h__law_plain_box (hr.mono (by decide)) (by rfl) (pa_cons (pv 1) (pa_cons (pv 5) (pa_cons pe_int pa_nil)))) (pa_cons (pe_ix (r := rIx K) ix_seq (pv 5) pe_int (fun _ _ => rfl)) pa_nil))) pa_nil))))
 (pss_cons (ps_if (PW.pt (pw_or (pt_not (pt_val (TB.pe_own h_is_filled (hr.mono (by decide)) (by rfl) (pa_cons (pv 5) (pa_cons (pv 6) pa_nil))))) (pw_or1 (pt_not (pt_val (TB.pe_own h_is_filled (hr.mono (by decide)) (by rfl) (pa_cons (pv 4) (pa_cons (pv 6) pa_nil))))))))
 (pss_one (ps_ret pe_bl)) pss_nil)
 (pss_cons (ps_if (pt_cmpR (r := MI.rNeA K) (MI.op_neA hr.units) (TB.pe_own h_alike (hr.mono (by decide)) (by rfl) (pa_cons (pv 5) (pa_cons (pv 4) pa_nil))) (pe_cmpR (r := MI.rEqA K) (MI.op_eqA hr.units) (TB.pe_own h_atoms (hr.mono (by decide)) (by rfl) (pa_cons (pv 5) pa_nil)) (TB.pe_own h_atoms (hr.mono (by decide)) (by rfl) (pa_cons (pv 4) pa_nil)) (nomark _)) (nomark _))
 (pss_one (ps_ret pe_bl)) pss_nil)
 (pss_cons (ps_asg (pe_tup (pa_cons (TB.pe_own h__law_draw (hr.mono (by decide)) (by rfl) (pa_cons (pv 1) (pa_cons (pv 3) pa_nil))) (pa_cons (pe_op (r := MI.rAddA K) MI.op_addA pe_int (TB.pe_own h__law_draw (hr.mono (by decide)) (by rfl) (pa_cons (pv 1) (pa_cons pe_int pa_nil)))) pa_nil))) (pg_tup rfl (pgs_cons (pg_name (i := 7) sc_law.nd rfl (.inr rfl)) (pgs_cons (pg_name (i := 8) sc_law.nd rfl (.inr rfl)) pgs_nil))))
 (pss_cons (ps_setLc (i := 9) (own := [("_law_own", 12)]) (g := gName 12) rfl sc_law.nd rfl rfl (sw_true rfl rfl rfl (by decide +kernel)) (show PI _ _ _ (MI.iSeq K _) from MI.pi_seq (pe_tup (pa_cons (pv 5) (pa_cons (pv 4) pa_nil)))) (blkOk_by (N := n_law) (sc := defScope s_law) (by decide +kernel)) (fun _ _ _ _ _ => pg_name (i := 12) sc_law.nd rfl (.inl rfl)) (fun _ _ _ _ _ => pts_nil) (fun _ _ _ _ _ => (pe_lc (own := [("_law_brick", 13)]) (g := gName 13) rfl sc_law.nd (show PI _ _ _ (MI.iSeq K _) from MI.pi_seq (pv 12)) (blkOk_by (N := n_law) (sc := ({ kind := .function, names := [(".0", .local), ("_law_own", .local), ("_law_axis", .cell), ("_law_many", .cell)], isGenerator := false, isCoroutine := false })) (by decide +kernel)) (fun _ _ _ _ _ => pg_name (i := 13) sc_law.nd rfl (.inl rfl)) (fun _ _ _ _ _ => pts_nil) (fun _ _ _ _ _ => (TB.pe_own h__law_with (hr.mono (by decide)) (by rfl) (pa_cons (pv 13) (pa_cons (pv 7) (pa_cons (pe_op (r := MI.rMulA K) MI.op_mulA (pe_ix (r := rIx K) ix_seq (pv 13) (pv 7) (fun _ _ => rfl)) (pv 8)) pa_nil))))))))
 (pss_one (ps_if (pt_cmpR (r := MI.rLeA K) (MI.op_leA hr.units) (pe_callB (r := MI.rMaxA K) (MI.cr_maxA rfl hr.units) (by rfl) T.n_max (by decide +kernel) (pa_cons (pe_lc (own := [("_law_brick", 13)]) (g := gName 13) rfl sc_law.nd (show PI _ _ _ (MI.iSeq K _) from MI.pi_seq (pe_op (r := MI.rAddA K) MI.op_addA (pe_ix (r := rIx K) ix_seq (pv 9) pe_int (fun _ _ => rfl)) (pe_ix (r := rIx K) ix_seq (pv 9) pe_int (fun _ _ => rfl)))) (blkOk_by (N := n_law) (sc := defScope s_law) (by decide +kernel)) (fun _ _ _ _ _ => pg_name (i := 13) sc_law.nd rfl (.inl rfl)) (fun _ _ _ _ _ => pts_nil) (fun _ _ _ _ _ => (pe_callB (r := MI.rMaxA K) (MI.cr_maxA rfl hr.units) (by rfl) T.n_max (by decide +kernel) (pa_cons (pv 13) pa_nil)))) pa_nil)) (pe_op op_pow pe_int pe_int) (nomark _))
 (pss_one (ps_if (pt_cmpR (r := MI.rNeA K) (MI.op_neA hr.units) (TB.pe_own h_within (hr.mono (by decide)) (by rfl) (pa_cons (pe_callTy (r := TB.rTupQ K) call_tuple_of (by rfl) T.n_tuple (by decide +kernel) (pa_cons (pe_ix (r := rIx K) ix_seq (pv 9) pe_int (fun _ _ => rfl)) pa_nil)) (pa_cons (pe_callTy (r := TB.rTupQ K) call_tuple_of (by rfl) T.n_tuple (by decide +kernel) (pa_cons (pe_ix (r := rIx K) ix_seq (pv 9) pe_int (fun _ _ => rfl)) pa_nil)) pa_nil))) (TB.pe_own h_within (hr.mono (by decide)) (by rfl) (pa_cons (pv 4) (pa_cons (pv 5) pa_nil))) (nomark _))
 (pss_one (ps_ret pe_bl)) pss_nil)) pss_nil))))))))))))
 (pss_one (ps_ret pe_bl)))), ?_⟩
  refine ⟨_, rfl, a, ns, rfl, hS, hn, fun d g l H1 e1 hd hg D1 => ?_⟩
  exact run_L (k := 12) (fun c hc =>
    (ss_seq (ss_forK (L := [1]) (si_range1 (se_int 8)) (show SGv c [2] _ _ from (sg_name (by decide)))
 (ss_seq (ss_asg (se_op (os_add (K := K)) (se_int 1) (se_callW hc (sa_cons (se_int 3) sa_nil))) (sg_name (vs := [3]) (by decide)))
 (ss_seq (ss_asg (se_cb (cas_tuple (K := K)) (sa_cons (se_fr (seo_lc (si_seq (K := K) (se_tup (sa_cons (se_int 0) (sa_cons (se_int 1) sa_nil)))) (sg_name (by decide)) st_ok (se_cb (cas_tuple (K := K)) (sa_cons (se_fr (seo_lc (si_range1 (se_var 3)) (sg_name (by decide)) st_ok (se_op (os_add (K := K)) (se_int 1) (se_callW hc (sa_cons (se_int 900) sa_nil))))) sa_nil)))) sa_nil)) (sg_name (vs := [4]) (by decide)))
 (ss_seq (ss_asg (se_tup (sa_cons (se_callW hc (sa_cons (se_lst (sa_cons (se_callW hc (sa_cons (se_var 4) (sa_cons (se_int 9) sa_nil))) (sa_cons (se_callW hc (sa_cons (se_var 4) (sa_cons (se_int 9) sa_nil))) sa_nil))) sa_nil)) (sa_cons (se_callW hc (sa_cons (se_var 4) (sa_cons (se_int 9) sa_nil))) sa_nil))) (sg_name (vs := [5]) (by decide)))
 (ss_seq (ss_if (st_oo (st_no (st_val (se_call (sa_cons (se_var 5) (sa_cons (se_var 4) sa_nil))))) (st_val (se_op os_isNot (se_call (sa_cons (se_var 5) (sa_cons (se_var 4) sa_nil))) se_non)))
 (ss_ret (se_bl false))
 ss_nx)
 (ss_seq (ss_asg (se_callW hc (sa_cons (se_lst (sa_cons (se_callW hc (sa_cons (se_var 5) (sa_cons (se_int 9) sa_nil))) (sa_cons (se_op (os_it (K := K)) (se_var 5) (se_int 0)) sa_nil))) sa_nil)) (sg_name (vs := [6]) (by decide)))
 (ss_seq (ss_if (st_oo (st_no (st_val (se_call (sa_cons (se_var 5) (sa_cons (se_var 6) sa_nil))))) (st_no (st_val (se_call (sa_cons (se_var 4) (sa_cons (se_var 6) sa_nil))))))
 (ss_ret (se_bl false))
 ss_nx)
 (ss_seq (ss_if (st_val (se_op (os_ne (K := K)) (se_call (sa_cons (se_var 5) (sa_cons (se_var 4) sa_nil))) (se_op (os_eq (K := K)) (se_call (sa_cons (se_var 5) sa_nil)) (se_call (sa_cons (se_var 4) sa_nil)))))
 (ss_ret (se_bl false))
 ss_nx)
 (ss_seq (ss_asg (se_tup (sa_cons (se_callW hc (sa_cons (se_var 3) sa_nil)) (sa_cons (se_op (os_add (K := K)) (se_int 1) (se_callW hc (sa_cons (se_int 99) sa_nil))) sa_nil))) (show SGv c [7, 8] _ _ from (sg_tup (K := K) (sgs_cons (sg_name (by decide)) (sgs_cons (sg_name (by decide)) sgs_nil)))))
 (ss_seq (ss_asg (se_fr (seo_lc (si_seq (K := K) (se_tup (sa_cons (se_var 5) (sa_cons (se_var 4) sa_nil)))) (sg_name (by decide)) st_ok (se_fr (seo_lc (si_seq (K := K) (se_var 12)) (sg_name (by decide)) st_ok (se_call (sa_cons (se_var 13) (sa_cons (se_var 7) (sa_cons (se_op (os_mul (K := K)) (se_op (os_it (K := K)) (se_var 13) (se_var 7)) (se_var 8)) sa_nil)))))))) (sg_name (vs := [9]) (by decide)))
 (ss_if (st_val (se_op (os_leA (K := K)) (se_cb (cas_max1A (K := K)) (sa_cons (se_fr (seo_lc (si_seq (K := K) (se_op (os_add (K := K)) (se_op (os_it (K := K)) (se_var 9) (se_int 0)) (se_op (os_it (K := K)) (se_var 9) (se_int 1)))) (sg_name (by decide)) st_ok (se_cb (cas_max1A (K := K)) (sa_cons (se_var 13) sa_nil)))) sa_nil)) (se_op os_pow (se_int 10) (se_int 12))))
 (ss_if (st_val (se_op (os_ne (K := K)) (se_call (sa_cons (se_cb (cas_tuple (K := K)) (sa_cons (se_op (os_it (K := K)) (se_var 9) (se_int 1)) sa_nil)) (sa_cons (se_cb (cas_tuple (K := K)) (sa_cons (se_op (os_it (K := K)) (se_var 9) (se_int 0)) sa_nil)) sa_nil))) (se_call (sa_cons (se_var 4) (sa_cons (se_var 5) sa_nil)))))
 (ss_ret (se_bl false))
 ss_nx)
 ss_nx)))))))))))
 (ss_ret (se_bl true)))) D1 lt q
end
end K29
set_option Elab.async false
set_option linter.all false
set_option maxRecDepth 100000
set_option maxHeartbeats 4000000
namespace K29
open PySem PySem.Spec PyProof.Rows L2 MI GE TY TW
def W_law (k : Bool → Prop) : Prop := (forW (S := Unit) (rngI 0 8) (fun x1 s2 nx3 => (W_draw 3 (fun v9 => ((∀ axes11 : Int, axes11 = (1 + v9) → (mapW [0, 1] (fun x13 k14 => ((-(2 ^ 62) ≤ (axes11 : Int) ∧ (axes11 : Int) < 2 ^ 62) ∧ ((rngI 0 axes11)).length ≤ 100000 ∧ mapW (rngI 0 axes11) (fun x18 k19 => (W_draw 900 (fun v23 => (k19 (1 + v23))))) [] (fun l25 => (k14 l25)))) [] (fun l27 => (W__law_cut_box l27 9 (fun v29 => (W__law_plain_box l27 9 (fun v31 => (W_one [v29, v31] (fun v33 => (W__law_cut_box l27 9 (fun v35 => ((∀ made37 : ((List Int) × (List Int)), made37 = (v33, v35) → (D_within [made37.1, made37.2] l27 ∧ ((!(F_within [made37.1, made37.2] l27)) = false → (D_escape [made37.1, made37.2] l27)) ∧ (((!(F_within [made37.1, made37.2] l27)) || (!((F_escape [made37.1, made37.2] l27)).isNone)) = true → (k false)) ∧ (((!(F_within [made37.1, made37.2] l27)) || (!((F_escape [made37.1, made37.2] l27)).isNone)) = false → (W__law_plain_box [made37.1, made37.2] 9 (fun v42 => (W_one [v42, made37.1] (fun v44 => (D_is_filled [made37.1, made37.2] v44 ∧ ((!(F_is_filled [made37.1, made37.2] v44)) = false → (D_is_filled l27 v44)) ∧ (((!(F_is_filled [made37.1, made37.2] v44)) || (!(F_is_filled l27 v44))) = true → (k false)) ∧ (((!(F_is_filled [made37.1, made37.2] v44)) || (!(F_is_filled l27 v44))) = false → (D_alike [made37.1, made37.2] l27 ∧ D_atoms [made37.1, made37.2] ∧ D_atoms l27 ∧ ((!decide (((F_alike [made37.1, made37.2] l27) : Bool) = (decide (((F_atoms [made37.1, made37.2]) : (List (List Int))) = (F_atoms l27))))) = true → (k false)) ∧ ((!decide (((F_alike [made37.1, made37.2] l27) : Bool) = (decide (((F_atoms [made37.1, made37.2]) : (List (List Int))) = (F_atoms l27))))) = false → (W_draw axes11 (fun v51 => (W_draw 99 (fun v53 => ((∀ x55 ∈ [[made37.1, made37.2], l27], ((x55).length ≤ 100000 ∧ (∀ x57 ∈ x55, ((0 ≤ ((v51, (1 + v53)).1 : Int) ∧ ((v51, (1 + v53)).1 : Int) < (x57).length) ∧ CMulW (ix x57 (v51, (1 + v53)).1) (v51, (1 + v53)).2 ∧ D__law_with x57 (v51, (1 + v53)).1 ((ix x57 (v51, (1 + v53)).1) * (v51, (1 + v53)).2))))) ∧ (∀ rows59 : (List (List (List Int))), rows59 = ([[made37.1, made37.2], l27].map (fun x55 : (List (List Int)) => (x55.map (fun x57 : (List Int) => (F__law_with x57 (v51, (1 + v53)).1 ((ix x57 (v51, (1 + v53)).1) * (v51, (1 + v53)).2)))))) → ((0 ≤ (0 : Int) ∧ (0 : Int) < (rows59).length) ∧ (0 ≤ (1 : Int) ∧ (1 : Int) < (rows59).length) ∧ ((ix rows59 0) : (List (List Int))).length + ((ix rows59 1) : (List (List Int))).length ≤ 100000 ∧ (((ix rows59 0) ++ (ix rows59 1))).length ≤ 100000 ∧ (∀ x64 ∈ ((ix rows59 0) ++ (ix rows59 1)), (x64 ≠ [])) ∧ (((ix rows59 0) ++ (ix rows59 1)).map (fun x64 : (List Int) => (maxI x64))) ≠ [] ∧ ((decide ((maxI (((ix rows59 0) ++ (ix rows59 1)).map (fun x64 : (List Int) => (maxI x64)))) ≤ 1000000000000)) = true → ((0 ≤ (1 : Int) ∧ (1 : Int) < (rows59).length) ∧ (0 ≤ (0 : Int) ∧ (0 : Int) < (rows59).length) ∧ D_within (ix rows59 1) (ix rows59 0) ∧ D_within l27 [made37.1, made37.2] ∧ ((!decide (((F_within (ix rows59 1) (ix rows59 0)) : Bool) = (F_within l27 [made37.1, made37.2]))) = true → (k false)) ∧ ((!decide (((F_within (ix rows59 1) (ix rows59 0)) : Bool) = (F_within l27 [made37.1, made37.2]))) = false → (nx3 ())))) ∧ ((decide ((maxI (((ix rows59 0) ++ (ix rows59 1)).map (fun x64 : (List Int) => (maxI x64)))) ≤ 1000000000000)) = false → (nx3 ())))))))))))))))))))))))))))))))))))) (fun s71 => (k true)) ())
theorem w_law_b {k : Bool → Prop} (h : W_law k) (D : DN) (hk : ∀ v, k v → D.rt (eB v)) : b_law D [none, some .dck, none, none, none, none, none, none, none, none, none, none, none, none] := by
  unfold b_law
  exact (k_for (S := Unit) (e := eI) (re := fun s2 => [none, some .dck, none, none, none, none, none, none, none, none, none, none, none, none]) (body := (fun x1 s2 nx3 => (W_draw 3 (fun v9 => ((∀ axes11 : Int, axes11 = (1 + v9) → (mapW [0, 1] (fun x13 k14 => ((-(2 ^ 62) ≤ (axes11 : Int) ∧ (axes11 : Int) < 2 ^ 62) ∧ ((rngI 0 axes11)).length ≤ 100000 ∧ mapW (rngI 0 axes11) (fun x18 k19 => (W_draw 900 (fun v23 => (k19 (1 + v23))))) [] (fun l25 => (k14 l25)))) [] (fun l27 => (W__law_cut_box l27 9 (fun v29 => (W__law_plain_box l27 9 (fun v31 => (W_one [v29, v31] (fun v33 => (W__law_cut_box l27 9 (fun v35 => ((∀ made37 : ((List Int) × (List Int)), made37 = (v33, v35) → (D_within [made37.1, made37.2] l27 ∧ ((!(F_within [made37.1, made37.2] l27)) = false → (D_escape [made37.1, made37.2] l27)) ∧ (((!(F_within [made37.1, made37.2] l27)) || (!((F_escape [made37.1, made37.2] l27)).isNone)) = true → (k false)) ∧ (((!(F_within [made37.1, made37.2] l27)) || (!((F_escape [made37.1, made37.2] l27)).isNone)) = false → (W__law_plain_box [made37.1, made37.2] 9 (fun v42 => (W_one [v42, made37.1] (fun v44 => (D_is_filled [made37.1, made37.2] v44 ∧ ((!(F_is_filled [made37.1, made37.2] v44)) = false → (D_is_filled l27 v44)) ∧ (((!(F_is_filled [made37.1, made37.2] v44)) || (!(F_is_filled l27 v44))) = true → (k false)) ∧ (((!(F_is_filled [made37.1, made37.2] v44)) || (!(F_is_filled l27 v44))) = false → (D_alike [made37.1, made37.2] l27 ∧ D_atoms [made37.1, made37.2] ∧ D_atoms l27 ∧ ((!decide (((F_alike [made37.1, made37.2] l27) : Bool) = (decide (((F_atoms [made37.1, made37.2]) : (List (List Int))) = (F_atoms l27))))) = true → (k false)) ∧ ((!decide (((F_alike [made37.1, made37.2] l27) : Bool) = (decide (((F_atoms [made37.1, made37.2]) : (List (List Int))) = (F_atoms l27))))) = false → (W_draw axes11 (fun v51 => (W_draw 99 (fun v53 => ((∀ x55 ∈ [[made37.1, made37.2], l27], ((x55).length ≤ 100000 ∧ (∀ x57 ∈ x55, ((0 ≤ ((v51, (1 + v53)).1 : Int) ∧ ((v51, (1 + v53)).1 : Int) < (x57).length) ∧ CMulW (ix x57 (v51, (1 + v53)).1) (v51, (1 + v53)).2 ∧ D__law_with x57 (v51, (1 + v53)).1 ((ix x57 (v51, (1 + v53)).1) * (v51, (1 + v53)).2))))) ∧ (∀ rows59 : (List (List (List Int))), rows59 = ([[made37.1, made37.2], l27].map (fun x55 : (List (List Int)) => (x55.map (fun x57 : (List Int) => (F__law_with x57 (v51, (1 + v53)).1 ((ix x57 (v51, (1 + v53)).1) * (v51, (1 + v53)).2)))))) → ((0 ≤ (0 : Int) ∧ (0 : Int) < (rows59).length) ∧ (0 ≤ (1 : Int) ∧ (1 : Int) < (rows59).length) ∧ ((ix rows59 0) : (List (List Int))).length + ((ix rows59 1) : (List (List Int))).length ≤ 100000 ∧ (((ix rows59 0) ++ (ix rows59 1))).length ≤ 100000 ∧ (∀ x64 ∈ ((ix rows59 0) ++ (ix rows59 1)), (x64 ≠ [])) ∧ (((ix rows59 0) ++ (ix rows59 1)).map (fun x64 : (List Int) => (maxI x64))) ≠ [] ∧ ((decide ((maxI (((ix rows59 0) ++ (ix rows59 1)).map (fun x64 : (List Int) => (maxI x64)))) ≤ 1000000000000)) = true → ((0 ≤ (1 : Int) ∧ (1 : Int) < (rows59).length) ∧ (0 ≤ (0 : Int) ∧ (0 : Int) < (rows59).length) ∧ D_within (ix rows59 1) (ix rows59 0) ∧ D_within l27 [made37.1, made37.2] ∧ ((!decide (((F_within (ix rows59 1) (ix rows59 0)) : Bool) = (F_within l27 [made37.1, made37.2]))) = true → (k false)) ∧ ((!decide (((F_within (ix rows59 1) (ix rows59 0)) : Bool) = (F_within l27 [made37.1, made37.2]))) = false → (nx3 ())))) ∧ ((decide ((maxI (((ix rows59 0) ++ (ix rows59 1)).map (fun x64 : (List Int) => (maxI x64)))) ≤ 1000000000000)) = false → (nx3 ()))))))))))))))))))))))))))))))))))))) (k := (fun s71 => (k true))) (it_r1 (ev_c _) (by decide)) rfl (fun x1 s2 nx3 D4 hr5 hn6 hc7 h8 => (k_gv (r' := [none, some .dck, some (.dat (eI x1)), none, none, none, none, none, none, none, none, none, none, none]) (fun P h => h) (k_asgW (run_op (ev_run (d := (eI 1)) (ev_c _) (run_callW (i := 1) rfl (run_cons (ev_run (d := (eI 3)) (ev_c _) (run_nil (w_draw h8 _ _ (fun v9 h10 => ((p_add 1 v9) _ _ (k_let (1 + v9) fun axes11 e12 => (k_gv (r' := [none, some .dck, some (.dat (eI x1)), some (.dat (eI axes11)), none, none, none, none, none, none, none, none, none, none]) (gv_eq (e := eI) e12) (k_asgW (run_cb (run_cons (run_fr (run_lc (r := [none, some .dck, some (.dat (eI x1)), some (.dat (eI axes11)), none, none, none, none, none, none, none, none, none, none]) (vs := [10]) (e := eI) (e' := (eT eI)) (body := (fun x13 k14 => ((-(2 ^ 62) ≤ (axes11 : Int) ∧ (axes11 : Int) < 2 ^ 62) ∧ ((rngI 0 axes11)).length ≤ 100000 ∧ mapW (rngI 0 axes11) (fun x18 k19 => (W_draw 900 (fun v23 => (k19 (1 + v23))))) [] (fun l25 => (k14 l25))))) (rx := fun x13 => [none, some .dck, some (.dat (eI x1)), some (.dat (eI axes11)), none, none, none, none, none, none, some (.dat (eI x13)), none, none, none]) (it_T (e := eI) (show EV _ _ ((eT eI) [0, 1]) from ev_tup (ea_cons (ev_c _) (ea_cons (ev_c _) ea_nil)) (Nat.le_of_ble_eq_true rfl))) ⟨trivial, trivial⟩ (Nat.le_of_ble_eq_true rfl) (fun x13 => (fun P h => h)) (fun x13 k14 Q15 h16 hk17 => (run_cb (run_cons (run_fr (run_lc (r := [none, some .dck, some (.dat (eI x1)), some (.dat (eI axes11)), none, none, none, none, none, none, some (.dat (eI x13)), none, none, none]) (vs := [11]) (e := eI) (e' := eI) (body := (fun x18 k19 => (W_draw 900 (fun v23 => (k19 (1 + v23)))))) (rx := fun x18 => [none, some .dck, some (.dat (eI x1)), some (.dat (eI axes11)), none, none, none, none, none, none, some (.dat (eI x13)), some (.dat (eI x18)), none, none]) (it_r1 (ev_var rfl) h16.1) ⟨trivial, trivial⟩ h16.2.1 (fun x18 => (fun P h => h)) (fun x18 k19 Q20 h21 hk22 => (run_op (ev_run (d := (eI 1)) (ev_c _) (run_callW (i := 1) rfl (run_cons (ev_run (d := (eI 900)) (ev_c _) (run_nil (w_draw h21 _ _ (fun v23 h24 => ((p_add 1 v23) _ _ (hk22 _ h24))))))))))) h16.2.2 (fun l25 h26 => (run_nil ((c_tupL eI l25) _ _ (hk17 _ h26))))))))) (h10 axes11 e12) (fun l27 h28 => (run_nil ((c_tupL (eT eI) l27) _ _ (k_gv (r' := [none, some .dck, some (.dat (eI x1)), some (.dat (eI axes11)), some (.dat ((eT (eT eI)) l27)), none, none, none, none, none, none, none, none, none]) (fun P h => h) (k_asgW (run_tup (run_cons (run_callW (i := 1) rfl (run_cons (run_lst (run_cons (run_callW (i := 1) rfl (run_cons (ev_run (d := ((eT (eT eI)) l27)) (ev_var rfl) (run_cons (ev_run (d := (eI 9)) (ev_c _) (run_nil (w__law_cut_box h28 _ _ (fun v29 h30 => (run_cons (run_callW (i := 1) rfl (run_cons (ev_run (d := ((eT (eT eI)) l27)) (ev_var rfl) (run_cons (ev_run (d := (eI 9)) (ev_c _) (run_nil (w__law_plain_box h30 _ _ (fun v31 h32 => (run_nil ⟨Nat.le_of_ble_eq_true rfl, (run_nil (w_one (e := (eT eI)) h32 _ _ (fun v33 h34 => (run_cons (run_callW (i := 1) rfl (run_cons (ev_run (d := ((eT (eT eI)) l27)) (ev_var rfl) (run_cons (ev_run (d := (eI 9)) (ev_c _) (run_nil (w__law_cut_box h34 _ _ (fun v35 h36 => (run_nil ⟨Nat.le_of_ble_eq_true rfl, (k_let (v33, v35) fun made37 e38 => (k_gv (r' := [none, some .dck, some (.dat (eI x1)), some (.dat (eI axes11)), some (.dat ((eT (eT eI)) l27)), some (.dat ((e2 (eT eI) (eT eI)) made37)), none, none, none, none, none, none, none, none]) (gv_eq (e := (e2 (eT eI) (eT eI))) e38) (k_if (eb_or (eb_no (eb_t (show EV _ _ (eB (F_within [made37.1, made37.2] l27)) from ev_call (f_within [made37.1, made37.2] l27 (h36 made37 e38).1) (ea_cons (show EV _ _ ((eT (eT eI)) [made37.1, made37.2]) from (ev_var rfl)) (ea_cons (ev_var rfl) ea_nil))))) (fun h39 => (eb_t (ev_op (p_isNotNoneO (e := (eT eI)) (fun _ => rfl) (F_escape [made37.1, made37.2] l27)) (show EV _ _ ((eO (eT eI)) (F_escape [made37.1, made37.2] l27)) from ev_call (f_escape [made37.1, made37.2] l27 ((h36 made37 e38).2.1 h39)) (ea_cons (show EV _ _ ((eT (eT eI)) [made37.1, made37.2]) from (ev_var rfl)) (ea_cons (ev_var rfl) ea_nil))) (ev_c _))))) (fun h40 => (k_retS (ev_c _) (rt_of hr5 (hk _ ((h36 made37 e38).2.2.1 h40))))) (fun h41 => (k_nx (k_asgW (run_callW (i := 1) rfl (run_cons (run_lst (run_cons (run_callW (i := 1) rfl (run_cons (ev_run (d := ((eT (eT eI)) [made37.1, made37.2])) (show EV _ _ ((eT (eT eI)) [made37.1, made37.2]) from (ev_var rfl)) (run_cons (ev_run (d := (eI 9)) (ev_c _) (run_nil (w__law_plain_box ((h36 made37 e38).2.2.2 h41) _ _ (fun v42 h43 => (run_cons (ev_run (d := ((eT eI) made37.1)) (show EV _ _ ((eT eI) made37.1) from ev_op (p_itD rfl) (ev_var rfl) (ev_c _)) (run_nil ⟨Nat.le_of_ble_eq_true rfl, (run_nil (w_one (e := (eT eI)) h43 _ _ (fun v44 h45 => (k_gv (r' := [none, some .dck, some (.dat (eI x1)), some (.dat (eI axes11)), some (.dat ((eT (eT eI)) l27)), some (.dat ((e2 (eT eI) (eT eI)) made37)), some (.dat ((eT eI) v44)), none, none, none, none, none, none, none]) (fun P h => h) (k_if (eb_or (eb_no (eb_t (show EV _ _ (eB (F_is_filled [made37.1, made37.2] v44)) from ev_call (f_is_filled [made37.1, made37.2] v44 h45.1) (ea_cons (show EV _ _ ((eT (eT eI)) [made37.1, made37.2]) from (ev_var rfl)) (ea_cons (ev_var rfl) ea_nil))))) (fun h46 => (eb_no (eb_t (show EV _ _ (eB (F_is_filled l27 v44)) from ev_call (f_is_filled l27 v44 (h45.2.1 h46)) (ea_cons (ev_var rfl) (ea_cons (ev_var rfl) ea_nil))))))) (fun h47 => (k_retS (ev_c _) (rt_of hr5 (hk _ (h45.2.2.1 h47))))) (fun h48 => (k_nx (k_if (eb_t (ev_op (p_ne cmpB (by decide) (F_alike [made37.1, made37.2] l27) (decide (((F_atoms [made37.1, made37.2]) : (List (List Int))) = (F_atoms l27)))) (show EV _ _ (eB (F_alike [made37.1, made37.2] l27)) from ev_call (f_alike [made37.1, made37.2] l27 (h45.2.2.2 h48).1) (ea_cons (show EV _ _ ((eT (eT eI)) [made37.1, made37.2]) from (ev_var rfl)) (ea_cons (ev_var rfl) ea_nil))) (ev_op (p_eq (cmpT (cmpT cmpI)) (by decide) (F_atoms [made37.1, made37.2]) (F_atoms l27)) (show EV _ _ ((eT (eT eI)) (F_atoms [made37.1, made37.2])) from ev_call (f_atoms [made37.1, made37.2] (h45.2.2.2 h48).2.1) (ea_cons (show EV _ _ ((eT (eT eI)) [made37.1, made37.2]) from (ev_var rfl)) ea_nil)) (show EV _ _ ((eT (eT eI)) (F_atoms l27)) from ev_call (f_atoms l27 (h45.2.2.2 h48).2.2.1) (ea_cons (ev_var rfl) ea_nil))))) (fun h49 => (k_retS (ev_c _) (rt_of hr5 (hk _ ((h45.2.2.2 h48).2.2.2.1 h49))))) (fun h50 => (k_nx (k_asgW (run_tup (run_cons (run_callW (i := 1) rfl (run_cons (ev_run (d := (eI axes11)) (ev_var rfl) (run_nil (w_draw ((h45.2.2.2 h48).2.2.2.2 h50) _ _ (fun v51 h52 => (run_cons (run_op (ev_run (d := (eI 1)) (ev_c _) (run_callW (i := 1) rfl (run_cons (ev_run (d := (eI 99)) (ev_c _) (run_nil (w_draw h52 _ _ (fun v53 h54 => ((p_add 1 v53) _ _ (run_nil ⟨Nat.le_of_ble_eq_true rfl, (k_gv (r' := [none, some .dck, some (.dat (eI x1)), some (.dat (eI axes11)), some (.dat ((eT (eT eI)) l27)), some (.dat ((e2 (eT eI) (eT eI)) made37)), some (.dat ((eT eI) v44)), some (.dat (eI (v51, (1 + v53)).1)), some (.dat (eI (v51, (1 + v53)).2)), none, none, none, none, none]) (fun P h => ⟨rfl, h⟩) (k_let ([[made37.1, made37.2], l27].map (fun x55 : (List (List Int)) => (x55.map (fun x57 : (List Int) => (F__law_with x57 (v51, (1 + v53)).1 ((ix x57 (v51, (1 + v53)).1) * (v51, (1 + v53)).2)))))) fun rows59 e60 => (k_asg (r' := [none, some .dck, some (.dat (eI x1)), some (.dat (eI axes11)), some (.dat ((eT (eT eI)) l27)), some (.dat ((e2 (eT eI) (eT eI)) made37)), some (.dat ((eT eI) v44)), some (.dat (eI (v51, (1 + v53)).1)), some (.dat (eI (v51, (1 + v53)).2)), some (.dat ((eL (eL (eT eI))) rows59)), none, none, none, none]) (ev_eq (e := (eL (eL (eT eI)))) e60 (show EV _ _ ((eL (eL (eT eI))) ([[made37.1, made37.2], l27].map (fun x55 : (List (List Int)) => (x55.map (fun x57 : (List Int) => (F__law_with x57 (v51, (1 + v53)).1 ((ix x57 (v51, (1 + v53)).1) * (v51, (1 + v53)).2))))))) from ev_fr (eo_lc (r := [none, some .dck, some (.dat (eI x1)), some (.dat (eI axes11)), some (.dat ((eT (eT eI)) l27)), some (.dat ((e2 (eT eI) (eT eI)) made37)), some (.dat ((eT eI) v44)), some (.dat (eI (v51, (1 + v53)).1)), some (.dat (eI (v51, (1 + v53)).2)), none, none, none, none, none]) (vs := [12]) (e := (eT (eT eI))) (e' := (eL (eT eI))) (f := fun x55 => (x55.map (fun x57 : (List Int) => (F__law_with x57 (v51, (1 + v53)).1 ((ix x57 (v51, (1 + v53)).1) * (v51, (1 + v53)).2))))) (rx := fun x55 => [none, some .dck, some (.dat (eI x1)), some (.dat (eI axes11)), some (.dat ((eT (eT eI)) l27)), some (.dat ((e2 (eT eI) (eT eI)) made37)), some (.dat ((eT eI) v44)), some (.dat (eI (v51, (1 + v53)).1)), some (.dat (eI (v51, (1 + v53)).2)), none, none, none, some (.dat ((eT (eT eI)) x55)), none]) (it_T (e := (eT (eT eI))) (show EV _ _ ((eT (eT (eT eI))) [[made37.1, made37.2], l27]) from ev_tup (ea_cons (show EV _ _ ((eT (eT eI)) [made37.1, made37.2]) from (ev_var rfl)) (ea_cons (ev_var rfl) ea_nil)) (Nat.le_of_ble_eq_true rfl))) ⟨trivial, trivial⟩ (Nat.le_of_ble_eq_true rfl) (fun x55 h56 => (fun P h => h)) (fun x55 h56 => (show EV _ _ ((eL (eT eI)) (x55.map (fun x57 : (List Int) => (F__law_with x57 (v51, (1 + v53)).1 ((ix x57 (v51, (1 + v53)).1) * (v51, (1 + v53)).2))))) from ev_fr (eo_lc (r := [none, some .dck, some (.dat (eI x1)), some (.dat (eI axes11)), some (.dat ((eT (eT eI)) l27)), some (.dat ((e2 (eT eI) (eT eI)) made37)), some (.dat ((eT eI) v44)), some (.dat (eI (v51, (1 + v53)).1)), some (.dat (eI (v51, (1 + v53)).2)), none, none, none, some (.dat ((eT (eT eI)) x55)), none]) (vs := [13]) (e := (eT eI)) (e' := (eT eI)) (f := fun x57 => (F__law_with x57 (v51, (1 + v53)).1 ((ix x57 (v51, (1 + v53)).1) * (v51, (1 + v53)).2))) (rx := fun x57 => [none, some .dck, some (.dat (eI x1)), some (.dat (eI axes11)), some (.dat ((eT (eT eI)) l27)), some (.dat ((e2 (eT eI) (eT eI)) made37)), some (.dat ((eT eI) v44)), some (.dat (eI (v51, (1 + v53)).1)), some (.dat (eI (v51, (1 + v53)).2)), none, none, none, some (.dat ((eT (eT eI)) x55)), some (.dat ((eT eI) x57))]) (it_T (e := (eT eI)) (ev_var rfl)) ⟨trivial, trivial⟩ (h54.1 x55 h56).1 (fun x57 h58 => (fun P h => h)) (fun x57 h58 => (show EV _ _ ((eT eI) (F__law_with x57 (v51, (1 + v53)).1 ((ix x57 (v51, (1 + v53)).1) * (v51, (1 + v53)).2))) from ev_call (f__law_with x57 (v51, (1 + v53)).1 ((ix x57 (v51, (1 + v53)).1) * (v51, (1 + v53)).2) ((h54.1 x55 h56).2 x57 h58).2.2) (ea_cons (ev_var rfl) (ea_cons (ev_var rfl) (ea_cons (ev_op (p_mul (ix x57 (v51, (1 + v53)).1) (v51, (1 + v53)).2 ((h54.1 x55 h56).2 x57 h58).2.1) (ev_op (p_itT eI x57 (v51, (1 + v53)).1 ((h54.1 x55 h56).2 x57 h58).1) (ev_var rfl) (ev_var rfl)) (ev_var rfl)) ea_nil))))))))))) (fun P h => h) (k_last (k_if (eb_t (ev_op (p_leL (p_le (maxI (((ix rows59 0) ++ (ix rows59 1)).map (fun x64 : (List Int) => (maxI x64)))) 1000000000000)) (ev_cb (c_max1A (((ix rows59 0) ++ (ix rows59 1)).map (fun x64 : (List Int) => (maxI x64))) (h54.2 rows59 e60).2.2.2.2.2.1) (ea_cons (show EV _ _ ((eL eI) (((ix rows59 0) ++ (ix rows59 1)).map (fun x64 : (List Int) => (maxI x64)))) from ev_fr (eo_lc (r := [none, some .dck, some (.dat (eI x1)), some (.dat (eI axes11)), some (.dat ((eT (eT eI)) l27)), some (.dat ((e2 (eT eI) (eT eI)) made37)), some (.dat ((eT eI) v44)), some (.dat (eI (v51, (1 + v53)).1)), some (.dat (eI (v51, (1 + v53)).2)), some (.dat ((eL (eL (eT eI))) rows59)), none, none, none, none]) (vs := [13]) (e := (eT eI)) (e' := eI) (f := fun x64 => (maxI x64)) (rx := fun x64 => [none, some .dck, some (.dat (eI x1)), some (.dat (eI axes11)), some (.dat ((eT (eT eI)) l27)), some (.dat ((e2 (eT eI) (eT eI)) made37)), some (.dat ((eT eI) v44)), some (.dat (eI (v51, (1 + v53)).1)), some (.dat (eI (v51, (1 + v53)).2)), some (.dat ((eL (eL (eT eI))) rows59)), none, none, none, some (.dat ((eT eI) x64))]) (it_L (e := (eT eI)) (ev_op (p_catL (eT eI) (ix rows59 0) (ix rows59 1) (h54.2 rows59 e60).2.2.1) (ev_op (p_itL (eL (eT eI)) rows59 0 (h54.2 rows59 e60).1) (ev_var rfl) (ev_c _)) (ev_op (p_itL (eL (eT eI)) rows59 1 (h54.2 rows59 e60).2.1) (ev_var rfl) (ev_c _)))) ⟨trivial, trivial⟩ (h54.2 rows59 e60).2.2.2.1 (fun x64 h65 => (fun P h => h)) (fun x64 h65 => (ev_cb (c_max1T x64 ((h54.2 rows59 e60).2.2.2.2.1 x64 h65)) (ea_cons (ev_var rfl) ea_nil))))) ea_nil)) (ev_eq (e := eI) (show (1000000000000 : Int) = (10 : Int) ^ (12 : Int).toNat from by decide) (ev_op (p_pow 10 12 (by unfold CPow; decide)) (ev_c _) (ev_c _))))) (fun h66 => (k_if (eb_t (ev_op (p_ne cmpB (by decide) (F_within (ix rows59 1) (ix rows59 0)) (F_within l27 [made37.1, made37.2])) (show EV _ _ (eB (F_within (ix rows59 1) (ix rows59 0))) from ev_call (f_within (ix rows59 1) (ix rows59 0) ((h54.2 rows59 e60).2.2.2.2.2.2.1 h66).2.2.1) (ea_cons (ev_cb (c_tupL (eT eI) (ix rows59 1)) (ea_cons (ev_op (p_itL (eL (eT eI)) rows59 1 ((h54.2 rows59 e60).2.2.2.2.2.2.1 h66).1) (ev_var rfl) (ev_c _)) ea_nil)) (ea_cons (ev_cb (c_tupL (eT eI) (ix rows59 0)) (ea_cons (ev_op (p_itL (eL (eT eI)) rows59 0 ((h54.2 rows59 e60).2.2.2.2.2.2.1 h66).2.1) (ev_var rfl) (ev_c _)) ea_nil)) ea_nil))) (show EV _ _ (eB (F_within l27 [made37.1, made37.2])) from ev_call (f_within l27 [made37.1, made37.2] ((h54.2 rows59 e60).2.2.2.2.2.2.1 h66).2.2.2.1) (ea_cons (ev_var rfl) (ea_cons (show EV _ _ ((eT (eT eI)) [made37.1, made37.2]) from (ev_var rfl)) ea_nil))))) (fun h67 => (k_retS (ev_c _) (rt_of hr5 (hk _ (((h54.2 rows59 e60).2.2.2.2.2.2.1 h66).2.2.2.2.1 h67))))) (fun h68 => (k_nx (k_end (hn6 () _ (((h54.2 rows59 e60).2.2.2.2.2.2.1 h66).2.2.2.2.2 h68) rfl)))))) (fun h69 => (k_nx (k_end (hn6 () _ ((h54.2 rows59 e60).2.2.2.2.2.2.2 h69) rfl)))))))))⟩))))))))))))))))))))))))))))))⟩)))))))))))))))))))))⟩)))))))))))))⟩)))))))))))))))))))))))))))))))))))))))))))))))) (fun s71 h70 => (k_ret (ev_c _) (hk _ h70))) h)
theorem law_of (h : W_law (fun v => v = true)) : m_law := by
  unfold m_law
  exact w_law_b h _ (fun v hv => by rw [hv])

section
variable {n : Nat} {m : Int} {p q r s : List Int}
theorem in2_scale (h : PP n m p q r s) {a : Nat} (ha : a < n) {c : Int} (hc : 1 ≤ c) : In2 n (p.set a (gt p a * c)) (q.set a (gt q a * c)) (r.set a (gt r a * c)) (s.set a (gt s a * c)) ↔ In2 n p q r s := by
  unfold In2
  rw [filled_scale h.three.len h.four.len h.one.len ha hc, filled_scale h.three.len h.four.len h.two.len ha hc]
end
theorem law_W : W_law (fun v => v = true) := by
  unfold W_law
  refine forW_each (fun x _ nx hnx => draw_i ⟨by decide, by decide⟩ fun v v0 v1 => fun ax hax => ?_) rfl
  obtain ⟨n, rfl⟩ : ∃ n : Nat, ax = (n : Int) := ⟨ax.toNat, by omega⟩
  have hn : 1 ≤ n ∧ n ≤ 3 := by omega
  refine mapW_all (fun l => SL n 900 l) (fun y _ nx' hnx' => ⟨by omega, by rw [rngI_len]; omega, mapW_all (fun z => 1 ≤ z ∧ z ≤ 900) (fun z _ nx2 hnx2 => draw_i ⟨by decide, by decide⟩ fun c c0 c1 => hnx2 _ (by omega)) fun ys hl hy => hnx' _ ⟨by rw [hl, rngI_len]; omega, hy⟩⟩) fun pr hl hy => ?_
  obtain ⟨p, q, rfl, hp, hq⟩ : ∃ p q, pr = [p, q] ∧ SL n 900 p ∧ SL n 900 q := by
    match pr, hl with
    | [p, q], _ => exact ⟨p, q, rfl, hy p (by simp), hy q (by simp)⟩
  clear hl hy
  refine s_cut (by omega) hp hq (by decide) ⟨by decide, by decide⟩ fun l1 h1 => s_plain (by omega) hp hq (by decide) ⟨by decide, by decide⟩ fun b1 l2 hb1 hl2 hd2 => ⟨⟨by simp, by simp⟩, fun M hM => s_cut (by omega) hp hq (by decide) ⟨by decide, by decide⟩ fun M2 h3 => fun made hmade => ?_⟩
  rw [hmade]
  dsimp only
  have hM1 : SL n (10 ^ 6) M ∧ Filled n p q M := by
    have : M = l1 ∨ M = l2 := by simpa using hM
    rcases this with rfl | rfl
    · exact ⟨h1.sl hp hq (by decide) (by decide), h1.filled hp hq⟩
    · refine ⟨hl2.mono (by decide), ?_⟩
      rcases hb1 with rfl | rfl
      · exact .inl hd2
      · exact .inr (.inl hd2)
  have hM2 : SL n (10 ^ 6) M2 ∧ Filled n p q M2 := ⟨h3.sl hp hq (by decide) (by decide), h3.filled hp hq⟩
  have hp' := hp.mono (m' := 10 ^ 6) (by decide)
  have hq' := hq.mono (m' := 10 ^ 6) (by decide)
  have h : PP n (10 ^ 6) M M2 p q := ⟨by omega, hM1.1, hM2.1, hp', hq', by decide⟩
  have hi : In2 n M M2 p q := ⟨hM1.2, hM2.2⟩
  have wi : F_within [M, M2] [p, q] = true := (within_iff h).mpr hi
  have es : (F_escape [M, M2] [p, q]).isNone = true := wi
  rw [wi, es]
  refine ⟨D_within_ok h, fun _ => D_escape_ok h, fun z => (by cases z), fun _ => s_plain (by omega) hM1.1 hM2.1 (by decide) ⟨by decide, by decide⟩ fun b2 l3 hb2 hl3 hd3 => ⟨⟨by simp, by simp⟩, fun box hbox => ?_⟩⟩
  have hB : SL n (10 ^ 7) box ∧ Filled n M M2 box := by
    have : box = l3 ∨ box = M := by simpa using hbox
    rcases this with rfl | rfl
    · refine ⟨hl3.mono (by decide), ?_⟩
      rcases hb2 with rfl | rfl
      · exact .inl hd3
      · exact .inr (.inl hd3)
    · exact ⟨hM1.1.mono (by decide), .inl (Dv.refl _)⟩
  have PB1 : PB n (10 ^ 6) (10 ^ 7) M M2 box := ⟨by omega, hM1.1, hM2.1, hB.1, by decide, by decide⟩
  have PB2 : PB n (10 ^ 6) (10 ^ 7) p q box := ⟨by omega, hp', hq', hB.1, by decide, by decide⟩
  have f1 : F_is_filled [M, M2] box = true := (filled_iff PB1).mpr hB.2
  have f2 : F_is_filled [p, q] box = true := (filled_iff PB2).mpr (filled_trans h hB.1 hi hB.2)
  dsimp only
  rw [f1, f2]
  refine ⟨D_filled PB1, fun _ => D_filled PB2, fun z => (by cases z), fun _ => ⟨D_alike_ok h, D_atoms_ok hM1.1 hM2.1 (by omega), D_atoms_ok hp hq (by omega), fun z => ?_, fun _ => ?_⟩⟩
  · have : F_alike [M, M2] [p, q] = decide (F_atoms [M, M2] = F_atoms [p, q]) := by
      rw [Bool.eq_iff_iff, decide_eq_true_eq]
      exact (atoms_iff h).symm
    rw [this, decide_eq_true rfl] at z
    cases z
  refine draw_i (by omega) fun a a0 a1 => draw_i ⟨by decide, by decide⟩ fun c c0 c1 => ?_
  obtain ⟨a, rfl⟩ := Int.eq_ofNat_of_zero_le a0
  have ha : a < n := by omega
  have hcc : (1 : Int) ≤ 1 + c := by omega
  have al : ∀ b : List Int, SL n (10 ^ 6) b → (0 ≤ (a : Int) ∧ (a : Int) < (b.length : Int)) ∧ CMulW (ix b (a : Int)) (1 + c) ∧ D__law_with b (a : Int) (ix b (a : Int) * (1 + c)) := fun b hb => by
    have := hb.len
    have := hb.at ha
    refine ⟨by omega, ?_, D_lwith _ (by omega) (by omega)⟩
    rw [ixg]; exact cmul (by omega) (by omega)
  refine ⟨fun own hown => ?_, fun rows hrows => ?_⟩
  · have : own = [M, M2] ∨ own = [p, q] := by simpa using hown
    rcases this with rfl | rfl
    · refine ⟨by simp, fun b hb => ?_⟩
      have : b = M ∨ b = M2 := by simpa using hb
      rcases this with rfl | rfl
      · exact al _ hM1.1
      · exact al _ hM2.1
    · refine ⟨by simp, fun b hb => ?_⟩
      have : b = p ∨ b = q := by simpa using hb
      rcases this with rfl | rfl
      · exact al _ hp'
      · exact al _ hq'
  have er : rows = [[M.set a (gt M a * (1 + c)), M2.set a (gt M2 a * (1 + c))], [p.set a (gt p a * (1 + c)), q.set a (gt q a * (1 + c))]] := by
    have e : ∀ b : List Int, SL n (10 ^ 6) b → F__law_with b (a : Int) (ix b (a : Int) * (1 + c)) = b.set a (gt b a * (1 + c)) := fun b hb => by
      have := hb.len
      rw [ixg, lwith _ (by omega)]
    rw [hrows]
    simp only [List.map_cons, List.map_nil]
    rw [e M hM1.1, e M2 hM2.1, e p hp', e q hq']
  rw [er]
  clear hrows er
  rw [ix0, ix1]
  have sc : ∀ {b : List Int}, SL n (10 ^ 6) b → SL n (10 ^ 9) (b.set a (gt b a * (1 + c))) := fun {b} hb => by
    have := mul_rng (hb.at ha) (show 1 ≤ 1 + c ∧ 1 + c ≤ 99 by omega)
    exact (hb.mono (by decide)).set a (by omega)
  have h2 : PP n (10 ^ 9) (p.set a (gt p a * (1 + c))) (q.set a (gt q a * (1 + c))) (M.set a (gt M a * (1 + c))) (M2.set a (gt M2 a * (1 + c))) := ⟨by omega, sc hp', sc hq', sc hM1.1, sc hM2.1, by decide⟩
  refine ⟨⟨by decide, by simp⟩, ⟨by decide, by simp⟩, by simp, by simp, fun b hb => ?_, by simp, fun _ => ⟨⟨by decide, by simp⟩, ⟨by decide, by simp⟩, D_within_ok h2, D_within_ok h.swap, fun z => ?_, fun _ => hnx⟩, fun _ => hnx⟩
  · have hb' : SL n (10 ^ 9) b := by
      have : b = M.set a (gt M a * (1 + c)) ∨ b = M2.set a (gt M2 a * (1 + c)) ∨ b = p.set a (gt p a * (1 + c)) ∨ b = q.set a (gt q a * (1 + c)) := by simpa using hb
      rcases this with rfl | rfl | rfl | rfl
      · exact sc hM1.1
      · exact sc hM2.1
      · exact sc hp'
      · exact sc hq'
    exact List.ne_nil_of_length_pos (by rw [hb'.len]; omega)
  · have : F_within [p.set a (gt p a * (1 + c)), q.set a (gt q a * (1 + c))] [M.set a (gt M a * (1 + c)), M2.set a (gt M2 a * (1 + c))] = F_within [p, q] [M, M2] := by
      rw [Bool.eq_iff_iff, within_iff h2, within_iff h.swap]
      exact in2_scale h.swap ha hcc
    rw [this, decide_eq_true rfl] at z
    cases z
theorem law_true : m_law := law_of law_W
end K29
set_option Elab.async false
set_option linter.all false
set_option maxRecDepth 100000
namespace K29
open PySem PySem.Spec PyProof.Rows L2 Evl TB DL MI TW
set_option maxHeartbeats 0 in
theorem all_mk {l : PySem.W.OpenLaw} {w : World} {K : PySem.W.Frag} {h : Heap} {mg : Str → Option Value} {fa f1 f2 f3 f4 f5 f6 f7 f8 f9 f10 f11 f12 f13 f14 f15 f16 f17 f18 f19 f20 f21 f22 f23 : Addr} (X : K.In h) (G : h.Ns mainGlobals mg) (hfa : mg "law" = some (.ref fa))
    {od1 an1 od2 an2 od3 an3 od4 an4 od5 an5 od6 an6 od7 an7 od8 an8 od9 an9 od10 an10 od11 an11 od12 an12 od13 an13 od14 an14 od15 an15 od16 an16 od17 an17 od18 an18 od19 an19 od20 an20 od21 an21 od22 an22 od23 an23 : Option Addr} {sl1 sl2 sl3 sl4 sl5 sl6 sl7 sl8 sl9 sl10 sl11 sl12 sl13 sl14 sl15 sl16 sl17 sl18 sl19 sl20 sl21 sl22 sl23 : Array (Option Value)} {oc1 kV1 dc1 pm1 cd1 ct1 oc2 kV2 dc2 pm2 cd2 ct2 oc3 kV3 dc3 pm3 cd3 ct3 oc4 kV4 dc4 pm4 cd4 ct4 oc5 kV5 dc5 pm5 cd5 ct5 oc6 kV6 dc6 pm6 cd6 ct6 oc7 kV7 dc7 pm7 cd7 ct7 oc8 kV8 dc8 pm8 cd8 ct8 oc9 kV9 dc9 pm9 cd9 ct9 oc10 kV10 dc10 pm10 cd10 ct10 oc11 kV11 dc11 pm11 cd11 ct11 oc12 kV12 dc12 pm12 cd12 ct12 oc13 kV13 dc13 pm13 cd13 ct13 oc14 kV14 dc14 pm14 cd14 ct14 oc15 kV15 dc15 pm15 cd15 ct15 oc16 kV16 dc16 pm16 cd16 ct16 oc17 kV17 dc17 pm17 cd17 ct17 oc18 kV18 dc18 pm18 cd18 ct18 oc19 kV19 dc19 pm19 cd19 ct19 oc20 kV20 dc20 pm20 cd20 ct20 oc21 kV21 dc21 pm21 cd21 ct21 oc22 kV22 dc22 pm22 cd22 ct22 oc23 kV23 dc23 pm23 cd23 ct23 : Value}
    (a1 : PySem.W.nsIn K mainGlobals "is_int" = some (some (.ref f1))) (l1 : K.lookup f1 = some ⟨oc1, od1, .func (PySem.W.fnOf "is_int" "is_int" (defArgs s_is_int) (defBody s_is_int) (defScope s_is_int) .none kV1 dc1 pm1 an1 cd1 ct1), sl1⟩) (c1 : PySem.W.codeIn K cd1 "is_int" = true) (k1 : PySem.W.keepIn K (.ref f1) = true)
    (a2 : PySem.W.nsIn K mainGlobals "with_side" = some (some (.ref f2))) (l2 : K.lookup f2 = some ⟨oc2, od2, .func (PySem.W.fnOf "with_side" "with_side" (defArgs s_with_side) (defBody s_with_side) (defScope s_with_side) .none kV2 dc2 pm2 an2 cd2 ct2), sl2⟩) (c2 : PySem.W.codeIn K cd2 "with_side" = true) (k2 : PySem.W.keepIn K (.ref f2) = true)
    (a3 : PySem.W.nsIn K mainGlobals "common_share" = some (some (.ref f3))) (l3 : K.lookup f3 = some ⟨oc3, od3, .func (PySem.W.fnOf "common_share" "common_share" (defArgs s_common_share) (defBody s_common_share) (defScope s_common_share) .none kV3 dc3 pm3 an3 cd3 ct3), sl3⟩) (c3 : PySem.W.codeIn K cd3 "common_share" = true) (k3 : PySem.W.keepIn K (.ref f3) = true)
    (a4 : PySem.W.nsIn K mainGlobals "least_share" = some (some (.ref f4))) (l4 : K.lookup f4 = some ⟨oc4, od4, .func (PySem.W.fnOf "least_share" "least_share" (defArgs s_least_share) (defBody s_least_share) (defScope s_least_share) .none kV4 dc4 pm4 an4 cd4 ct4), sl4⟩) (c4 : PySem.W.codeIn K cd4 "least_share" = true) (k4 : PySem.W.keepIn K (.ref f4) = true)
    (a5 : PySem.W.nsIn K mainGlobals "fills_alone" = some (some (.ref f5))) (l5 : K.lookup f5 = some ⟨oc5, od5, .func (PySem.W.fnOf "fills_alone" "fills_alone" (defArgs s_fills_alone) (defBody s_fills_alone) (defScope s_fills_alone) .none kV5 dc5 pm5 an5 cd5 ct5), sl5⟩) (c5 : PySem.W.codeIn K cd5 "fills_alone" = true) (k5 : PySem.W.keepIn K (.ref f5) = true)
    (a6 : PySem.W.nsIn K mainGlobals "fills_across" = some (some (.ref f6))) (l6 : K.lookup f6 = some ⟨oc6, od6, .func (PySem.W.fnOf "fills_across" "fills_across" (defArgs s_fills_across) (defBody s_fills_across) (defScope s_fills_across) .none kV6 dc6 pm6 an6 cd6 ct6), sl6⟩) (c6 : PySem.W.codeIn K cd6 "fills_across" = true) (k6 : PySem.W.keepIn K (.ref f6) = true)
    (a7 : PySem.W.nsIn K mainGlobals "is_cut" = some (some (.ref f7))) (l7 : K.lookup f7 = some ⟨oc7, od7, .func (PySem.W.fnOf "is_cut" "is_cut" (defArgs s_is_cut) (defBody s_is_cut) (defScope s_is_cut) .none kV7 dc7 pm7 an7 cd7 ct7), sl7⟩) (c7 : PySem.W.codeIn K cd7 "is_cut" = true) (k7 : PySem.W.keepIn K (.ref f7) = true)
    (a8 : PySem.W.nsIn K mainGlobals "runs_across" = some (some (.ref f8))) (l8 : K.lookup f8 = some ⟨oc8, od8, .func (PySem.W.fnOf "runs_across" "runs_across" (defArgs s_runs_across) (defBody s_runs_across) (defScope s_runs_across) .none kV8 dc8 pm8 an8 cd8 ct8), sl8⟩) (c8 : PySem.W.codeIn K cd8 "runs_across" = true) (k8 : PySem.W.keepIn K (.ref f8) = true)
    (a9 : PySem.W.nsIn K mainGlobals "cut_runs" = some (some (.ref f9))) (l9 : K.lookup f9 = some ⟨oc9, od9, .func (PySem.W.fnOf "cut_runs" "cut_runs" (defArgs s_cut_runs) (defBody s_cut_runs) (defScope s_cut_runs) .none kV9 dc9 pm9 an9 cd9 ct9), sl9⟩) (c9 : PySem.W.codeIn K cd9 "cut_runs" = true) (k9 : PySem.W.keepIn K (.ref f9) = true)
    (a10 : PySem.W.nsIn K mainGlobals "is_filled" = some (some (.ref f10))) (l10 : K.lookup f10 = some ⟨oc10, od10, .func (PySem.W.fnOf "is_filled" "is_filled" (defArgs s_is_filled) (defBody s_is_filled) (defScope s_is_filled) .none kV10 dc10 pm10 an10 cd10 ct10), sl10⟩) (c10 : PySem.W.codeIn K cd10 "is_filled" = true) (k10 : PySem.W.keepIn K (.ref f10) = true)
    (a11 : PySem.W.nsIn K mainGlobals "escape" = some (some (.ref f11))) (l11 : K.lookup f11 = some ⟨oc11, od11, .func (PySem.W.fnOf "escape" "escape" (defArgs s_escape) (defBody s_escape) (defScope s_escape) .none kV11 dc11 pm11 an11 cd11 ct11), sl11⟩) (c11 : PySem.W.codeIn K cd11 "escape" = true) (k11 : PySem.W.keepIn K (.ref f11) = true)
    (a12 : PySem.W.nsIn K mainGlobals "within" = some (some (.ref f12))) (l12 : K.lookup f12 = some ⟨oc12, od12, .func (PySem.W.fnOf "within" "within" (defArgs s_within) (defBody s_within) (defScope s_within) .none kV12 dc12 pm12 an12 cd12 ct12), sl12⟩) (c12 : PySem.W.codeIn K cd12 "within" = true) (k12 : PySem.W.keepIn K (.ref f12) = true)
    (a13 : PySem.W.nsIn K mainGlobals "alike" = some (some (.ref f13))) (l13 : K.lookup f13 = some ⟨oc13, od13, .func (PySem.W.fnOf "alike" "alike" (defArgs s_alike) (defBody s_alike) (defScope s_alike) .none kV13 dc13 pm13 an13 cd13 ct13), sl13⟩) (c13 : PySem.W.codeIn K cd13 "alike" = true) (k13 : PySem.W.keepIn K (.ref f13) = true)
    (a14 : PySem.W.nsIn K mainGlobals "atoms" = some (some (.ref f14))) (l14 : K.lookup f14 = some ⟨oc14, od14, .func (PySem.W.fnOf "atoms" "atoms" (defArgs s_atoms) (defBody s_atoms) (defScope s_atoms) .none kV14 dc14 pm14 an14 cd14 ct14), sl14⟩) (c14 : PySem.W.codeIn K cd14 "atoms" = true) (k14 : PySem.W.keepIn K (.ref f14) = true)
    (a15 : PySem.W.nsIn K mainGlobals "_law_deck" = some (some (.ref f15))) (l15 : K.lookup f15 = some ⟨oc15, od15, .func (PySem.W.fnOf "_law_deck" "_law_deck" (defArgs s__law_deck) (defBody s__law_deck) (defScope s__law_deck) .none kV15 dc15 pm15 an15 cd15 ct15), sl15⟩) (c15 : PySem.W.codeIn K cd15 "_law_deck" = true) (k15 : PySem.W.keepIn K (.ref f15) = true)
    (a16 : PySem.W.nsIn K mainGlobals "_law_draw" = some (some (.ref f16))) (l16 : K.lookup f16 = some ⟨oc16, od16, .func (PySem.W.fnOf "_law_draw" "_law_draw" (defArgs s__law_draw) (defBody s__law_draw) (defScope s__law_draw) .none kV16 dc16 pm16 an16 cd16 ct16), sl16⟩) (c16 : PySem.W.codeIn K cd16 "_law_draw" = true) (k16 : PySem.W.keepIn K (.ref f16) = true)
    (a17 : PySem.W.nsIn K mainGlobals "_law_one" = some (some (.ref f17))) (l17 : K.lookup f17 = some ⟨oc17, od17, .func (PySem.W.fnOf "_law_one" "_law_one" (defArgs s__law_one) (defBody s__law_one) (defScope s__law_one) .none kV17 dc17 pm17 an17 cd17 ct17), sl17⟩) (c17 : PySem.W.codeIn K cd17 "_law_one" = true) (k17 : PySem.W.keepIn K (.ref f17) = true)
    (a18 : PySem.W.nsIn K mainGlobals "_law_divisor" = some (some (.ref f18))) (l18 : K.lookup f18 = some ⟨oc18, od18, .func (PySem.W.fnOf "_law_divisor" "_law_divisor" (defArgs s__law_divisor) (defBody s__law_divisor) (defScope s__law_divisor) .none kV18 dc18 pm18 an18 cd18 ct18), sl18⟩) (c18 : PySem.W.codeIn K cd18 "_law_divisor" = true) (k18 : PySem.W.keepIn K (.ref f18) = true)
    (a19 : PySem.W.nsIn K mainGlobals "_law_lcm" = some (some (.ref f19))) (l19 : K.lookup f19 = some ⟨oc19, od19, .func (PySem.W.fnOf "_law_lcm" "_law_lcm" (defArgs s__law_lcm) (defBody s__law_lcm) (defScope s__law_lcm) .none kV19 dc19 pm19 an19 cd19 ct19), sl19⟩) (c19 : PySem.W.codeIn K cd19 "_law_lcm" = true) (k19 : PySem.W.keepIn K (.ref f19) = true)
    (a20 : PySem.W.nsIn K mainGlobals "_law_cut_box" = some (some (.ref f20))) (l20 : K.lookup f20 = some ⟨oc20, od20, .func (PySem.W.fnOf "_law_cut_box" "_law_cut_box" (defArgs s__law_cut_box) (defBody s__law_cut_box) (defScope s__law_cut_box) .none kV20 dc20 pm20 an20 cd20 ct20), sl20⟩) (c20 : PySem.W.codeIn K cd20 "_law_cut_box" = true) (k20 : PySem.W.keepIn K (.ref f20) = true)
    (a21 : PySem.W.nsIn K mainGlobals "_law_plain_box" = some (some (.ref f21))) (l21 : K.lookup f21 = some ⟨oc21, od21, .func (PySem.W.fnOf "_law_plain_box" "_law_plain_box" (defArgs s__law_plain_box) (defBody s__law_plain_box) (defScope s__law_plain_box) .none kV21 dc21 pm21 an21 cd21 ct21), sl21⟩) (c21 : PySem.W.codeIn K cd21 "_law_plain_box" = true) (k21 : PySem.W.keepIn K (.ref f21) = true)
    (a22 : PySem.W.nsIn K mainGlobals "_law_with" = some (some (.ref f22))) (l22 : K.lookup f22 = some ⟨oc22, od22, .func (PySem.W.fnOf "_law_with" "_law_with" (defArgs s__law_with) (defBody s__law_with) (defScope s__law_with) .none kV22 dc22 pm22 an22 cd22 ct22), sl22⟩) (c22 : PySem.W.codeIn K cd22 "_law_with" = true) (k22 : PySem.W.keepIn K (.ref f22) = true)
    (a23 : PySem.W.nsIn K mainGlobals "law" = some (some (.ref f23))) (l23 : K.lookup f23 = some ⟨oc23, od23, .func (PySem.W.fnOf "law" "law" (defArgs s_law) (defBody s_law) (defScope s_law) .none kV23 dc23 pm23 an23 cd23 ct23), sl23⟩) (c23 : PySem.W.codeIn K cd23 "law" = true) (k23 : PySem.W.keepIn K (.ref f23) = true)
    (z_abs : PySem.W.nsIn K mainGlobals "abs" = some none)
    (z_all : PySem.W.nsIn K mainGlobals "all" = some none)
    (z_bool : PySem.W.nsIn K mainGlobals "bool" = some none)
    (z_gcd : PySem.W.nsIn K mainGlobals "gcd" = some (some (.builtin "math.gcd")))
    (z_int : PySem.W.nsIn K mainGlobals "int" = some none)
    (z_isinstance : PySem.W.nsIn K mainGlobals "isinstance" = some none)
    (z_len : PySem.W.nsIn K mainGlobals "len" = some none)
    (z_list : PySem.W.nsIn K mainGlobals "list" = some none)
    (z_max : PySem.W.nsIn K mainGlobals "max" = some none)
    (z_range : PySem.W.nsIn K mainGlobals "range" = some none)
    (z_sorted : PySem.W.nsIn K mainGlobals "sorted" = some none)
    (z_tuple : PySem.W.nsIn K mainGlobals "tuple" = some none)
    (z_zip : PySem.W.nsIn K mainGlobals "zip" = some none)
    : ∃ fd : FuncData, (∀ (s : Shared) (v : Value), BindsTo s fd ⟨[v], []⟩ [("_law_script", v)]) ∧ ∀ base : Heap, K.In base → base.Ns mainGlobals mg → TB.AtTop l.prog w K mg base fa fd "_law_script" (MI.spLaw K) := by
  have e := hfa.symm.trans (PySem.W.mg_of X G a23)
  cases e
  have T : Txt mg := ⟨PySem.W.mg_none_of X G z_abs, PySem.W.mg_none_of X G z_all, PySem.W.mg_none_of X G z_bool, PySem.W.mg_of X G z_gcd, PySem.W.mg_none_of X G z_int, PySem.W.mg_none_of X G z_isinstance, PySem.W.mg_none_of X G z_len, PySem.W.mg_none_of X G z_list, PySem.W.mg_none_of X G z_max, PySem.W.mg_none_of X G z_range, PySem.W.mg_none_of X G z_sorted, PySem.W.mg_none_of X G z_tuple, PySem.W.mg_none_of X G z_zip⟩
  have F1 := fun_mk (st := s_is_int) l1 c1 k1
  have F2 := fun_mk (st := s_with_side) l2 c2 k2
  have F3 := fun_mk (st := s_common_share) l3 c3 k3
  have F4 := fun_mk (st := s_least_share) l4 c4 k4
  have F5 := fun_mk (st := s_fills_alone) l5 c5 k5
  have F6 := fun_mk (st := s_fills_across) l6 c6 k6
  have F7 := fun_mk (st := s_is_cut) l7 c7 k7
  have F8 := fun_mk (st := s_runs_across) l8 c8 k8
  have F9 := fun_mk (st := s_cut_runs) l9 c9 k9
  have F10 := fun_mk (st := s_is_filled) l10 c10 k10
  have F11 := fun_mk (st := s_escape) l11 c11 k11
  have F12 := fun_mk (st := s_within) l12 c12 k12
  have F13 := fun_mk (st := s_alike) l13 c13 k13
  have F14 := fun_mk (st := s_atoms) l14 c14 k14
  have F15 := fun_mk (st := s__law_deck) l15 c15 k15
  have F16 := fun_mk (st := s__law_draw) l16 c16 k16
  have F17 := fun_mk (st := s__law_one) l17 c17 k17
  have F18 := fun_mk (st := s__law_divisor) l18 c18 k18
  have F19 := fun_mk (st := s__law_lcm) l19 c19 k19
  have F20 := fun_mk (st := s__law_cut_box) l20 c20 k20
  have F21 := fun_mk (st := s__law_plain_box) l21 c21 k21
  have F22 := fun_mk (st := s__law_with) l22 c22 k22
  have F23 := fun_mk (st := s_law) l23 c23 k23
  refine ⟨PySem.W.fnOf "law" "law" (defArgs s_law) (defBody s_law) (defScope s_law) .none kV23 dc23 pm23 an23 cd23 ct23, fun s v => .of_eq rfl, fun base _ _ => ?_⟩
  have o_is_int := ok_is_int (P := l.prog) (w := w) (base := base) T F1 
  have h_is_int := TB.keeps_of (F := F1) (PySem.W.mg_of X G a1) (F1.binds (ps := p_is_int) fun _ _ _ _ _ _ us hl => match us, hl with | [_], _ => rfl) (o_is_int)
  have o_with_side := ok_with_side (P := l.prog) (w := w) (base := base) T F2 
  have h_with_side := TB.keeps_of (F := F2) (PySem.W.mg_of X G a2) (F2.binds (ps := p_with_side) fun _ _ _ _ _ _ us hl => match us, hl with | [_, _, _], _ => rfl) (o_with_side)
  have o_common_share := ok_common_share (P := l.prog) (w := w) (base := base) T F3 
  have h_common_share := TB.keeps_of (F := F3) (PySem.W.mg_of X G a3) (F3.binds (ps := p_common_share) fun _ _ _ _ _ _ us hl => match us, hl with | [_, _], _ => rfl) (o_common_share)
  have o_least_share := ok_least_share (P := l.prog) (w := w) (base := base) T F4 h_common_share
  have h_least_share := TB.keeps_of (F := F4) (PySem.W.mg_of X G a4) (F4.binds (ps := p_least_share) fun _ _ _ _ _ _ us hl => match us, hl with | [_, _, _], _ => rfl) (o_least_share)
  have o_fills_alone := ok_fills_alone (P := l.prog) (w := w) (base := base) T F5 
  have h_fills_alone := TB.keeps_of (F := F5) (PySem.W.mg_of X G a5) (F5.binds (ps := p_fills_alone) fun _ _ _ _ _ _ us hl => match us, hl with | [_, _], _ => rfl) (o_fills_alone)
  have o_fills_across := ok_fills_across (P := l.prog) (w := w) (base := base) T F6 h_with_side h_fills_alone
  have h_fills_across := TB.keeps_of (F := F6) (PySem.W.mg_of X G a6) (F6.binds (ps := p_fills_across) fun _ _ _ _ _ _ us hl => match us, hl with | [_, _, _], _ => rfl) (o_fills_across)
  have o_is_cut := ok_is_cut (P := l.prog) (w := w) (base := base) T F7 h_is_int h_with_side h_fills_alone
  have h_is_cut := TB.keeps_of (F := F7) (PySem.W.mg_of X G a7) (F7.binds (ps := p_is_cut) fun _ _ _ _ _ _ us hl => match us, hl with | [_, _, _], _ => rfl) (o_is_cut)
  have o_runs_across := ok_runs_across (P := l.prog) (w := w) (base := base) T F8 h_least_share h_fills_across h_is_cut
  have h_runs_across := TB.keeps_of (F := F8) (PySem.W.mg_of X G a8) (F8.binds (ps := p_runs_across) fun _ _ _ _ _ _ us hl => match us, hl with | [_, _, _, _], _ => rfl) (o_runs_across)
  have o_cut_runs := ok_cut_runs (P := l.prog) (w := w) (base := base) T F9 h_runs_across
  have h_cut_runs := TB.keeps_of (F := F9) (PySem.W.mg_of X G a9) (F9.binds (ps := p_cut_runs) fun _ _ _ _ _ _ us hl => match us, hl with | [_, _], _ => rfl) (o_cut_runs)
  have o_is_filled := ok_is_filled (P := l.prog) (w := w) (base := base) T F10 h_cut_runs
  have h_is_filled := TB.keeps_of (F := F10) (PySem.W.mg_of X G a10) (F10.binds (ps := p_is_filled) fun _ _ _ _ _ _ us hl => match us, hl with | [_, _], _ => rfl) (o_is_filled)
  have o_escape := ok_escape (P := l.prog) (w := w) (base := base) T F11 h_is_filled
  have h_escape := TB.keeps_of (F := F11) (PySem.W.mg_of X G a11) (F11.binds (ps := p_escape) fun _ _ _ _ _ _ us hl => match us, hl with | [_, _], _ => rfl) (o_escape)
  have o_within := ok_within (P := l.prog) (w := w) (base := base) T F12 h_escape
  have h_within := TB.keeps_of (F := F12) (PySem.W.mg_of X G a12) (F12.binds (ps := p_within) fun _ _ _ _ _ _ us hl => match us, hl with | [_, _], _ => rfl) (o_within)
  have o_alike := ok_alike (P := l.prog) (w := w) (base := base) T F13 h_within
  have h_alike := TB.keeps_of (F := F13) (PySem.W.mg_of X G a13) (F13.binds (ps := p_alike) fun _ _ _ _ _ _ us hl => match us, hl with | [_, _], _ => rfl) (o_alike)
  have o_atoms := ok_atoms (P := l.prog) (w := w) (base := base) T F14 h_fills_alone
  have h_atoms := TB.keeps_of (F := F14) (PySem.W.mg_of X G a14) (F14.binds (ps := p_atoms) fun _ _ _ _ _ _ us hl => match us, hl with | [_], _ => rfl) (o_atoms)
  have o__law_deck := ok__law_deck (P := l.prog) (w := w) (base := base) T F15 
  have h__law_deck := TB.keeps_of (F := F15) (PySem.W.mg_of X G a15) (F15.binds (ps := p__law_deck) fun _ _ _ _ _ _ us hl => match us, hl with | [_], _ => rfl) (o__law_deck)
  have o__law_draw := ok__law_draw (P := l.prog) (w := w) (base := base) T F16 
  have h__law_draw_o := TB.keeps_of (F := F16) (PySem.W.mg_of X G a16) (F16.binds (ps := p__law_draw) fun _ _ _ _ _ _ us hl => match us, hl with | [_, _], _ => rfl) (o__law_draw)
  have h__law_draw := DL.Keeps.imp h__law_draw_o fun _ _ _ _ => MI.draw_impM
  have o__law_one := ok__law_one (P := l.prog) (w := w) (base := base) T F17 h__law_draw_o
  have h__law_one_o := TB.keeps_of (F := F17) (PySem.W.mg_of X G a17) (F17.binds (ps := p__law_one) fun _ _ _ _ _ _ us hl => match us, hl with | [_, _], _ => rfl) (o__law_one)
  have h__law_one := DL.Keeps.imp h__law_one_o fun _ _ _ _ => MI.one_impM
  have o__law_divisor := ok__law_divisor (P := l.prog) (w := w) (base := base) T F18 
  have h__law_divisor := TB.keeps_of (F := F18) (PySem.W.mg_of X G a18) (F18.binds (ps := p__law_divisor) fun _ _ _ _ _ _ us hl => match us, hl with | [_, _], _ => rfl) (o__law_divisor)
  have o__law_lcm := ok__law_lcm (P := l.prog) (w := w) (base := base) T F19 h__law_divisor
  have h__law_lcm := TB.keeps_of (F := F19) (PySem.W.mg_of X G a19) (F19.binds (ps := p__law_lcm) fun _ _ _ _ _ _ us hl => match us, hl with | [_, _], _ => rfl) (o__law_lcm)
  have o__law_cut_box := ok__law_cut_box (P := l.prog) (w := w) (base := base) T F20 h__law_draw h__law_lcm
  have h__law_cut_box := TB.keeps_of (F := F20) (PySem.W.mg_of X G a20) (F20.binds (ps := p__law_cut_box) fun _ _ _ _ _ _ us hl => match us, hl with | [_, _, _], _ => rfl) (o__law_cut_box)
  have o__law_plain_box := ok__law_plain_box (P := l.prog) (w := w) (base := base) T F21 h__law_draw h__law_one
  have h__law_plain_box := TB.keeps_of (F := F21) (PySem.W.mg_of X G a21) (F21.binds (ps := p__law_plain_box) fun _ _ _ _ _ _ us hl => match us, hl with | [_, _, _], _ => rfl) (o__law_plain_box)
  have o__law_with := ok__law_with (P := l.prog) (w := w) (base := base) T F22 
  have h__law_with := TB.keeps_of (F := F22) (PySem.W.mg_of X G a22) (F22.binds (ps := p__law_with) fun _ _ _ _ _ _ us hl => match us, hl with | [_, _, _], _ => rfl) (o__law_with)
  exact ok_law T F23 h__law_deck h_is_filled h_escape h_within h_alike h_atoms h__law_draw h__law_one h__law_cut_box h__law_plain_box h__law_with law_true
end K29
open PySem PySem.W PyProof.Rows
set_option maxHeartbeats 0 in
theorem PySem.Challenge.cw_twobricks_k29_whole_pairs_of_great_brick_holds : PySem.Challenge.rw_twobricks_k29_whole_pairs_of_great_brick.Holds := by
  w_on; o_law; k_head; (case hw => w_witness2)
  k_fill
  refine TB.walk_top (l := PySem.Challenge.rw_twobricks_k29_whole_pairs_of_great_brick) (n := 63) (x := "_law_script") (sp := fun w => MI.spLaw _) rfl (by decide) rfl (fun w h Y => PySem.W.kIn_of Y) ?F (fun _ _ a ns hl _ _ hS => MI.sp_start hl hS)
  case F =>
    intro w mg fa h KX G hmg
    refine' K29.all_mk KX G hmg ?a1 ?l1 ?c1 ?k1 ?a2 ?l2 ?c2 ?k2 ?a3 ?l3 ?c3 ?k3 ?a4 ?l4 ?c4 ?k4 ?a5 ?l5 ?c5 ?k5 ?a6 ?l6 ?c6 ?k6 ?a7 ?l7 ?c7 ?k7 ?a8 ?l8 ?c8 ?k8 ?a9 ?l9 ?c9 ?k9 ?a10 ?l10 ?c10 ?k10 ?a11 ?l11 ?c11 ?k11 ?a12 ?l12 ?c12 ?k12 ?a13 ?l13 ?c13 ?k13 ?a14 ?l14 ?c14 ?k14 ?a15 ?l15 ?c15 ?k15 ?a16 ?l16 ?c16 ?k16 ?a17 ?l17 ?c17 ?k17 ?a18 ?l18 ?c18 ?k18 ?a19 ?l19 ?c19 ?k19 ?a20 ?l20 ?c20 ?k20 ?a21 ?l21 ?c21 ?k21 ?a22 ?l22 ?c22 ?k22 ?a23 ?l23 ?c23 ?k23 ?z_abs ?z_all ?z_bool ?z_gcd ?z_int ?z_isinstance ?z_len ?z_list ?z_max ?z_range ?z_sorted ?z_tuple ?z_zip
    (case a1 => k_is)
    (case l1 => k_is)
    (case c1 => k_is)
    (case k1 => k_is)
    (case a2 => k_is)
    (case l2 => k_is)
    (case c2 => k_is)
    (case k2 => k_is)
    (case a3 => k_is)
    (case l3 => k_is)
    (case c3 => k_is)
    (case k3 => k_is)
    (case a4 => k_is)
    (case l4 => k_is)
    (case c4 => k_is)
    (case k4 => k_is)
    (case a5 => k_is)
    (case l5 => k_is)
    (case c5 => k_is)
    (case k5 => k_is)
    (case a6 => k_is)
    (case l6 => k_is)
    (case c6 => k_is)
    (case k6 => k_is)
    (case a7 => k_is)
    (case l7 => k_is)
    (case c7 => k_is)
    (case k7 => k_is)
    (case a8 => k_is)
    (case l8 => k_is)
    (case c8 => k_is)
    (case k8 => k_is)
    (case a9 => k_is)
    (case l9 => k_is)
    (case c9 => k_is)
    (case k9 => k_is)
    (case a10 => k_is)
    (case l10 => k_is)
    (case c10 => k_is)
    (case k10 => k_is)
    (case a11 => k_is)
    (case l11 => k_is)
    (case c11 => k_is)
    (case k11 => k_is)
    (case a12 => k_is)
    (case l12 => k_is)
    (case c12 => k_is)
    (case k12 => k_is)
    (case a13 => k_is)
    (case l13 => k_is)
    (case c13 => k_is)
    (case k13 => k_is)
    (case a14 => k_is)
    (case l14 => k_is)
    (case c14 => k_is)
    (case k14 => k_is)
    (case a15 => k_is)
    (case l15 => k_is)
    (case c15 => k_is)
    (case k15 => k_is)
    (case a16 => k_is)
    (case l16 => k_is)
    (case c16 => k_is)
    (case k16 => k_is)
    (case a17 => k_is)
    (case l17 => k_is)
    (case c17 => k_is)
    (case k17 => k_is)
    (case a18 => k_is)
    (case l18 => k_is)
    (case c18 => k_is)
    (case k18 => k_is)
    (case a19 => k_is)
    (case l19 => k_is)
    (case c19 => k_is)
    (case k19 => k_is)
    (case a20 => k_is)
    (case l20 => k_is)
    (case c20 => k_is)
    (case k20 => k_is)
    (case a21 => k_is)
    (case l21 => k_is)
    (case c21 => k_is)
    (case k21 => k_is)
    (case a22 => k_is)
    (case l22 => k_is)
    (case c22 => k_is)
    (case k22 => k_is)
    (case a23 => k_is)
    (case l23 => k_is)
    (case c23 => k_is)
    (case k23 => k_is)
    (case z_abs => k_is)
    (case z_all => k_is)
    (case z_bool => k_is)
    (case z_gcd => k_is)
    (case z_int => k_is)
    (case z_isinstance => k_is)
    (case z_len => k_is)
    (case z_list => k_is)
    (case z_max => k_is)
    (case z_range => k_is)
    (case z_sorted => k_is)
    (case z_tuple => k_is)
    (case z_zip => k_is)
