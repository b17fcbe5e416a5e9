import PyProof.Rows.All
import Wide.All
import OpenK.AllK
import Wide.FinOn
import PyProof.EqAt
import PyProof.EqKinds
import PyProof.TupleCall
import KE.KExcInit
import KE.OsGo
import HandS.ForMost
import HandS.ForExc
import HandS.Wide
import HandS.IsInst
import HandS.StrMore
import PyProof.ReprReads
import PyProof.ReprRoads
import PyProof.CallFns
import PyProof.ListStr
import PyProof.StrLawsRepr
import HandS.TupMul
import HandS.TupAny
import HandS.More
import KE.KExcIs
import HandS.ExcValue
import HandS.ExcIs
import HandS.ListItems
import HandS.Small
import HandS.DictComp
import HandS.FStr
import HandS.WordsDict
import HandS.Property
import HandS.Iter
import HandS.Walk
import HandS.SetFor
import HandS.Style
import HandS.Finally
import HandS.Strs
import HandS.Star
import HandS.MethStar
import HandS.StrSplit
import HandS.Text
import HandS.ClsMeth
import HandS.TryMany
import HandS.OwnIter
import HandS.OwnEq
import HandS.Lambda
import HandS.Nested
import HandS.EndTab
import HandS.GenYield
import HandS.GenCall
import HandS.GenList
import KE.GoesEnum
import PySem.Challenge.RW_munchbehind_k08_errors_of_trees
set_option Elab.async false
set_option linter.all false
set_option maxRecDepth 100000
set_option maxHeartbeats 2000000
/-! ### defs that are called where nothing is being shown (repr): what HandS says of a def, with that one fact more -/
namespace Gd
open PySem PySem.Spec PyProof.Rows L2
/-- a def's promise, kept wherever no repr is under way -/
structure FnG (P : Program) (w : World) (K : PySem.W.Frag) (mg : Str → Option Value) (base : Heap) (CX : CXT) (k : Nat) (f : Addr) (fd : FuncData) (ps : List Str) (sp : Sp) : Prop where
  len : ∀ vs H Q E, sp vs H Q E → vs.length = ps.length
  run : ∀ (A : Around) (outer : List Env) (s : Shared) (H : Hp) (args : Args) (us : List Value) (vs : List V) (Q : VK) (E : XK), Room k A → A.guards = some [] → Env0 P w K mg base A outer s H → BindsTo s fd args (ps.zip us) → Vals vs us → sp vs H Q E →
    codeAny (model P w) A (.call (.ref f) args) (CR CX outer P w H s Q E) s
section
variable {P : Program} {w : World} {K : PySem.W.Frag} {mg : Str → Option Value} {base : Heap} {CX : CXT} {k : Nat} {f : Addr} {fd : FuncData} {ps : List Str} {sp : Sp}
/-- out of its body -/
theorem FnG.of_body {qual : Str} {st : Stmt} {x : Str} {N : List Str} (F : Fun K x qual st f fd) (S : FnScope N ps (defScope st)) (len : ∀ vs H Q E, sp vs H Q E → vs.length = ps.length)
    (hbody : ∀ (cdv : Value) (A : Around) (outer : List Env) (s : Shared) (H : Hp) (vs : List V) (Q : VK) (E : XK), Room k (A.deeper (envOfC qual (defScope st) s.heap.objs.size f cdv)) →
      (A.deeper (envOfC qual (defScope st) s.heap.objs.size f cdv)).guards = some [] → sp vs H Q E →
      ∃ t, PSs (cxOf CX P w K mg base N qual (defScope st) f cdv A outer s H E) (defBody st) t ∧ t { nx := fun _ H' => Q .non H', rt := Q } (start N vs) H) : FnG P w K mg base CX (k + 1) f fd ps sp := by
  obtain ⟨oc, od, kV, doc, pm, an, cdv, ct, osl, rfl, lk, hcd⟩ := F.ex
  constructor
  · exact len
  intro A outer s H args us vs Q E room hg env bind rel want
  have size := len _ _ _ _ want
  have keep : ∀ b o, base.get? b = some o → s.heap.get? b = some o := fun b o e => (env.bs b o e).1
  have KX := env.mod.kin.keeps keep
  have lim := env.mod.nolimit.keeps keep
  have slots : ∀ y ∈ ps.zip us, (defScope st).names.lookup y.1 = some .local ∨ ((defScope st).names.lookup y.1 = some .cell ∧ ((cellsFrom (s.heap.objs.size + 1) (defScope st).names []).lookup y.1).isSome = true) := by
    rintro ⟨n, v⟩ hy
    exact (S.par n (List.of_mem_zip hy).1).imp id fun q => ⟨q, PySem.W.cellsFrom_some _ _ _ (.inl q)⟩
  refine codeAny_call_function room.depth (KX _ _ lk) rfl S.co S.gen rfl (PySem.W.codeRec_of KX hcd) (bind _ _ _ _ (wpAny_newFunctionEnv_cells S.kind slots fun env1 he s1 x => ?_))
  subst he
  refine ⟨lim.keeps x.toInCall.keep, codeAny_func ?_⟩
  have guard : (A.deeper (envOfC qual (defScope st) s.heap.objs.size f cdv)).guards = some [] := hg
  obtain ⟨t, ht, hq⟩ := hbody cdv A outer s H vs Q E (room.deeper _) guard want
  have I : Inv (cxOf CX P w K mg base N qual (defScope st) f cdv A outer s H E) [] (start N vs) H s1 := inv_start S room.hd env size rel x
  refine wpAny_mono (ht.run [] s1 (start N vs) H _ I hq) (fun fl s' hs => ?_) fun e s' hs => hs
  cases fl with
  | ret u =>
    obtain ⟨v, σ', H', J, rv, q⟩ := hs
    exact ⟨v, H', J.os, J.bare, J.base, J.hok, rv, q⟩
  | next =>
    obtain ⟨σ', H', J, q⟩ := hs
    exact ⟨V.non, H', J.os, J.bare, J.base, J.hok, rfl, q⟩
  | brk => exact (let ⟨_, _, _, q⟩ := hs; q : False).elim
  | cont => exact (let ⟨_, _, _, q⟩ := hs; q : False).elim
/-- the same, where no exception leaves it -/
theorem FnG.ok {qual : Str} {st : Stmt} {x : Str} {N : List Str} (F : Fun K x qual st f fd) (S : FnScope N ps (defScope st)) (len : ∀ vs H Q E, sp vs H Q E → vs.length = ps.length)
    (hbody : ∀ (cdv : Value) (A : Around) (outer : List Env) (s : Shared) (H : Hp) (vs : List V) (Q : VK) (E : XK), Room k (A.deeper (envOfC qual (defScope st) s.heap.objs.size f cdv)) →
      (A.deeper (envOfC qual (defScope st) s.heap.objs.size f cdv)).guards = some [] → sp vs H Q E →
      ∃ t, PSs (cxOf CX0 P w K mg base N qual (defScope st) f cdv A outer s H E).nox (defBody st) t ∧ t { nx := fun _ H' => Q .non H', rt := Q } (start N vs) H) : FnG P w K mg base CX0 (k + 1) f fd ps sp :=
  FnG.of_body F S len fun cdv A outer s H vs Q E hr hg h => let ⟨t, a, b⟩ := hbody cdv A outer s H vs Q E hr hg h; ⟨t, a.nox, b⟩
end
section
variable {X : Cx} {CX : CXT} {k : Nat} {f : Addr} {fd : FuncData} {ps : List Str} {sp : Sp} {E : XK} {x : Str} {p pos : Pos} {e : Expr} {es : List Expr} {t : TA}
/-- f(..) of such a def -/
theorem pe_callG (F : FnG X.prog X.w X.K X.mg X.base CX k f fd ps sp) (hr : Room k X.A) (gd : X.A.guards = some []) (hg : Gl X x) (hm : X.mg x = some (.ref f)) (hk : PySem.W.keepIn X.K (.ref f) = true) (hb : Binds X.K fd ps []) (hx : Passes CX X E)
    (ha : PA X (e :: es) t) (hdb : (x == ("__debug__" : Str)) = false := by decide) (he : starEach (e :: es) X.env = (false, eval e X.env) :: starEach es X.env := by rfl) (hpl : (backTo pos (starEach es X.env)).any (·.1) = false := by rfl) :
    PE X (.Call (.Name x p) (e :: es) [] pos) (tCall sp [] E t) := by
  refine ⟨fun pins s σ H Q I h => ?_⟩
  refine wpAny_Call_Name_kw (ld_glob I hg hm ?_ hdb)
  refine PySem.W.callWith_K (h₀ := X.base) I.ok.mod.kin hk (thn (ha.run pos pins s σ H _ I h) fun us s1 ⟨vs, H1, I1, r, q⟩ => ⟨I1.kIn, ?_⟩) he hpl
  have q' : sp vs H1 Q E := by
    have z : sp (vs ++ []) H1 Q E := q
    rw [List.append_nil] at z
    exact z
  have hl : us.length = ps.length := by rw [← r.length]; exact F.len _ _ _ _ q'
  have b := hb s1 us I1.kIn (by rw [List.append_nil]; exact hl)
  rw [List.append_nil] at b
  refine wpAny_call (codeAny_mono (F.run X.A X.stack s1 H1 ⟨us, []⟩ us vs Q E hr gd I1.env0 b r q') fun r' s' hq => ?_)
  cases r' with
  | error z => exact hx pins σ H1 s1 z s' I1 hq
  | ok fl =>
    cases fl with
    | ret u => exact I1.after hq
    | next => exact False.elim hq
    | brk => exact False.elim hq
    | cont => exact False.elim hq
end
/-- the script as the one thing that is tracked: at a, locked, where the written part has it not -/
def scriptH (K : PySem.W.Frag) (a : Addr) (o : Obj) (xs : List V) : Hp := fun b => if b = a ∧ K.lookup a = none then some (.frz o (.lst xs)) else none
theorem scriptH_some {K : PySem.W.Frag} {a b : Addr} {o : Obj} {xs : List V} {u : HO} (h : scriptH K a o xs b = some u) : b = a ∧ K.lookup a = none ∧ u = .frz o (.lst xs) := by
  unfold scriptH at h
  by_cases c : b = a ∧ K.lookup a = none
  · rw [if_pos c] at h
    exact ⟨c.1, c.2, (Option.some.inj h).symm⟩
  · rw [if_neg c] at h
    cases h
/-- the law's own call, from a promise that is kept where nothing is being shown -/
theorem law_callG {P : Program} {w : World} {K : PySem.W.Frag} {mg mb : Str → Option Value} {CX : CXT} {k : Nat} {fa a : Addr} {fd : FuncData} {x : Str} {sp : Sp} {s : Shared} {vs : List Value} {ns : List Int}
    (KX : K.In s.heap) (hns : s.heap.Ns mainGlobals mg) (hb : s.heap.Ns builtinsNs mb) (hbb : ∀ x : Str, x ≠ "__name__" → mb x = bootBuiltins x) (hlim : s.heap.NoLimit) (hg : s.gens = #[])
    (ha : s.heap.get? a = some { cls := .type "list", data := .seq vs.toArray }) (hi : IntsAre vs ns) (hl : ns.length ≤ sizeLine) (hr : Room k callerA)
    (F : ∀ base : Heap, K.In base → base.Ns mainGlobals mg → FnG P w K mg base CX k fa fd [x] sp) (hbind : ∀ (s : Shared) (u : Value), BindsTo s fd ⟨[u], []⟩ [(x, u)])
    (hsp : ∀ H : Hp, Only H → SqL K H a (ns.map V.int) → sp [.ref a] H (fun v _ => v = .bl true) fun _ _ _ => False)
    (hCX : ∀ H e s', CX [] H s (fun _ _ _ => False) e s' → False) :
    codeAny (model P w) callerA (.call (.ref fa) ⟨[.ref a], []⟩) (fun r s' => r = .ok (.ret (.bool true)) ∧ OldK s.heap s'.heap ∧ s'.os = s.os ∧ AllBare s'.gens) s := by
  have rv := vals_ints hi
  have lenV := hi.length
  let O : Obj := { cls := .type "list", data := .seq vs.toArray }
  let H : Hp := scriptH K a O (ns.map V.int)
  have only : Only H := fun b => by
    cases q : H b with
    | none => exact .inl rfl
    | some u => exact .inr ⟨O, ns.map V.int, by rw [(scriptH_some q).2.2]⟩
  have hS : SqL K H a (ns.map V.int) := by
    cases hk : K.lookup a with
    | none => exact .inl (.inr ⟨O, if_pos ⟨rfl, hk⟩⟩)
    | some o =>
      have e := KX a o hk
      rw [ha] at e
      cases e
      exact .inr ⟨_, vs.toArray, _, hk, rfl, rfl, rfl, by rw [List.size_toArray, lenV]; exact hl, by simpa using rv⟩
  have hok : HOk P w H s.heap := fun b u q => by
    obtain ⟨e1, _, e3⟩ := scriptH_some q
    rw [e1, e3]
    exact ⟨ha, by rw [List.length_map]; exact hl, vs, _, rv, ha⟩
  have notDict : ∀ {b : Addr} {o : Obj} {es : Array DictEntry} {ep : Nat}, s.heap.get? b = some o → o.data = .dict es ep → H b = none := fun {b o es ep} e d => by
    cases q : H b with
    | none => rfl
    | some u =>
      rw [(scriptH_some q).1, ha] at e
      cases e
      cases (show Data.seq vs.toArray _ = Data.dict es ep from d)
  have nsK : ∀ {b : Addr} {m : Str → Option Value}, s.heap.Ns b m → (hidT s.heap H).Ns b m := fun {b m} ⟨o, es, ep, e, d, r⟩ => ⟨o, es, ep, hidT_get e (notDict e d), d, r⟩
  have inK : K.In (hidT s.heap H) := fun b o e => hidT_get (KX b o e) (by
    cases q : H b with
    | none => rfl
    | some u =>
      obtain ⟨e1, e2, _⟩ := scriptH_some q
      rw [e1, e2] at e
      cases e)
  obtain ⟨mc, l1, l2⟩ := hlim
  have env : Env0 P w K mg (hidT s.heap H) callerA [] s H :=
    ⟨rfl, ⟨inK, nsK hns, ⟨mb, nsK hb, hbb⟩, ⟨mc, nsK l1, l2⟩⟩, fun b o e => of_hidT e, Nat.le_of_eq (hidT_size _ _), trivial, fun b m => absurd (show b ∈ ([] : List Addr) from m) (by simp), hok, .of_eq hg⟩
  refine codeAny_mono ((F _ inK (nsK hns)).run callerA [] s H ⟨[.ref a], []⟩ [.ref a] [.ref a] _ _ hr rfl env (hbind s (.ref a)) (.cons rfl .nil) (hsp H only hS)) fun r s' h => ?_
  cases r with
  | error e => exact (hCX H e s' h).elim
  | ok fl =>
    cases fl with
    | next => exact False.elim h
    | brk => exact False.elim h
    | cont => exact False.elim h
    | ret u =>
      obtain ⟨v, H', os, bare, un, hok', r', q⟩ := h
      obtain rfl : v = .bl true := q
      obtain rfl : u = Value.bool true := r'
      refine ⟨rfl, OldK.of_keep fun b o e => ?_, os, bare⟩
      cases q : H b with
      | none => exact un.keep b o e q (fun z => absurd (show b ∈ ([] : List Addr) from z) (by simp)) (by simp)
      | some u =>
        obtain ⟨_, _, eu⟩ := scriptH_some q
        rw [eu] at q
        have e1 := (hok b _ q).1
        have e2 := (hok' b _ (un.frzs b O _ q)).1
        rw [e] at e1
        cases e1
        exact e2
theorem walk_ofG {l : PySem.W.OpenLaw} {n k : Nat} {q : Program} {loose : List Str} {XP : (Str → Option Value) → Heap → Prop} {YP : World → Heap → Prop} {d : DefRec} {K : Params → PySem.W.Frag} {CX : World → CXT} {sp : World → Sp} {x : Str}
    (hn : l.most = some n) (hn2 : n ≤ sizeLine) (hdf : d.params.defaults = []) (hr : Room k callerA)
    (hY : ∀ (w : World) (h : Heap), YP w h → (K w.params).In h)
    (F : ∀ (w : World) (mg : Str → Option Value) (fa : Addr) (h : Heap), (K w.params).In h → h.Ns mainGlobals mg → mg d.name = some (.ref fa) →
      ∃ fd : FuncData, (∀ (s : Shared) (u : Value), BindsTo s fd ⟨[u], []⟩ [(x, u)]) ∧
        ∀ base : Heap, (K w.params).In base → base.Ns mainGlobals mg → FnG l.prog w (K w.params) mg base (CX w) k fa fd [x] (sp w))
    (hsp : ∀ (w : World) (H : Hp) (a : Addr) (ns : List Int), ns.length ≤ n → Only H → SqL (K w.params) H a (ns.map V.int) → sp w [.ref a] H (fun v _ => v = .bl true) fun _ _ _ => False)
    (hCX : ∀ (w : World) (H : Hp) (s : Shared) (e : Value) (s' : Shared), CX w [] H s (fun _ _ _ => False) e s' → False) :
    PySem.W.WalkO q loose XP YP l.row.toRowW d [] (fun f vs => PySem.call f vs) := by
  refine Att.attach_call hn hdf fun w s₀ s₁ mg mb fa o pm cd doc a vs ns G Y ho hd hcd hmg hobj hints hlen hg => ?_
  obtain ⟨fd, hb, hF⟩ := F w mg fa _ (hY w _ Y) G.T.g hmg
  exact law_callG (hY w _ Y) G.T.g G.T.b G.T.builtins G.T.nolimit hg hobj hints (Nat.le_trans hlen hn2) hr hF hb (fun H hO hS => hsp w H a ns hlen hO hS) fun H e s' => hCX w H s₁ e s'
end Gd
/-! ### tuples of which it is known that they are plain: rules that make them, and their methods -/
namespace Tx
open PySem PySem.Spec PyProof.Rows L2
/-- a plain tuple -/
def TX (H : Hp) (a : Addr) (xs : List V) : Prop := ∃ ob, H a = some (.frz ob (.tup xs)) ∧ ob.dict = none
theorem TX.same {H H' : Hp} {a : Addr} {xs : List V} (h : TX H a xs) (s : Same H H') : TX H' a xs := let ⟨ob, e, d⟩ := h; ⟨ob, s _ _ e, d⟩
theorem TX.sq {K : PySem.W.Frag} {H : Hp} {a : Addr} {xs : List V} (h : TX H a xs) : SqT K H a xs := let ⟨ob, e, _⟩ := h; .inl (.inr ⟨ob, e⟩)
theorem TX.there {H : Hp} {a : Addr} {xs : List V} (h : TX H a xs) : ∃ ob, H a = some (.frz ob (.tup xs)) := let ⟨ob, e, _⟩ := h; ⟨ob, e⟩
theorem same_new {p : Addr} {H : Hp} {o : HO} (n : H p = none) : Same H (L2.upd H p o) := fun b u h => by rw [upd_ne (ne_of_none h n)]; exact h
section
variable {X : Cx}
/-- a new plain tuple -/
theorem laid_tup {pins : List (Addr × Obj)} {σ : L2.St} {H : Hp} {s : Shared} {xs : List V} {us : List Value} (I : Inv X pins σ H s) (rel : Vals xs us) (few : xs.length ≤ sizeLine) :
    ∃ H2, Inv X pins σ H2 { s with heap := s.heap.push { cls := .type "tuple", data := .seq us.toArray } } ∧ H s.heap.objs.size = none ∧ Same H H2 ∧ TX H2 s.heap.objs.size xs := by
  have fresh := I.hok.fresh (Nat.le_refl s.heap.objs.size)
  have J := I.laid (t' := s.toks) (o := .frz { cls := .type "tuple", data := .seq us.toArray } (.tup xs)) (h' := s.heap.push { cls := .type "tuple", data := .seq us.toArray }) (fun b ob q => Heap.get?_push_of_some _ q) (Nat.le_refl _)
    ⟨Heap.get?_push_size _ rfl, few, us, rel, IsTup.new _ _⟩
  exact ⟨_, J, fresh, same_new fresh, _, upd_same, rfl⟩
/-- (a, b, ..) -/
def tTupX (t : TA) : TE := fun σ H Q => t σ H fun xs H1 => xs.length ≤ sizeLine ∧ ∀ p H2, H1 p = none → Same H1 H2 → TX H2 p xs → Q (.ref p) H2
theorem pe_tupX {es : List Expr} {pos : Pos} {x1} {t : TA} (h : PA X es t) : PE X (.Tuple es x1 pos) (tTupX t) := by
  refine ⟨fun pins s0 σ G0 Q J0 q0 => ?_⟩
  refine wpAny_Tuple_spliced (thn (h.run pos pins s0 σ G0 _ J0 q0) fun us s1 ⟨xs, G1, J1, rel, few, q⟩ => ⟨by rw [← rel.length]; exact few, ?_⟩)
  obtain ⟨G2, J2, fresh, same, tx⟩ := laid_tup J1 rel few
  exact ⟨.ref s1.heap.objs.size, G2, J2, rfl, q _ _ fresh same tx⟩
/-- t + u -/
def rCatX : R2 := fun x y H Q => ∃ a b xs ys, x = .ref a ∧ y = .ref b ∧ TX H a xs ∧ TX H b ys ∧ xs.length + ys.length ≤ sizeLine ∧ ∀ p H2, Same H H2 → TX H2 p (xs ++ ys) → Q (.ref p) H2
theorem op_catX : OpR X (binaryOp .Add) rCatX := by
  intro pins s σ H x y v u Q J rx ry h
  obtain ⟨a, b, xs, ys, rfl, rfl, ha, hb, few, q⟩ := h
  by_cases ex : xs = []
  · subst ex
    refine op_catA pins s σ H _ _ v u Q J rx ry ⟨a, b, [], ys, rfl, rfl, ha.sq, hb.sq, few, fun _ => q b H (Same.refl H) hb, fun e => absurd rfl e, fun e => absurd rfl e⟩
  · cases rx
    cases ry
    obtain ⟨us, r1, p1, _⟩ := J.tuple (ha.sq (K := X.K))
    obtain ⟨ws, r2, p2, _⟩ := J.tuple (hb.sq (K := X.K))
    refine HT.cat_tup p1 p2 (fun z => ex (r1.nil_iff.mp z)) (fun z => ?_) (fun z => ?_) (by rw [← r1.length, ← r2.length]; exact few)
    · have ey := r2.nil_iff.mp z
      subst ey
      exact ⟨.ref a, H, J, rfl, q a H (Same.refl H) (by rw [List.append_nil]; exact ha)⟩
    · obtain ⟨G2, J2, fresh, same, tx⟩ := laid_tup J (r1.append r2) (by rw [List.length_append]; exact few)
      exact ⟨.ref s.heap.objs.size, G2, J2, rfl, q _ _ same tx⟩
/-- t + u, what is new is plain -/
def rCatY (K : PySem.W.Frag) : R2 := fun x y H Q => ∃ a b xs ys, x = .ref a ∧ y = .ref b ∧ SqT K H a xs ∧ SqT K H b ys ∧ xs.length + ys.length ≤ sizeLine ∧
  (xs = [] → Q (.ref b) H) ∧ (xs ≠ [] → ys = [] → Q (.ref a) H) ∧ ∀ p H2, H p = none → Same H H2 → TX H2 p (xs ++ ys) → Q (.ref p) H2
theorem op_catY : OpR X (binaryOp .Add) (rCatY X.K) := by
  intro pins s σ H x y v u Q J rx ry h
  obtain ⟨a, b, xs, ys, rfl, rfl, ha, hb, few, q0, q1, q2⟩ := h
  by_cases ex : xs = []
  · subst ex
    exact op_catA pins s σ H _ _ v u Q J rx ry ⟨a, b, [], ys, rfl, rfl, ha, hb, few, q0, fun e => absurd rfl e, fun e => absurd rfl e⟩
  by_cases ey : ys = []
  · subst ey
    exact op_catA pins s σ H _ _ v u Q J rx ry ⟨a, b, xs, [], rfl, rfl, ha, hb, few, fun e => absurd e ex, q1, fun _ e => absurd rfl e⟩
  · cases rx
    cases ry
    obtain ⟨us, r1, p1, _⟩ := J.tuple ha
    obtain ⟨ws, r2, p2, _⟩ := J.tuple hb
    refine HT.cat_tup p1 p2 (fun z => ex (r1.nil_iff.mp z)) (fun z => absurd (r2.nil_iff.mp z) ey) (fun _ => ?_) (by rw [← r1.length, ← r2.length]; exact few)
    obtain ⟨G2, J2, fresh, same, tx⟩ := laid_tup J (r1.append r2) (by rw [List.length_append]; exact few)
    exact ⟨.ref s.heap.objs.size, G2, J2, rfl, q2 _ _ fresh same tx⟩
/-- t[lo:hi] -/
def rSlX : V → Option Int → Option Int → Hp → VK → Prop := fun x lo hi H Q => ∃ a xs, x = .ref a ∧ TX H a xs ∧ ∀ p H2, Same H H2 → TX H2 p (cutV xs lo hi) → Q (.ref p) H2
theorem cut_whole {xs : List V} {lo hi : Option Int} (h : HT.sIx xs.length 0 lo = 0 ∧ HT.sIx xs.length xs.length hi = xs.length) : cutV xs lo hi = xs := by
  unfold cutV
  rw [h.1, h.2, List.drop_zero, Nat.sub_zero, List.take_length]
theorem sl_tupX : SlR X rSlX := by
  intro pins s σ H x v vl vu lo hi sl Q J rx hs pl pu h
  obtain ⟨a, xs, rfl, hx, q⟩ := h
  cases rx
  obtain ⟨us, rel, tt, few⟩ := J.tuple (hx.sq (K := X.K))
  have len : us.toArray.size = xs.length := by rw [List.size_toArray]; exact rel.length.symm
  refine ⟨"tuple", _, PyProof.Rows.slot_tuple_getitem.lookup, tt.typeIs, ?_⟩
  by_cases whole : HT.sIx xs.length 0 lo = 0 ∧ HT.sIx xs.length xs.length hi = xs.length
  · refine getItem_tuple_whole tt hs pl pu (by rw [len]; exact whole) ⟨.ref a, H, J, rfl, q a H (Same.refl H) ?_⟩
    rw [cut_whole whole]
    exact hx
  · refine HT.getItem_tuple_cut tt hs pl pu (by rw [len]; exact whole) ?_ (by rw [len]; exact few)
    rw [len]
    obtain ⟨G2, J2, fresh, same, tx⟩ := laid_tup J ((rel.drop (HT.sIx xs.length 0 lo)).take (HT.sIx xs.length xs.length hi - HT.sIx xs.length 0 lo)) (Nat.le_trans (cutV_length xs lo hi) few)
    exact ⟨.ref s.heap.objs.size, G2, J2, rfl, q _ _ same tx⟩
/-- tuple(xs) of a list -/
theorem call_tupX : CallR X (.type "tuple") (fun xs H Q => ∃ p ys, xs = [.ref p] ∧ SqL X.K H p ys ∧ ∀ q H2, H q = none → Same H H2 → TX H2 q ys → Q (.ref q) H2) := by
  intro pins s σ H xs us Q J r h
  obtain ⟨p, ys, rfl, hq, q⟩ := h
  obtain ⟨u, rfl, rx⟩ := vals1 r
  cases rx
  obtain ⟨its, rel, pl, few⟩ := J.list hq
  have len := rel.length
  refine call_tuple_list pl.isList (fun h2 keep => ?_) (by simp only [List.size_toArray]; omega)
  have J1 : Inv X pins σ H { s with heap := h2 } := J.kept (t' := s.toks) keep
  obtain ⟨G2, J2, fresh, same, tx⟩ := laid_tup J1 rel few
  exact ⟨.ref h2.objs.size, G2, J2, rfl, q _ _ fresh same tx⟩
/-- t.name(..) -/
def tTM (r : V → List V → Hp → VK → Prop) (to : TE) (t : TA) : TE := fun σ H Q => to σ H fun x H1 => (∃ a xs, x = .ref a ∧ TX H1 a xs) ∧ t σ H1 fun vs H2 => r x vs H2 Q
variable {o e : Expr} {es : List Expr} {name : Str} {id : String} {apos cpos : Pos} {r : V → List V → Hp → VK → Prop} {to : TE} {t : TA}
theorem pe_tm (slot : Slot "tuple" name id) (hty : typeOf (.builtin id) = pure (.type "method_descriptor")) (hm : MtR X id r) (ho : PE X o to) (ha : PA X (e :: es) t)
    (hbase : attributeBase o name X.env (eval o X.env) = eval o X.env := by rfl)
    (few : ((backTo cpos (starEach (e :: es) X.env)).all (fun x => !x.1) && (backToKw cpos (keywordEach [] X.env)).all (fun x => x.1.isSome)
      && decide ((e :: es).length + ([] : List Keyword).length + (if ([] : List Keyword).isEmpty then 0 else 1) < 30)) = true := by rfl)
    (line : (apos.endLine == cpos.line) = true := by rfl) (st : starEach (e :: es) X.env = (false, eval e X.env) :: starEach es X.env := by rfl) (plain : (backTo cpos (starEach es X.env)).any (·.1) = false := by rfl) :
    PE X (.Call (.Attribute o name apos) (e :: es) [] cpos) (tTM r to t) := by
  refine ⟨fun pins s0 σ G0 Q J0 q0 => ?_⟩
  refine wpAny_Call_method_late hbase few line rfl (thn (ho.run pins s0 σ G0 _ J0 q0) fun v s1 ⟨x, G1, J1, r1, ⟨a, xs, ex, tx⟩, q1⟩ => ?_)
  subst ex
  obtain rfl : v = Value.ref a := r1
  obtain ⟨ob, at_, nod⟩ := tx
  obtain ⟨here, _, us, rel, tt⟩ := J1.hok a _ at_
  refine ⟨"tuple", id, F.plainAttrs_tuple, slot, hty, tt.typeIs, fun b eb => ?_, ?_⟩
  · cases eb
    exact ⟨ob, here, nod⟩
  have run := ha.run cpos pins s1 σ G1 _ J1 q1
  rw [st] at run ⊢
  refine Calls.callWith_builtin (by show (false || (backTo cpos (starEach es X.env)).any (·.1)) = false; rw [plain]; rfl) (Calls.evalArgs_plain ?_)
  exact thn run fun us2 s2 ⟨vs, G2, J2, r2, q2⟩ => hm pins s2 σ G2 (.ref a) vs _ us2 Q J2 rfl r2 q2
end
end Tx
/-! ### repr of what is tracked: None, bools, ints, texts, lists, tuples and dicts of them -/
namespace Gd
open PySem PySem.Spec PyProof.Rows L2 PySem.Builtin.List
def keyText : Key → Str
  | .inl i => ((toString i : String) : Str)
  | .inr x => reprText x
def keyFits : Key → Prop
  | .inl i => i.natAbs.log2 < 1920
  | .inr x => (reprText x).length ≤ sizeLine
/-- a plain value and its text -/
inductive Sc : V → Str → Prop where
  | non : Sc .non "None"
  | bl (b : Bool) : Sc (.bl b) (if b then "True" else "False")
  | int (i : Int) (h : i.natAbs.log2 < 1920) : Sc (.int i) ((toString i : String) : Str)
  | str (x : Str) (h : (reprText x).length ≤ sizeLine) : Sc (.str x) (reprText x)
/-- v is shown as t: nested at most n deep -/
def Sh (H : Hp) : Nat → V → Str → Prop
  | 0, v, t => Sc v t
  | n + 1, v, t => Sc v t ∨ (∃ a xs ts, v = .ref a ∧ H a = some (.lst xs) ∧ Paired (Sh H n) xs ts ∧ t = listText ts) ∨
      (∃ a xs ts, v = .ref a ∧ Tx.TX H a xs ∧ Paired (Sh H n) xs ts ∧ t = tupleText ts) ∨
      ∃ a kvs ts, v = .ref a ∧ H a = some (.dK kvs) ∧ Paired (fun (p : Key × V) t => keyFits p.1 ∧ Sh H n p.2 t) kvs ts ∧ t = dictText (List.zipWith (fun (p : Key × V) t => keyText p.1 ++ ": " ++ t) kvs ts)
theorem Sh.sc {H : Hp} {n : Nat} {v : V} {t : Str} (h : Sc v t) : Sh H n v t := by
  cases n with
  | zero => exact h
  | succ n => exact .inl h
theorem Sh.lst {H : Hp} {n : Nat} {a : Addr} {xs : List V} {ts : List Str} (e : H a = some (.lst xs)) (h : Paired (Sh H n) xs ts) : Sh H (n + 1) (.ref a) (listText ts) := .inr (.inl ⟨a, xs, ts, rfl, e, h, rfl⟩)
theorem Sh.tup {H : Hp} {n : Nat} {a : Addr} {xs : List V} {ts : List Str} (e : Tx.TX H a xs) (h : Paired (Sh H n) xs ts) : Sh H (n + 1) (.ref a) (tupleText ts) := .inr (.inr (.inl ⟨a, xs, ts, rfl, e, h, rfl⟩))
theorem Sh.dK {H : Hp} {n : Nat} {a : Addr} {kvs : List (Key × V)} {ts : List Str} (e : H a = some (.dK kvs)) (h : Paired (fun (p : Key × V) t => keyFits p.1 ∧ Sh H n p.2 t) kvs ts) :
    Sh H (n + 1) (.ref a) (dictText (List.zipWith (fun (p : Key × V) t => keyText p.1 ++ ": " ++ t) kvs ts)) := .inr (.inr (.inr ⟨a, kvs, ts, rfl, e, h, rfl⟩))
theorem Sc.det {v : V} {t t' : Str} (h : Sc v t) (h' : Sc v t') : t = t' := by
  cases h <;> cases h' <;> rfl
theorem Sc.noRef {a : Addr} {t : Str} (h : Sc (.ref a) t) : False := nomatch h
theorem paired_det {α : Type} {F G : α → Str → Prop} (k : ∀ a t t', F a t → G a t' → t = t') : ∀ {xs : List α} {ts ts' : List Str}, Paired F xs ts → Paired G xs ts' → ts = ts'
  | _, _, _, .nil, .nil => rfl
  | _, _, _, .cons h r, .cons h' r' => by rw [k _ _ _ h h', paired_det k r r']
/-- the text is one -/
theorem Sh.det {H : Hp} : ∀ (n : Nat) (v : V) (t : Str), Sh H n v t → ∀ (m : Nat) (t' : Str), Sh H m v t' → t = t'
  | 0, v, t, h, 0, t', h' => Sc.det h h'
  | 0, v, t, h, m + 1, t', h' => by
    rcases h' with h' | ⟨a, _, _, rfl, _⟩ | ⟨a, _, _, rfl, _⟩ | ⟨a, _, _, rfl, _⟩
    · exact Sc.det h h'
    all_goals exact (Sc.noRef h).elim
  | n + 1, v, t, h, 0, t', h' => by
    rcases h with h | ⟨a, _, _, rfl, _⟩ | ⟨a, _, _, rfl, _⟩ | ⟨a, _, _, rfl, _⟩
    · exact Sc.det h h'
    all_goals exact (Sc.noRef h').elim
  | n + 1, v, t, h, m + 1, t', h' => by
    rcases h with h | ⟨a, xs, ts, rfl, e, p, rfl⟩ | ⟨a, xs, ts, rfl, ⟨ob, e, od⟩, p, rfl⟩ | ⟨a, xs, ts, rfl, e, p, rfl⟩
    · rcases h' with h' | ⟨a, _, _, rfl, _⟩ | ⟨a, _, _, rfl, _⟩ | ⟨a, _, _, rfl, _⟩
      · exact Sc.det h h'
      all_goals exact (Sc.noRef h).elim
    · rcases h' with h' | ⟨b, xs', ts', eb, e', p', rfl⟩ | ⟨b, xs', ts', eb, ⟨ob', e', od'⟩, p', rfl⟩ | ⟨b, xs', ts', eb, e', p', rfl⟩
      · exact (Sc.noRef h').elim
      all_goals
        cases eb
        rw [e] at e'
        cases e'
      rw [paired_det (fun a t t' q q' => Sh.det n a t q m t' q') p p']
    · rcases h' with h' | ⟨b, xs', ts', eb, e', p', rfl⟩ | ⟨b, xs', ts', eb, ⟨ob', e', od'⟩, p', rfl⟩ | ⟨b, xs', ts', eb, e', p', rfl⟩
      · exact (Sc.noRef h').elim
      all_goals
        cases eb
        rw [e] at e'
        cases e'
      rw [paired_det (fun a t t' q q' => Sh.det n a t q m t' q') p p']
    · rcases h' with h' | ⟨b, xs', ts', eb, e', p', rfl⟩ | ⟨b, xs', ts', eb, ⟨ob', e', od'⟩, p', rfl⟩ | ⟨b, xs', ts', eb, e', p', rfl⟩
      · exact (Sc.noRef h').elim
      all_goals
        cases eb
        rw [e] at e'
        cases e'
      rw [paired_det (fun a t t' q q' => Sh.det n a.2 t q.2 m t' q'.2) p p']
theorem Sh.keep {H H' : Hp} (k : ∀ a o, H a = some o → H' a = some o) : ∀ (n : Nat) (v : V) (t : Str), Sh H n v t → Sh H' n v t
  | 0, _, _, h => h
  | n + 1, _, _, h => by
    rcases h with h | ⟨a, xs, ts, rfl, e, p, rfl⟩ | ⟨a, xs, ts, rfl, e, p, rfl⟩ | ⟨a, xs, ts, rfl, e, p, rfl⟩
    · exact .inl h
    · exact Sh.lst (k _ _ e) (L2.Paired.mapP p fun x t q => Sh.keep k n x t q)
    · exact Sh.tup (Tx.TX.same e k) (L2.Paired.mapP p fun x t q => Sh.keep k n x t q)
    · exact Sh.dK (k _ _ e) (L2.Paired.mapP p fun x t q => ⟨q.1, Sh.keep k n x.2 t q.2⟩)
section
variable {P : Program} {w : World} {H : Hp} {h : Heap}
def Below (H : Hp) (n : Nat) (b : Addr) : Prop := ∃ m, m ≤ n ∧ ∃ t, Sh H m (.ref b) t
theorem all_repr {n : Nat} (ih : ∀ (v : V) (t : Str) (u : Value), Sh H n v t → RelV v u → ∃ bs : List Addr, (∀ b ∈ bs, Below H n b) ∧ ReprK P w bs h n u t) :
    ∀ {xs : List V} {ts : List Str} {us : List Value}, Paired (Sh H n) xs ts → Vals xs us → ∃ bs : List Addr, (∀ b ∈ bs, Below H n b) ∧ ReprAllK P w bs h n us ts
  | _, _, _, .nil, .nil => ⟨[], (fun _ m => nomatch m), .nil⟩
  | _, _, _, .cons p q, .cons r s => by
    obtain ⟨b1, h1, k1⟩ := ih _ _ _ p r
    obtain ⟨b2, h2, k2⟩ := all_repr ih q s
    exact ⟨b1 ++ b2, fun b m => (List.mem_append.mp m).elim (h1 b) (h2 b), .cons (k1.more fun b m => List.mem_append_left _ m) (k2.more_le (fun b m => List.mem_append_right _ m) (Nat.le_refl _))⟩
theorem key_repr {k : Key} {v : Value} (e : keyIs k v = true) (f : keyFits k) (bs : List Addr) (n : Nat) : ReprK P w bs h n v (keyText k) := by
  rcases keyIs_shape e with ⟨i, t, rfl, rfl⟩ | ⟨x, t, rfl, rfl⟩
  · exact .of_is (ReprIs.int t f) _ _ _
  · exact .of_is (ReprIs.str x t f) _ _ _
theorem ReprEntriesK.wider {as as' : List Addr} {d : Nat} (sub : ∀ b ∈ as, b ∈ as') : ∀ {l : List DictEntry} {ts : List Str}, ReprEntriesK P w as h d l ts → ReprEntriesK P w as' h d l ts
  | _, _, .nil => .nil
  | _, _, .cons a b r => .cons (a.more sub) (b.more sub) (ReprEntriesK.wider sub r)
theorem entries_repr {n : Nat} (ih : ∀ (v : V) (t : Str) (u : Value), Sh H n v t → RelV v u → ∃ bs : List Addr, (∀ b ∈ bs, Below H n b) ∧ ReprK P w bs h n u t) :
    ∀ {kvs : List (Key × V)} {ts : List Str} {ws : List (Key × Value)} {es : List DictEntry}, Paired (fun (p : Key × V) t => keyFits p.1 ∧ Sh H n p.2 t) kvs ts → KV kvs ws → Pairs (mixKind P w) es ws →
      ∃ bs : List Addr, (∀ b ∈ bs, Below H n b) ∧ ReprEntriesK P w bs h n es (List.zipWith (fun (p : Key × V) t => keyText p.1 ++ ": " ++ t) kvs ts)
  | _, _, _, _, .nil, .nil, .nil => ⟨[], (fun _ m => nomatch m), .nil⟩
  | _, _, _, _, .cons p q, .cons r s, .cons (e := e) a b c => by
    obtain ⟨b1, h1, k1⟩ := ih _ _ _ p.2 r.2
    obtain ⟨b2, h2, k2⟩ := entries_repr ih q s c
    refine ⟨b1 ++ b2, fun b m => (List.mem_append.mp m).elim (h1 b) (h2 b), ?_⟩
    refine .cons (key_repr (by rw [r.1]; exact a) p.1 _ _) ?_ (ReprEntriesK.wider (fun b m => List.mem_append_right _ m) k2)
    rw [b]
    exact k1.more fun b m => List.mem_append_left _ m
/-- whatever is tracked and is shown as t gives t to repr -/
theorem repr_sh (ok : HOk P w H h) (n : Nat) : ∀ (v : V) (t : Str) (u : Value), Sh H n v t → RelV v u → ∃ bs : List Addr, (∀ b ∈ bs, Below H n b) ∧ ReprK P w bs h n u t := by
  induction n using Nat.strongRecOn with
  | ind n IH =>
    intro v t u hv r
    have plain : Sc v t → ∃ bs : List Addr, (∀ b ∈ bs, Below H n b) ∧ ReprK P w bs h n u t := fun c => by
      refine ⟨[], (fun _ m => nomatch m), ?_⟩
      cases c with
      | non =>
        cases (show u = Value.none from r)
        exact .of_is ReprIs.none _ _ _
      | bl b =>
        cases (show u = Value.bool b from r)
        exact .of_is (ReprIs.bool b) _ _ _
      | int i f =>
        obtain ⟨t, rfl⟩ := (show ∃ t, u = Value.int i t from r)
        exact .of_is (ReprIs.int t f) _ _ _
      | str x f =>
        obtain ⟨t, rfl⟩ := (show ∃ t, u = Value.str x t from r)
        exact .of_is (ReprIs.str x t f) _ _ _
    cases n with
    | zero => exact plain hv
    | succ n =>
      have ih := IH n (Nat.lt_succ_self n)
      -- a ring can't be: what is below has the same text at a lower level
      have ring : ∀ (a : Addr) (bs : List Addr), v = .ref a → (∀ b ∈ bs, Below H n b) → a ∈ bs → ∃ bs : List Addr, (∀ b ∈ bs, Below H (n + 1) b) ∧ ReprK P w bs h (n + 1) u t := fun a bs e hb m => by
        obtain ⟨m, hm, t', ht⟩ := hb a m
        subst e
        have et : t = t' := Sh.det _ _ _ hv _ _ ht
        subst et
        obtain ⟨cs, hc, k⟩ := IH m (by omega) _ _ _ ht r
        exact ⟨cs, fun b q => let ⟨l, hl, x⟩ := hc b q; ⟨l, by omega, x⟩, k.level_le (by omega)⟩
      rcases id hv with c | ⟨a, xs, ts, rfl, e, p, rfl⟩ | ⟨a, xs, ts, rfl, e, p, rfl⟩ | ⟨a, kvs, ts, rfl, e, p, rfl⟩
      · exact plain c
      · cases (show u = Value.ref a from r)
        obtain ⟨_, its, m, rv, ho⟩ := (show ObjOk P w H h a (.lst xs) from ok a _ e)
        obtain ⟨bs, hb, hk⟩ := all_repr ih p rv
        by_cases c : a ∈ bs
        · exact ring a bs rfl hb c
        · refine ⟨a :: bs, fun b q => ?_, ?_⟩
          · rcases List.mem_cons.mp q with rfl | q
            · exact ⟨n + 1, Nat.le_refl _, _, hv⟩
            · obtain ⟨l, hl, x⟩ := hb b q
              exact ⟨l, by omega, x⟩
          · cases its with
            | nil =>
              cases hk
              rw [listText_nil]
              exact ReprK.listEmpty ho rfl rfl
            | cons x l => exact ReprK.list ho rfl rfl c (by simpa using hk.length_eq) (fun i y q => hk.item i y (by simpa using q))
      · cases (show u = Value.ref a from r)
        obtain ⟨ob, e, od⟩ := e
        obtain ⟨_, _, its, rv, o, ho, hc, m, hd⟩ := (show ObjOk P w H h a (.frz ob (.tup xs)) from ok a _ e)
        obtain ⟨bs, hb, hk⟩ := all_repr ih p rv
        by_cases c : a ∈ bs
        · exact ring a bs rfl hb c
        · refine ⟨a :: bs, fun b q => ?_, ReprK.tuple ho hc hd c (by simpa using hk)⟩
          rcases List.mem_cons.mp q with rfl | q
          · exact ⟨n + 1, Nat.le_refl _, _, hv⟩
          · obtain ⟨l, hl, x⟩ := hb b q
            exact ⟨l, by omega, x⟩
      · cases (show u = Value.ref a from r)
        obtain ⟨_, ys, ws, rv, o, es, ep, ho, hc, hd, _, hp, _⟩ := (show ObjOk P w H h a (.dK kvs) from ok a _ e)
        obtain ⟨bs, hb, hk⟩ := entries_repr ih p rv hp
        by_cases c : a ∈ bs
        · exact ring a bs rfl hb c
        · refine ⟨a :: bs, fun b q => ?_, ReprK.dict ho hc.1 hd ys c hk⟩
          rcases List.mem_cons.mp q with rfl | q
          · exact ⟨n + 1, Nat.le_refl _, _, hv⟩
          · obtain ⟨l, hl, x⟩ := hb b q
            exact ⟨l, by omega, x⟩
/-- repr(v) -/
theorem call_sh (ok : HOk P w H h) (n : Nat) : ∀ (v : V) (t : Str) (u : Value), Sh H n v t → RelV v u → t.length ≤ sizeLine → ∀ (A : Around) (E : Value → Shared → Prop) (s : Shared) (Q : Value → Shared → Prop), A.guards = some [] → A.units + (n + 1) < cLine → s.heap = h →
    (∀ h' z tk, (∀ b o, s.heap.get? b = some o → h'.get? b = some o) → Q (.str t z) { s with heap := h', toks := tk }) → wpAny (model P w) A (call (.builtin "repr") [u]) Q E s := by
  induction n using Nat.strongRecOn with
  | ind n IH =>
    intro v t u hv r hz A E s Q hg hu eh hQ
    subst eh
    have plain : Sc v t → wpAny (model P w) A (call (.builtin "repr") [u]) Q E s := fun c => by
      cases c with
      | non =>
        cases (show u = Value.none from r)
        exact PySem.P.repr_of_none (hQ s.heap _ _ fun _ _ e => e)
      | bl b =>
        cases (show u = Value.bool b from r)
        exact PySem.P.repr_of_bool (by
          have q := hQ s.heap s.toks (s.toks + 1) fun _ _ e => e
          cases b <;> exact q)
      | int i f =>
        obtain ⟨t, rfl⟩ := (show ∃ t, u = Value.int i t from r)
        exact PySem.P.repr_of_int f (hQ s.heap _ _ fun _ _ e => e)
      | str x f =>
        obtain ⟨t, rfl⟩ := (show ∃ t, u = Value.str x t from r)
        exact PySem.P.repr_of_str (hQ s.heap _ _ fun _ _ e => e) f
    cases n with
    | zero => exact plain hv
    | succ n =>
      have ih := fun v t u => repr_sh (P := P) (w := w) ok n v t u
      have ring : ∀ (a : Addr) (bs : List Addr), v = .ref a → (∀ b ∈ bs, Below H n b) → a ∈ bs → wpAny (model P w) A (call (.builtin "repr") [u]) Q E s := fun a bs e hb m => by
        obtain ⟨m, hm, t', ht⟩ := hb a m
        subst e
        have et : t = t' := Sh.det _ _ _ hv _ _ ht
        subst et
        exact IH m (by omega) _ _ _ ht r hz A E s Q hg (by omega) rfl hQ
      have hu1 : A.in1.units + (n + 1) < cLine := by
        show A.units + 1 + (n + 1) < cLine
        omega
      have hk0 : ∀ b o, s.heap.get? b = some o → s.heap.get? b = some o := fun _ _ e => e
      rcases id hv with c | ⟨a, xs, ts, rfl, e, p, rfl⟩ | ⟨a, xs, ts, rfl, e, p, rfl⟩ | ⟨a, kvs, ts, rfl, e, p, rfl⟩
      · exact plain c
      · cases (show u = Value.ref a from r)
        obtain ⟨_, its, m, rv, ho⟩ := (show ObjOk P w H s.heap a (.lst xs) from ok a _ e)
        obtain ⟨bs, hb, hk⟩ := all_repr ih p rv
        by_cases c : a ∈ bs
        · exact ring a bs rfl hb c
        · refine call_repr_slot (by omega) (T := "list") ⟨_, ho, rfl⟩ F.slot_list_repr.toG ?_
          cases its with
          | nil =>
            cases hk
            rw [listText_nil] at hQ
            exact call_list_repr_empty ⟨_, ho, rfl⟩ ho rfl ⟨_, _, rfl, hQ s.heap _ _ fun _ _ e => e⟩
          | cons x l =>
            exact call_list_reprK ho rfl rfl c (by simpa using hk.length_eq) (fun i y q => hk.item i y (by simpa using q)) (A := A.in1) hg (fun b _ => Clear.nil b) hu1 hk0 (fun h' z tk k => ⟨_, _, rfl, hQ h' z tk k⟩) hz
      · cases (show u = Value.ref a from r)
        obtain ⟨ob, e, od⟩ := e
        obtain ⟨_, _, its, rv, o, ho, hc, m, hd⟩ := (show ObjOk P w H s.heap a (.frz ob (.tup xs)) from ok a _ e)
        obtain ⟨bs, hb, hk⟩ := all_repr ih p rv
        by_cases c : a ∈ bs
        · exact ring a bs rfl hb c
        · exact call_repr_slot (by omega) (T := "tuple") ⟨_, ho, hc⟩ F.slot_tuple_repr (call_tuple_reprK ho hc hd c (by simpa using hk) (A := A.in1) hg (fun b _ => Clear.nil b) hu1 hk0 (fun h' z tk k => ⟨_, _, rfl, hQ h' z tk k⟩) hz)
      · cases (show u = Value.ref a from r)
        obtain ⟨_, ys, ws, rv, o, es, ep, ho, hc, hd, _, hp, _⟩ := (show ObjOk P w H s.heap a (.dK kvs) from ok a _ e)
        obtain ⟨bs, hb, hk⟩ := entries_repr ih p rv hp
        by_cases c : a ∈ bs
        · exact ring a bs rfl hb c
        · exact call_repr_slot (by omega) (T := "dict") ⟨_, ho, hc.1⟩ F.slot_dict_repr (call_dict_reprK ho hc.1 hd ys c hk (A := A.in1) hg (fun b _ => Clear.nil b) hu1 hk0 (fun h' z tk k => ⟨_, _, rfl, hQ h' z tk k⟩) hz)
end
section
variable {X : Cx}
def rRepr : List V → Hp → VK → Prop := fun vs H Q => ∃ (v : V) (n : Nat) (t : Str), vs = [v] ∧ Sh H n v t ∧ n ≤ 50 ∧ t.length ≤ sizeLine ∧ Q (.str t) H
theorem call_repr (gd : X.A.guards = some []) (hu : X.A.units + 64 < cLine) : CallR X (.builtin "repr") rRepr := by
  intro pins s σ H vs us Q I r h
  obtain ⟨v, n, t, rfl, hv, hn, hz, q⟩ := h
  obtain ⟨u, rfl, ru⟩ := vals1 r
  exact call_sh I.hok n v t u hv ru hz X.A _ s _ gd (by omega) rfl fun h' z tk k => ⟨.str t, H, I.kept k, ⟨z, rfl⟩, q⟩
end
end Gd
/-! ### self.name = v on a fresh instance of an exception class of one's own over ANY built-in base (SF: the base's store facts) -/
namespace PySem
namespace OwnErr
open PySem.W PySem.Calls PyProof.Rows PySem.HandSPX Builtin Builtin.ObjectAttr
section
variable {prog : Program} {w : World} {A : Around} {R : Result → Shared → Prop} {hp : Heap} {g : Array GenState} {dr : Drawn} {tn : Nat} {os : OsState}
/-- what must be known of the class's chain: it lets a store pass, it is not empty, it ends in object -/
structure Chain (mro : List Value) : Prop where
  pass : ∀ self : Value, refuseLoop self "__setattr__" mro = pure ()
  obj : mro.contains (.type "object") = true
  some : mro.isEmpty = false
theorem chain_of {B sa ow : String} {bm : List Value} (SF : StoreFacts B bm sa ow) (ho : bm.contains (.type "object") = true) (C : Addr) : Chain (.ref C :: bm) where
  pass := fun self => by rw [refuseLoop_ref]; exact SF.passes self
  obj := by rw [List.contains_cons, ho, Bool.or_true]
  some := rfl
/-- the first attribute of such an instance: it gets a dict of its own, which is new -/
theorem first_store {K : Frag} {nm : Str} {tk : Tok} {v : Value} {x C : Addr} {fv : Array Value} {cd : ClassData} (Z : Chain cd.mro)
    (X : K.In hp) (hx : hp.get? x = some { cls := .ref C, data := .fields fv }) (hcd : clsIn K C = some cd) (hh : cd.hasDict = true) (ha : findIn K (.ref C) nm = some none)
    (fin : ∀ h' tk' dx, (∀ b o, b ≠ x → hp.get? b = some o → h'.get? b = some o) → hp.objs.size ≤ dx → dx ≠ x → h'.get? x = some { cls := .ref C, dict := some dx, data := .fields fv } →
      h'.Ns1 dx (fun y => if y = nm then some v else none) → R (.ok (.ret .none)) ⟨h', g, dr, tk', os⟩) :
    codeAny (model prog w) A (.call (.builtin "object.__setattr__") ⟨[.ref x, .str nm tk, v], []⟩) R ⟨hp, g, dr, tn, os⟩ := by
  have inst : InstAt hp x { cls := .ref C, data := .fields fv } C none := ⟨hx, rfl, rfl, trivial⟩
  have old : x < hp.objs.size := Heap.lt_size hx
  have xs : x ≠ hp.objs.size := Nat.ne_of_lt old
  have isObj : Looks (model prog w) hp (isInstance (.ref x) (.type "object")) true :=
    inst.type.andThen (looks_mroIn X (by unfold mroIn; rw [hcd, Option.bind_some, if_neg (by rw [Z.some]; decide), Z.obj]))
  have mroL : Looks (model prog w) hp (mroOf (.ref C)) cd.mro := (looks_clsIn X hcd).andThen .now
  have noTaker : Looks (model prog w) hp (storeTaker? none) none := .now
  have clsL : Looks (model prog w) hp (classData C) cd := looks_clsIn X hcd
  have S0 := F.store_object
  refine codeAny_call_builtin S0.slot.plain S0.entry
    (@check_slot (model prog w) _ _ ⟨hp, g, dr, tn, os⟩ "object.__setattr__" "object" "__setattr__" (.ref x) [.str nm tk, v] [] _ S0.kind S0.split isObj (S0.args (.ref x) (.str nm tk) v) ?_)
  rw [osa_eq, refuse_eq]
  refine wpAny_bind (wpAny_bind (inst.type.at (wpAny_bind (mroL.at ?_))))
  rw [Z.pass]
  refine wpAny_pure (wpAny_bind (inst.type.at (wpAny_bind ((looks_findIn X ha).at (wpAny_bind (noTaker.at ?_))))))
  show wpAny _ _ (storeInOwnDict (.ref x) (.ref C) (.str nm tk) nm v false) _ _ _
  obtain ⟨c1, c2, c3, c4, c5, hasD, c7, c8, c9, c10, c11⟩ := cd
  dsimp only at hh
  subst hh
  unfold storeInOwnDict ownDictForStores
  repeat (first | with_reducible refine store_in_new ?_ ?_ | with_reducible refine wpAny_loadPart_at hx ?_ | with_reducible refine clsL.at ?_ | wp_step)
  · exact ⟨_, #[], _, (Heap.get?_update_ne _ _ _ _ xs.symm).trans (Heap.get?_push_at rfl rfl), rfl, fun e he => absurd he (by simp), fun _ => rfl⟩
  · intro h' tk' ns same
    have hx1 := Heap.get?_push_of_some { cls := .type "dict", data := .dict #[] } hx
    have here : h'.get? x = some { cls := .ref C, dict := some hp.objs.size, data := .fields fv } := (same.2 x xs).trans (Heap.get?_update_self _ hx1 rfl)
    have kept : ∀ b o, b ≠ x → hp.get? b = some o → h'.get? b = some o := fun b o nb eb =>
      (same.2 b (Nat.ne_of_lt (Heap.lt_size eb))).trans ((Heap.get?_update_ne _ _ _ _ nb).trans (Heap.get?_push_of_some _ eb))
    exact fin h' tk' hp.objs.size kept (Nat.le_refl _) xs.symm here ns
end
end OwnErr
end PySem
namespace PySem
namespace InumX
open PySem.W PySem.Calls PyProof.Rows PySem.HandSPX
/-! ### the text of __init__ -/
def iA (p1 p2 : Pos) : Arguments := { posonlyargs := [], args := [{ arg := "self", annotation := none, pos := p1 }, { arg := "value", annotation := none, pos := p2 }], vararg := none, kwonlyargs := [], kw_defaults := [], kwarg := none, defaults := [] }
def iB (q1 q2 q3 q4 : Pos) : List Stmt := [.Assign [.Attribute (.Name "self" q1) "value" q2] (.Name "value" q3) q4]
def iS : Scope := { kind := .function, names := [(PySem.Str.ofString "self", .local), (PySem.Str.ofString "value", .local)], isGenerator := false, isCoroutine := false, more := [] }
/-- what the written part says of Low, at C, and of its __init__, at fI -/
structure InumTxt (K : Frag) (mg : Str → Option Value) (C fI : Addr) : Prop where
  gC : mg "InvalidNumber" = some (.ref C)
  cls : ∃ nm q N bs bm sn sub ab col dd k0 k1 k2 k3 k5, K.lookup C = some (excClassObj nm q C N bs bm true sn sub ab col dd k0 k1 k2 k3 k5 "IndexError.__new__") ∧ bm = [.type "IndexError", .type "LookupError", .type "Exception", .type "BaseException", .type "object"]
  sa : findIn K (.ref C) "__setattr__" = some (some (.builtin "object.__setattr__"))
  ga : findIn K (.ref C) "__getattribute__" = some (some (.builtin "BaseException.__getattribute__"))
  gg : findIn K (.ref C) "__getattr__" = some none
  noN : findIn K (.ref C) "value" = some none
  iC : findIn K (.ref C) "__init__" = some (some (.ref fI))
  tC : typeIn K (.ref fI) = some (.type "function")
  kC : keepIn K (.ref C) = true
  exC : subIn K (.ref C) (.type "BaseException") = some true
  tyC : typeIn K (.ref C) = some (.type "type")
  hdC : hasDictIn K C = true
  te : exmOne K (.ref C) (.ref C) = some true
  fn : ∃ (oc : Value) (od : Option Addr) (doc pm : Value) (an : Option Addr) (cdv ct : Value) (osl : Array (Option Value)) (p1 p2 q1 q2 q3 q4 : Pos),
    K.lookup fI = some ⟨oc, od, .func (fnOf "__init__" "InvalidNumber.__init__" (iA p1 p2) (iB q1 q2 q3 q4) iS .none .none doc pm an cdv ct), osl⟩ ∧ codeIn K cdv "InvalidNumber.__init__" = true
theorem one_size (v : Value) : [v].length ≤ sizeLine := by
  rw [sizeLine_eq]
  exact (by decide : 1 ≤ 16777216)
theorem kept_but {K : Frag} {h h' : Heap} {x : Addr} (X : K.In h) (hx : K.lookup x = none) (k : ∀ b o, b ≠ x → h.get? b = some o → h'.get? b = some o) : K.In h' := fun a o e =>
  k a o (fun z => by rw [z, hx] at e; cases e) (X a o e)
theorem ldC {M : Model} {s : Shared} {name : Str} {scope : Scope} {L a : Addr} {cd : Value} {m : Str → Option Value} {x : Str} {pos : Pos} {v : Value} {Q : Value → Shared → Prop} {A : Around} {E : Value → Shared → Prop} (hn : s.heap.Ns L m) (hv : m x = some v) (h : Q v s)
    (hk : scope.kind = .function := by rfl) (hl : (envOfC name scope L a cd).kindOf x = some .local := by rfl) (hd : (x == ("__debug__" : Str)) = false := by decide) :
    wpAny M A (eval (.Name x pos) (envOfC name scope L a cd)) Q E s := wpAny_Name (wpAny_loadName_local hk hl hn hv h) hd
/-- what __init__ leaves of a fresh exception at x -/
structure InitEnd (h h' : Heap) (x C dx t1 : Addr) (v : Value) : Prop where
  keep : ∀ b o, b ≠ x → h.get? b = some o → h'.get? b = some o
  obj : h'.get? x = some { cls := .ref C, dict := some dx, data := .fields #[.ref t1, .none, .none, .none, .bool false, .none] }
  dbig : h.objs.size ≤ dx
  dne : dx ≠ x
  ns : h'.Ns1 dx (fun y => if y = "value" then some v else none)
/-- a made Low -/
structure OwnMade (h h' : Heap) (e C d : Addr) (v : Value) : Prop where
  keep : ∀ b o, h.get? b = some o → h'.get? b = some o
  new : h.objs.size ≤ e
  obj : ∃ oe vs, h'.get? e = some oe ∧ oe.cls = .ref C ∧ oe.dict = some d ∧ oe.data = .fields vs ∧ vs[1]? = some .none
  dbig : h.objs.size ≤ d
  dne : d ≠ e
  ns : h'.Ns1 d (fun y => if y = "value" then some v else none)
section
variable {prog : Program} {w : World} {A : Around} {E : Value → Shared → Prop} {R : Result → Shared → Prop} {s : Shared} {K : Frag} {mg : Str → Option Value} {C fI : Addr}
theorem inum_init (T : InumTxt K mg C fI) {x t0 : Addr} {v : Value} (X : K.In s.heap) (hlim : s.heap.NoLimit) (hx : s.heap.get? x = some (excO C t0)) (hnx : K.lookup x = none) (hroom : A.depth < recursionLimit)
    (hq : ∀ h' tk dx, InitEnd s.heap h' x C dx t0 v → R (.ok (.ret .none)) { s with heap := h', toks := tk }) :
    codeAny (model prog w) A (.call (.ref fI) ⟨[.ref x, v], []⟩) R s := by
  obtain ⟨oc, od, doc, pm, an, cdv, ct, osl, p1, p2, q1, q2, q3, q4, ho, hcd⟩ := T.fn
  obtain ⟨nm, q, N, bs, bm, sn, sub, ab, col, dd, k0, k1, k2, k3, k5, hC, hbm⟩ := T.cls
  have hcl : clsIn K C = some { name := nm, bases := bs, mro := .ref C :: bm, ns := N, qualname := q, hasDict := true, slotNames := sn, subclasses := sub, abstract := ab, collection := col, hasDel := false } := by unfold clsIn; rw [hC] <;> rfl
  refine Att.call_fn (binds := [("self", .ref x), ("value", v)]) X hlim ho hcd hroom (BindsTo.of_eq (by first | rfl | with_unfolding_all rfl)) (by first | rfl | decide | with_unfolding_all rfl) (fun s₁ IC => ?_) rfl rfl rfl
  obtain ⟨h₁, tk₁, rfl⟩ := IC.toInCall.same
  have k : ∀ b o, s.heap.get? b = some o → h₁.get? b = some o := IC.toInCall.keep
  have hn := IC.toInCall.ns
  have hxL : s.heap.objs.size ≠ x := Nat.ne_of_gt (Heap.lt_size hx)
  have X₁ : K.In h₁ := X.keeps k
  have hx₁ := k _ _ hx
  -- self.by = by
  show wpAny _ _ (execs _ _) _ _ _
  refine wpAny_execs_cons (plainObj_wpAny_Assign_Attribute ?_)
  refine ldC (v := v) hn (by first | rfl | with_unfolding_all rfl | kernel_rfl) (ldC (v := .ref x) hn (by first | rfl | with_unfolding_all rfl | kernel_rfl) ?_)
  refine set_plain X₁ (ox := excO C t0) (od := none) ⟨hx₁, rfl, rfl, trivial⟩ T.sa ?_
  refine OwnErr.first_store (cd := _) (by rw [hbm]; exact OwnErr.chain_of F.store_IndexError (by decide +kernel) C) X₁ hx₁ hcl rfl T.noN (fun h₃ tk₃ dx k₃ dn dne hx₃ hn₃ => ?_)
  show wpAny _ _ (execs _ _) _ _ _
  have z : s.heap.objs.size < h₁.objs.size := hn.lt
  exact wpAny_execs_nil (hq h₃ tk₃ dx ⟨fun b o hb e => k₃ b o hb (k b o e), hx₃, Nat.le_of_lt (Nat.lt_of_lt_of_le z dn), dne, hn₃⟩)
theorem inum_made (T : InumTxt K mg C fI) {v : Value} (X : K.In s.heap) (hlim : s.heap.NoLimit) (hroom : A.depth + 1 < recursionLimit)
    (hq : ∀ h' tk e d, OwnMade s.heap h' e C d v → R (.ok (.ret (.ref e))) { s with heap := h', toks := tk }) :
    codeAny (model prog w) A (.call (.ref C) ⟨[v], []⟩) R s := by
  obtain ⟨nm, q, N, bs, bm, sn, sub, ab, col, dd, k0, k1, k2, k3, k5, hC, hbm⟩ := T.cls
  obtain ⟨hp, g, dr, tk, os⟩ := s
  have k : ∀ b o, hp.get? b = some o → ((hp.push (kdv_tup [v])).push (excO C hp.objs.size)).get? b = some o := fun b o e => Heap.get?_push_of_some _ (Heap.get?_push_of_some _ e)
  have hget : ((hp.push (kdv_tup [v])).push (excO C hp.objs.size)).get? (hp.objs.size + 1) = some (excO C hp.objs.size) := by heap_get
  have hnx : K.lookup (hp.objs.size + 1) = none := by
    cases e : K.lookup (hp.objs.size + 1) with
    | none => rfl
    | some o =>
      have z : hp.get? (hp.objs.size + 1) = some o := X _ _ e
      exact absurd (Nat.lt_of_succ_lt (Heap.lt_size z)) (Nat.lt_irrefl _)
  refine call_own F.excBase_IndexError (fun X => by rw [hbm]) (X _ _ hC) (looks_findIn X T.iC) (fun self => bind_fn X self T.tC) (one_size v) ?_
  refine inum_init (s := ⟨(hp.push (kdv_tup [v])).push (excO C hp.objs.size), g, dr, tk, os⟩) T (X.keeps k) (hlim.keeps k) hget hnx ?_ fun h' tk' dx ⟨k', hx, dn, dne, hns⟩ => ?_
  · show A.depth + 1 < recursionLimit
    exact hroom
  · have old : ∀ b o, hp.get? b = some o → h'.get? b = some o := fun b o e => k' b o (Nat.ne_of_lt (Nat.lt_succ_of_lt (Heap.lt_size e))) (k b o e)
    have z : hp.objs.size + 1 + 1 ≤ dx := by
      first
        | (simpa only [Heap.size_push] using dn)
        | exact dn
        | (have q := dn; rw [Heap.size_push, Heap.size_push] at q; exact q)
    exact ⟨rfl, hq h' tk' (hp.objs.size + 1) dx ⟨old, Nat.le_succ _, ⟨_, _, hx, rfl, rfl, rfl, rfl⟩, Nat.le_trans (Nat.le_trans (Nat.le_succ _) (Nat.le_succ _)) z, dne, hns⟩⟩
end
end InumX
end PySem
namespace L2
open PySem PySem.Spec PyProof.Rows
theorem relO_inum {v : V} {v' : Value} (r : RelV v v') (f : Str) : RelO (List.lookup f [(("value" : Str), v)]) (if f = "value" then some v' else none) := by
  by_cases hw : f = "value"
  · subst hw
    rw [if_pos rfl]
    have q : List.lookup ("value" : Str) [(("value" : Str), v)] = some v := by simp [List.lookup]
    rw [q]
    exact r
  · rw [if_neg hw]
    have qw : (f == ("value" : Str)) = false := by simpa using hw
    have q2 : List.lookup f [(("value" : Str), v)] = none := by simp [List.lookup, qw]
    rw [q2]
    trivial
section
variable {X : Cx} {C fI : Addr}
/-- Low(e) -/
def tMkInum (C : Addr) (ta : TA) : St → Hp → XK → Prop := fun σ H Q => ta σ H fun vs H1 => ∃ v, vs = [v] ∧ ∀ d, H1 d = none → Q (.ref C) (some d) (upd H1 d (.xd [(("value" : Str), v)]))
theorem pmk_inum {a : Expr} {ta : TA} {p pos : Pos} {k : Nat} (T : PySem.InumX.InumTxt X.K X.mg C fI) (hr : Room k X.A) (ha : PA X [a] ta) (hg : Gl X "InvalidNumber" := by rfl)
    (he : starEach (a :: []) X.env = (false, eval a X.env) :: starEach [] X.env := by rfl) (hpl : (backTo pos (starEach [] X.env)).any (·.1) = false := by rfl) :
    PMk X (.Call (.Name "InvalidNumber" p) [a] [] pos) (tMkInum C ta) := by
  intro pins s σ H Q I h
  refine wpAny_Call_Name_kw (ld_glob I hg T.gC ?_)
  refine PySem.W.callWith_K (h₀ := X.base) I.ok.mod.kin T.kC (thn (ha.run pos pins s σ H _ I h) fun us s1 hh => ?_) he hpl
  obtain ⟨vs, H1, I1, r1, v, ev, q1⟩ := hh
  subst ev
  refine ⟨I1.kIn, ?_⟩
  cases r1 with
  | cons rv rn =>
    rename_i v' us'
    cases rn
    show wpAny _ _ (call (.ref C) [v']) _ _ _
    have hlim := I1.nolimit
    obtain ⟨hp, g, dr, tk, os⟩ := s1
    refine wpAny_call (PySem.InumX.inum_made T I1.kIn hlim (by have := hr.dp; omega) fun h' tk' e d M => ?_)
    show MkP X pins σ Q (.ref e) ⟨h', g, dr, tk', os⟩
    obtain ⟨oe, fv, hoe, hc, hd, hdat, h1⟩ := M.obj
    have hns := M.ns
    obtain ⟨G', g1, g2⟩ := restrict h' fun b => decide (b ≠ e)
    have gk : ∀ b, b ≠ e → G'.get? b = h'.get? b := fun b hb => g1 b (decide_eq_true hb)
    have ge : G'.get? e = none := g2 e (by simp)
    have old : ∀ b o, hp.get? b = some o → G'.get? b = some o := fun b o q => (gk b (Nat.ne_of_lt (Nat.lt_of_lt_of_le (Heap.lt_size q) M.new))).trans (M.keep b o q)
    have ob : ObjOk X.prog X.w (upd H1 d (.xd [(("value" : Str), v)])) G' d (.xd [(("value" : Str), v)]) :=
      ⟨_, hns.at (fun o q => (gk d M.dne).trans q), fun f => relO_inum rv f⟩
    have J : Inv X pins σ (upd H1 d (.xd [(("value" : Str), v)])) ⟨G', g, dr, tk', os⟩ := I1.laid (t' := tk') old M.dbig ob
    refine ⟨e, oe, fv, ⟨G', g, dr, tk', os⟩, _, .ref C, some d, rfl, J, fun b o q => ?_, ge, hoe, ⟨hc, hd⟩, hdat, h1, ?_, rfl, I1.bare, raises_own T.exC T.tyC, q1 d (I1.hok.fresh M.dbig)⟩
    · by_cases hb : b = e
      · have q' : G'.get? b = some o := q
        rw [hb, ge] at q'; cases q'
      · exact (gk b hb).symm.trans q
    · rw [upd_ne (Ne.symm M.dne)]
      exact I1.hok.fresh M.new
/-- raise Low(e) -/
def tRaiseInum (C : Addr) (W : WX) (ta : TA) : TS := fun _ σ H => tMkInum C ta σ H fun cls d H' => W cls d σ H'
theorem ps_raiseInum {a : Expr} {ta : TA} {W : WX} {p pos pos2 : Pos} {k : Nat} (hc : X.calm = true) (T : PySem.InumX.InumTxt X.K X.mg C fI) (hr : Room k X.A) (tk : Takes X W) (ha : PA X [a] ta) (hg : Gl X "InvalidNumber" := by rfl)
    (he : starEach (a :: []) X.env = (false, eval a X.env) :: starEach [] X.env := by rfl) (hpl : (backTo pos (starEach [] X.env)).any (·.1) = false := by rfl) :
    PS X (.Raise (some (.Call (.Name "InvalidNumber" p) [a] [] pos)) none pos2) (tRaiseInum C W ta) := ps_raise hc tk (pmk_inum T hr ha hg he hpl)
/-- low.by, low the exception that the suite holds (at a; its class cls, its dict d) -/
def tByInum (C : Addr) (a : Addr) (cls : Value) (d : Option Addr) (te : TE) : TE := fun σ H Q => te σ H fun x H1 => x = .ref a ∧ cls = .ref C ∧ ∃ (dd : Addr) (v : V), d = some dd ∧ H1 dd = some (.xd [(("value" : Str), v)]) ∧ Q v H1
theorem pe_byInum {a : Addr} {oe : Obj} {cls : Value} {d : Option Addr} {pn : List (Addr × Obj)} {e : Expr} {te : TE} {pos : Pos} (T : PySem.InumX.InumTxt X.K X.mg C fI) (hz : Zc cls d oe) (hf : ∃ vs, oe.data = .fields vs) (he : PE (X.suite a ((a, oe) :: pn)) e te)
    (hb : attributeBase e "value" X.env (eval e X.env) = eval e X.env := by rfl) :
    PE (X.suite a ((a, oe) :: pn)) (.Attribute e "value" pos) (tByInum C a cls d te) := by
  refine ⟨fun pins s σ H Q I h => ?_⟩
  refine attr_of hb (thn (he.run pins s σ H _ I h) fun u s1 hh => ?_)
  obtain ⟨x, H1, I1, rx, ex, ec, dd, v, ed, ea, q⟩ := hh
  subst ex
  obtain rfl : u = Value.ref a := rx
  subst ec
  subst ed
  obtain ⟨ha, _⟩ := I1.pin (a, oe) (List.mem_append_left _ List.mem_cons_self)
  obtain ⟨vs, hd⟩ := hf
  have hx : ObjOk X.prog X.w H1 s1.heap dd (.xd [(("value" : Str), v)]) := I1.hok dd _ ea
  obtain ⟨mA, hns, hr⟩ := hx
  obtain ⟨od, ho, hl⟩ := lookIn_ns hns
  have l : List.lookup ("value" : Str) [(("value" : Str), v)] = some v := by simp [List.lookup]
  obtain ⟨u, hu, ru⟩ := RelO.some_of (v := v) (o := mA "value") (by rw [← l]; exact hr "value")
  have J : PySem.W.InstAt s1.heap a oe C (some od) := ⟨ha, hz.1, by unfold PySem.W.notCls; rw [hd] <;> rfl, by rw [hz.2]; exact ho⟩
  exact HandSPX.exc_get I1.kIn J T.ga T.gg T.exC (PySem.W.findObj_own T.hdC T.noN rfl (by rw [hl, hu])) (handed_of ru) ⟨v, H1, I1.tok _, ru, q⟩
end
end L2

namespace PySem
namespace TmnyX
open PySem.W PySem.Calls PyProof.Rows PySem.HandSPX
/-! ### the text of __init__ -/
def iA (p1 p2 : Pos) : Arguments := { posonlyargs := [], args := [{ arg := "self", annotation := none, pos := p1 }, { arg := "limit", annotation := none, pos := p2 }], vararg := none, kwonlyargs := [], kw_defaults := [], kwarg := none, defaults := [] }
def iB (q1 q2 q3 q4 : Pos) : List Stmt := [.Assign [.Attribute (.Name "self" q1) "limit" q2] (.Name "limit" q3) q4]
def iS : Scope := { kind := .function, names := [(PySem.Str.ofString "self", .local), (PySem.Str.ofString "limit", .local)], isGenerator := false, isCoroutine := false, more := [] }
/-- what the written part says of Low, at C, and of its __init__, at fI -/
structure TmnyTxt (K : Frag) (mg : Str → Option Value) (C fI : Addr) : Prop where
  gC : mg "TooMany" = some (.ref C)
  cls : ∃ nm q N bs bm sn sub ab col dd k0 k1 k2 k3 k5, K.lookup C = some (excClassObj nm q C N bs bm true sn sub ab col dd k0 k1 k2 k3 k5 "OverflowError.__new__") ∧ bm = [.type "OverflowError", .type "ArithmeticError", .type "Exception", .type "BaseException", .type "object"]
  sa : findIn K (.ref C) "__setattr__" = some (some (.builtin "object.__setattr__"))
  ga : findIn K (.ref C) "__getattribute__" = some (some (.builtin "BaseException.__getattribute__"))
  gg : findIn K (.ref C) "__getattr__" = some none
  noN : findIn K (.ref C) "limit" = some none
  iC : findIn K (.ref C) "__init__" = some (some (.ref fI))
  tC : typeIn K (.ref fI) = some (.type "function")
  kC : keepIn K (.ref C) = true
  exC : subIn K (.ref C) (.type "BaseException") = some true
  tyC : typeIn K (.ref C) = some (.type "type")
  hdC : hasDictIn K C = true
  te : exmOne K (.ref C) (.ref C) = some true
  fn : ∃ (oc : Value) (od : Option Addr) (doc pm : Value) (an : Option Addr) (cdv ct : Value) (osl : Array (Option Value)) (p1 p2 q1 q2 q3 q4 : Pos),
    K.lookup fI = some ⟨oc, od, .func (fnOf "__init__" "TooMany.__init__" (iA p1 p2) (iB q1 q2 q3 q4) iS .none .none doc pm an cdv ct), osl⟩ ∧ codeIn K cdv "TooMany.__init__" = true
theorem one_size (v : Value) : [v].length ≤ sizeLine := by
  rw [sizeLine_eq]
  exact (by decide : 1 ≤ 16777216)
theorem kept_but {K : Frag} {h h' : Heap} {x : Addr} (X : K.In h) (hx : K.lookup x = none) (k : ∀ b o, b ≠ x → h.get? b = some o → h'.get? b = some o) : K.In h' := fun a o e =>
  k a o (fun z => by rw [z, hx] at e; cases e) (X a o e)
theorem ldC {M : Model} {s : Shared} {name : Str} {scope : Scope} {L a : Addr} {cd : Value} {m : Str → Option Value} {x : Str} {pos : Pos} {v : Value} {Q : Value → Shared → Prop} {A : Around} {E : Value → Shared → Prop} (hn : s.heap.Ns L m) (hv : m x = some v) (h : Q v s)
    (hk : scope.kind = .function := by rfl) (hl : (envOfC name scope L a cd).kindOf x = some .local := by rfl) (hd : (x == ("__debug__" : Str)) = false := by decide) :
    wpAny M A (eval (.Name x pos) (envOfC name scope L a cd)) Q E s := wpAny_Name (wpAny_loadName_local hk hl hn hv h) hd
/-- what __init__ leaves of a fresh exception at x -/
structure InitEnd (h h' : Heap) (x C dx t1 : Addr) (v : Value) : Prop where
  keep : ∀ b o, b ≠ x → h.get? b = some o → h'.get? b = some o
  obj : h'.get? x = some { cls := .ref C, dict := some dx, data := .fields #[.ref t1, .none, .none, .none, .bool false, .none] }
  dbig : h.objs.size ≤ dx
  dne : dx ≠ x
  ns : h'.Ns1 dx (fun y => if y = "limit" then some v else none)
/-- a made Low -/
structure OwnMade (h h' : Heap) (e C d : Addr) (v : Value) : Prop where
  keep : ∀ b o, h.get? b = some o → h'.get? b = some o
  new : h.objs.size ≤ e
  obj : ∃ oe vs, h'.get? e = some oe ∧ oe.cls = .ref C ∧ oe.dict = some d ∧ oe.data = .fields vs ∧ vs[1]? = some .none
  dbig : h.objs.size ≤ d
  dne : d ≠ e
  ns : h'.Ns1 d (fun y => if y = "limit" then some v else none)
section
variable {prog : Program} {w : World} {A : Around} {E : Value → Shared → Prop} {R : Result → Shared → Prop} {s : Shared} {K : Frag} {mg : Str → Option Value} {C fI : Addr}
theorem tmny_init (T : TmnyTxt K mg C fI) {x t0 : Addr} {v : Value} (X : K.In s.heap) (hlim : s.heap.NoLimit) (hx : s.heap.get? x = some (excO C t0)) (hnx : K.lookup x = none) (hroom : A.depth < recursionLimit)
    (hq : ∀ h' tk dx, InitEnd s.heap h' x C dx t0 v → R (.ok (.ret .none)) { s with heap := h', toks := tk }) :
    codeAny (model prog w) A (.call (.ref fI) ⟨[.ref x, v], []⟩) R s := by
  obtain ⟨oc, od, doc, pm, an, cdv, ct, osl, p1, p2, q1, q2, q3, q4, ho, hcd⟩ := T.fn
  obtain ⟨nm, q, N, bs, bm, sn, sub, ab, col, dd, k0, k1, k2, k3, k5, hC, hbm⟩ := T.cls
  have hcl : clsIn K C = some { name := nm, bases := bs, mro := .ref C :: bm, ns := N, qualname := q, hasDict := true, slotNames := sn, subclasses := sub, abstract := ab, collection := col, hasDel := false } := by unfold clsIn; rw [hC] <;> rfl
  refine Att.call_fn (binds := [("self", .ref x), ("limit", v)]) X hlim ho hcd hroom (BindsTo.of_eq (by first | rfl | with_unfolding_all rfl)) (by first | rfl | decide | with_unfolding_all rfl) (fun s₁ IC => ?_) rfl rfl rfl
  obtain ⟨h₁, tk₁, rfl⟩ := IC.toInCall.same
  have k : ∀ b o, s.heap.get? b = some o → h₁.get? b = some o := IC.toInCall.keep
  have hn := IC.toInCall.ns
  have hxL : s.heap.objs.size ≠ x := Nat.ne_of_gt (Heap.lt_size hx)
  have X₁ : K.In h₁ := X.keeps k
  have hx₁ := k _ _ hx
  -- self.by = by
  show wpAny _ _ (execs _ _) _ _ _
  refine wpAny_execs_cons (plainObj_wpAny_Assign_Attribute ?_)
  refine ldC (v := v) hn (by first | rfl | with_unfolding_all rfl | kernel_rfl) (ldC (v := .ref x) hn (by first | rfl | with_unfolding_all rfl | kernel_rfl) ?_)
  refine set_plain X₁ (ox := excO C t0) (od := none) ⟨hx₁, rfl, rfl, trivial⟩ T.sa ?_
  refine OwnErr.first_store (cd := _) (by rw [hbm]; exact OwnErr.chain_of F.store_OverflowError (by decide +kernel) C) X₁ hx₁ hcl rfl T.noN (fun h₃ tk₃ dx k₃ dn dne hx₃ hn₃ => ?_)
  show wpAny _ _ (execs _ _) _ _ _
  have z : s.heap.objs.size < h₁.objs.size := hn.lt
  exact wpAny_execs_nil (hq h₃ tk₃ dx ⟨fun b o hb e => k₃ b o hb (k b o e), hx₃, Nat.le_of_lt (Nat.lt_of_lt_of_le z dn), dne, hn₃⟩)
theorem tmny_made (T : TmnyTxt K mg C fI) {v : Value} (X : K.In s.heap) (hlim : s.heap.NoLimit) (hroom : A.depth + 1 < recursionLimit)
    (hq : ∀ h' tk e d, OwnMade s.heap h' e C d v → R (.ok (.ret (.ref e))) { s with heap := h', toks := tk }) :
    codeAny (model prog w) A (.call (.ref C) ⟨[v], []⟩) R s := by
  obtain ⟨nm, q, N, bs, bm, sn, sub, ab, col, dd, k0, k1, k2, k3, k5, hC, hbm⟩ := T.cls
  obtain ⟨hp, g, dr, tk, os⟩ := s
  have k : ∀ b o, hp.get? b = some o → ((hp.push (kdv_tup [v])).push (excO C hp.objs.size)).get? b = some o := fun b o e => Heap.get?_push_of_some _ (Heap.get?_push_of_some _ e)
  have hget : ((hp.push (kdv_tup [v])).push (excO C hp.objs.size)).get? (hp.objs.size + 1) = some (excO C hp.objs.size) := by heap_get
  have hnx : K.lookup (hp.objs.size + 1) = none := by
    cases e : K.lookup (hp.objs.size + 1) with
    | none => rfl
    | some o =>
      have z : hp.get? (hp.objs.size + 1) = some o := X _ _ e
      exact absurd (Nat.lt_of_succ_lt (Heap.lt_size z)) (Nat.lt_irrefl _)
  refine call_own F.excBase_OverflowError (fun X => by rw [hbm]) (X _ _ hC) (looks_findIn X T.iC) (fun self => bind_fn X self T.tC) (one_size v) ?_
  refine tmny_init (s := ⟨(hp.push (kdv_tup [v])).push (excO C hp.objs.size), g, dr, tk, os⟩) T (X.keeps k) (hlim.keeps k) hget hnx ?_ fun h' tk' dx ⟨k', hx, dn, dne, hns⟩ => ?_
  · show A.depth + 1 < recursionLimit
    exact hroom
  · have old : ∀ b o, hp.get? b = some o → h'.get? b = some o := fun b o e => k' b o (Nat.ne_of_lt (Nat.lt_succ_of_lt (Heap.lt_size e))) (k b o e)
    have z : hp.objs.size + 1 + 1 ≤ dx := by
      first
        | (simpa only [Heap.size_push] using dn)
        | exact dn
        | (have q := dn; rw [Heap.size_push, Heap.size_push] at q; exact q)
    exact ⟨rfl, hq h' tk' (hp.objs.size + 1) dx ⟨old, Nat.le_succ _, ⟨_, _, hx, rfl, rfl, rfl, rfl⟩, Nat.le_trans (Nat.le_trans (Nat.le_succ _) (Nat.le_succ _)) z, dne, hns⟩⟩
end
end TmnyX
end PySem
namespace L2
open PySem PySem.Spec PyProof.Rows
theorem relO_tmny {v : V} {v' : Value} (r : RelV v v') (f : Str) : RelO (List.lookup f [(("limit" : Str), v)]) (if f = "limit" then some v' else none) := by
  by_cases hw : f = "limit"
  · subst hw
    rw [if_pos rfl]
    have q : List.lookup ("limit" : Str) [(("limit" : Str), v)] = some v := by simp [List.lookup]
    rw [q]
    exact r
  · rw [if_neg hw]
    have qw : (f == ("limit" : Str)) = false := by simpa using hw
    have q2 : List.lookup f [(("limit" : Str), v)] = none := by simp [List.lookup, qw]
    rw [q2]
    trivial
section
variable {X : Cx} {C fI : Addr}
/-- Low(e) -/
def tMkTmny (C : Addr) (ta : TA) : St → Hp → XK → Prop := fun σ H Q => ta σ H fun vs H1 => ∃ v, vs = [v] ∧ ∀ d, H1 d = none → Q (.ref C) (some d) (upd H1 d (.xd [(("limit" : Str), v)]))
theorem pmk_tmny {a : Expr} {ta : TA} {p pos : Pos} {k : Nat} (T : PySem.TmnyX.TmnyTxt X.K X.mg C fI) (hr : Room k X.A) (ha : PA X [a] ta) (hg : Gl X "TooMany" := by rfl)
    (he : starEach (a :: []) X.env = (false, eval a X.env) :: starEach [] X.env := by rfl) (hpl : (backTo pos (starEach [] X.env)).any (·.1) = false := by rfl) :
    PMk X (.Call (.Name "TooMany" p) [a] [] pos) (tMkTmny C ta) := by
  intro pins s σ H Q I h
  refine wpAny_Call_Name_kw (ld_glob I hg T.gC ?_)
  refine PySem.W.callWith_K (h₀ := X.base) I.ok.mod.kin T.kC (thn (ha.run pos pins s σ H _ I h) fun us s1 hh => ?_) he hpl
  obtain ⟨vs, H1, I1, r1, v, ev, q1⟩ := hh
  subst ev
  refine ⟨I1.kIn, ?_⟩
  cases r1 with
  | cons rv rn =>
    rename_i v' us'
    cases rn
    show wpAny _ _ (call (.ref C) [v']) _ _ _
    have hlim := I1.nolimit
    obtain ⟨hp, g, dr, tk, os⟩ := s1
    refine wpAny_call (PySem.TmnyX.tmny_made T I1.kIn hlim (by have := hr.dp; omega) fun h' tk' e d M => ?_)
    show MkP X pins σ Q (.ref e) ⟨h', g, dr, tk', os⟩
    obtain ⟨oe, fv, hoe, hc, hd, hdat, h1⟩ := M.obj
    have hns := M.ns
    obtain ⟨G', g1, g2⟩ := restrict h' fun b => decide (b ≠ e)
    have gk : ∀ b, b ≠ e → G'.get? b = h'.get? b := fun b hb => g1 b (decide_eq_true hb)
    have ge : G'.get? e = none := g2 e (by simp)
    have old : ∀ b o, hp.get? b = some o → G'.get? b = some o := fun b o q => (gk b (Nat.ne_of_lt (Nat.lt_of_lt_of_le (Heap.lt_size q) M.new))).trans (M.keep b o q)
    have ob : ObjOk X.prog X.w (upd H1 d (.xd [(("limit" : Str), v)])) G' d (.xd [(("limit" : Str), v)]) :=
      ⟨_, hns.at (fun o q => (gk d M.dne).trans q), fun f => relO_tmny rv f⟩
    have J : Inv X pins σ (upd H1 d (.xd [(("limit" : Str), v)])) ⟨G', g, dr, tk', os⟩ := I1.laid (t' := tk') old M.dbig ob
    refine ⟨e, oe, fv, ⟨G', g, dr, tk', os⟩, _, .ref C, some d, rfl, J, fun b o q => ?_, ge, hoe, ⟨hc, hd⟩, hdat, h1, ?_, rfl, I1.bare, raises_own T.exC T.tyC, q1 d (I1.hok.fresh M.dbig)⟩
    · by_cases hb : b = e
      · have q' : G'.get? b = some o := q
        rw [hb, ge] at q'; cases q'
      · exact (gk b hb).symm.trans q
    · rw [upd_ne (Ne.symm M.dne)]
      exact I1.hok.fresh M.new
/-- raise Low(e) -/
def tRaiseTmny (C : Addr) (W : WX) (ta : TA) : TS := fun _ σ H => tMkTmny C ta σ H fun cls d H' => W cls d σ H'
theorem ps_raiseTmny {a : Expr} {ta : TA} {W : WX} {p pos pos2 : Pos} {k : Nat} (hc : X.calm = true) (T : PySem.TmnyX.TmnyTxt X.K X.mg C fI) (hr : Room k X.A) (tk : Takes X W) (ha : PA X [a] ta) (hg : Gl X "TooMany" := by rfl)
    (he : starEach (a :: []) X.env = (false, eval a X.env) :: starEach [] X.env := by rfl) (hpl : (backTo pos (starEach [] X.env)).any (·.1) = false := by rfl) :
    PS X (.Raise (some (.Call (.Name "TooMany" p) [a] [] pos)) none pos2) (tRaiseTmny C W ta) := ps_raise hc tk (pmk_tmny T hr ha hg he hpl)
/-- low.by, low the exception that the suite holds (at a; its class cls, its dict d) -/
def tByTmny (C : Addr) (a : Addr) (cls : Value) (d : Option Addr) (te : TE) : TE := fun σ H Q => te σ H fun x H1 => x = .ref a ∧ cls = .ref C ∧ ∃ (dd : Addr) (v : V), d = some dd ∧ H1 dd = some (.xd [(("limit" : Str), v)]) ∧ Q v H1
theorem pe_byTmny {a : Addr} {oe : Obj} {cls : Value} {d : Option Addr} {pn : List (Addr × Obj)} {e : Expr} {te : TE} {pos : Pos} (T : PySem.TmnyX.TmnyTxt X.K X.mg C fI) (hz : Zc cls d oe) (hf : ∃ vs, oe.data = .fields vs) (he : PE (X.suite a ((a, oe) :: pn)) e te)
    (hb : attributeBase e "limit" X.env (eval e X.env) = eval e X.env := by rfl) :
    PE (X.suite a ((a, oe) :: pn)) (.Attribute e "limit" pos) (tByTmny C a cls d te) := by
  refine ⟨fun pins s σ H Q I h => ?_⟩
  refine attr_of hb (thn (he.run pins s σ H _ I h) fun u s1 hh => ?_)
  obtain ⟨x, H1, I1, rx, ex, ec, dd, v, ed, ea, q⟩ := hh
  subst ex
  obtain rfl : u = Value.ref a := rx
  subst ec
  subst ed
  obtain ⟨ha, _⟩ := I1.pin (a, oe) (List.mem_append_left _ List.mem_cons_self)
  obtain ⟨vs, hd⟩ := hf
  have hx : ObjOk X.prog X.w H1 s1.heap dd (.xd [(("limit" : Str), v)]) := I1.hok dd _ ea
  obtain ⟨mA, hns, hr⟩ := hx
  obtain ⟨od, ho, hl⟩ := lookIn_ns hns
  have l : List.lookup ("limit" : Str) [(("limit" : Str), v)] = some v := by simp [List.lookup]
  obtain ⟨u, hu, ru⟩ := RelO.some_of (v := v) (o := mA "limit") (by rw [← l]; exact hr "limit")
  have J : PySem.W.InstAt s1.heap a oe C (some od) := ⟨ha, hz.1, by unfold PySem.W.notCls; rw [hd] <;> rfl, by rw [hz.2]; exact ho⟩
  exact HandSPX.exc_get I1.kIn J T.ga T.gg T.exC (PySem.W.findObj_own T.hdC T.noN rfl (by rw [hl, hu])) (handed_of ru) ⟨v, H1, I1.tok _, ru, q⟩
end
end L2

namespace L2
open PySem PySem.Spec PyProof.Rows
/-- an if whose test is known -/
theorem if_true_of {c : Bool} {A B : Prop} (hc : c = true) (h : A) : if c = true then A else B := by
  rw [if_pos hc]
  exact h
theorem if_false_of {c : Bool} {A B : Prop} (hc : c = false) (h : B) : if c = true then A else B := by
  rw [hc, if_neg Bool.false_ne_true]
  exact h
end L2

namespace Clo
open PySem PySem.Spec PyProof.Rows L2 LamX NdefX
/-! ### lambdas without parameters, as values -/
/-- the words of a lambda -/
structure Lam where
  params : Arguments
  body : Expr
  scope : Scope
/-- the object at f is a lambda: its code's name, its words, the cells that it captured, its code object -/
def LamO (q : Str) (l : Lam) (cl : List (Str × Addr)) (f c : Addr) : HO :=
  .ext fun h => ∃ pm ctv : Value, h.get? f = some (PySem.W.kla_obj "<lambda>" q l.params l.body l.scope cl pm c ctv)
theorem lamO_at {P : Program} {w : World} {H : Hp} {h : Heap} {q : Str} {l : Lam} {cl : List (Str × Addr)} {f c : Addr} (hok : HOk P w H h) (e : H f = some (LamO q l cl f c)) :
    ∃ pm ctv : Value, h.get? f = some (PySem.W.kla_obj "<lambda>" q l.params l.body l.scope cl pm c ctv) := (hok f _ e).1
theorem lamO_ne {q : Str} {l : Lam} {cl : List (Str × Addr)} {f c : Addr} (ps : Array Value) : LamO q l cl f c ≠ .tbl ps := fun z => by
  unfold LamO at z
  cases z
section
variable {X : Cx} {pins : List (Addr × Obj)} {σ : L2.St} {H : Hp} {s : Shared} {q : Str} {l : Lam} {cl : List (Str × Addr)} {c : Addr}
/-- a lambda that was just laid is known -/
theorem inv_lam {pm ctv : Value} {t' : Nat} (I : Inv X pins σ H s) :
    Inv X pins σ (upd H s.heap.objs.size (LamO q l cl s.heap.objs.size c)) { s with heap := s.heap.push (PySem.W.kla_obj "<lambda>" q l.params l.body l.scope cl pm c ctv), toks := t' } := by
  refine I.laid (a := s.heap.objs.size) (fun b u e => Heap.get?_push_of_some _ e) (Nat.le_refl _) ?_
  have e : (s.heap.push (PySem.W.kla_obj "<lambda>" q l.params l.body l.scope cl pm c ctv)).get? s.heap.objs.size = some (PySem.W.kla_obj "<lambda>" q l.params l.body l.scope cl pm c ctv) := Heap.get?_push_size _ rfl
  exact ⟨⟨pm, ctv, e⟩, ⟨_, e⟩, fun h1 h2 ⟨pm', ct', z⟩ st => ⟨pm', ct', st _ z⟩⟩
/-- what the maker is told of a new lambda -/
structure Born (T : List (Addr × Str)) (q : Str) (l : Lam) (cl : List (Str × Addr)) (H H1 : Hp) (f c : Addr) : Prop where
  ext : ExtN H H1
  tabs : Tabs T H1
  new : H f = none
  at_ : H1 f = some (LamO q l cl f c)
  code : H1 c = some (CodeO c q)
  old : ∀ b, H1 b = none → H b = none
theorem born_of {T : List (Addr × Str)} {H H1 : Hp} {f : Addr} (eN : ExtN H H1) (T1 : Tabs T H1) (h1 : H f = none) (h2 : H1 f = none) (hc : H1 c = some (CodeO c q)) (ho : ∀ b, H1 b = none → H b = none) : Born T q l cl H (upd H1 f (LamO q l cl f c)) f c := by
  have up : ∀ b o, H1 b = some o → (upd H1 f (LamO q l cl f c)) b = some o := fun b o e => (upd_ne (ne_of_none e h2)).trans e
  exact ⟨fun b o e n => up b o (eN b o e n), T1.ext up, h1, upd_same, up _ _ hc, fun b e => ho b (upd_none e)⟩
theorem clo_make {T : List (Addr × Str)} {c0 P : Addr} {pos : Pos} {E : Value → Shared → Prop} {Q : Value → Shared → Prop} (I : Inv X pins σ H s) (TB : TabB X.base X.mg c0 P) (hcode : X.env.code = .ref c0) (hq : q = X.env.qual ++ "<lambda>") (hm : (P, q) ∈ T)
    (hu : ∀ p ∈ T, p.1 = P → p.2 = q) (hT : Tabs T H) (hdef : defaultsOf l.params X.env = ([], [])) (hfree : ∀ y ∈ l.scope.names, y.2 = .free → ∃ c, X.env.cells.lookup y.1 = some c)
    (h : ∀ (f c' : Addr) (H1 : Hp) (s' : Shared), Inv X pins σ H1 s' → Born T q l (cloFrom X.env.cells l.scope.names []) H H1 f c' → Q (.ref f) s') :
    wpAny (model X.prog X.w) X.A (eval (.Lambda l.params l.body l.scope pos) X.env) Q E s := by
  subst hq
  obtain ⟨ps, hP, ht, ha⟩ := hT _ hm
  have bP : s.heap.BuiltinsAt X.mg P := TB.bm.keeps I.bk
  have oP : s.heap.get? P = some { cls := .none, data := .fields ps } := I.hok P _ hP
  refine PySem.W.kla_eval hdef ?_
  cases hit : codeAmong pos ps.toList with
  | some cv =>
    obtain ⟨c', e, hco⟩ := ha pos cv hit
    subst e
    refine PySem.W.kla_makeFunctionHit (mg := X.mg) (c := c0) (P := P) (ps := ps) (closure_ok hfree) I.ok.glob (I.mod.glob.keeps I.bk) hcode (TB.code.keeps I.bk) oP ht hit bP fun ctv h' tk hx hsz => ?_
    have J : Inv X pins σ H { s with heap := h', toks := tk } := I.kept hx
    exact h h'.objs.size c' _ _ (inv_lam (t' := tk) J) (born_of (ExtN.refl H) hT (J.hok.fresh (Nat.le_refl _)) (J.hok.fresh (Nat.le_refl _)) hco fun b e => e)
  | none =>
    refine PySem.W.kla_makeFunction (mg := X.mg) (c := c0) (P := P) (ps := ps) (closure_ok hfree) I.ok.glob (I.mod.glob.keeps I.bk) hcode (TB.code.keeps I.bk) oP ht hit TB.gP bP fun c' ctv h' tk hx hge hlt hrec htb => ?_
    obtain ⟨c2, oc, vs, t, e2, hoc, hd, hv⟩ := hrec
    cases e2
    have nC : H c' = none := I.hok.fresh hge
    have J := inv_table (t' := tk) (more := #[rawInt pos.line, rawInt pos.col, .ref c']) I hP (fun b o hb e => hx b o hb e) htb hge ⟨oc, vs, t, hoc, hd, hv⟩
    have nPc : P ≠ c' := ne_of_none hP nC
    have hE : ExtN H (upd (upd H P (.tbl (ps ++ #[rawInt pos.line, rawInt pos.col, .ref c']))) c' (CodeO c' (X.env.qual ++ "<lambda>"))) := fun b o e n => by
      have nb : b ≠ P := fun z => by
        rw [z, hP] at e
        exact n ps (Option.some.inj e).symm
      rw [upd_ne (ne_of_none e nC), upd_ne nb]
      exact e
    refine h h'.objs.size c' _ _ (inv_lam (t' := tk) J) (born_of hE (fun p hp => ?_) (I.hok.fresh (Nat.le_trans hge (Nat.le_of_lt hlt))) (J.hok.fresh (Nat.le_refl _)) upd_same fun b e => upd_none (upd_none e))
    by_cases hb : p.1 = P
    · have eL : (ps ++ #[rawInt pos.line, rawInt pos.col, .ref c']).toList = ps.toList ++ [rawInt pos.line, rawInt pos.col, .ref c'] := by simp
      rw [hu p hp hb, hb]
      refine ⟨_, (upd_ne nPc).trans upd_same, by rw [eL]; exact PySem.TriplesOk_snoc _ _ _ _ ht, fun p' cv hcv => ?_⟩
      rw [eL] at hcv
      rcases among_app _ ht hcv with z | z
      · obtain ⟨c1, e1, e2⟩ := ha p' cv z
        exact ⟨c1, e1, hE _ _ e2 codeO_ne⟩
      · exact ⟨c', z, upd_same⟩
    · obtain ⟨ps', a1, a2, a3⟩ := hT p hp
      refine ⟨ps', (upd_ne (ne_of_none a1 nC)).trans ((upd_ne hb).trans a1), a2, fun p' cv hcv => ?_⟩
      obtain ⟨c1, e1, e2⟩ := a3 p' cv hcv
      exact ⟨c1, e1, hE _ _ e2 codeO_ne⟩
end
/-- lambda: .. -/
def tLamV (T : List (Addr × Str)) (q : Str) (l : Lam) (cl : List (Str × Addr)) : TE := fun _ H Q => Tabs T H ∧ ∀ (f c : Addr) (H1 : Hp), Born T q l cl H H1 f c → Q (.ref f) H1
section
variable {X : Cx}
theorem pe_lam {T : List (Addr × Str)} {q : Str} {l : Lam} {c0 P : Addr} {pos : Pos} (TB : TabB X.base X.mg c0 P) (hcode : X.env.code = .ref c0) (hq : q = X.env.qual ++ "<lambda>") (hm : (P, q) ∈ T) (hu : ∀ p ∈ T, p.1 = P → p.2 = q)
    (L : LamS X.env.scope l.scope) (hdef : defaultsOf l.params X.env = ([], []) := by rfl) : PE X (.Lambda l.params l.body l.scope pos) (tLamV T q l (cloFrom X.env.cells l.scope.names [])) :=
  ⟨fun pins s σ H Q I h => clo_make I TB hcode hq hm hu h.1 hdef (L.has I.ok) fun f c' H1 s' J b => ⟨.ref f, H1, J, rfl, h.2 f c' H1 b⟩⟩
end
/-! ### a lambda's promise -/
/-- its frame's words -/
def LF (q : Str) (l : Lam) (cl : List (Str × Addr)) (c : Addr) : NF := ⟨"<lambda>", q, l.params, [], l.scope, cl, c⟩
theorem startF_ws {fr : List Str} {ws : List (Option V)} (h : ws.length = fr.length) : startF fr [] ws = ws := by
  unfold startF
  rw [h]
  simp
/-- what captured cells hold is held by what a call leaves -/
theorem cells_un {cl : List (Str × Addr)} {fr : List Str} {ws : List (Option V)} {fs ex : List Addr} {h h' : Heap} {H H' : Hp} (C : CellsAt cl fr ws h H) (u : Un fs ex H H' h h') (hx : ∀ y c, cl.lookup y = some c → c ∉ ex) : CellsAt cl fr ws h' H' := by
  have kp : ∀ y c, cl.lookup y = some c → ∀ v, h.IsCell c v → h'.IsCell c v := fun y c e v ⟨o, ho, hd⟩ => by
    obtain ⟨sl, q⟩ := u.any ho (C.all y c e).1 (hx y c e)
    exact ⟨_, q, hd⟩
  refine ⟨C.len, fun y c e => ?_, C.inj, fun i y e => ?_⟩
  · obtain ⟨n, v, z⟩ := C.all y c e
    refine ⟨?_, v, kp y c e v z⟩
    obtain ⟨o, ho, _⟩ := z
    exact u.free c o ho n (hx y c e)
  · obtain ⟨c, hc, hv⟩ := C.has i y e
    refine ⟨c, hc, fun v ev => ?_⟩
    obtain ⟨w, r, z⟩ := hv v ev
    exact ⟨w, r, kp y c hc _ z⟩
/-- what is known of a lambda's words: the captured names, its reading -/
structure Told (P : Program) (w : World) (K : PySem.W.Frag) (mg : Str → Option Value) (base : Heap) (CX : CXT) (k : Nat) (q : Str) (l : Lam) (fr : List Str) (te : XK → TE) : Prop where
  sc : NScope fr [] fr l.scope
  bind : ∀ (cl : List (Str × Addr)) (pm cv ctv : Value), bindArgs (PySem.W.kla_fn "<lambda>" q l.params l.body l.scope cl pm cv ctv) ⟨[], []⟩ = pure []
  body : ∀ (cl : List (Str × Addr)) (c f : Addr) (A : Around) (outer : List Env) (s : Shared) (H : Hp) (E : XK), Room k (A.deeper (envF (LF q l cl c) f s.heap.objs.size)) → PE (ncx CX P w K mg base fr (LF q l cl c) f A outer s H E) l.body (te E)
theorem Told.run {P : Program} {w : World} {K : PySem.W.Frag} {mg : Str → Option Value} {base : Heap} {CX : CXT} {k : Nat} {q : Str} {l : Lam} {fr : List Str} {te : XK → TE} (t : Told P w K mg base CX k q l fr te)
    {A : Around} {outer : List Env} {s : Shared} {H : Hp} {cl : List (Str × Addr)} {f c : Addr} {ws : List (Option V)} {Q : VK} {E : XK} (hr : Room (k + 1) A) (e0 : Env0 P w K mg base A outer s H) (hf : H f = some (LamO q l cl f c)) (hc : H c = some (CodeO c q))
    (C : CellsAt cl fr ws s.heap H) (h : te E ws H Q) : codeAny (model P w) A (.call (.ref f) ⟨[], []⟩) (CR CX outer P w H s Q E) s := by
  have lim : s.heap.NoLimit := e0.mod.nolimit.keeps fun b o e => (e0.bs b o e).1
  obtain ⟨pm, ctv, ho⟩ := lamO_at e0.hok hf
  refine PySem.W.kla_callFunE hr.depth ho rfl t.sc.co t.sc.gen rfl (codeO_at e0.hok hc) ?_
  rw [t.bind cl pm (.ref c) ctv]
  refine wpAny_pure (wpAny_newFunctionEnv t.sc.nocell (fun y hy => absurd hy (by simp)) (fun h₁ hns hsb => ⟨lim.fresh _ hsb, ?_⟩) t.sc.kind)
  show codeAny _ _ (.expr l.body (envF (LF q l cl c) f s.heap.objs.size)) _ _
  have kp : ∀ b o, s.heap.get? b = some o → h₁.get? b = some o := fun b o e => hsb.extBut b o (Nat.ne_of_lt (Heap.lt_size e)) (Heap.get?_push_of_some _ e)
  have I : Inv (ncx CX P w K mg base fr (LF q l cl c) f A outer s H E) [] (startF fr [] ws) H { s with heap := h₁, toks := s.toks + ([] : List (Str × Value)).length } := inv_startN (ps := []) (us := []) (vs := []) t.sc hr.hd e0 rfl .nil C hns kp
  rw [startF_ws C.len] at I
  refine PySem.W.kla_codeExpr (wpAny_mono ((t.body cl c f A outer s H E (hr.deeper _)).run [] _ ws H Q I h) (fun v s' hq => ?_) fun e s' hq => hq)
  obtain ⟨w', H', J, rv, qq⟩ := hq
  exact ⟨w', H', J.os, J.bare, J.base, J.hok, rv, qq⟩
section
variable {X : Cx} {CX : CXT} {k j i : Nat} {q : Str} {l : Lam} {fr : List Str} {te : XK → TE} {cl : List (Str × Addr)} {ws : List (Option V)} {E : XK} {x : Str} {p pos : Pos}
/-- a(), a the i-th name, a lambda: in a def that was entered when the captured cells held ws -/
def tCall0 (q : Str) (l : Lam) (cl : List (Str × Addr)) (i : Nat) (te : TE) (ws : List (Option V)) : TE := fun σ H Q => ∃ f c, σ[i]? = some (some (.ref f)) ∧ H f = some (LamO q l cl f c) ∧ H c = some (CodeO c q) ∧ te ws H Q
theorem pe_call0 (t : Told X.prog X.w X.K X.mg X.base CX k q l fr te) (C : CellsAt cl fr ws X.s_0.heap X.H_0) (hx : ∀ y c, cl.lookup y = some c → c ∉ X.ex) (hr : Room (k + 1) X.A) (ps : Passes CX X E) (hN : X.N[i]? = some x) (hv : Vis X.env.scope x)
    (hd : (x == ("__debug__" : Str)) = false := by decide) (hcd : (x == ("__classdict__" : Str)) = false := by decide) : PE X (.Call (.Name x p) [] [] pos) (tCall0 q l cl i (te E) ws) := by
  refine ⟨fun pins s σ H Q I h => ?_⟩
  obtain ⟨f, c, hs, hf, hc, ht⟩ := h
  refine wpAny_Call_Name_kw (thn ((pe_var (pos := p) hN hv hd hcd).run pins s σ H (fun v H1 => v = .ref f ∧ H1 = H) I ⟨.ref f, hs, rfl, rfl⟩) fun u s1 ⟨v, H1, I1, r1, q1⟩ => ?_)
  obtain ⟨ev, eH⟩ := q1
  subst ev
  rw [eH] at I1
  obtain rfl : u = Value.ref f := r1
  obtain ⟨pm, ctv, ho⟩ := lamO_at I1.hok hf
  refine PySem.W.callWith_F0 (first := []) ⟨_, _, _, _, ho⟩ ?_
  show wpAny _ _ (call (.ref f) []) _ _ _
  refine wpAny_call (codeAny_mono (t.run hr I1.env0 hf hc (cells_un C I1.base hx) ht) fun r s' hq => ?_)
  cases r with
  | error e => exact ps pins σ H s1 e s' I1 hq
  | ok fl =>
    cases fl with
    | ret u => exact I1.after hq
    | next => exact False.elim hq
    | brk => exact False.elim hq
    | cont => exact False.elim hq
end
end Clo
namespace Clo
open PySem PySem.Spec PyProof.Rows L2 LamX NdefX
section
variable {X : Cx} {CX : CXT} {k i : Nat} {q : Str} {l : Lam} {fr : List Str} {te : XK → TE} {cl : List (Str × Addr)} {ws : List (Option V)} {E : L2.St → XK} {x : Str} {p pos : Pos}
/-- the same in a try: what an exception finds is told of the slots -/
def tCall0S (q : Str) (l : Lam) (cl : List (Str × Addr)) (i : Nat) (te : XK → TE) (E : L2.St → XK) (ws : List (Option V)) : TE := fun σ H Q => ∃ f c, σ[i]? = some (some (.ref f)) ∧ H f = some (LamO q l cl f c) ∧ H c = some (CodeO c q) ∧ te (E σ) ws H Q
theorem pe_call0S (t : Told X.prog X.w X.K X.mg X.base CX k q l fr te) (C : CellsAt cl fr ws X.s_0.heap X.H_0) (hx : ∀ y c, cl.lookup y = some c → c ∉ X.ex) (hr : Room (k + 1) X.A) (ps : ∀ σ, PassesAt CX X σ (E σ)) (hN : X.N[i]? = some x) (hv : Vis X.env.scope x)
    (hd : (x == ("__debug__" : Str)) = false := by decide) (hcd : (x == ("__classdict__" : Str)) = false := by decide) : PE X (.Call (.Name x p) [] [] pos) (tCall0S q l cl i te E ws) := by
  refine ⟨fun pins s σ H Q I h => ?_⟩
  obtain ⟨f, c, hs, hf, hc, ht⟩ := h
  refine wpAny_Call_Name_kw (thn ((pe_var (pos := p) hN hv hd hcd).run pins s σ H (fun v H1 => v = .ref f ∧ H1 = H) I ⟨.ref f, hs, rfl, rfl⟩) fun u s1 ⟨v, H1, I1, r1, q1⟩ => ?_)
  obtain ⟨ev, eH⟩ := q1
  subst ev
  rw [eH] at I1
  obtain rfl : u = Value.ref f := r1
  obtain ⟨pm, ctv, ho⟩ := lamO_at I1.hok hf
  refine PySem.W.callWith_F0 (first := []) ⟨_, _, _, _, ho⟩ ?_
  show wpAny _ _ (call (.ref f) []) _ _ _
  refine wpAny_call (codeAny_mono (t.run hr I1.env0 hf hc (cells_un C I1.base hx) ht) fun r s' hq => ?_)
  cases r with
  | error e => exact ps σ pins H s1 e s' I1 hq
  | ok fl =>
    cases fl with
    | ret u => exact I1.after hq
    | next => exact False.elim hq
    | brk => exact False.elim hq
    | cont => exact False.elim hq
end
end Clo
namespace Clo
open PySem PySem.Spec PyProof.Rows L2 LamX NdefX
/-! ### [elt for target in iter], where elt is read with what is known of the def's own frame at the block's start -/
/-- what a block's start tells -/
structure At0 (X : Cx) (σ : L2.St) (s : Shared) (H : Hp) (fp : List Addr) : Prop where
  inv : ∃ pins, Inv X pins σ H s
  fps : ∀ b ∈ fp, ∀ x c, X.env.cells.lookup x = some c → c ≠ b
/-- captured cells, as a block's element sees them -/
theorem At0.cells {X : Cx} {σ : L2.St} {s s' : Shared} {H H' : Hp} {fp : List Addr} {scope : Scope} {ce : Env} {pins : List (Addr × Obj)} {σ' : L2.St} {cl : List (Str × Addr)} {fr : List Str} {js : List Nat} (a : At0 X σ s H fp) (cp : X.Ok → Caps X cl fr js)
    (I : Inv (X.blk s H scope ce fp) pins σ' H' s') : CellsAt cl fr (js.map (slotAt σ)) s'.heap H' := by
  obtain ⟨p0, I0⟩ := a.inv
  have c := cp I0.ok
  exact cells_un (cells_of I0 c) I.base fun y b e hb => a.fps b hb y b (c.sub y b e) rfl
/-- where a block stands at its i-th turn -/
structure Mid (Y : Cx) (σ : L2.St) (fp : List Addr) (tn : Nat → Heap → Prop) (W : Nat → Nat → Hp → Prop) (i n : Nat) (H : Hp) (s : Shared) : Prop where
  inv : Inv Y [] σ H s
  tn : tn i s.heap
  fp : ∀ b ∈ fp, H b = none
  w : W i n H
theorem Mid.fpOk {Y : Cx} {σ : L2.St} {fp : List Addr} {tn : Nat → Heap → Prop} {W : Nat → Nat → Hp → Prop} {i n : Nat} {H : Hp} {s : Shared} (hpn : Y.pn = []) (hex : Y.ex = fp) (m : Mid Y σ fp tn W i n H s) : ∀ b ∈ fp, FpOk Y [] H b := fun b hb => by
  have hx : b ∈ Y.ex := by rw [hex]; exact hb
  refine ⟨m.fp b hb, (m.inv.ok.exf b hx).1, m.inv.ok.exfs b hx, .inl hx, (m.inv.ok.exf b hx).2, fun p hp => ?_⟩
  rw [hpn] at hp
  cases hp
section
variable {X : Cx} {elt tg : Expr} {g : TG} {te : TE} {D it : Addr} {fp : List Addr} {tn : Nat → Heap → Prop} {J : It}
/-- one turn of a block whose element is read as te -/
theorem lcx_turn {Y : Cx} {σ : L2.St} {W : Nat → Nat → Hp → Prop} {vs : List Nat} {i n : Nat} {H : Hp} {s : Shared} (hpn : Y.pn = []) (hex : Y.ex = fp) (hxe : Y.xe = fun _ _ => False) (hc : Y.calm = true) (T : Turn Y.prog Y.w Y.K tg J fp it tn) (pg : PG Y tg g) (pe : PE Y elt te)
    (m : Mid Y (wipe σ vs) fp tn W i n H s) (go : J.go i H) {Nx : Hp → Prop} (hNx : ∀ H', Nx H' → ∃ m', m' < n ∧ W (i + 1) m' H')
    (step : ∀ x H', J.yld i H x H' → g x (wipe σ vs) H' fun σ2 H2 => wipe σ2 vs = wipe σ vs ∧ te σ2 H2 fun y H4 => ∃ acc, H4 D = some (.lst acc) ∧ acc.length < sizeLine ∧ Nx (upd H4 D (.lst (acc ++ [y]))))
    {R : Option Value → Shared → Prop} {F : Value → Shared → Prop}
    (hR : ∀ u s1, wpAny (model Y.prog Y.w) Y.A (letOwnedTupleGo tg (.ref it) u) (fun _ s2 => wpAny (model Y.prog Y.w) Y.A (assign tg Y.env u) (fun _ s3 => wpAny (model Y.prog Y.w) Y.A (eval elt Y.env) (fun v s4 =>
      wpAny (model Y.prog Y.w) Y.A (call (.builtin "list.append") [.ref D, v]) (fun _ s5 => ∃ m', m' < n ∧ ∃ i' H', Mid Y (wipe σ vs) fp tn W i' m' H' s5) (fun _ _ => False) s4) (fun _ _ => False) s3) (fun _ _ => False) s2) (fun _ _ => False) s1 → R (some u) s1) :
    wpAny (model Y.prog Y.w) Y.A (pyNext (.ref it)) R F s := by
  refine thnF (T.item Y rfl rfl rfl hc i [] s (wipe σ vs) H (fun _ _ => False) m.inv (m.fpOk hpn hex) m.tn go) fun r s1 ⟨u, hr, h1⟩ => ?_
  subst hr
  refine hR u s1 (thnF h1 fun _ s2 ⟨x, H2, I2, r2, y2, st2, n2⟩ => ?_)
  have m2 : ∀ b ∈ fp, FpOk Y [] H2 b := fun b hb => Mid.fpOk hpn hex (W := fun _ _ _ => True) (n := 0) ⟨I2, st2, n2, trivial⟩ b hb
  have I2' := I2.pinned m2 (T.obj _ _ st2)
  have fails : ∀ {α : Type} {t : Sem α} {Q : α → Shared → Prop} {s0 : Shared}, wpAny (model Y.prog Y.w) Y.A t Q Y.xe s0 → wpAny (model Y.prog Y.w) Y.A t Q (fun _ _ => False) s0 := fun {α t Q s0} h => wpAny_mono h (fun _ _ z => z) fun e s' z => by
    rw [hxe] at z
    exact z
  refine thnF (fails (pg.run _ s2 _ H2 x u _ I2' r2 (step x H2 y2))) fun _ s3 ⟨σ3, H3, I3, hw, q3⟩ => ?_
  refine thnF (fails (pe.run _ s3 σ3 H3 _ I3 q3)) fun v s4 ⟨y, H4, I4, r4, acc, hD, hz, nx⟩ => ?_
  refine app_ok I4 hD hz r4 fun s5 I5 => ?_
  obtain ⟨m', lt, w'⟩ := hNx _ nx
  have pin' : ∀ b ∈ fp, ∀ o, s2.heap.get? b = some o → s5.heap.get? b = some o ∧ (upd H4 D (.lst (acc ++ [y]))) b = none := fun b hb o e =>
    let z := I5.pin (b, o) (List.mem_append_right _ (List.mem_append_right _ (mem_pinsAt hb e)))
    ⟨z.1, z.2.1⟩
  refine ⟨m', lt, i + 1, _, (I5.unpinned (pins := [])).weak (by rw [← hw, wipe_length]) (fun j v e => ?_), T.keep _ _ _ st2 fun b hb o e => (pin' b hb o e).1, fun b hb => ?_, w'⟩
  · rw [← hw] at e
    exact (wipe_some e).1
  · obtain ⟨o, e, _⟩ := T.obj _ _ st2 b hb
    exact (pin' b hb o e).2
/-- as a value; te is told of the slots at the block's start -/
theorem pe_lcx {iter : Expr} {scope : Scope} {own : List (Str × Nat)} {pos : Pos} {wi : TI} {te : L2.St → TE} (hc : X.calm = true) (hN : X.N.Nodup) (hi : PI X tg iter wi) (ok : BlkOk X.N X.env.scope scope own)
    (hg : ∀ (s : Shared) (H : Hp) (C : Addr) (cl : List (Str × Addr)) (fp : List Addr), PG (X.blk s H scope (compEnvC scope cl C X.env) fp) tg g)
    (he : ∀ (σ : L2.St) (s : Shared) (H : Hp) (C : Addr) (cl : List (Str × Addr)) (fp : List Addr), At0 X σ s H fp → PE (X.blk s H scope (compEnvC scope cl C X.env) fp) elt (te σ)) (hs : ∀ x, foldedSetIterable iter X.env x = pure x := by intro _; rfl) :
    PE X (.ListComp elt [⟨tg, iter, [], 0⟩] scope pos) (fun σ H Q => tLc wi g tYes (te σ) (own.map (·.2)) σ H Q) := by
  refine ⟨fun pins s σ H Q I h => ?_⟩
  have hfree : ∀ y ∈ scope.names, y.2 = .free → ∃ c, X.env.cells.lookup y.1 = some c := fun y hy e => (ok.free y hy e).elim (fun k => I.ok.has _ (.inl k)) fun k => I.ok.has _ (.inr k)
  rw [eval_ListComp]
  refine wpAny_comprehension_free (use := none) rfl hs (closure_ok hfree) ok.kind (fun y hy e => by rw [ok.uniq y hy, e]) (thn (hi.run pins s σ H _ I h) fun xv s1 hx => thn hx fun itv s2 h2 => ?_)
  obtain ⟨it, fp, tn, J, H2, e, I2, T, st2, f2, q⟩ := h2
  subst e
  refine wpAny_newObj_type (newEnv_comp ?_) (by show 0 ≤ sizeLine; decide)
  have sz : ∀ b ∈ fp, b < s2.heap.objs.size := fun b hb => by
    obtain ⟨o, e, _⟩ := T.obj _ _ st2 b hb
    exact Heap.lt_size e
  -- the new list is known
  have hk : ∀ b o, s2.heap.get? b = some o → (s2.heap.push ({ cls := .type "list", data := .seq ([] : List Value).toArray } : Obj)).get? b = some o := fun b o e => Heap.get?_push_of_some _ e
  have I3 : Inv X pins σ (upd H2 s2.heap.objs.size (.lst [])) { s2 with heap := s2.heap.push ({ cls := .type "list", data := .seq ([] : List Value).toArray } : Obj) } := I2.laid (t' := s2.toks) hk (Nat.le_refl _) ⟨Nat.zero_le _, [], 0, .nil, Heap.get?_push_size _ rfl⟩
  have hDn : H2 s2.heap.objs.size = none := I2.hok.fresh (Nat.le_refl _)
  obtain ⟨W, ⟨m0, w0⟩, turn⟩ := q s2.heap.objs.size hDn
  have st3 := T.keep _ _ _ st2 fun b _ o e => hk b o e
  have f3 : ∀ b ∈ fp, FpOk X pins (upd H2 s2.heap.objs.size (.lst [])) b ∧ b < (s2.heap.push ({ cls := .type "list", data := .seq ([] : List Value).toArray } : Obj)).objs.size := fun b hb => by
    have hlt := sz b hb
    exact ⟨⟨(upd_ne (Nat.ne_of_lt hlt)).trans (f2 b hb).1, (f2 b hb).2⟩, by rw [Heap.size_push]; exact Nat.lt_succ_of_lt hlt⟩
  generalize s2.heap.objs.size = D at I3 w0 turn f3 ⊢
  generalize hs3 : ({ s2 with heap := s2.heap.push ({ cls := .type "list", data := .seq ([] : List Value).toArray } : Obj) } : Shared) = s3 at I3
  have e3 : s3.heap = s2.heap.push ({ cls := .type "list", data := .seq ([] : List Value).toArray } : Obj) := by rw [← hs3]
  rw [← e3] at st3 f3
  generalize upd H2 D (.lst []) = H3 at I3 w0 f3
  have I4 := block_start I3 ok hN f3
  have a0 : At0 X σ s3 H3 fp := ⟨⟨pins, I3⟩, fun b hb => (f3 b hb).1.2.2.2.2.1⟩
  have pe := he σ s3 H3 s3.heap.objs.size (cellsFrom (s3.heap.objs.size + 1) scope.names (cloFrom X.env.cells scope.names [])) fp a0
  have pg := hg s3 H3 s3.heap.objs.size (cellsFrom (s3.heap.objs.size + 1) scope.names (cloFrom X.env.cells scope.names [])) fp
  show codeAny _ _ (.compStart (.ListComp elt [⟨tg, iter, [], 0⟩] scope pos) 0 (.ref it) (.ref D) (compEnvC scope (cellsFrom (s3.heap.objs.size + 1) scope.names (cloFrom X.env.cells scope.names [])) s3.heap.objs.size X.env)) (compPost (model X.prog X.w) X.A X.xe none (EP X pins σ Q) (.ref D) s3.heap.objs.size) { s3 with heap := pushCells (s3.heap.push { cls := .type "dict", data := .dict #[] }) scope.names }
  have st4 : tn 0 ({ s3 with heap := pushCells (s3.heap.push { cls := .type "dict", data := .dict #[] }) scope.names } : Shared).heap := T.keep _ _ _ st3 fun b _ o e => pushCells_keeps _ _ _ _ (Heap.get?_push_of_some _ e)
  generalize ({ s3 with heap := pushCells (s3.heap.push { cls := .type "dict", data := .dict #[] }) scope.names } : Shared) = s4 at I4 st4 ⊢
  generalize hce : compEnvC scope (cellsFrom (s3.heap.objs.size + 1) scope.names (cloFrom X.env.cells scope.names [])) s3.heap.objs.size X.env = ce at I4 pg pe ⊢
  have cL : ce.locals = s3.heap.objs.size := by subst hce; rfl
  have loop : codeAny (model X.prog X.w) X.A (.compLoop (.ListComp elt [⟨tg, iter, [], 0⟩] scope pos) 0 (.ref it) (.ref D) ce) (compPost (model X.prog X.w) X.A X.xe none (EP X pins σ Q) (.ref D) s3.heap.objs.size) s4 := by
    refine compLoop_any (fun n s' => ∃ i H', Mid (X.blk s3 H3 scope ce fp) (wipe σ (own.map (·.2))) fp tn W i n H' s') ?_ m0 ⟨0, H3, I4, st4, fun b hb => (f3 b hb).1.1, w0⟩
    rintro n s5 ⟨i, H5, m⟩
    rcases turn i n H5 m.w with ⟨stop, qq⟩ | ⟨go, Nx, hNx, step⟩
    · refine thnF (T.done (X.blk s3 H3 scope ce fp) rfl rfl rfl hc i [] s5 _ H5 (fun _ _ => False) m.inv (m.fpOk rfl rfl) m.tn stop) fun r s6 ⟨hr, I6⟩ => ?_
      subst hr
      have I7 : Inv X pins σ H5 s6 := I3.call' (ch := fp) I6.os I6.base I6.hok I6.bare fun b hb => ⟨(f3 b hb).1.2.2.2.1, (f3 b hb).1.2.1, (f3 b hb).1.2.2.2.2.1, (f3 b hb).1.2.2.2.2.2⟩
      have nC : H5 ce.locals = none := I6.free
      obtain ⟨m6, hn, _⟩ := I6.loc
      have hn : s6.heap.Ns ce.locals m6 := hn
      rw [cL] at hn nC
      obtain ⟨g0, g1, g2, g3, g4, g5⟩ := I3.fpOk (Nat.le_refl _) nC
      exact ⟨m6, hn, fun h'' sb => ⟨.ref D, H5, I7.turned (t' := s6.toks) (fun b o hb e => (sb.2 b hb).trans e) g0 g1 g3 g4 g5, rfl, qq⟩⟩
    · refine lcx_turn (D := D) (Y := X.blk s3 H3 scope ce fp) rfl rfl rfl hc T pg pe m go hNx (fun x H' y => ?_) (fun u s6 h6 => ?_)
      · have z := step x H' y
        exact z
      · refine wpAny_mono h6 (fun _ s7 h7 => wpAny_mono h7 (fun _ s8 h8 => ?_) fun _ _ z => False.elim z) fun _ _ z => False.elim z
        refine wpAny_tests_nil ?_
        simp only [if_true]
        exact wpAny_mono h8 (fun v s9 h9 => wpAny_mono h9 (fun _ _ z => z) fun _ _ z => False.elim z) fun _ _ z => False.elim z
  exact codeAny_compStart_list loop (T.self X.A 0 _ _ _ st4 loop)
end
end Clo
namespace Clo
open PySem PySem.Spec PyProof.Rows L2
/-! ### a try with clauses of both kinds, with a name and without -/
/-- the ends of a suite whose name is gone behind it -/
def gone (i : Nat) (D : Ends) : Ends := { nx := fun σ' H' => D.nx (σ'.set i none) H', rt := D.rt, bk := fun σ' H' => D.bk (σ'.set i none) H', ct := fun σ' H' => D.ct (σ'.set i none) H' }
/-- a clause: its class, its name's slot, its suite -/
abbrev Cl1 := Value × Option Nat × (Addr → Value → Option Addr → TS)
def wMix (K : PySem.W.Frag) (Wout : WX) (D : Ends) : List Cl1 → WX
  | [] => Wout
  | (c, none, ts) :: r => fun cls d σ H => ∃ b, PySem.W.exmOne K cls c = some b ∧ (b = true → ∀ a, H a = none → ts a cls d D σ H) ∧ (b = false → wMix K Wout D r cls d σ H)
  | (c, some i, ts) :: r => fun cls d σ H => ∃ b, PySem.W.exmOne K cls c = some b ∧ (b = true → ∀ a, H a = none → ts a cls d (gone i D) (σ.set i (some (.ref a))) H) ∧ (b = false → wMix K Wout D r cls d σ H)
inductive HdsM (X : Cx) : List ExceptHandler → List Cl1 → Prop
  | nil : HdsM X [] []
  | un {x : Str} {c : Value} {ts : Addr → Value → Option Addr → TS} {b₀ : Stmt} {suite : List Stmt} {np pos' : Pos} {hds : List ExceptHandler} {l : List Cl1} (hc : Names X x c)
      (hsu : ∀ (a : Addr) (oe : Obj) (cls : Value) (d : Option Addr) (pn : List (Addr × Obj)), Zc cls d oe → (∃ vs, oe.data = .fields vs) → PSs (X.suite a ((a, oe) :: pn)) (b₀ :: suite) (ts a cls d)) (r : HdsM X hds l) :
      HdsM X (.ExceptHandler (some (.Name x np)) none (b₀ :: suite) pos' :: hds) ((c, none, ts) :: l)
  | as {x n : Str} {i : Nat} {c : Value} {ts : Addr → Value → Option Addr → TS} {b₀ : Stmt} {suite : List Stmt} {np pos' : Pos} {hds : List ExceptHandler} {l : List Cl1} (hc : Names X x c) (hi : X.N[i]? = some n) (hln : X.env.kindOf n = some .local)
      (hsu : ∀ (a : Addr) (oe : Obj) (cls : Value) (d : Option Addr) (pn : List (Addr × Obj)), Zc cls d oe → (∃ vs, oe.data = .fields vs) → PSs (X.suite a ((a, oe) :: pn)) (b₀ :: suite) (ts a cls d)) (r : HdsM X hds l) :
      HdsM X (.ExceptHandler (some (.Name x np)) (some n) (b₀ :: suite) pos' :: hds) ((c, some i, ts) :: l)
theorem see_name {S : Cx} {sx : Shared} {pinsS : List (Addr × Obj)} {σS : L2.St} {HS : Hp} {y : Str} {cy : Value} {yp : Pos} {Q : Value → Shared → Prop} {E : Value → Shared → Prop} (S3 : Inv S pinsS σS HS sx) (hc : Names S y cy) (q : Q cy sx) : wpAny (model S.prog S.w) S.A (eval (.Name y yp) S.env) Q E sx := by
  obtain ⟨hg, hdbg, hm | ⟨hm, hv, hnn⟩⟩ := hc
  · exact ld_glob S3 hg hm q hdbg
  · exact ld_blt S3 hg hm hv q hnn hdbg
section
variable {X : Cx} {body : List Stmt} {h₀ : ExceptHandler} {hds : List ExceptHandler} {l : List Cl1} {pos : Pos} {tb : WX → TS} {Wout : WX}
theorem ps_try_mix (hs : X.stack = X.env :: X.outer) (hf : X.env.frame = some X.env.locals) (hN : X.N.Nodup) (tk : Takes X Wout)
    (hb : ∀ (W : WX) (pn : List (Addr × Obj)) (xe : Value → Shared → Prop), Takes (X.tr pn xe) W → PassesOwn (model X.prog X.w) X.A X.env xe → PSs (X.tr pn xe) body (tb W)) (hh : HdsM X (h₀ :: hds) l) :
    PS X (.Try body (h₀ :: hds) [] [] pos) (fun D σ H => tb (wMix X.K Wout D l) D σ H) := by
  refine ⟨fun pins s σ H D I h => ?_⟩
  have ok := I.ok
  have afr : X.A.frames = some (X.env :: X.outer) := ok.frames.trans (congrArg some hs)
  refine wpAny_Try_except ?_
  refine wpAny_mono ((hb (wMix X.K Wout D l) (X.pn ++ pins) (fun e s₁ => wpAny (model X.prog X.w) X.A (noteFrame e X.env) (fun _ s₂ => wpAny (model X.prog X.w) X.A (setFlight e none) (fun _ s₃ =>
    wpAny (model X.prog X.w) X.A (handleBy e X.env (h₀ :: hds)) (SP X pins D) X.xe s₃) X.xe s₂) X.xe s₁) (fun u s' xx => ?_) PassesOwn.looking).run [] s σ H D (I.toTry _) h) (fun f s1 hsp => ?_) (fun e s1 he => he)
  · obtain ⟨a, B, sI, pins', σ', H', cls, d, rfl, J', nb, up, sky, na, os, ag, ww⟩ := xx
    have J : Inv X pins σ' H' sI := J'.ofTry ok
    rw [hs] at sky
    show wpAny (model X.prog X.w) X.A (noteFrame (.ref a) X.env) _ _ _
    refine Sky.land Zc.steady afr hf sky fun h3 fl3 up3 => ?_
    have J3 : Inv X pins σ' H' { s' with heap := h3 } := J.landed nb fl3.1 (up.trans up3) os ag
    obtain ⟨oe3, vs3, he3, hz3, hd3⟩ := fl3.there
    have nfr : a ∉ frs (X.env :: X.outer) := fun hm => by
      obtain ⟨_, o', e', hnf⟩ := fl3.2.2.1.mem hm
      exact hnf vs3 ((congrArg Obj.data (Option.some.inj (e'.symm.trans he3))).trans hd3)
    have nL : a ≠ X.env.locals := fun z => nfr (List.mem_filterMap.mpr ⟨X.env, List.mem_cons_self, hf.trans (congrArg some z.symm)⟩)
    have nF : a ∉ X.fs := fun hm => let ⟨e, he, q⟩ := List.mem_filterMap.mp hm; nfr (List.mem_filterMap.mpr ⟨e, List.mem_cons_of_mem _ he, q⟩)
    have S3 := J3.suite he3 hd3 na nL nF
    have LT : PySem.W.Looks (model X.prog X.w) h3 (typeOf (.ref a)) cls := fun A Q E s k q => wpAny_typeOf_ref (k _ _ he3) (by rw [hz3.1]; exact q)
    clear h hb
    -- the clauses, one after the other
    suffices go : ∀ {hds' : List ExceptHandler} {l' : List Cl1}, HdsM X hds' l' → wMix X.K Wout D l' cls d σ' H' → wpAny (model X.prog X.w) X.A (handleBy (.ref a) X.env hds') (SP X pins D) X.xe { s' with heap := h3 } from go hh ww
    intro hds' l' hk
    induction hk with
    | nil =>
      intro w
      refine wpAny_handleBy_nil ?_
      obtain ⟨k1, k2, k3, oe, vs, T, oT, ts', he, hz, hd, h1, hr⟩ := id fl3
      unfold PySem.passOn
      refine wpAny_bind (wpAny_field he hd h1 ?_)
      rw [if_neg (show ¬ ((Value.ref T == Value.none) = true) from by simp)]
      have fin : wpAny (model X.prog X.w) X.A (setFlight (.ref a) X.env.frame) (fun _ s4 => wpAny (model X.prog X.w) X.A (throw (.ref a) : Sem Flow) (SP X pins D) X.xe s4) X.xe { s' with heap := h3 } := by
        rw [hf]
        refine HandSPX.setFlight_upZ fl3 fun h4 hh4 up4 => wpAny_throw (tk _ _ ⟨a, B, sI, pins, σ', H', cls, d, rfl, J, nb, (up.trans up3).trans up4, .inr (.inr ?_), na, os, ag, w⟩)
        rw [hs]
        exact hh4
      first
        | exact wpAny_bind (wpAny_pure (wpAny_bind fin))
        | exact wpAny_bind fin
    | un hc hsu r ih =>
      rintro ⟨b, hb1, hyes, hno⟩
      refine wpAny_handleBy_cons (codeAny_handlers_test ?_) (by intro q; cases q)
      refine see_name (S := X.suite a ((a, oe3) :: (X.pn ++ pins))) S3 hc ((PySem.W.exm_one (M := model X.prog X.w) J3.kIn LT hb1).here ?_)
      cases b with
      | false => exact ih (hno rfl)
      | true =>
        refine codeAny_handlers_suite (HandSPX.lands_againZ fl3 fun h4 fl4 up4 => ?_)
        have J4 : Inv X pins σ' H' { s' with heap := h4 } := J.landed nb fl4.1 ((up.trans up3).trans up4) os ag
        obtain ⟨oe4, vs4, he4, hz4, hd4⟩ := fl4.there
        refine wpAny_mono ((hsu a oe4 cls d (X.pn ++ pins) hz4 ⟨_, hd4⟩).run [] _ _ H' _ (J4.suite he4 hd4 na nL nF) (hyes rfl a na)) (fun f s6 hsp => ?_) (fun _ _ z => False.elim z)
        cases f with
        | next => exact (let ⟨_, _, S6, q6⟩ := hsp; ⟨_, _, S6.unsuite ok, q6⟩)
        | brk => exact (let ⟨_, _, S6, q6⟩ := hsp; ⟨_, _, S6.unsuite ok, q6⟩)
        | cont => exact (let ⟨_, _, S6, q6⟩ := hsp; ⟨_, _, S6.unsuite ok, q6⟩)
        | ret u => exact (let ⟨_, _, _, S6, r6, q6⟩ := hsp; ⟨_, _, _, S6.unsuite ok, r6, q6⟩)
    | as hc hi hln hsu r ih =>
      rintro ⟨b, hb1, hyes, hno⟩
      refine wpAny_handleBy_cons (codeAny_handlers_test ?_) (by intro q; cases q)
      refine see_name (S := X.suite a ((a, oe3) :: (X.pn ++ pins))) S3 hc ((PySem.W.exm_one (M := model X.prog X.w) J3.kIn LT hb1).here ?_)
      cases b with
      | false => exact ih (hno rfl)
      | true =>
        refine codeAny_handlers_suite_as (HandSPX.lands_againZ fl3 fun h4 fl4 up4 => ?_)
        have J4 : Inv X pins σ' H' { s' with heap := h4 } := J.landed nb fl4.1 ((up.trans up3).trans up4) os ag
        obtain ⟨oe4, vs4, he4, hz4, hd4⟩ := fl4.there
        refine store_ok (X := X.suite a ((a, oe4) :: (X.pn ++ pins))) (v := .ref a) (J4.suite he4 hd4 na nL nF) hN hi (.inl hln) rfl (fun s5 S5 => ?_) (.inr hln)
        refine wpAny_mono ((hsu a oe4 cls d (X.pn ++ pins) hz4 ⟨_, hd4⟩).run [] s5 _ H' _ S5 (hyes rfl a na)) (fun f s6 hsp => ?_) (fun _ _ z => False.elim z)
        cases f with
        | next => exact (let ⟨_, _, S6, q6⟩ := hsp; gone_ok (S6.unsuite ok) hN hi hln fun s7 J7 => ⟨_, _, J7, q6⟩)
        | brk => exact (let ⟨_, _, S6, q6⟩ := hsp; gone_ok (S6.unsuite ok) hN hi hln fun s7 J7 => ⟨_, _, J7, q6⟩)
        | cont => exact (let ⟨_, _, S6, q6⟩ := hsp; gone_ok (S6.unsuite ok) hN hi hln fun s7 J7 => ⟨_, _, J7, q6⟩)
        | ret u => exact (let ⟨_, _, _, S6, r6, q6⟩ := hsp; gone_ok (S6.unsuite ok) hN hi hln fun s7 J7 => ⟨_, _, _, J7, r6, q6⟩)
  · cases f with
    | next => exact (let ⟨_, _, J', q⟩ := hsp; wpAny_execs_nil ⟨_, _, J'.ofTry ok, q⟩)
    | brk => exact (let ⟨_, _, J', q⟩ := hsp; ⟨_, _, J'.ofTry ok, q⟩)
    | cont => exact (let ⟨_, _, J', q⟩ := hsp; ⟨_, _, J'.ofTry ok, q⟩)
    | ret u => exact (let ⟨_, _, _, J', r, q⟩ := hsp; ⟨_, _, _, J'.ofTry ok, r, q⟩)
end
end Clo
/-! ### {**d, k: v} -/
namespace Du
theorem twice {R A : Prop} (f : R → A) (r : R) : A := f r
open PySem PySem.Spec PyProof.Rows L2
section
variable {prog : Program} {w : World} {K : Type} [DecidableEq K] {knd : KeyKind prog w K} {A : Around} {E : Value → Shared → Prop} {s : Shared}
/-- a key that isn't there goes to the end -/
theorem put_fresh {d : Addr} {old : List (K × Value)} {k : K} {kv vv : Value} {Q : Unit → Shared → Prop} (is : knd.is k kv = true) (at_ : s.heap.DictOf knd d old) (few : old.length ≤ sizeLine) (fresh : k ∉ old.map (·.1))
    (then_ : ∀ h2, h2.DictOf knd d (old ++ [(k, vv)]) → Heap.SameBut d s.heap h2 → Q () { s with heap := h2 }) : wpAny (model prog w) A (dictPut d (knd.hash k) kv vv) Q E s := by
  obtain ⟨ob, rows, age, there, exact_, dat, ks, prs, ndk⟩ := at_
  have sz : rows.size ≤ sizeLine := by
    have e := prs.length
    rw [Array.length_toList] at e
    omega
  have no : (rows.findIdx? fun e => knd.is k e.key) = none := by
    have e1 := prs.findIdx k
    have e2 : (old.findIdx? fun kv => decide (kv.1 = k)) = none := by
      rw [List.findIdx?_eq_none_iff]
      intro x hx
      exact decide_eq_false fun e => fresh (e ▸ List.mem_map_of_mem hx)
    rw [e2] at e1
    rw [← e1]
    obtain ⟨l⟩ := rows
    simp
  unfold dictPut
  refine wpAny_bind (wpAny_dictFind_of is there dat ks ?_)
  rw [no]
  refine wpAny_updateDictKeys (hz := sz) there dat (then_ _ ⟨_, _, age + 1, Heap.get?_update_self _ there (Obj.isFreed_of_dict (Obj.data_mapDictKeys dat _)), exact_.mapDictKeys _,
    Obj.data_mapDictKeys dat _, ks.push is _, ?_, ?_⟩ (Heap.SameBut.update ..))
  · have := prs.append is (knd.hash k) vv
    obtain ⟨l⟩ := rows
    simpa using this
  · rw [List.map_append, List.nodup_append]
    refine ⟨ndk, by simp, fun x hx y hy e => ?_⟩
    rw [List.map_cons, List.map_nil, List.mem_singleton] at hy
    rw [e, hy] at hx
    exact fresh hx
/-- all of one dict behind what another one has -/
theorem merge_fresh {d a : Addr} {acc more : List (K × Value)} {Q : Unit → Shared → Prop} (da : d ≠ a) (sys : (a == sysModules) = false) (hd : s.heap.DictOf knd d acc) (ha : s.heap.DictOf knd a more) (nodup : ((acc ++ more).map (·.1)).Nodup)
    (few : acc.length + more.length ≤ sizeLine) (byV : ∀ (k : K) (v : Value), knd.is k v = true → ∀ b, v ≠ .ref b)
    (then_ : ∀ h2, h2.DictOf knd d (acc ++ more) → Heap.SameBut d s.heap h2 → Q () { s with heap := h2 }) : wpAny (model prog w) A (mergeMapping d (.ref a) false) Q E s := by
  have tyA := ha.typeIs
  obtain ⟨od, rd, gd, atd, exd, datd, ksd, prd, ndd⟩ := id hd
  obtain ⟨oa, ra, ga, ata, exa, data_, ksa, pra, nda⟩ := id ha
  have len : more.length = ra.size := by
    rw [← pra.length]
    simp
  unfold mergeMapping
  refine wpAny_bind (wpAny_isInstance (T := "dict") (U := "dict") (b := true) tyA (by rw [isSubtype_type]; kernel_rfl) ?_)
  rw [if_pos rfl]
  refine wpAny_bind (wpAny_specialOf tyA F.slot_dict_iter.lookup ?_)
  refine wpAny_bind (wpAny_pure ?_)
  have e : (some (Value.builtin "dict.__iter__") == some (Value.builtin "dict.__iter__")) = true := by decide +kernel
  rw [e]
  dsimp only
  rw [if_neg (by rw [sys]; exact Bool.false_ne_true)]
  refine wpAny_bind (wpAny_dictEntries atd datd ?_)
  apply twice
  · intro rest
    refine wpAny_ite_split (fun _ => ?_) (fun _ => ?_)
    · refine wpAny_bind (wpAny_dictEntries ata data_ ?_)
      refine wpAny_bind ?_
      rw [← Array.forIn_toList]
      refine wpAny_forIn_list _ (fun l _ s' => s' = s ∧ ∀ e ∈ l, e ∈ ra) _ ?_ ?_ _ _ ⟨rfl, fun e he => Array.mem_toList_iff.mp he⟩
      · rintro e l b s' ⟨es, hin⟩
        rw [es]
        obtain ⟨k, hk, _⟩ := ksa e (hin e List.mem_cons_self)
        have no := byV k e.key hk
        split
        · rename_i b eb
          exact absurd eb (no b)
        · exact wpAny_pure ⟨rfl, fun x hx => hin x (List.mem_cons_of_mem _ hx)⟩
      · rintro b s' ⟨es, _⟩
        rw [es]
        exact rest
    · exact rest
  refine wpAny_bind (wpAny_dictEntries ata data_ ?_)
  refine wpAny_bind (wpAny_dictEpoch ata data_ ?_)
  refine wpAny_bind ?_
  refine wpAny_forIn_list _ (fun l _ s' => ∃ (h2 : Heap) (i : Nat), s' = { s with heap := h2 } ∧ l = List.range' i (ra.size - i) ∧ i ≤ ra.size ∧ h2.DictOf knd d (acc ++ more.take i) ∧ h2.get? a = some oa ∧ Heap.SameBut d s.heap h2) _ ?_ ?_ _ _
    ⟨s.heap, 0, rfl, by rw [List.range_eq_range', Nat.sub_zero], Nat.zero_le _, by rw [List.take_zero, List.append_nil]; exact hd, ata, Heap.SameBut.refl _ _⟩
  · rintro x l b s' ⟨h2, i, rfl, el, hi, hd2, ata2, same⟩
    have lt : i < ra.size := by
      rcases Nat.lt_or_ge i ra.size with h | h
      · exact h
      · rw [Nat.sub_eq_zero_of_le h] at el
        cases el
    have e1 : ra.size - i = (ra.size - (i + 1)) + 1 := by omega
    rw [e1, List.range'_succ] at el
    injection el with ex el
    subst ex
    refine wpAny_bind (wpAny_dictEntries ata2 data_ ?_)
    rw [Array.getElem?_eq_getElem lt]
    have ltm : x < more.length := by omega
    obtain ⟨hk, hv⟩ := pra.get? (i := x) (e := ra[x]) (k := more[x].1) (v := more[x].2) (by rw [Array.getElem?_toList, Array.getElem?_eq_getElem lt]) (List.getElem?_eq_getElem ltm)
    obtain ⟨k2, hk2, hh⟩ := ksa ra[x] (Array.getElem_mem lt)
    have ek : k2 = more[x].1 := knd.inj _ _ _ hk2 hk
    subst ek
    have split_ : more = more.take x ++ more[x] :: more.drop (x + 1) := by rw [List.getElem_cons_drop, List.take_append_drop]
    have fresh : more[x].1 ∉ (acc ++ more.take x).map (·.1) := fun m => by
      have nd2 := nodup
      rw [split_, ← List.append_assoc, List.map_append, List.nodup_append] at nd2
      exact nd2.2.2 _ m _ (List.mem_map_of_mem List.mem_cons_self) rfl
    refine wpAny_bind (wpAny_holding ?_)
    rw [if_neg Bool.false_ne_true, hh, hv]
    have few2 : (acc ++ more.take x).length ≤ sizeLine := by
      rw [List.length_append, List.length_take]
      omega
    refine put_fresh hk hd2 few2 fresh fun h3 hd3 same3 => ?_
    have ata3 : h3.get? a = some oa := (same3.2 a (Ne.symm da)).trans ata2
    refine wpAny_bind (wpAny_dictEpoch ata3 data_ ?_)
    rw [if_neg (by simp)]
    refine wpAny_pure ⟨h3, x + 1, rfl, el, lt, ?_, ata3, same.trans same3⟩
    rw [List.take_add_one, List.getElem?_eq_getElem ltm, ← List.append_assoc]
    exact hd3
  · rintro b s' ⟨h2, i, rfl, el, hi, hd2, ata2, same⟩
    have ei : i = ra.size := by
      rcases Nat.lt_or_ge i ra.size with h | h
      · have e1 : ra.size - i = (ra.size - (i + 1)) + 1 := by omega
        rw [e1, List.range'_succ] at el
        cases el
      · omega
    rw [ei, ← len, List.take_length] at hd2
    exact wpAny_pure (then_ h2 hd2 same)
end
/-- {**d, k: v}: a new dict with all of d and, at its end, one key more -/
def tDunp (t0 tk tv : TE) : TE := fun σ H Q => ∀ p, H p = none → t0 σ (upd H p (.dK [])) fun x H1 => ∃ (a : Addr) (kvs : List (Key × V)), x = .ref a ∧ a ≠ p ∧ H1 p = some (.dK []) ∧ H1 a = some (.dK kvs) ∧
  ∀ q, (upd H1 p (.dK kvs)) q = none → tk σ (upd (upd H1 p (.dK kvs)) q (.dK [])) fun y H2 => tv σ H2 fun z H3 => ∃ k : Key, y = kV k ∧ H3 q = some (.dK []) ∧ H3 p = some (.dK kvs) ∧ k ∉ kvs.map (·.1) ∧ kvs.length < 1000 ∧
    Q (.ref p) (upd (upd H3 q (.dK [(k, z)])) p (.dK (kvs ++ [(k, z)])))
theorem key_byV {prog : Program} {w : World} (k : Key) (v : Value) (h : (mixKind prog w).is k v = true) (b : Addr) : v ≠ .ref b := by
  rcases keyIs_shape (k := k) (v := v) h with ⟨i, t, _, rfl⟩ | ⟨x, t, _, rfl⟩ <;> intro e <;> cases e
theorem KV.keys {kvs : List (Key × V)} {vs : List (Key × Value)} (r : KV kvs vs) : vs.map (·.1) = kvs.map (·.1) := by
  unfold KV at r
  induction r with
  | nil => rfl
  | cons h t ih => rw [List.map_cons, List.map_cons, ih, h.1]
theorem KV.app {kvs ks2 : List (Key × V)} {vs vs2 : List (Key × Value)} (r : KV kvs vs) (r2 : KV ks2 vs2) : KV (kvs ++ ks2) (vs ++ vs2) := by
  unfold KV at r
  induction r with
  | nil => exact r2
  | cons h t ih => exact .cons h ih
section
variable {X : Cx} {pos : Pos} {e0 k v : Expr} {t0 tk tv : TE}
theorem pe_dunp (h0 : PE X e0 t0) (hk : PE X k tk) (hv : PE X v tv) : PE X (.Dict [none, some k] [e0, v] pos) (tDunp t0 tk tv) := by
  refine ⟨fun pins s σ H Q I q => ?_⟩
  have hn := I.hok.fresh (Nat.le_refl s.heap.objs.size)
  have I1 := I.laid (a := s.heap.objs.size) (o := .dK []) (h' := s.heap.push { cls := .type "dict", data := .dict #[] }) (t' := s.toks) (fun _ _ q => Heap.get?_push_of_some _ q) (Nat.le_refl _) (dk_empty s.heap I.big)
  rw [arm_eval_Dict]
  refine wpAny_bind (wpAny_standAt ?_)
  have items : (evalEachOpt [none, some k] X.env).zip ((evalEach [e0, v] X.env).map fun v => do let x ← v; standAt pos; pure x) =
    [(none, do let x ← eval e0 X.env; standAt pos; pure x), (some (eval k X.env), do let x ← eval v X.env; standAt pos; pure x)] := rfl
  rw [items]
  unfold dictDisplay
  simp only [List.forIn_cons, List.forIn_nil]
  refine wpAny_bind (wpAny_bind ?_)
  refine wpAny_bind (wpAny_of_eq (a := none) rfl ?_)
  dsimp only
  refine wpAny_bind (wpAny_alloc ?_)
  refine wpAny_bind (wpAny_holding (wpAny_bind (thn (h0.run pins _ σ _ _ I1 (q _ hn)) fun u s1 ⟨x, H1, I2, rx, a, kvs, ex, ap, hp1, ha1, q1⟩ => wpAny_bind (wpAny_standAt (wpAny_pure ?_)))))
  subst ex
  obtain rfl : u = Value.ref a := rx
  obtain ⟨za, sysa, va, ra, da⟩ := dk_of I2.hok ha1
  obtain ⟨zp, sysp, vp, rp, dp⟩ := dk_of I2.hok hp1
  cases rp
  have nda : ((([] : List (Key × Value)) ++ va).map fun (x : Key × Value) => x.1).Nodup := by
    obtain ⟨_, _, _, _, _, _, _, _, nd⟩ := da
    rw [List.nil_append]
    exact nd
  have lva : kvs.length = va.length := Paired.length ra
  refine wpAny_bind (wpAny_onRaise (wpAny_tryCatch (wpAny_onRaise (wpAny_holding (merge_fresh (knd := mixKind X.prog X.w) (Ne.symm ap) sysa dp da nda (by rw [List.length_nil]; omega) key_byV fun h2 dp2 same2 => wpAny_pure (wpAny_pure ?_))))))
  rw [List.nil_append] at dp2
  have hpe : ∃ q, h2.get? s.heap.objs.size = some q := let ⟨q, _, _, hq, _⟩ := dp2; ⟨q, hq⟩
  have I3 := d_write (t' := s1.toks) I2 (a := s.heap.objs.size) (ob := .dK kvs) (by rw [hp1]; exact True.intro) same2 hpe (dk_new za sysp ra dp2)
  dsimp only
  refine wpAny_bind ?_
  show wpAny _ _ (holding [.ref s.heap.objs.size] (subDict (pairTrees [some k] [v] X.env pos)) >>= _) _ _ _
  have nq : (upd H1 s.heap.objs.size (.dK kvs)) h2.objs.size = none := I3.hok.fresh (Nat.le_refl _)
  have I4 := I3.laid (a := h2.objs.size) (o := .dK []) (h' := h2.push { cls := .type "dict", data := .dict #[] }) (t' := s1.toks) (fun _ _ q => Heap.get?_push_of_some _ q) (Nat.le_refl _) (dk_empty h2 I3.big)
  refine wpAny_bind (wpAny_holding (wpAny_subDict (knd := mixKind X.prog X.w) (by rw [pairTrees_length _ _ _ _ rfl rfl]; show 1 ≤ 15; decide) ?_))
  refine pairTrees_cons_walk (thn (hk.run pins _ σ _ _ I4 (q1 _ nq)) fun kv s2 ⟨y, H2, I5, ry, q2⟩ => thn (hv.run pins s2 σ H2 _ I5 q2) fun vv s3 ⟨z, H3, I6, rz, key, ey, hq3, hp3, fresh, few, q3⟩ => pairTrees_nil_walk ?_)
  subst ey
  obtain ⟨zq, sysq, vq, rq, dq⟩ := dk_of I6.hok hq3
  cases rq
  refine ⟨[(key, vv)], ⟨kV_is ry, rfl, True.intro⟩, dq, fun h4 dq4 same4 => ?_⟩
  have dq5 : h4.DictOf (mixKind X.prog X.w) h2.objs.size [(key, vv)] := dq4
  have hqe : ∃ q, h4.get? h2.objs.size = some q := let ⟨q, _, _, hq, _⟩ := dq5; ⟨q, hq⟩
  have I7 := d_write (t' := s3.toks + 1) I6 (a := h2.objs.size) (ob := .dK [(key, z)]) (by rw [hq3]; exact True.intro) same4 hqe (dk_new (by show 1 ≤ sizeLine; decide) sysq (.cons ⟨rfl, rz⟩ .nil) dq5)
  have pq : s.heap.objs.size ≠ h2.objs.size := fun e => by
    rw [← e, upd_same] at nq
    cases nq
  have hp7 : (upd H3 h2.objs.size (.dK [(key, z)])) s.heap.objs.size = some (.dK kvs) := by
    rw [upd_ne pq]
    exact hp3
  obtain ⟨zp7, sysp7, vp7, rp7, dp7⟩ := dk_of I7.hok hp7
  have nd7 : ((vp7 ++ [(key, vv)]).map fun (x : Key × Value) => x.1).Nodup := by
    obtain ⟨_, _, _, _, _, _, _, _, nd⟩ := id dp7
    rw [List.map_append, List.nodup_append]
    refine ⟨nd, by simp, fun x hx y hy e => ?_⟩
    rw [KV.keys rp7] at hx
    rw [List.map_cons, List.map_nil, List.mem_singleton] at hy
    rw [e, hy] at hx
    exact fresh hx
  have lv7 : kvs.length = vp7.length := Paired.length rp7
  refine wpAny_bind (wpAny_onRaise (wpAny_holding (merge_fresh (knd := mixKind X.prog X.w) pq sysq dp7 dq5 nd7 (by rw [sizeLine_eq, ← lv7]; simp only [List.length_cons, List.length_nil]; omega) key_byV fun h5 dp8 same5 => wpAny_pure ?_)))
  have hpe5 : ∃ q, h5.get? s.heap.objs.size = some q := let ⟨q, _, _, hq, _⟩ := dp8; ⟨q, hq⟩
  have I8 := d_write (t' := s3.toks + 1) I7 (a := s.heap.objs.size) (ob := .dK (kvs ++ [(key, z)])) (by rw [hp7]; exact True.intro) same5 hpe5
    (dk_new (by rw [List.length_append, sizeLine_eq]; simp only [List.length_cons, List.length_nil]; omega) sysp7 (KV.app rp7 (.cons ⟨rfl, rz⟩ .nil)) dp8)
  exact wpAny_pure ⟨.ref s.heap.objs.size, _, I8, rfl, q3⟩
end
end Du
/-! ### tuple.count; t[:h:-1]; list.extend(t) -/
namespace Tb
open PySem PySem.Spec PyProof.Rows L2
/-- how often a flat value stands in a tuple of flat values -/
def rTCnt (K : PySem.W.Frag) : V → List V → Hp → VK → Prop := fun x xs H Q => ∃ (p : Addr) (ys : List V) (z : V), x = .ref p ∧ xs = [z] ∧ SqT K H p ys ∧ flatV z = true ∧ ys.all flatV = true ∧ Q (.int (ys.countP fun y => eqV y z : Nat)) H
theorem count_eqU {x : V} : ∀ {xs : List V} {us : List Value}, Vals xs us → xs.all flatV = true → us.countP (eqU x) = xs.countP fun y => eqV y x
  | _, _, .nil, _ => rfl
  | y :: xs, u :: us, .cons r t, f => by
    rw [List.all_cons, Bool.and_eq_true] at f
    rw [List.countP_cons, List.countP_cons, eqU_of r f.1, count_eqU t f.2]
theorem mt_tcount {X : Cx} : MtR X "tuple.count" (rTCnt X.K) := by
  intro pins s σ H x xs v us Q I rx rxs h
  obtain ⟨p, ys, z, rfl, rfl, ht, fz, fs, q⟩ := h
  cases rx
  obtain ⟨u, rfl, ru⟩ := rxs.one
  obtain ⟨its, rel, ⟨⟨ocl, odi, oda, osl⟩, hat, hcl, cnt, hda⟩, _⟩ := I.tuple ht
  dsimp only at hcl hda
  subst hcl hda
  have each : ∀ y, y ∈ its.toArray → SeqAt.EqAt X.A.in1 s y u (eqU z y) := fun y hy => mem_eqAt ru fz rel fs y (by simpa using hy)
  refine call_meets PySem.F.slot_tuple_count ⟨_, hat, rfl⟩
    PySem.F.entry_tuple_count (PySem.F.args_tuple_count_2 _ _)
    (SeqAt.tuple_countAt p its.toArray cnt odi osl u (eqU z)) ⟨hat, each, ?_⟩
  have e : its.toArray.toList.countP (eqU z) = ys.countP fun y => eqV y z := count_eqU rel fs
  refine ⟨.int (ys.countP fun y => eqV y z : Nat), H, I.tok _, ⟨s.toks, ?_⟩, q⟩
  show Value.int ((its.toArray.toList.countP (eqU z) : Nat) : Int) s.toks = _
  rw [e]
theorem fm_congr {α β : Type} {f g : α → Option β} : ∀ {l : List α}, (∀ x ∈ l, f x = g x) → l.filterMap f = l.filterMap g
  | [], _ => rfl
  | x :: l, h => by rw [List.filterMap_cons, List.filterMap_cons, h x List.mem_cons_self, fm_congr fun y m => h y (List.mem_cons_of_mem _ m)]
theorem back_pick (xs : Array Value) {h : Nat} (hh : h < xs.size) : ((List.range (xs.size - 1 - h)).filterMap fun (k : Nat) => xs[(((xs.size : Int) - 1) + (k : Int) * (-1)).toNat]?).toArray = ((xs.toList.drop (h + 1)).reverse).toArray := by
  congr 1
  have len : (xs.toList.drop (h + 1)).reverse.length = xs.size - 1 - h := by
    rw [List.length_reverse, List.length_drop, Array.length_toList]
    omega
  have all : ∀ l : List Value, (List.range l.length).filterMap (fun k => l[k]?) = l := fun l => by
    induction l with
    | nil => rfl
    | cons a l ih =>
      rw [List.length_cons, List.range_succ_eq_map, List.filterMap_cons]
      show a :: ((List.range l.length).map Nat.succ).filterMap (fun k => (a :: l)[k]?) = a :: l
      rw [List.filterMap_map]
      exact congrArg (a :: ·) ih
  have e := all (xs.toList.drop (h + 1)).reverse
  rw [len] at e
  refine Eq.trans ?_ e
  refine fm_congr fun k hk => ?_
  have hk := List.mem_range.mp hk
  rw [List.getElem?_reverse (by rw [List.length_drop, Array.length_toList]; omega), List.getElem?_drop, List.length_drop, Array.length_toList, Array.getElem?_toList]
  congr 1
  omega
section
variable {prog : Program} {w : World} {A : Around} {E : Value → Shared → Prop} {s : Shared}
theorem applied_back {sl : Addr} {vl vu vs : Value} {h n : Nat} {Q : Int × Int × Nat → Shared → Prop} (so : s.heap.IsSliceOf sl vl vu vs) (p0 : IsPart vl none) (p1 : IsPart vu (some (h : Int))) (p2 : IsPart vs (some (-1))) (hn : h < n)
    (k : Q ((n : Int) - 1, -1, n - 1 - h) s) : wpAny (model prog w) A (Builtin.Slice.sliceApplied (.ref sl) (pure (n : Int))) Q E s := by
  obtain ⟨ob, at_, _, dat⟩ := id so
  unfold Builtin.Slice.sliceApplied Builtin.Slice.sliceFields
  refine wpAny_bind (wpAny_bind (wpAny_field at_ dat (x := vl) rfl ?_))
  refine wpAny_bind (wpAny_field at_ dat (x := vu) rfl ?_)
  refine wpAny_bind (wpAny_field at_ dat (x := vs) rfl (wpAny_pure ?_))
  refine wpAny_bind (HT.slicePart_ p2 ?_)
  show wpAny _ _ (if ((-1 : Int) == 0) = true then _ else _) _ _ s
  rw [if_neg (by decide)]
  refine wpAny_bind (HT.slicePart_ p0 ?_)
  refine wpAny_bind (HT.slicePart_ p1 ?_)
  refine wpAny_bind (wpAny_pure ?_)
  have adj : Builtin.Slice.sliceAdjust none (some (h : Int)) (-1) (n : Int) = ((n : Int) - 1, (h : Int)) := by
    unfold Builtin.Slice.sliceAdjust
    have e : ¬ ((h : Int) < 0) := by omega
    have e2 : min (h : Int) ((n : Int) - 1) = h := by omega
    simp [e, e2]
  have pl : Builtin.Slice.slicePlaces ((n : Int) - 1) (h : Int) (-1) = n - 1 - h := by
    unfold Builtin.Slice.slicePlaces
    rw [if_neg (by decide)]
    by_cases c : (n : Int) - 1 > (h : Int)
    · rw [if_pos c]
      have e : ((n : Int) - 1 - (h : Int) - 1) / (- -1) = (n : Int) - 1 - (h : Int) - 1 := by
        rw [show (- -1 : Int) = 1 by decide, Int.ediv_one]
      rw [e]
      omega
    · rw [if_neg c]
      omega
  show wpAny _ _ (match Builtin.Slice.sliceAdjust none (some (h : Int)) (-1) (n : Int) with | (lo, hi) => pure (lo, (-1 : Int), Builtin.Slice.slicePlaces lo hi (-1))) _ _ s
  rw [adj]
  show wpAny _ _ (pure ((n : Int) - 1, (-1 : Int), Builtin.Slice.slicePlaces ((n : Int) - 1) (h : Int) (-1))) _ _ s
  rw [pl]
  exact wpAny_pure k
theorem item_back {t sl : Addr} {items : Array Value} {vl vu vs : Value} {h : Nat} {Q : Value → Shared → Prop} (tt : IsTup s.heap t items) (so : s.heap.IsSliceOf sl vl vu vs) (p0 : IsPart vl none) (p1 : IsPart vu (some (h : Int))) (p2 : IsPart vs (some (-1))) (hn : h < items.size) (few : items.size ≤ sizeLine)
    (k : Q (.ref s.heap.objs.size) { s with heap := s.heap.push { cls := .type "tuple", data := .seq ((items.toList.drop (h + 1)).reverse).toArray } }) : wpAny (model prog w) A (getItem (.ref t) (.ref sl)) Q E s := by
  have okSize : sizeOk (.seq ((items.toList.drop (h + 1)).reverse).toArray) := by
    show ((items.toList.drop (h + 1)).reverse).toArray.size ≤ sizeLine
    rw [List.size_toArray, List.length_reverse, List.length_drop, Array.length_toList]
    omega
  obtain ⟨ob, at_, cl, dat⟩ := id so
  have tyS : s.TypeIs (.ref sl) "slice" := ⟨ob, at_, cl⟩
  unfold getItem
  refine wpAny_holding ?_
  refine wpAny_bind (wpAny_sequenceKey tt.typeIs (by decide) ?_)
  refine wpAny_bind (wpAny_callSpecial?_slot (name := Str.ofString "__getitem__") tt.typeIs PyProof.Rows.slot_tuple_getitem
    (wpAny_call_entry PyProof.Rows.slot_tuple_getitem tt.typeIs PyProof.Rows.entry_tuple_getitem ?_ (PyProof.Rows.args_tuple_getitem _ _)))
  show wpAny _ _ (Builtin.Tuple.tupleItemsOf (.ref t) >>= _) _ _ s
  refine wpAny_bind (PyProof.Rows.tupleItemsOf_ tt ?_)
  refine wpAny_bind (wpAny_typeOf tyS ?_)
  rw [if_pos (by decide)]
  refine wpAny_bind (applied_back so p0 p1 p2 hn ?_)
  show wpAny _ _ (if (((items.size : Int) - 1) == 0 && (-1 : Int) == 1 && (items.size - 1 - h) == items.size) = true then _ else _) _ _ s
  have no : ¬ ((((items.size : Int) - 1) == 0 && (-1 : Int) == 1 && (items.size - 1 - h) == items.size) = true) := by
    rw [show ((-1 : Int) == 1) = false by decide, Bool.and_false, Bool.false_and]
    exact Bool.false_ne_true
  rw [if_neg no, back_pick items hn]
  exact wpAny_bind (m := Builtin.Tuple.tupleExact _) (wpAny_newObj_type (wpAny_pure ⟨_, rfl, wpAny_pure k⟩) okSize)
end
/-- t[:h:-1] -/
def tRevUp (K : PySem.W.Frag) (te th : TE) : TE := fun σ H Q => te σ H fun x H1 => tPart th σ H1 fun y H2 => ∃ (a : Addr) (xs : List V) (h : Nat), x = .ref a ∧ y = some (h : Int) ∧ SqT K H2 a xs ∧ h < xs.length ∧ ∀ p, H2 p = none → Q (.ref p) (upd H2 p (.tup (xs.drop (h + 1)).reverse))
section
variable {X : Cx}
theorem pe_revUp {e eh : Expr} {te th : TE} {c : Nat} {p1 p2 p3 pos : Pos} (he : PE X e te) (hh : PE X eh th) : PE X (.Subscript e (.Slice none (some eh) (some (.UnaryOp .USub (.Constant (.int 1) c p1) p2)) p3) pos) (tRevUp X.K te th) := by
  refine ⟨fun pins s0 σ G0 Q J0 q0 => ?_⟩
  refine Subscript_ (thn (he.run pins s0 σ G0 _ J0 q0) fun v0 s1 ⟨x, G1, J1, r0, q1⟩ => ?_)
  refine wpAny_Slice (thn (po_none.run pins s1 σ G1 (fun o G => o = none ∧ G = G1) J1 ⟨rfl, rfl⟩) fun vl s2 ⟨l, G2, J2, pl, el, e2⟩ => ?_)
  subst el e2
  have up : PO X (some eh) (tPart th) := po_some hh
  refine thn (up.run pins s2 σ G2 _ J2 q1) fun vu s3 ⟨u, G3, J3, pu, a, xs, h, ex, eu, hx, hl, q2⟩ => ?_
  subst ex eu
  cases r0
  have back : PO X (some (.UnaryOp .USub (.Constant (.int 1) c p1) p2)) (tPart (tUn (rU fun i => .int (-i)) (tC (.int 1)))) := po_some (pe_un un_neg pe_int)
  refine thn (back.run pins s3 σ G3 (fun o G => o = some (-1) ∧ G = G3) J3 ⟨1, rfl, -1, rfl, rfl, rfl⟩) fun vs s4 ⟨o, G4, J4, ps, eo, e4⟩ => ?_
  subst eo e4
  have J5 : Inv X pins σ G4 { s4 with heap := s4.heap.push { cls := .type "slice", data := .fields #[vl, vu, vs] } } := J4.kept (t' := s4.toks) fun b ob z => Heap.get?_push_of_some _ z
  obtain ⟨its, rel, tt, few⟩ := J5.tuple hx
  have len := rel.length
  show wpAny (model X.prog X.w) X.A (subscriptTail e (.Slice none (some eh) (some (.UnaryOp .USub (.Constant (.int 1) c p1) p2)) p3) (.ref a) (.ref s4.heap.objs.size)) (EP X pins σ Q) X.xe { s4 with heap := s4.heap.push { cls := .type "slice", data := .fields #[vl, vu, vs] } }
  refine tail_any (ops := [.ref a, .ref s4.heap.objs.size]) tt.typeIs
    PyProof.Rows.slot_tuple_getitem.lookup ?_ (by with_unfolding_all rfl)
  refine item_back (h := h) tt (Heap.IsSliceOf.new _ vl vu vs) pl pu ps (by rw [List.size_toArray]; omega) (by rw [List.size_toArray]; omega) ?_
  refine ⟨.ref _, _, J5.laid (t' := s4.toks) (o := .tup (xs.drop (h + 1)).reverse) (fun b ob z => Heap.get?_push_of_some _ z) (Nat.le_refl _) ?_, rfl, q2 _ (J5.hok.fresh (Nat.le_refl _))⟩
  refine ⟨by rw [List.length_reverse, List.length_drop]; omega, (its.drop (h + 1)).reverse, ?_, IsTup.new _ _⟩
  exact (rel.drop (h + 1)).reverse
end
end Tb
/-! ### list(d.values()) -/
namespace Lv
open PySem PySem.Spec PyProof.Rows L2
def tListVals (te : TE) : TE := fun σ H Q => te σ H fun x H1 => ∃ (d : Addr) (kvs : List (Key × V)), x = .ref d ∧ H1 d = some (.dK kvs) ∧ ∀ p, H1 p = none → Q (.ref p) (upd H1 p (.lst (kvs.map (·.2))))
theorem vals_snd {kvs : List (Key × V)} {vs : List (Key × Value)} (r : KV kvs vs) : Vals (kvs.map (·.2)) (vs.map (·.2)) := by
  unfold KV at r
  induction r with
  | nil => exact .nil
  | cons r t ih => exact .cons r.2 ih
section
variable {X : Cx} {e : Expr} {te : TE} {p apos cpos pos : Pos}
theorem pe_listVals (hc : X.calm = true) (he : PE X e te) (hg : Gl X "list") (hm : X.mg "list" = none) (hv : bootBuiltins "list" = some (.type "list")) (hbase : attributeBase e "values" X.env (eval e X.env) = eval e X.env := by rfl) (hline : (apos.endLine == cpos.line) = true := by rfl)
    (hs : starEach [.Call (.Attribute e "values" apos) [] [] cpos] X.env = (false, eval (.Call (.Attribute e "values" apos) [] [] cpos) X.env) :: starEach [] X.env := by rfl) :
    PE X (.Call (.Name "list" p) [.Call (.Attribute e "values" apos) [] [] cpos] [] pos) (tListVals te) := by
  refine ⟨fun pins s σ H Q I hq => ?_⟩
  refine wpAny_Call_Name_kw (ld_blt I hg hm hv ?_)
  refine PyProof.Rows.callWith_type1 ?_ hs rfl
  rw [hs]
  show wpAny _ _ (spliced ((false, eval (.Call (.Attribute e "values" apos) [] [] cpos) X.env) :: backTo pos (starEach [] X.env))) _ _ s
  refine Calls.spliced_cons ?_
  refine wpAny_Call_method (T := "dict") (id := "dict.values") hbase rfl hline F.plainAttrs_dict F.slot_dict_values F.type_dict_values (thn (he.run pins s σ H _ I hq) fun u s1 ⟨x, H1, I1, rx, d, kvs, ex, hd, q⟩ => ?_)
  subst ex
  obtain rfl : u = Value.ref d := rx
  obtain ⟨hz, hs0, vs, kv, hdo⟩ := I1.hok d _ hd
  obtain ⟨ep, hat⟩ := hdo.dictAt
  have lk : kvs.length = vs.length := Paired.length kv
  have I2 : Inv X pins σ H1 { s1 with heap := s1.heap.push { cls := .type "dict_values", data := .fields #[.ref d] } } := I1.kept (t' := s1.toks) fun b ob q => Heap.get?_push_of_some _ q
  refine ⟨hdo.typeIs, hdo.mapOf.noDict, ?_⟩
  show wpAny _ _ (callWith cpos (.builtin "dict.values") [.ref d] [] []) _ X.xe s1
  refine method_meetsIn F.slot_dict_values F.entry_dict_values rfl (PySem.evalArgs_none ⟨rfl, hdo.typeIs, F.args_dict_values_1 _, _, meets_dict_values (mixKind X.prog X.w) d hs0, ⟨vs, hdo⟩, ?_⟩)
  refine Calls.spliced_nil ?_
  refine PySem.W.kdl_call (PySem.W.kdl_values (knd := mixKind X.prog X.w) (kvs := vs) (ep := ep)) (I1.ok.hd hc) ⟨⟨_, Heap.get?_push_size _ rfl, rfl, rfl⟩, hat.push _⟩ (by omega) fun h' tk acc c hk hS hacc => ?_
  have ev : acc.toList = vs.map (·.2) := PySem.W.kdl_vals_eq acc.toList (by rw [Array.length_toList]; exact hacc.1) fun j v e => hacc.2 j v (by rw [← Array.getElem?_toList]; exact e)
  refine ⟨.ref _, _, I2.laid (o := .lst (kvs.map (·.2))) (t' := tk) hk (Nat.le_refl _) ⟨by rw [List.length_map]; omega, vs.map (·.2), c, vals_snd kv, ?_⟩, rfl, q _ (I2.hok.fresh (Nat.le_refl _))⟩
  rw [← ev, Array.toArray_toList]
  exact hS
end
end Lv
/-! ### t * k and t[::-1], what is new is plain -/
namespace Tb
open PySem PySem.Spec PyProof.Rows L2
theorem tuple_mul0 (l : Addr) (n : Nat) (dd : Option Addr) (sl : Array (Option Value)) (x : Int) (u : Tok) (c0 : (decide (x < -(2 ^ 63)) || decide (x ≥ 2 ^ 63)) = false) :
    Meets (Builtin.«tuple.__mul__» ⟨[.ref l, .int x u], []⟩) (fun _ R s => s.heap.get? l = some { cls := .type "tuple", dict := dd, data := .seq #[] n, slots := sl } ∧ R (.ok (.ret (Value.ref l))) s) :=
  .of_wp fun prog w A R s h => by
    obtain ⟨hp, g, d, tk, os⟩ := s
    obtain ⟨hl, h⟩ := h
    have f1 := AutoSeq1.idx_int
    have tI : (⟨hp, g, d, tk, os⟩ : Shared).TypeIs (.ref l) "tuple" := ⟨_, hl, rfl⟩
    wp_walk using wpAny_loadPart' hl
    repeat (first
      | (refine wpAny_ite_false (decide_eq_false (by rw [c0]; exact Bool.false_ne_true)) ?_; wp_walk using wpAny_loadPart' hl)
      | (refine wpAny_ite_true ?_ ?_; (first | rfl | (simp; done)); wp_walk using wpAny_loadPart' hl))
    exact ⟨_, rfl, h⟩
/-- a tuple times a number -/
def rRepX (K : PySem.W.Frag) : R2 := fun x y H Q => ∃ (a : Addr) (m : Nat) (xs : List V), x = .ref a ∧ y = .int (m : Int) ∧ Tx.TX H a xs ∧ 2 ≤ m ∧ m ≤ 5000 ∧ xs.length * m ≤ 100000 ∧
  (xs = [] → Q (.ref a) H) ∧ ∀ p H2, H p = none → Same H H2 → Tx.TX H2 p (List.replicate m xs).flatten → Q (.ref p) H2
theorem op_repX {X : Cx} : OpR X (binaryOp .Mult) (rRepX X.K) := by
  intro pins s σ H x y v u Q I rx ry h
  obtain ⟨a, m, xs, rfl, rfl, tx, m2, m5, prod, q0, q⟩ := h
  have ht : SqT X.K H a xs := tx.sq
  cases rx
  obtain ⟨tk, rfl⟩ := ry
  obtain ⟨us, rel, ⟨⟨ocl, odi, oda, osl⟩, hat, hcl, cnt, hda⟩, _⟩ := I.tuple ht
  dsimp only at hcl hda
  subst hcl hda
  have eu : us.length = xs.length := rel.length.symm
  have eus : us.toArray.size = xs.length := by rw [List.size_toArray, eu]
  have g0 : (decide ((m : Int) < -(2 ^ 63)) || decide ((m : Int) ≥ 2 ^ 63)) = false := by
    have h1 : decide ((m : Int) < -(2 ^ 63)) = false := decide_eq_false (by omega)
    have h2 : decide ((m : Int) ≥ 2 ^ 63) = false := decide_eq_false (by omega)
    rw [h1, h2]
    rfl
  have other := int_rmul_tuple (m : Int) tk a us.toArray cnt odi osl
  refine wpAny_binaryOp_repeat_ref (T := "tuple")
    (U := "int") (by decide) ⟨_, hat, rfl⟩
    (fun st => typeIs_int st (m : Int) tk)
    noFill_tuple_mul
    F.fills_int_mul F.slot_int_rmul
    repeat_tuple
    F.slot_int_index.lookup ?_
  refine call_meets F.slot_int_rmul (typeIs_int s (m : Int) tk)
    F.entry_int_rmul (F.args_int_rmul_2 _ _) other ⟨hat, rfl, ⟨_, hat, rfl⟩, ?_⟩
  by_cases ex : xs = []
  · subst ex
    have e0 : us = [] := List.eq_nil_of_length_eq_zero eu
    subst e0
    refine call_meets F.slot_tuple_mul ⟨_, hat, rfl⟩
      F.entry_tuple_mul (F.args_tuple_mul_2 _ _) (tuple_mul0 a cnt odi osl (m : Int) tk g0) ⟨hat, ?_⟩
    exact ⟨.ref a, H, I, rfl, q0 rfl⟩
  · have x1 : 1 ≤ xs.length := by
      cases xs with
      | nil => exact absurd rfl ex
      | cons _ _ => simp
    have full : us.toArray.isEmpty = false := by
      cases us with
      | nil => exact absurd eu (by rw [List.length_nil]; omega)
      | cons _ _ => rfl
    have prodI : ((us.toArray.size : Nat) : Int) * (m : Int) ≤ 100000 := by
      rw [eus]
      have e : ((xs.length : Nat) : Int) * (m : Int) = ((xs.length * m : Nat) : Int) := (Int.natCast_mul _ _).symm
      rw [e]
      omega
    have lenR : ∀ {α : Type} (ys : List α), ys.length = xs.length → (List.replicate m ys).flatten.length ≤ sizeLine := fun ys hy => by
      rw [PyProof.Rows.lm_len_rep_flat, hy, sizeLine_eq, Nat.mul_comm]
      omega
    have g1 : (us.toArray.isEmpty || (m : Int) == 1) = false := by
      have h1 : ((m : Int) == 1) = false := beq_eq_false_iff_ne.mpr (by omega)
      rw [full, h1]
      rfl
    have g2 : (decide ((m : Int) ≤ 0) || us.toArray.isEmpty) = false := by
      have h1 : decide ((m : Int) ≤ 0) = false := decide_eq_false (by omega)
      rw [full, h1]
      rfl
    have g4 : Builtin.Tuple.tupleTooMany (((us.toArray.size : Nat) : Int) * (m : Int)) = false := by
      unfold Builtin.Tuple.tupleTooMany
      exact decide_eq_false (by rw [sizeLine_eq]; omega)
    have times := tuple_mulW a us.toArray cnt odi osl (m : Int) tk g0 g1 g2 (by omega) g4 (by rw [size_rep, List.size_toArray, Int.toNat_natCast]; exact lenR us eu)
    refine call_meets F.slot_tuple_mul ⟨_, hat, rfl⟩
      F.entry_tuple_mul (F.args_tuple_mul_2 _ _) times ⟨hat, ?_⟩
    rw [size_rep, Int.toNat_natCast]
    obtain ⟨G2, J2, fresh, same, tx2⟩ := Tx.laid_tup I (rel.rep m) (lenR xs rfl)
    exact ⟨.ref s.heap.objs.size, G2, J2, rfl, q _ _ fresh same tx2⟩
section
variable {prog : Program} {w : World} {A : Around} {E : Value → Shared → Prop} {s : Shared}
theorem applied_rev {sl : Addr} {vl vu vs : Value} {n : Nat} {Q : Int × Int × Nat → Shared → Prop} (so : s.heap.IsSliceOf sl vl vu vs) (p0 : IsPart vl none) (p1 : IsPart vu none) (p2 : IsPart vs (some (-1)))
    (k : Q ((n : Int) - 1, -1, n) s) : wpAny (model prog w) A (Builtin.Slice.sliceApplied (.ref sl) (pure (n : Int))) Q E s := by
  obtain ⟨ob, at_, _, dat⟩ := id so
  unfold Builtin.Slice.sliceApplied Builtin.Slice.sliceFields
  refine wpAny_bind (wpAny_bind (wpAny_field at_ dat (x := vl) rfl ?_))
  refine wpAny_bind (wpAny_field at_ dat (x := vu) rfl ?_)
  refine wpAny_bind (wpAny_field at_ dat (x := vs) rfl (wpAny_pure ?_))
  refine wpAny_bind (HT.slicePart_ p2 ?_)
  show wpAny _ _ (if ((-1 : Int) == 0) = true then _ else _) _ _ s
  rw [if_neg (by decide)]
  refine wpAny_bind (HT.slicePart_ p0 ?_)
  refine wpAny_bind (HT.slicePart_ p1 ?_)
  refine wpAny_bind (wpAny_pure ?_)
  have adj : Builtin.Slice.sliceAdjust none none (-1) (n : Int) = ((n : Int) - 1, -1) := by
    unfold Builtin.Slice.sliceAdjust
    simp
  have pl : Builtin.Slice.slicePlaces ((n : Int) - 1) (-1) (-1) = n := by
    unfold Builtin.Slice.slicePlaces
    rw [if_neg (by decide)]
    by_cases c : (n : Int) - 1 > -1
    · rw [if_pos c]
      have e : ((n : Int) - 1 - -1 - 1) / (- -1) = (n : Int) - 1 := by
        rw [show (- -1 : Int) = 1 by decide, Int.ediv_one]
        omega
      rw [e]
      omega
    · rw [if_neg c]
      omega
  show wpAny _ _ (match Builtin.Slice.sliceAdjust none none (-1) (n : Int) with | (lo, hi) => pure (lo, (-1 : Int), Builtin.Slice.slicePlaces lo hi (-1))) _ _ s
  rw [adj]
  show wpAny _ _ (pure ((n : Int) - 1, (-1 : Int), Builtin.Slice.slicePlaces ((n : Int) - 1) (-1) (-1))) _ _ s
  rw [pl]
  exact wpAny_pure k
theorem rev_pick (xs : Array Value) : ((List.range xs.size).filterMap fun (k : Nat) => xs[(((xs.size : Int) - 1) + (k : Int) * (-1)).toNat]?).toArray = (xs.toList.reverse).toArray := by
  congr 1
  have len : xs.toList.reverse.length = xs.size := by
    rw [List.length_reverse, Array.length_toList]
  have all : ∀ l : List Value, (List.range l.length).filterMap (fun k => l[k]?) = l := fun l => by
    induction l with
    | nil => rfl
    | cons a l ih =>
      rw [List.length_cons, List.range_succ_eq_map, List.filterMap_cons]
      show a :: ((List.range l.length).map Nat.succ).filterMap (fun k => (a :: l)[k]?) = a :: l
      rw [List.filterMap_map]
      exact congrArg (a :: ·) ih
  have e := all xs.toList.reverse
  rw [len] at e
  refine Eq.trans ?_ e
  refine fm_congr fun k hk => ?_
  have hk := List.mem_range.mp hk
  rw [List.getElem?_reverse (by rw [Array.length_toList]; omega), Array.length_toList, Array.getElem?_toList]
  congr 1
  omega
theorem item_rev {t sl : Addr} {items : Array Value} {vl vu vs : Value} {Q : Value → Shared → Prop} (tt : IsTup s.heap t items) (so : s.heap.IsSliceOf sl vl vu vs) (p0 : IsPart vl none) (p1 : IsPart vu none) (p2 : IsPart vs (some (-1))) (few : items.size ≤ sizeLine)
    (k : Q (.ref s.heap.objs.size) { s with heap := s.heap.push { cls := .type "tuple", data := .seq (items.toList.reverse).toArray } }) : wpAny (model prog w) A (getItem (.ref t) (.ref sl)) Q E s := by
  have okSize : sizeOk (.seq (items.toList.reverse).toArray) := by
    show (items.toList.reverse).toArray.size ≤ sizeLine
    rw [List.size_toArray, List.length_reverse, Array.length_toList]
    omega
  obtain ⟨ob, at_, cl, dat⟩ := id so
  have tyS : s.TypeIs (.ref sl) "slice" := ⟨ob, at_, cl⟩
  unfold getItem
  refine wpAny_holding ?_
  refine wpAny_bind (wpAny_sequenceKey tt.typeIs (by decide) ?_)
  refine wpAny_bind (wpAny_callSpecial?_slot (name := Str.ofString "__getitem__") tt.typeIs PyProof.Rows.slot_tuple_getitem
    (wpAny_call_entry PyProof.Rows.slot_tuple_getitem tt.typeIs PyProof.Rows.entry_tuple_getitem ?_ (PyProof.Rows.args_tuple_getitem _ _)))
  show wpAny _ _ (Builtin.Tuple.tupleItemsOf (.ref t) >>= _) _ _ s
  refine wpAny_bind (PyProof.Rows.tupleItemsOf_ tt ?_)
  refine wpAny_bind (wpAny_typeOf tyS ?_)
  rw [if_pos (by decide)]
  refine wpAny_bind (applied_rev so p0 p1 p2 ?_)
  show wpAny _ _ (if (((items.size : Int) - 1) == 0 && (-1 : Int) == 1 && items.size == items.size) = true then _ else _) _ _ s
  have no : ¬ ((((items.size : Int) - 1) == 0 && (-1 : Int) == 1 && items.size == items.size) = true) := by
    rw [show ((-1 : Int) == 1) = false by decide, Bool.and_false, Bool.false_and]
    exact Bool.false_ne_true
  rw [if_neg no, rev_pick items]
  exact wpAny_bind (m := Builtin.Tuple.tupleExact _) (wpAny_newObj_type (wpAny_pure ⟨_, rfl, wpAny_pure k⟩) okSize)
end
/-- t[::-1] -/
def tRevX (K : PySem.W.Frag) (te : TE) : TE := fun σ H Q => te σ H fun x H1 => ∃ (a : Addr) (xs : List V), x = .ref a ∧ SqT K H1 a xs ∧ ∀ p H2, H1 p = none → Same H1 H2 → Tx.TX H2 p xs.reverse → Q (.ref p) H2
section
variable {X : Cx}
theorem pe_revX {e : Expr} {te : TE} {c : Nat} {p1 p2 p3 pos : Pos} (he : PE X e te) : PE X (.Subscript e (.Slice none none (some (.UnaryOp .USub (.Constant (.int 1) c p1) p2)) p3) pos) (tRevX X.K te) := by
  refine ⟨fun pins s0 σ G0 Q J0 q0 => ?_⟩
  refine Subscript_ (thn (he.run pins s0 σ G0 _ J0 q0) fun v0 s1 ⟨x, G1, J1, r0, q1⟩ => ?_)
  refine wpAny_Slice (thn (po_none.run pins s1 σ G1 (fun o G => o = none ∧ G = G1) J1 ⟨rfl, rfl⟩) fun vl s2 ⟨l, G2, J2, pl, el, e2⟩ => ?_)
  subst el e2
  refine thn (po_none.run pins s2 σ G2 (fun o G => o = none ∧ G = G2) J2 ⟨rfl, rfl⟩) fun vu s3 ⟨u, G3, J3, pu, eu, e3⟩ => ?_
  subst eu e3
  obtain ⟨a, xs, ex, hx, q2⟩ := q1
  subst ex
  cases r0
  have back : PO X (some (.UnaryOp .USub (.Constant (.int 1) c p1) p2)) (tPart (tUn (rU fun i => .int (-i)) (tC (.int 1)))) := po_some (pe_un un_neg pe_int)
  refine thn (back.run pins s3 σ G3 (fun o G => o = some (-1) ∧ G = G3) J3 ⟨1, rfl, -1, rfl, rfl, rfl⟩) fun vs s4 ⟨o, G4, J4, ps, eo, e4⟩ => ?_
  subst eo e4
  have J5 : Inv X pins σ G4 { s4 with heap := s4.heap.push { cls := .type "slice", data := .fields #[vl, vu, vs] } } := J4.kept (t' := s4.toks) fun b ob z => Heap.get?_push_of_some _ z
  obtain ⟨its, rel, tt, few⟩ := J5.tuple hx
  have len := rel.length
  show wpAny (model X.prog X.w) X.A (subscriptTail e (.Slice none none (some (.UnaryOp .USub (.Constant (.int 1) c p1) p2)) p3) (.ref a) (.ref s4.heap.objs.size)) (EP X pins σ Q) X.xe { s4 with heap := s4.heap.push { cls := .type "slice", data := .fields #[vl, vu, vs] } }
  refine tail_any (ops := [.ref a, .ref s4.heap.objs.size]) tt.typeIs
    PyProof.Rows.slot_tuple_getitem.lookup ?_ (by with_unfolding_all rfl)
  refine item_rev tt (Heap.IsSliceOf.new _ vl vu vs) pl pu ps (by rw [List.size_toArray]; omega) ?_
  obtain ⟨G6, J6, fresh, same, tx⟩ := Tx.laid_tup J5 rel.reverse (by rw [List.length_reverse]; omega)
  exact ⟨.ref _, _, J6, rfl, q2 _ _ fresh same tx⟩
end
end Tb
/-! ### the dice: the law's own drawn numbers -/
namespace Pr
open PySem PySem.Spec PyProof.Rows L2
/-- all that was tracked, but the object at d, is as it was -/
def Kp (d : Addr) (H H' : Hp) : Prop := ∀ b o, b ≠ d → H b = some o → H' b = some o
theorem Kp.refl (d : Addr) (H : Hp) : Kp d H H := fun _ _ _ h => h
theorem Kp.trans {d : Addr} {H H1 H2 : Hp} (a : Kp d H H1) (b : Kp d H1 H2) : Kp d H H2 := fun c o n h => b c o n (a c o n h)
theorem Kp.upd {d : Addr} {H : Hp} {o : HO} : Kp d H (upd H d o) := fun b u n h => by rw [upd_ne n]; exact h
theorem Kp.new {d p : Addr} {H : Hp} {o : HO} (n : H p = none) : Kp d H (L2.upd H p o) := fun b u _ h => by rw [upd_ne (ne_of_none h n)]; exact h
theorem Kp.same {d : Addr} {H H' : Hp} (s : Same H H') : Kp d H H' := fun b o _ h => s b o h
theorem Same.new {p : Addr} {H : Hp} {o : HO} (n : H p = none) : Same H (L2.upd H p o) := fun b u h => by rw [upd_ne (ne_of_none h n)]; exact h
/-- d is new and then written -/
theorem Kp.over {d : Addr} {H H1 H2 : Hp} (n : H d = none) (s : Same H H1) (k : Kp d H1 H2) : Same H H2 := fun b o h => k b o (ne_of_none h n) (s b o h)
theorem Kp.seq {K : PySem.W.Frag} {d a : Addr} {H H' : Hp} {xs : List V} (k : Kp d H H') (n : a ≠ d) (h : SqL K H a xs) : SqL K H' a xs := by
  rcases h with (h | ⟨o, h⟩) | h
  · exact .inl (.inl (k _ _ n h))
  · exact .inl (.inr ⟨o, k _ _ n h⟩)
  · exact .inr h
/-- the dice that stand at d: what is left of the cell's number, the seed, the number of draws (at most n) -/
structure Dice (H : Hp) (d : Addr) (n : Nat) : Prop where
  at_ : ∃ x y c : Int, H d = some (.lst [.int x, .int y, .int c]) ∧ 0 ≤ x ∧ x < 2 ^ 400 ∧ 0 ≤ y ∧ y < 2 ^ 40 ∧ 0 ≤ c ∧ c ≤ n
  few : n ≤ 1000000
theorem Dice.kept {H H' : Hp} {d : Addr} {n : Nat} (D : Dice H d n) (s : ∀ o, H d = some o → H' d = some o) : Dice H' d n := by
  obtain ⟨⟨x, y, c, e, r⟩, f⟩ := D
  exact ⟨⟨x, y, c, s _ e, r⟩, f⟩
theorem Dice.same {H H' : Hp} {d : Addr} {n : Nat} (D : Dice H d n) (s : Same H H') : Dice H' d n := D.kept fun o e => s _ o e
theorem Dice.more {H : Hp} {d : Addr} {n m : Nat} (D : Dice H d n) (h : n ≤ m) (hm : m ≤ 1000000) : Dice H d m := by
  obtain ⟨⟨x, y, c, e, r1, r2, r3, r4, r5, r6⟩, f⟩ := D
  exact ⟨⟨x, y, c, e, r1, r2, r3, r4, r5, by omega⟩, hm⟩
theorem Dice.there {H : Hp} {d : Addr} {n : Nat} (D : Dice H d n) : ∃ xs, H d = some (.lst xs) := by
  obtain ⟨⟨x, y, c, e, _⟩, _⟩ := D
  exact ⟨_, e⟩
def spDice (K : PySem.W.Frag) : Sp := fun vs H Q _ => ∃ (a : Addr) (ns : List Int) (i : Nat), vs = [.ref a, .int i] ∧ SqL K H a (ns.map V.int) ∧ i < 64 ∧
  ∀ (d : Addr) (H' : Hp), H d = none → Same H H' → Dice H' d 0 → Q (.ref d) H'
def spRoll : Sp := fun vs H Q _ => ∃ (d : Addr) (t : Int) (n : Nat), vs = [.ref d, .int t] ∧ Dice H d n ∧ n < 1000000 ∧ 0 < t ∧ t < 2 ^ 400 ∧
  ∀ (r : Int) (o : HO), 0 ≤ r → r < t → Dice (upd H d o) d (n + 1) → Q (.int r) (upd H d o)
def spPick (K : PySem.W.Frag) : Sp := fun vs H Q _ => ∃ (d p : Addr) (n : Nat) (xs : List V), vs = [.ref d, .ref p] ∧ p ≠ d ∧ (SqL K H p xs ∨ SqT K H p xs) ∧ xs ≠ [] ∧ xs.length ≤ 1000 ∧ Dice H d n ∧ n < 1000000 ∧
  ∀ (v : V) (o : HO), v ∈ xs → Dice (upd H d o) d (n + 1) → Q v (upd H d o)
def spMixed (K : PySem.W.Frag) : Sp := fun vs H Q _ => ∃ (d p : Addr) (n : Nat) (xs : List V), vs = [.ref d, .ref p] ∧ p ≠ d ∧ SqL K H p xs ∧ xs.length ≤ 1000 ∧ Dice H d n ∧ n + xs.length < 1000000 ∧
  ∀ (q : Addr) (ys : List V) (H' : Hp), q ≠ d → H q = none → Kp d H H' → H' q = some (.lst ys) → ys.Perm xs → Dice H' d (n + xs.length) → Q (.ref q) H'
theorem fmod_pos {i j : Int} (h : 0 < j) : 0 ≤ i.fmod j ∧ i.fmod j < j := ⟨Int.fmod_nonneg_of_pos _ h, Int.fmod_lt_of_pos _ h⟩
theorem emod_pos {i j : Int} (h : 0 < j) : 0 ≤ i % j ∧ i % j < j := ⟨Int.emod_nonneg _ (by omega), Int.emod_lt_of_pos _ h⟩
theorem c10 {k : Nat} (h : k ≤ 1000000) : CPow 10 (k : Int) := ⟨by omega, by omega, by decide⟩
end Pr
namespace Pr
open PySem PySem.Spec PyProof.Rows L2
/-! ### the text by places -/
def topS (i : Nat) : Stmt := PySem.Challenge.pw_munchbehind_k08_errors_of_trees.main.body.getD i (.Pass ⟨0, 0, 0, 0⟩)
abbrev sInteger : Stmt := topS 9
abbrev sCount : Stmt := topS 10
abbrev sName : Stmt := topS 11
abbrev sAre : Stmt := topS 17
abbrev sWhole : Stmt := topS 18
abbrev sSize : Stmt := topS 19
abbrev sDice : Stmt := topS 22
abbrev sRoll : Stmt := topS 23
abbrev sPick : Stmt := topS 24
abbrev sMixed : Stmt := topS 25
abbrev sEndL : Stmt := topS 26
abbrev sDrawn : Stmt := topS 27
abbrev sOdd : Stmt := topS 28
abbrev sArs : Stmt := topS 29
abbrev sDCtx : Stmt := topS 30
abbrev sWord : Stmt := topS 31
abbrev sTreesR : Stmt := topS 32
abbrev sFillsR : Stmt := topS 33
abbrev sSizesR : Stmt := topS 34
abbrev sLaw : Stmt := topS 35
/-- the methods of the class -/
def inS (i : Nat) : Stmt := match topS 20 with
  | .ClassDef _ _ _ body _ _ _ _ _ _ _ => body.getD i (.Pass ⟨0, 0, 0, 0⟩)
  | _ => .Pass ⟨0, 0, 0, 0⟩
abbrev mInit : Stmt := inS 0
abbrev mArities : Stmt := inS 2
abbrev mNames : Stmt := inS 3
abbrev mConstants : Stmt := inS 4
abbrev mIsTree : Stmt := inS 6
abbrev mIsCtx : Stmt := inS 7
abbrev mEnd : Stmt := inS 8
abbrev mSub : Stmt := inS 9
abbrev mKids : Stmt := inS 10
abbrev mAbove : Stmt := inS 11
abbrev mLevels : Stmt := inS 12
abbrev mReplaced : Stmt := inS 13
abbrev mCut : Stmt := inS 14
abbrev mFilled : Stmt := inS 15
abbrev mCountT : Stmt := inS 16
abbrev mEach : Stmt := inS 17
abbrev mTreeAt : Stmt := inS 18
abbrev mNumOf : Stmt := inS 19
abbrev mLen : Stmt := inS 20
abbrev mContains : Stmt := inS 21
abbrev mStr : Stmt := inS 24
abbrev mChTree : Stmt := inS 25
abbrev mChPlace : Stmt := inS 26
abbrev mChFill : Stmt := inS 27
abbrev m_End : Stmt := inS 28
abbrev mParents : Stmt := inS 29
abbrev mCnt : Stmt := inS 30
abbrev mForests : Stmt := inS 31
abbrev mRows : Stmt := inS 32
/-- the built-in names that the module leaves alone -/
structure Free (mg : Str → Option Value) : Prop where
  len : mg "len" = none
  int : mg "int" = none
  abs : mg "abs" = none
  max : mg "max" = none
  min : mg "min" = none
  list : mg "list" = none
  range : mg "range" = none
  isi : mg "isinstance" = none
  bool : mg "bool" = none
  tuple : mg "tuple" = none
  str : mg "str" = none
  dict : mg "dict" = none
  sorted : mg "sorted" = none
  all : mg "all" = none
  sum : mg "sum" = none
  repr : mg "repr" = none
  enum : mg "enumerate" = none
  zip : mg "zip" = none
  reversed : mg "reversed" = none
end Pr
namespace Pr
open PySem PySem.Spec PyProof.Rows L2
theorem dice_end (l g : Int) (b : Int) {i : Nat} (hi : i < 64) (hb : 0 ≤ b ∧ b ≤ 1) :
    0 ≤ l.fmod (10 ^ (60 : Int).toNat * 10 ^ (60 : Int).toNat) ∧ l.fmod (10 ^ (60 : Int).toNat * 10 ^ (60 : Int).toNat) < 2 ^ 400 ∧
    0 ≤ g % 2147483563 * 41 + 613 * (i : Int) + 17 * b + 7 ∧ g % 2147483563 * 41 + 613 * (i : Int) + 17 * b + 7 < 2 ^ 40 ∧ (0 : Int) ≤ 0 ∧ (0 : Int) ≤ (0 : Nat) := by
  have h1 := fmod_pos (i := l) (j := 10 ^ (60 : Int).toNat * 10 ^ (60 : Int).toNat) (by decide +kernel)
  have h2 : (10 ^ (60 : Int).toNat * 10 ^ (60 : Int).toNat : Int) < 2 ^ 400 := by decide +kernel
  have h3 := emod_pos (i := g) (j := 2147483563) (by decide)
  refine ⟨h1.1, Int.lt_trans h1.2 h2, by omega, by omega, by omega, by omega⟩
section
variable {P : Program} {w : World} {K : PySem.W.Frag} {mg : Str → Option Value} {base : Heap}
theorem scDice : FnScope ["script", "spot", "cell", "great", "left"] ["script", "spot"] (defScope sDice) := ⟨rfl, rfl, rfl, by decide +kernel, rfl, by decide +kernel, by decide +kernel⟩
theorem ok_dice {f : Addr} {fd : FuncData} (F : Fun K "_law_dice" "_law_dice" sDice f fd) (T : Free mg) : FnOk P w K mg base CX0 1 f fd ["script", "spot"] (spDice K) := by
  refine F.ok scDice (fun vs H Q E h => ?_) (fun cdv A outer s H vs Q E hr h => ?_)
  · obtain ⟨a, ns, i, rfl, _⟩ := h
    rfl
  · obtain ⟨a, ns, i, rfl, hS, hi, k⟩ := h
    refine ⟨_, pss_cons (ps_set (i := 2) scDice.nd rfl (.inl rfl) (pe_ifExp (pt_cmpR op_lt (pv 1) (pe_callB call_len_seq (by rfl) T.len PySem.boot_len (pa_cons (pv 0) pa_nil)) (nomark _))
        (pe_callTy call_int1 (by rfl) T.int (by decide +kernel) (pa_cons (pe_ix ix_list (pv 0) (pv 1) (fun _ _ => rfl)) pa_nil)) (pe_op op_add (pe_op op_mul pe_int (pv 1)) pe_int)))
      (pss_cons (ps_set (i := 3) scDice.nd rfl (.inl rfl) (pe_op op_modN (pe_callB call_abs (by rfl) T.abs (by decide +kernel) (pa_cons (pv 2) pa_nil)) (pe_op op_pow pe_int pe_int)))
      (pss_cons (ps_set (i := 4) scDice.nd rfl (.inl rfl) (pe_callB (call_max2 rfl) (by rfl) T.max (by decide +kernel) (pa_cons pe_int (pa_cons (pe_op op_sub (pe_callB call_abs (by rfl) T.abs (by decide +kernel) (pa_cons (pv 2) pa_nil)) (pe_op op_pow pe_int pe_int)) pa_nil))))
      (pss_one (ps_ret (pe_lst (pa_cons (pe_op op_modN (pv 4) (pe_op op_mulW (pe_op op_pow pe_int pe_int) (pe_op op_pow pe_int pe_int)))
        (pa_cons (pe_op op_add (pe_op op_add (pe_op op_add (pe_op op_mul (pe_op op_mod (pv 3) pe_int) pe_int) (pe_op op_mul pe_int (pv 1)))
          (pe_op op_mul pe_int (pe_callTy call_int1 (by rfl) T.int (by decide +kernel) (pa_cons (pe_cmpR op_lt (pv 2) pe_int (nomark _)) pa_nil)))) pe_int) (pa_cons pe_int pa_nil)))))))), ?_⟩
    refine ⟨_, rfl, _, rfl, a, _, rfl, .inl hS, _, _, rfl, rfl, _, rfl, ?_⟩
    refine ite2 (fun c => ?_) (fun c => ?_)
    · have hlt : i < ns.length := by
        have c' := of_decide_eq_true c
        rw [List.length_map] at c'
        omega
      have g : (ns.map V.int)[i]? = some (.int ns[i]) := by
        rw [List.getElem?_map, List.getElem?_eq_getElem hlt]
        rfl
      refine ⟨_, rfl, _, rfl, a, _, _, _, rfl, rfl, hS, atI_nat g, .inl ⟨_, rfl, ?_⟩⟩
      refine ⟨_, rfl, _, rfl, 10, 59, rfl, rfl, c10 (k := 59) (by decide), _, _, rfl, rfl, (by dsimp only; decide +kernel), ?_⟩
      refine ⟨_, rfl, _, rfl, 10, 17, rfl, rfl, c10 (k := 17) (by decide), _, _, rfl, rfl, _, _, rfl, ?_⟩
      refine ⟨_, rfl, 10, 60, rfl, rfl, c10 (k := 60) (by decide), 10, 60, rfl, rfl, c10 (k := 60) (by decide), _, _, rfl, rfl, wide_mul (a := 400) (b := 400) (by decide +kernel) (by decide +kernel) (by decide) (by decide) (by decide), _, _, rfl, rfl, (by dsimp only; decide +kernel), ?_⟩
      refine ⟨_, rfl, _, _, rfl, rfl, (by dsimp only; decide), _, _, rfl, rfl, .inr ⟨by decide, by decide⟩, _, rfl, _, _, rfl, rfl, .inl ⟨by decide, by decide⟩, _, _, rfl, rfl, _, rfl, _, _, rfl, rfl, .inr ⟨_, rfl, ?_⟩⟩
      refine ⟨_, _, rfl, rfl, .inl ⟨by decide, by decide⟩, _, _, rfl, rfl, _, _, rfl, rfl, (by show 3 ≤ sizeLine; decide), fun d hd => ?_⟩
      refine k d _ hd (Same.new hd) ⟨⟨_, _, 0, upd_same, ?_⟩, by decide⟩
      refine dice_end _ _ _ hi ?_
      split <;> omega
    · refine ⟨_, rfl, _, _, rfl, rfl, .inl ⟨by decide, by decide⟩, _, _, rfl, rfl, ?_⟩
      refine ⟨_, rfl, _, rfl, 10, 59, rfl, rfl, c10 (k := 59) (by decide), _, _, rfl, rfl, (by dsimp only; decide +kernel), ?_⟩
      refine ⟨_, rfl, _, rfl, 10, 17, rfl, rfl, c10 (k := 17) (by decide), _, _, rfl, rfl, _, _, rfl, ?_⟩
      refine ⟨_, rfl, 10, 60, rfl, rfl, c10 (k := 60) (by decide), 10, 60, rfl, rfl, c10 (k := 60) (by decide), _, _, rfl, rfl, wide_mul (a := 400) (b := 400) (by decide +kernel) (by decide +kernel) (by decide) (by decide) (by decide), _, _, rfl, rfl, (by dsimp only; decide +kernel), ?_⟩
      refine ⟨_, rfl, _, _, rfl, rfl, (by dsimp only; decide), _, _, rfl, rfl, .inr ⟨by decide, by decide⟩, _, rfl, _, _, rfl, rfl, .inl ⟨by decide, by decide⟩, _, _, rfl, rfl, _, rfl, _, _, rfl, rfl, .inr ⟨_, rfl, ?_⟩⟩
      refine ⟨_, _, rfl, rfl, .inl ⟨by decide, by decide⟩, _, _, rfl, rfl, _, _, rfl, rfl, (by show 3 ≤ sizeLine; decide), fun d hd => ?_⟩
      refine k d _ hd (Same.new hd) ⟨⟨_, _, 0, upd_same, ?_⟩, by decide⟩
      refine dice_end _ _ _ hi ?_
      split <;> omega
end
end Pr
namespace Pr
open PySem PySem.Spec PyProof.Rows L2
theorem div_le {x t : Int} (h0 : 0 ≤ x) (ht : 0 < t) : 0 ≤ x / t ∧ x / t ≤ x := ⟨Int.ediv_nonneg h0 (by omega), Int.ediv_le_self _ h0⟩
theorem mod2 {x y : Int} (h : 0 ≤ x) (a : 0 < y) : 0 ≤ x.fmod y ∧ x.fmod y < y := fmod_pos a
section
variable {P : Program} {w : World} {K : PySem.W.Frag} {mg : Str → Option Value} {base : Heap}
theorem scRoll : FnScope ["dice", "total", "found", "one", "two"] ["dice", "total"] (defScope sRoll) := ⟨rfl, rfl, rfl, by decide +kernel, rfl, by decide +kernel, by decide +kernel⟩
theorem ok_roll {f : Addr} {fd : FuncData} (F : Fun K "_law_roll" "_law_roll" sRoll f fd) (T : Free mg) : FnOk P w K mg base CX0 1 f fd ["dice", "total"] spRoll := by
  refine F.ok scRoll (fun vs H Q E h => ?_) (fun cdv A outer s H vs Q E hr h => ?_)
  · obtain ⟨d, t, n, rfl, _⟩ := h
    rfl
  · obtain ⟨d, t, n, rfl, ⟨⟨x, y, c, e, x0, x1, y0, y1, c0, c1⟩, fw⟩, hn, t0, t1, k⟩ := h
    have sq : SqL K H d [.int x, .int y, .int c] := SqL.of e
    refine ⟨_, pss_cons (ps_if (pt_cmpR op_gt (pe_ix ix_list (pv 0) pe_int (fun _ _ => rfl)) pe_int (nomark _))
        (pss_cons (ps_set (i := 2) scRoll.nd rfl (.inl rfl) (pe_op op_modN (pe_callTy call_int1 (by rfl) T.int (by decide +kernel) (pa_cons (pe_ix ix_list (pv 0) pe_int (fun _ _ => rfl)) pa_nil)) (pv 1)))
        (pss_cons (ps_asg (pe_op op_fdivW (pe_ix ix_list (pv 0) pe_int (fun _ _ => rfl)) (pv 1)) (pg_sub (pv 0) pe_int set_list))
        (pss_one (ps_ret (pv 2))))) pss_nil)
      (pss_cons (ps_asg (pe_op op_add (pe_ix ix_list (pv 0) pe_int (fun _ _ => rfl)) pe_int) (pg_sub (pv 0) pe_int set_list))
      (pss_cons (ps_set (i := 3) scRoll.nd rfl (.inl rfl) (pe_op op_mod (pe_callTy call_int1 (by rfl) T.int (by decide +kernel)
        (pa_cons (pe_op op_add (pe_ix ix_list (pv 0) pe_int (fun _ _ => rfl)) (pe_op op_mul pe_int (pe_ix ix_list (pv 0) pe_int (fun _ _ => rfl)))) pa_nil)) pe_int))
      (pss_cons (ps_set (i := 4) scRoll.nd rfl (.inl rfl) (pe_op op_add (pe_op op_mul (pe_op op_mod (pe_callTy call_int1 (by rfl) T.int (by decide +kernel)
        (pa_cons (pe_op op_add (pe_op op_mul (pv 3) (pv 3)) (pe_op op_mul pe_int (pe_ix ix_list (pv 0) pe_int (fun _ _ => rfl)))) pa_nil)) pe_int) pe_int) (pv 3)))
      (pss_one (ps_ret (pe_op op_modN (pe_callTy call_int1 (by rfl) T.int (by decide +kernel) (pa_cons (pe_op op_fdiv (pv 4) pe_int) pa_nil)) (pv 1))))))), ?_⟩
    refine ⟨_, rfl, d, _, 0, _, rfl, rfl, sq, rfl, _, _, rfl, rfl, _, rfl, ite2 (fun cx => ?_) (fun cx => ?_)⟩
    · -- what is left of the cell's number
      have r := fmod_pos (i := x) t0
      have q := div_le x0 t0
      refine ⟨_, rfl, d, _, 0, _, rfl, rfl, sq, rfl, .inl ⟨_, rfl, _, rfl, _, _, rfl, rfl, (by dsimp only; omega), ?_⟩⟩
      refine ⟨_, rfl, d, _, 0, _, rfl, rfl, sq, rfl, _, rfl, _, _, rfl, rfl, wide_div (b := 400) t0 (by omega) (by decide) (by decide), _, rfl, d, _, 0, 0, rfl, rfl, e, rfl, _, rfl, ?_⟩
      exact k _ _ r.1 r.2 ⟨⟨_, _, _, upd_same, q.1, by omega, y0, y1, c0, by omega⟩, by omega⟩
    · refine ⟨_, rfl, d, _, 2, _, rfl, rfl, sq, rfl, _, _, rfl, rfl, _, rfl, d, _, 2, 2, rfl, rfl, e, rfl, ?_⟩
      have sq2 : SqL K (upd H d (.lst [.int x, .int y, .int (c + 1)])) d [.int x, .int y, .int (c + 1)] := SqL.of upd_same
      have m1 := emod_pos (i := y + 7901 * (c + 1)) (j := 2305843009213693907) (by decide)
      refine ⟨_, rfl, d, _, 1, _, rfl, rfl, sq2, rfl, _, rfl, d, _, 2, _, rfl, rfl, sq2, rfl, _, _, rfl, rfl, .inl ⟨by decide, by decide⟩, _, _, rfl, rfl, .inl ⟨_, rfl, _, _, rfl, rfl, (by dsimp only; decide), ?_⟩⟩
      have m2 := emod_pos (i := (y + 7901 * (c + 1)) % 2305843009213693907 * ((y + 7901 * (c + 1)) % 2305843009213693907) + 71 * (c + 1)) (j := 2305843009213693921) (by decide)
      refine ⟨_, rfl, _, rfl, _, _, rfl, rfl, .inl ⟨by omega, by omega⟩, _, rfl, d, _, 2, _, rfl, rfl, sq2, rfl, _, _, rfl, rfl, .inl ⟨by decide, by decide⟩, _, _, rfl, rfl, .inl ⟨_, rfl, _, _, rfl, rfl, (by dsimp only; decide), ?_⟩⟩
      refine ⟨_, _, rfl, rfl, .inl ⟨by omega, by omega⟩, _, rfl, _, _, rfl, rfl, ?_⟩
      refine ⟨_, rfl, _, _, rfl, rfl, ⟨by decide, by decide⟩, .inl ⟨_, rfl, _, rfl, _, _, rfl, rfl, (by dsimp only; omega), ?_⟩⟩
      exact k _ _ (fmod_pos t0).1 (fmod_pos t0).2 ⟨⟨_, _, _, upd_same, x0, x1, y0, y1, by omega, by omega⟩, by omega⟩
end
end Pr
namespace Pr
open PySem PySem.Spec PyProof.Rows L2
/-- the law's drawing defs, as they stand behind the top -/
structure Draws (K : PySem.W.Frag) (mg : Str → Option Value) (fR fP fM : Addr) (dR dP dM : FuncData) : Prop where
  FR : Fun K "_law_roll" "_law_roll" sRoll fR dR
  bR : Binds K dR ["dice", "total"] []
  gR : mg "_law_roll" = some (.ref fR)
  FP : Fun K "_law_pick" "_law_pick" sPick fP dP
  bP : Binds K dP ["dice", "items"] []
  gP : mg "_law_pick" = some (.ref fP)
  FM : Fun K "_law_mixed" "_law_mixed" sMixed fM dM
  bM : Binds K dM ["dice", "items"] []
  gM : mg "_law_mixed" = some (.ref fM)
theorem erase_perm {α : Type} : ∀ (l : List α) (i : Nat) (h : i < l.length), (l[i] :: l.eraseIdx i).Perm l
  | [], _, h => absurd h (Nat.not_lt_zero _)
  | a :: l, 0, _ => List.Perm.refl _
  | a :: l, i + 1, h => (List.Perm.swap a (l[i]'(Nat.lt_of_succ_lt_succ h)) (l.eraseIdx i)).trans (List.Perm.cons a (erase_perm l i (Nat.lt_of_succ_lt_succ h)))
section
variable {P : Program} {w : World} {K : PySem.W.Frag} {mg : Str → Option Value} {base : Heap} {fR fP fM : Addr} {dR dP dM : FuncData}
theorem scPick : FnScope ["dice", "items"] ["dice", "items"] (defScope sPick) := ⟨rfl, rfl, rfl, by decide +kernel, rfl, by decide +kernel, by decide +kernel⟩
theorem ok_pick (D : Draws K mg fR fP fM dR dP dM) (T : Free mg) : FnOk P w K mg base CX0 2 fP dP ["dice", "items"] (spPick K) := by
  have GR : FnOk P w K mg base CX0 1 fR dR ["dice", "total"] spRoll := ok_roll D.FR T
  refine D.FP.ok scPick (fun vs H Q E h => ?_) (fun cdv A outer s H vs Q E hr h => ?_)
  · obtain ⟨d, p, n, xs, rfl, _⟩ := h
    rfl
  · obtain ⟨d, p, n, xs, rfl, npd, hS, ne, few, di, hn, k⟩ := h
    refine ⟨_, pss_one (ps_ret (pe_ix ix_seq (pv 1) (pe_call GR hr (by rfl) D.gR D.FR.kp D.bR .nil pass0 (pa_cons (pv 0) (pa_cons (pe_callB call_len_seq (by rfl) T.len PySem.boot_len (pa_cons (pv 1) pa_nil)) pa_nil))) (fun _ _ => rfl))), ?_⟩
    have pos : 0 < xs.length := List.length_pos_iff.mpr ne
    refine ⟨_, rfl, _, rfl, _, rfl, p, xs, rfl, hS, d, _, n, rfl, di, hn, by omega, by omega, fun r o r0 r1 di' => ?_⟩
    have hlt : r.toNat < xs.length := by omega
    have g : atI xs r = some xs[r.toNat] := at_of (j := r.toNat) (by omega) (List.getElem?_eq_getElem hlt)
    have kp : Kp d H (upd H d o) := Kp.upd
    rcases hS with hS | hS
    · exact .inl ⟨p, xs, r, _, rfl, rfl, kp.seq npd hS, g, k _ o (List.getElem_mem hlt) di'⟩
    · have hT : SqT K (upd H d o) p xs := by
        rcases hS with (h | ⟨u, h⟩) | h
        · exact .inl (.inl (kp _ _ npd h))
        · exact .inl (.inr ⟨u, kp _ _ npd h⟩)
        · exact .inr h
      exact .inr (.inl ⟨p, xs, r, _, rfl, rfl, hT, g, k _ o (List.getElem_mem hlt) di'⟩)
theorem scMixed : FnScope ["dice", "items", "left", "found", "turn"] ["dice", "items"] (defScope sMixed) := ⟨rfl, rfl, rfl, by decide +kernel, rfl, by decide +kernel, by decide +kernel⟩
theorem ok_mixed (D : Draws K mg fR fP fM dR dP dM) (T : Free mg) : FnOk P w K mg base CX0 2 fM dM ["dice", "items"] (spMixed K) := by
  have GR : FnOk P w K mg base CX0 1 fR dR ["dice", "total"] spRoll := ok_roll D.FR T
  refine D.FM.ok scMixed (fun vs H Q E h => ?_) (fun cdv A outer s H vs Q E hr h => ?_)
  · obtain ⟨d, p, n, xs, rfl, _⟩ := h
    rfl
  · obtain ⟨d, p, n, xs, rfl, npd, hS, few, di, hn, k⟩ := h
    refine ⟨_, pss_cons (ps_par (i := 2) (j := 3) (by rfl) scMixed.nd rfl rfl (by decide) rfl rfl (pa_cons (pe_callTy call_list_of (by rfl) T.list (by decide +kernel) (pa_cons (pv 1) pa_nil)) (pa_cons (pe_lst pa_nil) pa_nil)) (by rfl))
      (pss_cons (ps_for PassesOwn.never rfl (pi_range1 rfl T.range (pa_cons (pe_callB call_len_seq (by rfl) T.len PySem.boot_len (pa_cons (pv 1) pa_nil)) pa_nil)) (pg_name (i := 4) scMixed.nd rfl (.inl rfl))
        (pss_one (ps_expr (pe_bm PySem.F.plainAttrs_list PySem.F.slot_list_append PySem.F.type_list_append mt_append (pv 3)
          (pa_cons (pe_bm PySem.F.plainAttrs_list PySem.F.slot_list_pop PySem.F.type_list_pop mt_popAt (pv 2)
            (pa_cons (pe_call GR hr (by rfl) D.gR D.FR.kp D.bR .nil pass0 (pa_cons (pv 0) (pa_cons (pe_callB call_len_seq (by rfl) T.len PySem.boot_len (pa_cons (pv 2) pa_nil)) pa_nil))) pa_nil)) pa_nil)))))
      (pss_one (ps_ret (pv 3)))), ?_⟩
    obtain ⟨ds, hd⟩ := di.there
    -- left = list(items); found = []
    refine ⟨_, rfl, p, xs, rfl, .inl hS, fun l nl => ⟨Nat.zero_le _, fun q nq => ?_⟩⟩
    refine ⟨_, _, rfl, ?_⟩
    have ndl : d ≠ l := ne_of_none hd nl
    have nql : q ≠ l := fun e => by
      rw [e, upd_same] at nq
      cases nq
    have nHq : H q = none := by
      rw [upd_ne nql] at nq
      exact nq
    have ndq : d ≠ q := ne_of_none hd nHq
    have s1 : Same H (upd (upd H l (.lst xs)) q (.lst [])) := (Same.new nl).trans (Same.new nq)
    have hS1 := s1.seq hS
    -- the loop
    refine ⟨_, rfl, p, xs, rfl, .inl hS1, xs.length, rfl, by omega, by omega, ?_⟩
    refine for_range (lo := 0) (n := ((xs.length : Int)).toNat) (fun i σ H' => ∃ (v : Option V) (rem done : List V), σ = [some (.ref d), some (.ref p), some (.ref l), some (.ref q), v] ∧ Kp d H H' ∧
      H' l = some (.lst rem) ∧ H' q = some (.lst done) ∧ rem.length + i = xs.length ∧ (done ++ rem).Perm xs ∧ Dice H' d (n + i))
      ⟨none, xs, [], rfl, Kp.same s1, by rw [upd_ne nql.symm, upd_same], upd_same, by omega, List.Perm.refl _, di.same s1⟩ ?_ ?_
    · rintro i σ H' hi ⟨v, rem, done, rfl, kp, hl, hq, len, pm, di'⟩
      have hi' : i < xs.length := by omega
      have dl : done.length = i := by
        have := pm.length_eq
        rw [List.length_append] at this
        omega
      refine ⟨_, rfl, .inl ⟨rfl, _, SqL.of hq⟩, _, rfl, .inl ⟨rfl, _, SqL.of hl⟩, _, rfl, _, rfl, l, rem, rfl, .inl (SqL.of hl), d, _, n + i, rfl, di', by omega, by omega, by omega, fun r o r0 r1 di2 => ?_⟩
      have hlt : r.toNat < rem.length := by omega
      have k2 : Kp d H' (upd H' d o) := Kp.upd
      have hl2 := k2 _ _ ndl.symm hl
      have hq2 := k2 _ _ ndq.symm hq
      refine ⟨l, rem, r, r.toNat, rem[r.toNat], rfl, rfl, hl2, by omega, by omega, seqIndex_of r0 (by omega), List.getElem?_eq_getElem hlt, ?_⟩
      have hq3 : (upd (upd H' d o) l (.lst (rem.eraseIdx r.toNat))) q = some (.lst done) := by
        rw [upd_ne nql]
        exact hq2
      refine ⟨q, done, _, rfl, rfl, hq3, small1000 (by omega), ?_⟩
      refine ⟨_, rem.eraseIdx r.toNat, _, rfl, fun b u nb e => ?_, ?_, upd_same, ?_, ?_, ?_⟩
      · rw [upd_ne (ne_of_none e nHq), upd_ne (ne_of_none e nl)]
        exact k2 _ _ nb (kp _ _ nb e)
      · rw [upd_ne nql.symm, upd_same]
      · rw [List.length_eraseIdx_of_lt hlt]
        omega
      · have e1 := erase_perm rem r.toNat hlt
        rw [List.append_assoc]
        exact (List.Perm.append_left done e1).trans pm
      · refine (di2.kept fun u e => ?_).more (by omega) (by omega)
        rw [upd_ne ndq, upd_ne ndl]
        exact e
    · rintro σ H' ⟨v, rem, done, rfl, kp, hl, hq, len, pm, di'⟩
      have e0 : rem = [] := List.length_eq_zero_iff.mp (by omega)
      subst e0
      rw [List.append_nil] at pm
      refine ⟨_, rfl, k q done H' ndq.symm nHq kp hq pm (di'.more (by omega) (by omega))⟩
end
end Pr
namespace Pr
open PySem PySem.Spec PyProof.Rows L2 Gd
/-! ### values that can be judged and shown; all tuples are plain -/
/-- the heap without the dice -/
def Hm (d : Addr) (H : Hp) : Hp := fun b => if b = d then none else H b
theorem Hm.some_of {d b : Addr} {H : Hp} {o : HO} (h : Hm d H b = some o) : H b = some o ∧ b ≠ d := by
  unfold Hm at h
  by_cases e : b = d
  · rw [if_pos e] at h
    cases h
  · rw [if_neg e] at h
    exact ⟨h, e⟩
theorem Hm.of {d b : Addr} {H : Hp} {o : HO} (h : H b = some o) (e : b ≠ d) : Hm d H b = some o := by
  unfold Hm
  rw [if_neg e]
  exact h
theorem Kp.hm {d : Addr} {H H' : Hp} (k : Kp d H H') : Same (Hm d H) (Hm d H') := fun b o h => Hm.of (k b o (Hm.some_of h).2 (Hm.some_of h).1) (Hm.some_of h).2
theorem Same.hm {d : Addr} {H H' : Hp} (s : Same H H') : Same (Hm d H) (Hm d H') := (Kp.same (d := d) s).hm
theorem TX.hm {d a : Addr} {H : Hp} {xs : List V} (h : Tx.TX H a xs) (n : a ≠ d) : Tx.TX (Hm d H) a xs := let ⟨o, e, x⟩ := h; ⟨o, Hm.of e n, x⟩
theorem TX.un {a d : Addr} {H : Hp} {xs : List V} (h : Tx.TX (Hm d H) a xs) : Tx.TX H a xs ∧ a ≠ d := let ⟨o, e, x⟩ := h; ⟨⟨o, (Hm.some_of e).1, x⟩, (Hm.some_of e).2⟩
theorem TX.eq {a : Addr} {H : Hp} {xs ys : List V} (h : Tx.TX H a xs) (k : Tx.TX H a ys) : xs = ys := by
  obtain ⟨o, e, _⟩ := h
  obtain ⟨o2, e2, _⟩ := k
  rw [e] at e2
  cases e2
  rfl
/-- the type of a value that is no instance -/
inductive Kd (H : Hp) : V → String → Prop where
  | non : Kd H .non "NoneType"
  | bl (b : Bool) : Kd H (.bl b) "bool"
  | int (i : Int) : Kd H (.int i) "int"
  | str (z : Str) : Kd H (.str z) "str"
  | lst {a : Addr} {xs : List V} (e : H a = some (.lst xs)) : Kd H (.ref a) "list"
  | tup {a : Addr} {xs : List V} (e : Tx.TX H a xs) : Kd H (.ref a) "tuple"
  | dK {a : Addr} {kvs : List (Key × V)} (e : H a = some (.dK kvs)) : Kd H (.ref a) "dict"
theorem Kd.same {H H' : Hp} {v : V} {t : String} (k : Kd H v t) (s : Same H H') : Kd H' v t := by
  cases k with
  | non => exact .non
  | bl b => exact .bl b
  | int i => exact .int i
  | str z => exact .str z
  | lst e => exact .lst (s _ _ e)
  | tup e => exact .tup (Tx.TX.same e s)
  | dK e => exact .dK (s _ _ e)
theorem Sh.more {H : Hp} : ∀ (n : Nat) (v : V) (t : Str), Sh H n v t → Sh H (n + 1) v t
  | 0, _, _, h => .inl h
  | n + 1, _, _, h => by
    rcases h with h | ⟨a, xs, ts, rfl, e, p, rfl⟩ | ⟨a, xs, ts, rfl, e, p, rfl⟩ | ⟨a, xs, ts, rfl, e, p, rfl⟩
    · exact .inl h
    · exact Sh.lst e (L2.Paired.mapP p fun x t q => Sh.more n x t q)
    · exact Sh.tup e (L2.Paired.mapP p fun x t q => Sh.more n x t q)
    · exact Sh.dK e (L2.Paired.mapP p fun x t q => ⟨q.1, Sh.more n x.2 t q.2⟩)
theorem Sh.le {H : Hp} {n m : Nat} {v : V} {t : Str} (h : n ≤ m) (s : Sh H n v t) : Sh H m v t := by
  induction h with
  | refl => exact s
  | step _ ih => exact Sh.more _ _ _ ih
theorem Sc.kd {H : Hp} {v : V} {t : Str} (h : Sc v t) : ∃ ty, Kd H v ty := by
  cases h with
  | non => exact ⟨_, .non⟩
  | bl b => exact ⟨_, .bl b⟩
  | int i _ => exact ⟨_, .int i⟩
  | str z _ => exact ⟨_, .str z⟩
theorem Sh.kd {H : Hp} {n : Nat} {v : V} {t : Str} (h : Sh H n v t) : ∃ ty, Kd H v ty := by
  cases n with
  | zero => exact Sc.kd h
  | succ n =>
    rcases h with h | ⟨a, xs, ts, rfl, e, p, rfl⟩ | ⟨a, xs, ts, rfl, e, p, rfl⟩ | ⟨a, xs, ts, rfl, e, p, rfl⟩
    · exact Sc.kd h
    · exact ⟨_, .lst e⟩
    · exact ⟨_, .tup e⟩
    · exact ⟨_, .dK e⟩
theorem paired_all {α : Type} {F : α → Str → Prop} {xs : List α} {ts : List Str} (p : Paired F xs ts) : ∀ x ∈ xs, ∃ t, F x t := by
  induction p with
  | nil => intro x m; cases m
  | cons h r ih =>
    intro x m
    rcases List.mem_cons.mp m with e | m
    · rw [e]
      exact ⟨_, h⟩
    · exact ih x m
/-- what can stand in a tuple that is judged -/
def Ji (H : Hp) (v : V) : Prop := ∃ ty, Kd H v ty ∧ ty ≠ "dict"
theorem Ji.same {H H' : Hp} {v : V} (h : Ji H v) (s : Same H H') : Ji H' v := let ⟨ty, k, n⟩ := h; ⟨ty, k.same s, n⟩
theorem Ji.non {H : Hp} : Ji H .non := ⟨_, .non, by decide⟩
theorem Ji.int {H : Hp} (i : Int) : Ji H (.int i) := ⟨_, .int i, by decide⟩
theorem Ji.str {H : Hp} (z : Str) : Ji H (.str z) := ⟨_, .str z, by decide⟩
theorem Ji.lst {H : Hp} {a : Addr} {xs : List V} (e : H a = some (.lst xs)) : Ji H (.ref a) := ⟨_, .lst e, by decide⟩
theorem Ji.tup {H : Hp} {a : Addr} {xs : List V} (e : Tx.TX H a xs) : Ji H (.ref a) := ⟨_, .tup e, by decide⟩
/-- a value that can be shown: its text has at most m signs; what it holds, if it is a tuple, can be judged -/
structure Vd (H : Hp) (n m : Nat) (v : V) : Prop where
  sm : ∃ t, Sh H n v t ∧ t.length ≤ m
  items : ∀ a xs, v = .ref a → Tx.TX H a xs → xs.length ≤ 1000 ∧ ∀ x ∈ xs, Ji H x
theorem Vd.kd {H : Hp} {n m : Nat} {v : V} (h : Vd H n m v) : ∃ t, Kd H v t := let ⟨_, s, _⟩ := h.sm; Sh.kd s
theorem Vd.le {H : Hp} {n m n' m' : Nat} {v : V} (h : Vd H n m v) (a : n ≤ n') (b : m ≤ m') : Vd H n' m' v :=
  ⟨let ⟨t, s, l⟩ := h.sm; ⟨t, Sh.le a s, by omega⟩, h.items⟩
theorem Vd.same {H H' : Hp} {n m : Nat} {v : V} (h : Vd H n m v) (s : Same H H') : Vd H' n m v := by
  obtain ⟨ty, hk⟩ := h.kd
  refine ⟨let ⟨t, q, l⟩ := h.sm; ⟨t, Sh.keep s n v t q, l⟩, fun a xs e q => ?_⟩
  subst e
  obtain ⟨ob, e', od⟩ := id q
  cases hk with
  | lst e =>
    rw [s _ _ e] at e'
    cases e'
  | tup e =>
    rw [← TX.eq (Tx.TX.same e s) q]
    exact ⟨(h.items a _ rfl e).1, fun x m => ((h.items a _ rfl e).2 x m).same s⟩
  | dK e =>
    rw [s _ _ e] at e'
    cases e'
theorem Vd.plain {H : Hp} {m : Nat} {v : V} {t : Str} (h : Sc v t) (l : t.length ≤ m) (n : ∀ a, v ≠ .ref a) : Vd H 0 m v := ⟨⟨t, h, l⟩, fun a xs e => absurd e (n a)⟩
theorem Vd.non {H : Hp} : Vd H 0 100 .non := .plain Sc.non (by decide) (fun a e => (nomatch e))
theorem Vd.bl {H : Hp} (b : Bool) : Vd H 0 100 (.bl b) := .plain (Sc.bl b) (by cases b <;> decide) (fun a e => (nomatch e))
theorem Vd.int {H : Hp} (i : Int) (h : i.natAbs < 2 ^ 1900) : Vd H 0 2000 (.int i) := by
  have hl : i.natAbs.log2 < 1920 := Nat.lt_of_lt_of_le (PySem.Flt.log2_lt_of (by decide) h) (by decide)
  exact .plain (Sc.int i hl) (Nat.le_trans (PyProof.Rows.int_text_len_1921 hl) (by decide)) (fun a e => (nomatch e))
theorem Vd.zero {H : Hp} : Vd H 0 100 (.int 0) := .plain (Sc.int 0 (by decide)) (by decide +kernel) (fun a e => (nomatch e))
/-- a text of at most m signs -/
def SOk (m : Nat) (z : Str) : Prop := z.length ≤ m ∧ ∀ c ∈ z.cps.toList, c < 16 ^ 8
theorem SOk.le {m n : Nat} {z : Str} (h : SOk m z) (l : m ≤ n) : SOk n z := ⟨by have := h.1; omega, h.2⟩
theorem Vd.text {H : Hp} {k : Nat} {z : Str} (h : SOk k z) (hk : k ≤ 100000) : Vd H 0 (10 * k + 2) (.str z) := by
  have l := StrLaws.reprText_len z h.2
  have l2 := h.1
  exact .plain (Sc.str z (by rw [sizeLine_eq]; omega)) (by omega) (fun a e => (nomatch e))
theorem paired_of {H : Hp} {n m : Nat} : ∀ {xs : List V}, (∀ x ∈ xs, Vd H n m x) → ∃ ts, Paired (Sh H n) xs ts ∧ (ts.map (·.length)).sum ≤ xs.length * m ∧ ts.length = xs.length
  | [], _ => ⟨[], .nil, by simp, rfl⟩
  | x :: xs, h => by
    obtain ⟨ts, p, s, l⟩ := paired_of (xs := xs) fun y m => h y (List.mem_cons_of_mem _ m)
    obtain ⟨t, q, lt⟩ := (h x List.mem_cons_self).sm
    refine ⟨t :: ts, .cons q p, ?_, by simp [l]⟩
    rw [List.map_cons, List.sum_cons, List.length_cons, Nat.succ_mul]
    omega
theorem Vd.lst {H : Hp} {n m k : Nat} {a : Addr} {xs : List V} (e : H a = some (.lst xs)) (h : ∀ x ∈ xs, Vd H n m x) (hl : xs.length ≤ k) : Vd H (n + 1) (k * (m + 2) + 3) (.ref a) := by
  obtain ⟨ts, p, s, l⟩ := paired_of h
  refine ⟨⟨_, Sh.lst e p, ?_⟩, fun b ys eb q => ?_⟩
  case refine_2 =>
    cases eb
    obtain ⟨ob, e', od⟩ := q
    rw [e] at e'
    cases e'
  have := listText_len_le ts
  have h2 : xs.length * (m + 2) ≤ k * (m + 2) := Nat.mul_le_mul_right _ hl
  rw [Nat.mul_add] at h2
  omega
theorem Vd.tup {H : Hp} {n m k : Nat} {a : Addr} {xs : List V} (e : Tx.TX H a xs) (h : ∀ x ∈ xs, Vd H n m x) (hj : ∀ x ∈ xs, Ji H x) (hl : xs.length ≤ k) (hk : k ≤ 1000 := by decide) : Vd H (n + 1) (k * (m + 2) + 3) (.ref a) := by
  obtain ⟨ts, p, s, l⟩ := paired_of h
  refine ⟨⟨_, Sh.tup e p, ?_⟩, fun b ys eb q => ?_⟩
  case refine_2 =>
    cases eb
    rw [← TX.eq e q]
    exact ⟨Nat.le_trans hl hk, hj⟩
  have := tupleText_len_le ts
  have h2 : xs.length * (m + 2) ≤ k * (m + 2) := Nat.mul_le_mul_right _ hl
  rw [Nat.mul_add] at h2
  omega
theorem Vd.dK0 {H : Hp} {a : Addr} (e : H a = some (.dK [])) : Vd H 1 100 (.ref a) := ⟨⟨_, Sh.dK e .nil, by decide +kernel⟩, fun b ys eb q => by
  cases eb
  obtain ⟨ob, e', od⟩ := q
  rw [e] at e'
  cases e'⟩
theorem Vd.dK1 {H : Hp} {a : Addr} {x : Str} {i : Int} (e : H a = some (.dK [(.inr x, .int i)])) (hx : SOk 10 x) (hi : i.natAbs.log2 < 1920) : Vd H 1 3000 (.ref a) := by
  have l := StrLaws.reprText_len x hx.2
  have l2 := hx.1
  have l3 := PyProof.Rows.int_text_len_1921 hi
  refine ⟨⟨_, Sh.dK (n := 0) (ts := [((toString i : String) : Str)]) e (.cons ⟨by show (reprText x).length ≤ sizeLine; rw [sizeLine_eq]; omega, Sc.int i hi⟩ .nil), ?_⟩, fun b ys eb q => ?_⟩
  case refine_2 =>
    cases eb
    obtain ⟨ob, e', od⟩ := q
    rw [e] at e'
    cases e'
  have h := dictText_len_le (List.zipWith (fun (p : Key × V) t => keyText p.1 ++ ": " ++ t) [((.inr x : Key), V.int i)] [((toString i : String) : Str)])
  have e2 : ((keyText (.inr x) ++ ": " ++ ((toString i : String) : Str)) : Str).length = (reprText x).length + 2 + ((toString i : String) : Str).length := by
    rw [strLen_append, strLen_append]
    rfl
  have e3 : (List.zipWith (fun (p : Key × V) t => keyText p.1 ++ ": " ++ t) [((.inr x : Key), V.int i)] [((toString i : String) : Str)]) = [keyText (.inr x) ++ ": " ++ ((toString i : String) : Str)] := rfl
  rw [e3] at h ⊢
  rw [List.map_cons, List.map_nil, List.sum_cons, List.sum_nil, e2, List.length_singleton] at h
  omega
/-- a value as the judges see it: what stands in it, if it is a tuple -/
inductive Vw (H : Hp) : V → Option (List V) → Prop where
  | not {v : V} {ty : String} (k : Kd H v ty) (ne : ty ≠ "tuple") : Vw H v none
  | tup {a : Addr} {xs : List V} (t : Tx.TX H a xs) (j : ∀ x ∈ xs, Ji H x) : Vw H (.ref a) (some xs)
theorem Vw.same {H H' : Hp} {v : V} {o : Option (List V)} (h : Vw H v o) (s : Same H H') : Vw H' v o := by
  cases h with
  | not k ne => exact .not (k.same s) ne
  | tup t j => exact .tup (Tx.TX.same t s) fun x m => (j x m).same s
theorem Vd.vw {H : Hp} {n m : Nat} {v : V} (h : Vd H n m v) : ∃ o, Vw H v o ∧ ∀ xs, o = some xs → xs.length < 100000 := by
  obtain ⟨ty, k⟩ := h.kd
  cases k with
  | tup e => exact ⟨_, .tup e (h.items _ _ rfl e).2, fun xs q => by cases q; have := (h.items _ _ rfl e).1; omega⟩
  | non => exact ⟨_, .not .non (by decide), fun xs q => (nomatch q)⟩
  | bl b => exact ⟨_, .not (.bl b) (by decide), fun xs q => (nomatch q)⟩
  | int i => exact ⟨_, .not (.int i) (by decide), fun xs q => (nomatch q)⟩
  | str z => exact ⟨_, .not (.str z) (by decide), fun xs q => (nomatch q)⟩
  | lst e => exact ⟨_, .not (.lst e) (by decide), fun xs q => (nomatch q)⟩
  | dK e => exact ⟨_, .not (.dK e) (by decide), fun xs q => (nomatch q)⟩
end Pr
namespace Pr
open PySem PySem.Spec PyProof.Rows L2 Gd
/-! ### drawn operators -/
def pool : List Str := ["c", "v", "p", "s", "add", "operator", "aa", "z", "op", "goal"]
/-- names with arities, as a dict -/
def dkv (l : List (Str × Nat)) : List (Key × V) := l.map fun p => (.inr p.1, .int (p.2 : Int))
structure Ars (l : List (Str × Nat)) : Prop where
  few : 1 ≤ l.length ∧ l.length ≤ 4
  nd : (l.map (·.1)).Nodup
  pool : ∀ p ∈ l, p.1 ∈ pool
  two : ∀ p ∈ l, p.2 ≤ 2
  const : ∃ p ∈ l, p.2 = 0
theorem Ars.perm {l l' : List (Str × Nat)} (h : Ars l) (p : l'.Perm l) : Ars l' :=
  ⟨by rw [p.length_eq]; exact h.few, (p.map _).nodup_iff.mpr h.nd, fun x m => h.pool x (p.mem_iff.mp m), fun x m => h.two x (p.mem_iff.mp m), let ⟨x, m, e⟩ := h.const; ⟨x, p.mem_iff.mpr m, e⟩⟩
theorem val_none {z : Str} : ∀ {l : List (Str × Nat)}, z ∉ l.map (·.1) → valV (dkv l) (.inr z : Key) = none
  | [], _ => rfl
  | p :: l, h => by
    show valV ((.inr p.1, .int (p.2 : Int)) :: dkv l) (.inr z : Key) = none
    rw [valV_neg (fun e => h (by
      have e' : p.1 = z := Sum.inr.inj e
      rw [← e']
      exact List.mem_cons_self))]
    exact val_none fun m => h (List.mem_cons_of_mem _ m)
theorem put_end {l : List (Str × Nat)} {z : Str} {k : Nat} (h : z ∉ l.map (·.1)) : putK (dkv l) (.inr z) (.int (k : Int)) = dkv (l ++ [(z, k)]) := by
  rw [putK_new _ (val_none h)]
  unfold dkv
  rw [List.map_append]
  rfl
theorem merge_end : ∀ (l2 l : List (Str × Nat)), ((l ++ l2).map (·.1)).Nodup → mergeK (dkv l) (dkv l2) = dkv (l ++ l2)
  | [], l, _ => by rw [List.append_nil]; rfl
  | (z, k) :: l2, l, h => by
    have n : z ∉ l.map (·.1) := by
      rw [List.map_append, List.nodup_append] at h
      exact fun m => h.2.2 z m z (by simp) rfl
    show mergeK (putK (dkv l) (.inr z) (.int (k : Int))) (dkv l2) = _
    rw [put_end n, merge_end l2 (l ++ [(z, k)]) (by rw [List.append_assoc]; exact h), List.append_assoc]
    rfl
theorem merge_all {l : List (Str × Nat)} (h : (l.map (·.1)).Nodup) : mergeK [] (dkv l) = dkv l := merge_end l [] h
theorem paired_perm {α β : Type} {F : α → β → Prop} {xs ys : List α} (p : xs.Perm ys) : ∀ {bs : List β}, Paired F ys bs → ∃ cs, cs.Perm bs ∧ Paired F xs cs := by
  induction p with
  | nil => exact fun {bs} h => ⟨bs, .refl _, h⟩
  | cons a p ih =>
    intro bs h
    cases h with
    | cons h r =>
      obtain ⟨cs, q, k⟩ := ih r
      exact ⟨_, q.cons _, .cons h k⟩
  | swap a b l =>
    intro bs h
    cases h with
    | cons h r =>
      cases r with
      | cons k r => exact ⟨_, .swap _ _ _, .cons k (.cons h r)⟩
  | trans p q ih1 ih2 =>
    intro bs h
    obtain ⟨cs, q1, k1⟩ := ih2 h
    obtain ⟨ds, q2, k2⟩ := ih1 k1
    exact ⟨ds, q2.trans q1, k2⟩
theorem paired_of_map {α β : Type} (g : β → α) : ∀ l : List β, Paired (fun a b => a = g b) (l.map g) l
  | [] => .nil
  | _ :: l => .cons rfl (paired_of_map g l)
theorem map_of_paired {α β : Type} {g : β → α} : ∀ {xs : List α} {l : List β}, Paired (fun a b => a = g b) xs l → xs = l.map g
  | _, _, .nil => rfl
  | _, _, .cons h r => by rw [h, map_of_paired r]; rfl
theorem perm_map {α β : Type} {g : β → α} {xs : List α} {l : List β} (p : xs.Perm (l.map g)) : ∃ l' : List β, l'.Perm l ∧ xs = l'.map g := by
  obtain ⟨l', q, k⟩ := paired_perm p (paired_of_map g l)
  exact ⟨l', q, map_of_paired k⟩
theorem Kp.free {d b : Addr} {H H' : Hp} (k : Kp d H H') (n : b ≠ d) (h : H' b = none) : H b = none := by
  cases e : H b with
  | none => rfl
  | some o =>
    rw [k b o n e] at h
    cases h
theorem paired_and {α β : Type} {F : α → β → Prop} {P : α → Prop} : ∀ {xs : List α} {ys : List β}, (∀ a ∈ xs, P a) → Paired F xs ys → Paired (fun a b => P a ∧ F a b) xs ys
  | _, _, _, .nil => .nil
  | _, _, h, .cons k r => .cons ⟨h _ List.mem_cons_self, k⟩ (paired_and (fun a m => h a (List.mem_cons_of_mem _ m)) r)
theorem paired_map {α β : Type} {F G : α → β → Prop} (k : ∀ a b, F a b → G a b) : ∀ {xs : List α} {ys : List β}, Paired F xs ys → Paired G xs ys
  | _, _, .nil => .nil
  | _, _, .cons h r => .cons (k _ _ h) (paired_map k r)
theorem cut_one {x : V} {xs : List V} {r : Int} (h0 : 0 ≤ r) (h1 : r.toNat ≤ xs.length) : cutV (x :: xs) (some 1) (some (1 + r)) = xs.take r.toNat := by
  have a1 : HT.sIx (x :: xs).length 0 (some 1) = 1 := by
    simp [HT.sIx]
  have a2 : HT.sIx (x :: xs).length (x :: xs).length (some (1 + r)) = 1 + r.toNat := by
    show (if 1 + r < 0 then (1 + r + ((xs.length + 1 : Nat) : Int)).toNat else min (1 + r).toNat (xs.length + 1)) = 1 + r.toNat
    rw [if_neg (by omega)]
    omega
  unfold cutV
  rw [a1, a2, List.drop_one, List.tail_cons, Nat.add_sub_cancel_left]
def spArs : Sp := fun vs H Q _ => ∃ (d : Addr) (n : Nat), vs = [.ref d] ∧ Dice H d n ∧ n + 40 < 1000000 ∧
  ∀ (q : Addr) (l : List (Str × Nat)) (H' : Hp), q ≠ d → H q = none → Kp d H H' → H' q = some (.dK (dkv l)) → Ars l → Dice H' d (n + 40) → Q (.ref q) H'
section
variable {P : Program} {w : World} {K : PySem.W.Frag} {mg : Str → Option Value} {base : Heap} {fR fP fM : Addr} {dR dP dM : FuncData}
theorem scArs : FnScope ["dice", "names", "found", "name"] ["dice"] (defScope sArs) := ⟨rfl, rfl, rfl, by decide +kernel, rfl, by decide +kernel, by decide +kernel⟩
theorem ok_ars {f : Addr} {fd : FuncData} (F : Fun K "_law_arities" "_law_arities" sArs f fd) (D : Draws K mg fR fP fM dR dP dM) (T : Free mg) : FnOk P w K mg base CX0 3 f fd ["dice"] spArs := by
  have GR : FnOk P w K mg base CX0 1 fR dR ["dice", "total"] spRoll := ok_roll D.FR T
  have GM : FnOk P w K mg base CX0 2 fM dM ["dice", "items"] (spMixed K) := ok_mixed D T
  refine F.ok scArs (fun vs H Q E h => ?_) (fun cdv A outer s H vs Q E hr h => ?_)
  · obtain ⟨d, n, rfl, _⟩ := h
    rfl
  · obtain ⟨d, n, rfl, di, hn, q⟩ := h
    have r1 : Room 1 _ := hr.mono (by decide)
    have hu := hr.units
    refine ⟨_, pss_cons (ps_set (i := 1) scArs.nd rfl (.inl rfl) (pe_call GM hr (by rfl) D.gM D.FM.kp D.bM .nil pass0 (pa_cons (pv 0) (pa_cons (pe_lst (pa_cons pe_str (pa_cons pe_str (pa_cons pe_str (pa_cons pe_str (pa_cons pe_str (pa_cons pe_str (pa_cons pe_str (pa_cons pe_str (pa_cons pe_str (pa_cons pe_str pa_nil))))))))))) pa_nil)))) (pss_cons (ps_set (i := 2) scArs.nd rfl (.inl rfl) (pe_disp (pps_cons (pe_ix ix_list (pv 1) pe_int (fun _ _ => rfl)) pe_int pps_nil) (by rfl) (by rfl) (fun z => by cases z) (by decide))) (pss_cons (ps_for PassesOwn.never rfl (pi_list (pe_slice sl_list (pv 1) (po_some pe_int) (po_some (pe_op op_add pe_int (pe_call GR r1 (by rfl) D.gR D.FR.kp D.bR .nil pass0 (pa_cons (pv 0) (pa_cons pe_int pa_nil))))))) (pg_name (i := 3) scArs.nd rfl (.inl rfl)) (pss_one (ps_asg (pe_call GR r1 (by rfl) D.gR D.FR.kp D.bR .nil pass0 (pa_cons (pv 0) (pa_cons pe_int pa_nil))) (pg_sub (pv 2) (pv 3) (set_dict (Nat.lt_of_le_of_lt (Nat.add_le_add_left (by decide : 1 ≤ 64) _) hu)))))) (pss_one (ps_ret (pe_callTy (call_dictP rfl) (by rfl) T.dict (by decide +kernel) (pa_cons (pe_call GM hr (by rfl) D.gM D.FM.kp D.bM .nil pass0 (pa_cons (pv 0) (pa_cons (LiI.pe_listItems (by rfl) (pv 2) (by rfl) T.list (by decide +kernel)) pa_nil))) pa_nil)))))), ?_⟩
    obtain ⟨ds, hd⟩ := di.there
    -- names
    refine ⟨_, rfl, by show 10 ≤ sizeLine; decide, fun lp nlp => ?_⟩
    have dlp : d ≠ lp := ne_of_none hd nlp
    refine ⟨d, lp, n, pool.map V.str, rfl, dlp.symm, SqL.of upd_same, by show 10 ≤ 1000; decide, di.same (Same.new nlp), by show n + 10 < 1000000; omega, fun b ys H1 nbd nb kp hb pm di1 => ?_⟩
    obtain ⟨zs, pz, rfl⟩ := perm_map pm
    have lz : zs.length = 10 := pz.length_eq
    have ndz : zs.Nodup := pz.nodup_iff.mpr (by decide +kernel)
    have di1' : Dice H1 d (n + 10) := di1
    -- found
    refine fun f nf => ?_
    have bf : b ≠ f := ne_of_none hb nf
    obtain ⟨ds1, hd1⟩ := di1'.there
    have df : d ≠ f := ne_of_none hd1 nf
    cases zs with
    | nil => cases lz
    | cons z0 zr =>
    have lr : zr.length = 9 := Nat.succ.inj lz
    refine ⟨_, rfl, b, _, _, _, rfl, rfl, SqL.of (by rw [upd_ne bf]; exact hb), atI_nat (j := 0) (v := V.str z0) rfl, upd_same, [(.inr z0, .int 0)], rfl, Nat.le_of_ble_eq_true rfl, ?_⟩
    rw [upd_upd]
    have hf : (upd H1 f (.dK (dkv [(z0, 0)]))) f = some (.dK (dkv [(z0, 0)])) := upd_same
    have di2 : Dice (upd H1 f (.dK (dkv [(z0, 0)]))) d (n + 10) := di1'.same (Same.new nf)
    have kp2 : Kp d H (upd H1 f (.dK (dkv [(z0, 0)]))) := ((Kp.new nlp).trans kp).trans (Kp.new nf)
    have hb2 : (upd H1 f (.dK (dkv [(z0, 0)]))) b = some (.lst ((z0 :: zr).map V.str)) := by rw [upd_ne bf]; exact hb
    have nHf : H f = none := Kp.free ((Kp.new nlp).trans kp) df.symm nf
    have hpz : ∀ z ∈ z0 :: zr, z ∈ pool := fun z m => pz.mem_iff.mp m
    -- the names behind the first one
    refine ⟨_, rfl, 1, rfl, _, rfl, d, 4, n + 10, rfl, di2, by omega, by decide, by decide +kernel, fun r o r0 r1' di3 => ⟨_, _, rfl, rfl, _, rfl, b, _, rfl, SqL.of ((Kp.upd (d := d)) _ _ nbd hb2), fun p np => ?_⟩⟩
    have cut : cutV ((z0 :: zr).map V.str) (some 1) (some (1 + r)) = (zr.take r.toNat).map V.str := by
      rw [List.map_cons, cut_one (by omega) (by rw [List.length_map]; omega), List.map_take]
    rw [cut]
    refine ⟨p, rfl, ⟨_, SqL.of upd_same⟩, ?_⟩
    have hf3 : (upd (upd H1 f (.dK (dkv [(z0, 0)]))) d o) f = some (.dK (dkv [(z0, 0)])) := (Kp.upd (d := d)) _ _ df.symm hf
    obtain ⟨ds3, hd3⟩ := di3.there
    have dp : d ≠ p := ne_of_none hd3 np
    have fp : f ≠ p := ne_of_none hf3 np
    have k3 : Kp d H (upd (upd H1 f (.dK (dkv [(z0, 0)]))) d o) := kp2.trans Kp.upd
    refine for_list (K := K) (a := p) (xs := (zr.take r.toNat).map V.str) (fun i σ H' => ∃ (v3 : Option V) (l : List (Str × Nat)), σ = [some (.ref d), some (.ref b), some (.ref f), v3] ∧ Kp d H H' ∧ H' p = some (.lst ((zr.take r.toNat).map V.str)) ∧
        H' f = some (.dK (dkv l)) ∧ l.map (·.1) = z0 :: zr.take i ∧ (∀ x ∈ l, x.2 ≤ 2) ∧ (z0, 0) ∈ l ∧ Dice H' d (n + 11 + i))
      ⟨none, [(z0, 0)], rfl, k3.trans (Kp.new np), upd_same, (Same.new np) _ _ hf3, rfl, by simp, by simp, di3.same (Same.new np)⟩ (fun i σ H' _ ⟨_, _, _, _, hp, _⟩ => SqL.of hp) ?_ ?_
    · rintro i x σ H' hx ⟨v3, l, rfl, kp', hp, hf', keys, two, c0, di'⟩
      have hx2 := List.getElem?_eq_some_iff.mp hx
      obtain ⟨hi, ex⟩ := hx2
      rw [List.length_map, List.length_take] at hi
      have hi9 : i < zr.length := by omega
      have ex2 : x = V.str zr[i] := by
        rw [← ex]
        simp
      subst ex2
      refine ⟨_, rfl, d, 3, n + 11 + i, rfl, di', by omega, by decide, by decide +kernel, fun r2 o2 r20 r21 di4 => ⟨_, rfl, _, rfl, f, _, rfl, DPut.k (k := .inr zr[i]) ((Kp.upd (d := d)) _ _ df.symm hf') ?_, ?_⟩⟩
      · have : l.length = (l.map (·.1)).length := (List.length_map _).symm
        rw [keys, List.length_cons, List.length_take] at this
        have e : (dkv l).length = l.length := List.length_map _
        rw [e, sizeLine_eq]
        omega
      · have nz : zr[i] ∉ l.map (·.1) := by
          rw [keys]
          have nd2 := (List.nodup_cons.mp ndz)
          intro m
          rcases List.mem_cons.mp m with m | m
          · exact nd2.1 (m ▸ List.getElem_mem hi9)
          · obtain ⟨j, hj, e⟩ := List.mem_iff_getElem.mp m
            rw [List.length_take] at hj
            rw [List.getElem_take] at e
            have := (List.getElem_inj nd2.2).mp e
            omega
        have er : r2 = ((r2.toNat : Nat) : Int) := (Int.toNat_of_nonneg r20).symm
        rw [er, put_end nz]
        have fd : f ≠ d := df.symm
        refine ⟨_, l ++ [(zr[i], r2.toNat)], rfl, fun c u nc e => ?_, ?_, upd_same, ?_, fun x m => ?_, List.mem_append_left _ c0, (di4.kept fun u e => ?_).more (by omega) (by omega)⟩
        · rw [upd_ne (ne_of_none e nHf), upd_ne nc]
          exact kp' c u nc e
        · rw [upd_ne fp.symm, upd_ne dp.symm]
          exact hp
        · rw [List.map_append, keys, List.take_add_one, List.getElem?_eq_getElem hi9]
          rfl
        · rcases List.mem_append.mp m with m | m
          · exact two x m
          · rw [List.mem_singleton.mp m]
            show r2.toNat ≤ 2
            omega
        · rw [upd_ne df]
          exact e
    · rintro σ H' ⟨v3, l, rfl, kp', hp, hf', keys, two, c0, di'⟩
      rw [List.length_map, List.length_take] at keys di'
      have lm : Nat.min r.toNat zr.length = r.toNat := Nat.min_eq_left (by omega)
      have ll : l.length = r.toNat + 1 := by
        have := (List.length_map (as := l) (·.1))
        rw [keys, List.length_cons, List.length_take] at this
        omega
      have ars : Ars l := by
        refine ⟨by omega, ?_, fun x m => ?_, two, _, c0, rfl⟩
        · rw [keys]
          have nd2 := List.nodup_cons.mp ndz
          exact List.nodup_cons.mpr ⟨fun m => nd2.1 (List.mem_of_mem_take m), (List.take_sublist _ _).nodup nd2.2⟩
        · have : x.1 ∈ l.map (·.1) := List.mem_map_of_mem m
          rw [keys] at this
          rcases List.mem_cons.mp this with e | m2
          · rw [e]
            exact hpz z0 List.mem_cons_self
          · exact hpz _ (List.mem_cons_of_mem _ (List.mem_of_mem_take m2))
      refine ⟨_, rfl, _, rfl, f, dkv l, rfl, hf', fun H5 p2 ts sm np2 nts pts h2 pr => ?_⟩
      have lts : ts.length = l.length := by
        have e : (dkv l).length = l.length := List.length_map _
        rw [pr.length, e]
      obtain ⟨ds5, hd5⟩ := di'.there
      refine ⟨d, p2, n + 11 + min r.toNat zr.length, ts.map V.ref, rfl, (ne_of_none hd5 np2).symm, SqL.of h2, by rw [List.length_map]; omega, di'.same sm, by rw [List.length_map]; omega, fun q2 ys H6 nqd nq2 kp6 hq2 pm2 di6 => ?_⟩
      obtain ⟨ps, pps, rfl⟩ := perm_map pm2
      obtain ⟨kvs, pk, pr2⟩ := paired_perm pps (paired_and (P := fun t => t ≠ d) (fun t m => (ne_of_none hd5 (nts t m)).symm) pr)
      obtain ⟨l2, pl, rfl⟩ := perm_map pk
      refine ⟨q2, ps, dkv l2, rfl, SqL.of hq2, paired_map (fun t k h => SqT.of (kp6 _ _ h.1 h.2)) pr2, fun p9 np9 => ?_⟩
      have a2 := ars.perm pl
      rw [merge_all a2.nd]
      obtain ⟨ds6, hd6⟩ := di6.there
      have k9 : Kp d H (upd H6 p9 (.dK (dkv l2))) := ((kp'.trans (Kp.same sm)).trans kp6).trans (Kp.new np9)
      have p9d : p9 ≠ d := (ne_of_none hd6 np9).symm
      refine q p9 l2 _ p9d (Kp.free ((kp'.trans (Kp.same sm)).trans kp6) p9d np9) k9 upd_same a2 ((di6.same (Same.new np9)).more ?_ ?_)
      · rw [List.length_map]
        omega
      · omega
end
end Pr

namespace Pr
open PySem PySem.Spec PyProof.Rows L2 Gd
theorem if_true_of {c : Bool} {A B : Prop} (hc : c = true) (h : A) : if c = true then A else B := by rw [if_pos hc]; exact h
theorem if_false_of {c : Bool} {A B : Prop} (hc : c = false) (h : B) : if c = true then A else B := by rw [hc, if_neg Bool.false_ne_true]; exact h
/-! ### drawn trees -/
/-- zs is a row of n trees over the operators l -/
inductive Fo (l : List (Str × Nat)) : Nat → List Str → Prop where
  | nil : Fo l 0 []
  | cons {z : Str} {a n : Nat} {zs : List Str} (m : (z, a) ∈ l) (h : Fo l (n + a) zs) : Fo l (n + 1) (z :: zs)
theorem val_some {z : Str} {a : Nat} : ∀ {l : List (Str × Nat)}, (l.map (·.1)).Nodup → (z, a) ∈ l → valV (dkv l) (.inr z : Key) = some (.int (a : Int))
  | p :: l, nd, h => by
    show valV ((.inr p.1, .int (p.2 : Int)) :: dkv l) (.inr z : Key) = some (.int (a : Int))
    have nd' := List.nodup_cons.mp nd
    rcases List.mem_cons.mp h with e | h
    · subst e
      rw [valV_pos rfl]
    · rw [valV_neg (fun e => nd'.1 (by
        have e' : p.1 = z := Sum.inr.inj e
        have m : (z, a).1 ∈ l.map (·.1) := List.mem_map_of_mem h
        exact (show p.1 ∈ l.map (·.1) from e' ▸ m)))]
      exact val_some nd'.2 h
def constB (l : List (Str × Nat)) (z : Str) : Bool := decide ((z, 0) ∈ l)
theorem filt_more {p : Str → Bool} {zs : List Str} {i : Nat} {z : Str} (h : zs[i]? = some z) : (zs.take (i + 1)).filter p = (zs.take i).filter p ++ (if p z then [z] else []) := by
  rw [List.take_add_one, h, List.filter_append]
  cases e : p z <;> simp [e]
theorem pe_imp {X : Cx} {e : Expr} {t t' : TE} (h : PE X e t) (k : ∀ σ H Q, t' σ H Q → t σ H Q) : PE X e t' := ⟨fun pins s σ H Q I q => h.run pins s σ H Q I (k σ H Q q)⟩
/-- a name is drawn -/
abbrev t_pk (K : PySem.W.Frag) : TE := tCall (spPick K) [] E0 (tCons (tVar 0) (tCons (tIf (tTest (tOp (rI0 fun i j => V.bl (decide (i < j))) (tOp (rI0 fun i j => V.int (i + j)) (tCB (fun xs H1 Q => ∃ p ys, xs = [V.ref p] ∧ (SqL K H1 p ys ∨ SqT K H1 p ys) ∧ Q (V.int (ys.length : Int)) H1) (tCons (tVar 3) tNil)) (tVar 4)) (tVar 2))) (tVar 5) (tVar 6)) tNil))
def t_pkB : TE := fun σ H Q => ∃ (d f ns cs : Addr) (cap o : Int) (ws ks cl : List Str) (n : Nat), σ[0]? = some (some (.ref d)) ∧ σ[2]? = some (some (.int cap)) ∧ σ[3]? = some (some (.ref f)) ∧ σ[4]? = some (some (.int o)) ∧ σ[5]? = some (some (.ref ns)) ∧ σ[6]? = some (some (.ref cs)) ∧ ns ≠ d ∧ cs ≠ d ∧
  H f = some (.lst (ws.map V.str)) ∧ H ns = some (.lst (ks.map V.str)) ∧ H cs = some (.lst (cl.map V.str)) ∧ ks ≠ [] ∧ cl ≠ [] ∧ ks.length ≤ 4 ∧ cl.length ≤ 4 ∧ Dice H d n ∧ n < 1000000 ∧
  ∀ z o2, (z ∈ ks ∧ (ws.length : Int) + o < cap) ∨ z ∈ cl → Dice (upd H d o2) d (n + 1) → Q (.str z) (upd H d o2)
theorem pk_imp {K : PySem.W.Frag} : ∀ σ H Q, t_pkB σ H Q → t_pk K σ H Q := by
  rintro σ H Q ⟨d, f, ns, cs, cap, o, ws, ks, cl, n, h0, h2, h3, h4, h5, h6, n1, n2, hf, hn, hc, kn, cn, k4, c4, di, hl, q⟩
  refine ⟨_, h0, _, h3, f, _, rfl, .inl (SqL.of hf), _, h4, _, _, rfl, rfl, _, h2, _, _, rfl, rfl, _, rfl, ?_⟩
  rw [List.length_map]
  by_cases c : (ws.length : Int) + o < cap
  · refine if_true_of (decide_eq_true c) ⟨_, h5, d, ns, n, _, rfl, n1, .inl (SqL.of hn), fun e => kn (List.map_eq_nil_iff.mp e), by rw [List.length_map]; omega, di, hl, fun v o2 mv di2 => ?_⟩
    obtain ⟨z, m, rfl⟩ := List.mem_map.mp mv
    exact q z o2 (.inl ⟨m, c⟩) di2
  · refine if_false_of (decide_eq_false c) ⟨_, h6, d, cs, n, _, rfl, n2, .inl (SqL.of hc), fun e => cn (List.map_eq_nil_iff.mp e), by rw [List.length_map]; omega, di, hl, fun v o2 mv di2 => ?_⟩
    obtain ⟨z, m, rfl⟩ := List.mem_map.mp mv
    exact q z o2 (.inr m) di2
def spDrawn : Sp := fun vs H Q _ => ∃ (d p : Addr) (cap n : Nat) (l : List (Str × Nat)), vs = [.ref d, .ref p, .int (cap : Int)] ∧ p ≠ d ∧ H p = some (.dK (dkv l)) ∧ Ars l ∧ 1 ≤ cap ∧ cap ≤ 400 ∧ Dice H d n ∧ n + 2 * cap + 3 < 1000000 ∧
  ∀ (q : Addr) (zs : List Str) (H' : Hp), q ≠ d → H q = none → Kp d H H' → Tx.TX H' q (zs.map V.str) → Fo l 1 zs → zs.length ≤ cap + 1 → Dice H' d (n + 2 * cap + 3) → Q (.ref q) H'
section
variable {P : Program} {w : World} {K : PySem.W.Frag} {mg : Str → Option Value} {base : Heap} {fR fP fM : Addr} {dR dP dM : FuncData}
theorem scDrawn : FnScope ["dice", "arities", "cap", "found", "open_ends", "names", "constants", "turn", "name"] ["dice", "arities", "cap"] (defScope sDrawn) := ⟨rfl, rfl, rfl, by decide +kernel, rfl, by decide +kernel, by decide +kernel⟩
theorem ok_drawn {f : Addr} {fd : FuncData} (F : Fun K "_law_drawn_tree" "_law_drawn_tree" sDrawn f fd) (D : Draws K mg fR fP fM dR dP dM) (T : Free mg) : FnOk P w K mg base CX0 3 f fd ["dice", "arities", "cap"] spDrawn := by
  have GP : FnOk P w K mg base CX0 2 fP dP ["dice", "items"] (spPick K) := ok_pick D T
  refine F.ok scDrawn (fun vs H Q E h => ?_) (fun cdv A outer s H vs Q E hr h => ?_)
  · obtain ⟨d, p, cap, n, l, rfl, _⟩ := h
    rfl
  · obtain ⟨d, p, cap, n, l, rfl, npd, hp, ars, c1, c4, di, hn, q⟩ := h
    have hu := hr.units
    have hu1 : ∀ {u : Nat}, u + 64 < cLine → u + 1 < cLine := fun h => by omega
    refine ⟨_, pss_cons (ps_par3 (i := 3) (j := 4) (l := 5) (by rfl) scDrawn.nd rfl rfl rfl (by decide) (by decide) (by decide) rfl rfl rfl (pa_cons (pe_lst pa_nil) (pa_cons pe_int (pa_cons (pe_callB (call_sortedD (by rfl)) (by rfl) T.sorted (by decide +kernel) (pa_cons (pv 1) pa_nil)) pa_nil))) (by rfl)) (pss_cons (ps_setLc (i := 6) (own := [("name", 8)]) (g := gName 8) (by rfl) scDrawn.nd rfl rfl (sw_true rfl rfl rfl (by decide +kernel)) (pi_list (pv 5)) (blkOk_by (own := [("name", 8)]) (N := ["dice", "arities", "cap", "found", "open_ends", "names", "constants", "turn", "name"]) (sc := defScope sDrawn) (by decide +kernel)) (fun _ _ _ _ _ => pg_name (i := 8) scDrawn.nd rfl (Or.inl rfl)) (fun _ _ _ _ _ => pts_one (pt_cmpR op_eq (pe_dget (hu1 hu) (pv 1) (pv 8) (fun _ _ => rfl)) pe_int (nomark _))) (fun _ _ _ _ _ => pv 8)) (pss_cons (ps_for PassesOwn.never rfl (pi_range1 rfl T.range (pa_cons (pe_op op_add (pe_op op_mul pe_int (pv 2)) pe_int) pa_nil)) (pg_name (i := 7) scDrawn.nd rfl (.inl rfl)) (pss_cons (ps_if (pt_cmpR op_eq (pv 4) pe_int (nomark _)) (pss_one ps_break) pss_nil) (pss_cons (ps_set (i := 8) scDrawn.nd rfl (.inl rfl) (pe_imp (pe_call GP (hr.mono (by decide)) (by rfl) D.gP D.FP.kp D.bP .nil pass0 (pa_cons (pv 0) (pa_cons (pe_ifExp (pt_cmpR op_lt (pe_op op_add (pe_callB call_len_seq (by rfl) T.len PySem.boot_len (pa_cons (pv 3) pa_nil)) (pv 4)) (pv 2) (nomark _)) (pv 5) (pv 6)) pa_nil))) pk_imp)) (pss_cons (ps_expr (pe_bm PySem.F.plainAttrs_list PySem.F.slot_list_append PySem.F.type_list_append mt_append (pv 3) (pa_cons (pv 8) pa_nil))) (pss_one (ps_set (i := 4) scDrawn.nd rfl (.inl rfl) (pe_op op_add (pe_op op_sub (pv 4) pe_int) (pe_dget (hu1 hu) (pv 1) (pv 8) (fun _ _ => rfl))))))))) (pss_one (ps_ret (pe_callTy Tx.call_tupX (by rfl) T.tuple (by decide +kernel) (pa_cons (pv 3) pa_nil)))))), ?_⟩
    obtain ⟨ds, hd⟩ := di.there
    -- found, open_ends, names
    refine ⟨by show 0 ≤ sizeLine; decide, fun f nf => ?_⟩
    have hp1 := (Same.new nf (o := .lst [])) _ _ hp
    refine ⟨_, rfl, p, dkv l, l.map (·.1), rfl, Rd.of hp1, by unfold dkv; rw [List.map_map, List.map_map]; rfl, by rw [List.length_map]; have := ars.few; omega, fun ks ns pk _ nns => ⟨_, _, _, rfl, ?_⟩⟩
    have s1 := (Same.new nf (o := .lst [])).trans (Same.new nns (o := .lst (ks.map V.str)))
    have hf1 : (upd (upd H f (.lst [])) ns (.lst (ks.map V.str))) f = some (.lst []) := (Same.new nns) _ _ upd_same
    have hns1 : (upd (upd H f (.lst [])) ns (.lst (ks.map V.str))) ns = some (.lst (ks.map V.str)) := upd_same
    have nfn : f ≠ ns := ne_of_none (upd_same (H := H) (a := f) (o := .lst [])) nns
    have dns : d ≠ ns := ne_of_none ((Same.new nf (o := .lst [])) _ _ hd) nns
    have nHns : H ns = none := (Same.new nf (o := .lst [])).free nns
    generalize upd (upd H f (.lst [])) ns (.lst (ks.map V.str)) = H1 at s1 hf1 hns1 ⊢
    have lk : ks.length = l.length := by rw [pk.length_eq, List.length_map]
    have ark : ∀ z ∈ ks, ∃ a, (z, a) ∈ l := fun z m => by
      obtain ⟨x, m2, e⟩ := List.mem_map.mp (pk.mem_iff.mp m)
      exact ⟨x.2, by rw [← e]; exact m2⟩
    -- constants
    refine ⟨_, rfl, ns, rfl, ⟨_, SqL.of hns1⟩, fun cs ncs => ?_⟩
    refine lc_list (K := K) (a := ns) (xs := ks.map V.str) (fun i G => G cs = some (.lst (((ks.take i).filter (constB l)).map V.str)) ∧ Same H1 G) ⟨upd_same, Same.new ncs⟩ (fun i G _ ⟨_, s⟩ => SqL.of (s _ _ hns1)) ?_ ?_
    · rintro i x G hx ⟨eD, s⟩
      obtain ⟨z, hz, rfl⟩ : ∃ z, ks[i]? = some z ∧ V.str z = x := by
        rw [List.getElem?_map] at hx
        cases e : ks[i]? with
        | none => rw [e] at hx; cases hx
        | some b => rw [e] at hx; exact ⟨b, rfl, Option.some.inj hx⟩
      obtain ⟨a, ma⟩ := ark z (List.mem_of_getElem? hz)
      have hpG := s _ _ (s1 _ _ hp)
      have vz := val_some ars.nd ma
      refine ⟨rfl, _, rfl, _, rfl, p, _, rfl, vz ▸ DGet.k (k := .inr z) hpG, rfl, _, rfl, ?_⟩
      have more := filt_more (p := constB l) hz
      have uq : ∀ a2, (z, a2) ∈ l → a2 = a := fun a2 m2 => by
        have e := (val_some ars.nd m2).symm.trans vz
        have e2 := V.int.inj (Option.some.inj e)
        omega
      have fewc : ((ks.take i).filter (constB l)).length ≤ 4 := by
        have a1 := List.length_filter_le (constB l) (ks.take i)
        rw [List.length_take] at a1
        have := ars.few
        omega
      cases a with
      | zero =>
        have cb : constB l z = true := decide_eq_true ma
        rw [cb, if_pos rfl] at more
        refine if_true_of (by decide) ⟨_, rfl, _, eD, by rw [List.length_map, sizeLine_eq]; omega, ?_, fun a o x => by rw [upd_ne (ne_of_none x ncs)]; exact s a o x⟩
        rw [upd_same, more, List.map_append]
        rfl
      | succ a =>
        have cb : constB l z = false := decide_eq_false fun m0 => by
          have := uq 0 m0
          omega
        rw [cb, if_neg Bool.false_ne_true, List.append_nil] at more
        refine if_false_of (decide_eq_false fun e => ?_) ⟨by rw [eD, more], s⟩
        have := V.int.inj e
        omega
    rintro G ⟨eD, s2⟩
    have eD2 : G cs = some (.lst ((ks.filter (constB l)).map V.str)) := by
      have t0 := List.take_of_length_le (l := ks) (i := (ks.map V.str).length) (by rw [List.length_map]; exact Nat.le_refl _)
      rw [t0] at eD
      exact eD
    generalize ecl : ks.filter (constB l) = cl at eD2
    have cln : cl ≠ [] := fun e => by
      obtain ⟨x, m, e0⟩ := ars.const
      have mk : x.1 ∈ ks := pk.mem_iff.mpr (List.mem_map_of_mem m)
      have cb : constB l x.1 = true := decide_eq_true (by
        have : x = (x.1, 0) := by rw [← e0]
        exact this ▸ m)
      have : x.1 ∈ ks.filter (constB l) := List.mem_filter.mpr ⟨mk, cb⟩
      rw [ecl, e] at this
      cases this
    have cl0 : ∀ z ∈ cl, (z, 0) ∈ l := fun z m => by
      rw [← ecl] at m
      exact of_decide_eq_true (List.mem_filter.mp m).2
    have cl4 : cl.length ≤ 4 := by
      rw [← ecl]
      have a1 := List.length_filter_le (constB l) ks
      have := ars.few
      omega
    have ksn : ks ≠ [] := fun e => by
      rw [e] at lk
      have := ars.few
      exact absurd lk (by simp; omega)
    have nHf : H f = none := nf
    have dG := (di.same s1).same s2
    have hpG := s2 _ _ (s1 _ _ hp)
    have hfG := s2 _ _ hf1
    have hnG := s2 _ _ hns1
    have df : d ≠ f := ne_of_none hd nf
    have pf : p ≠ f := ne_of_none hp nf
    have dcs : d ≠ cs := ne_of_none (s1 _ _ hd) ncs
    have fcs : f ≠ cs := ne_of_none hf1 ncs
    have nHcs : H cs = none := s1.free ncs
    refine ⟨_, rfl, 2, (cap : Int), rfl, rfl, .inl ⟨by decide, by decide⟩, _, _, rfl, rfl, _, rfl, by omega, by omega, ?_⟩
    refine for_range (lo := 0) (n := (2 * (cap : Int) + 3).toNat) (fun i σ H' => ∃ (v7 v8 : Option V) (ws : List Str) (o : Nat), σ = [some (.ref d), some (.ref p), some (.int (cap : Int)), some (.ref f), some (.int (o : Int)), some (.ref ns), some (.ref cs), v7, v8] ∧ Kp d H H' ∧
        H' f = some (.lst (ws.map V.str)) ∧ H' ns = some (.lst (ks.map V.str)) ∧ H' cs = some (.lst (cl.map V.str)) ∧ ws.length = i ∧ i + o ≤ cap + 1 ∧ (∀ zs, Fo l o zs → Fo l 1 (ws ++ zs)) ∧ Dice H' d (n + i))
      ⟨none, none, [], 1, rfl, Kp.same (s1.trans s2), hfG, hnG, eD2, rfl, by omega, fun zs h => h, dG⟩ ?_ ?_
    · rintro i σ H' hi ⟨v7, v8, ws, o, rfl, kp, hf', hn', hc', lw, io, fo, di'⟩
      refine ⟨_, rfl, rfl, _, rfl, ?_⟩
      cases o with
      | zero =>
        refine if_true_of (by decide) ⟨_, rfl, f, _, rfl, SqL.of hf', fun t H2 nt st tx => ?_⟩
        have f1 := fo [] .nil
        rw [List.append_nil] at f1
        obtain ⟨ds', hd'⟩ := di'.there
        have td : t ≠ d := (ne_of_none hd' nt).symm
        exact q t ws _ td (Kp.free kp td nt) (kp.trans (Kp.same st)) tx f1 (by omega) ((di'.same st).more (by omega) (by omega))
      | succ o =>
        refine if_false_of (decide_eq_false fun e => ?_) ?_
        · have := V.int.inj e
          omega
        have kl4 : ks.length ≤ 4 := by
          have := ars.few
          omega
        refine ⟨d, f, ns, cs, (cap : Int), ((o + 1 : Nat) : Int), ws, ks, cl, n + i, rfl, rfl, rfl, rfl, rfl, rfl, dns.symm, dcs.symm, hf', hn', hc', ksn, cln, kl4, cl4, di', by omega, fun z o2 hz di2 => ?_⟩
        obtain ⟨a, ma, ha⟩ : ∃ a, (z, a) ∈ l ∧ ws.length + 1 + (o + a) ≤ cap + 1 := by
          rcases hz with ⟨m, c⟩ | m
          · obtain ⟨a, ma⟩ := ark z m
            have := ars.two _ ma
            exact ⟨a, ma, by omega⟩
          · exact ⟨0, cl0 z m, by omega⟩
        have k2 : Kp d H' (upd H' d o2) := Kp.upd
        have vz := val_some ars.nd ma
        have hf2 := k2 _ _ df.symm hf'
        have hp2 : (upd H' d o2) p = some (.dK (dkv l)) := k2 _ _ npd (kp _ _ npd hp)
        refine ⟨_, rfl, .inl ⟨rfl, _, SqL.of hf2⟩, _, rfl, f, _, _, rfl, rfl, hf2, by rw [List.length_map, sizeLine_eq]; omega, ?_⟩
        have hp3 : (upd (upd H' d o2) f (.lst (ws.map V.str ++ [.str z]))) p = some (.dK (dkv l)) := by
          rw [upd_ne pf]
          exact hp2
        refine ⟨_, rfl, _, _, rfl, rfl, _, rfl, _, rfl, p, _, rfl, vz ▸ DGet.k (k := .inr z) hp3, _, _, rfl, rfl, ?_⟩
        refine ⟨some (.int (0 + (i : Int))), some (.str z), ws ++ [z], o + a, ?_, fun b u nb e => ?_, by rw [upd_same, List.map_append]; rfl, ?_, ?_, by simp [lw], by omega, fun zs h => ?_, (di2.kept fun u e => ?_).more (by omega) (by omega)⟩
        · have e : ((o + 1 : Nat) : Int) - 1 + (a : Int) = ((o + a : Nat) : Int) := by omega
          show ([some (V.ref d), some (V.ref p), some (V.int (cap : Int)), some (V.ref f), some (V.int (((o + 1 : Nat) : Int) - 1 + (a : Int))), some (V.ref ns), some (V.ref cs), some (V.int (0 + (i : Int))), some (V.str z)] : L2.St) = _
          rw [e]
        · rw [upd_ne (ne_of_none e nHf)]
          exact k2 _ _ nb (kp _ _ nb e)
        · rw [upd_ne nfn.symm]
          exact k2 _ _ dns.symm hn'
        · rw [upd_ne fcs.symm]
          exact k2 _ _ dcs.symm hc'
        · rw [List.append_assoc]
          exact fo _ (.cons ma h)
        · rw [upd_ne df]
          exact e
    · rintro σ H' ⟨v7, v8, ws, o, rfl, kp, hf', hn', hc', lw, io, fo, di'⟩
      omega
end
end Pr

namespace Pr
open PySem PySem.Spec PyProof.Rows L2
/-! ### integers, counts, coprime pairs -/
theorem Kd.ty {K : PySem.W.Frag} {H : Hp} {v : V} {t : String} (k : Kd H v t) : TyX K H v (.type t) := by
  cases k with
  | non => exact .base .non
  | bl b => exact .base (.bl b)
  | int i => exact .base (.int i)
  | str z => exact .base (.str z)
  | lst e => exact .base (.lst e)
  | tup e => exact (let ⟨_, h, _⟩ := e; .fTuple h)
  | dK e => exact .base (.dK e)
/-- is it an int (a bool is one); is it a bool -/
def isI : V → Bool
  | .bl _ => true
  | .int _ => true
  | _ => false
def isB : V → Bool
  | .bl _ => true
  | _ => false
theorem kit_int {K : PySem.W.Frag} {H : Hp} {v : V} {t : String} (k : Kd H v t) : PySem.W.kitOne K (.type t) (.type "int") = some (isI v) := by
  cases k <;> first | exact kit_ty (r := true) (by decide +kernel) | exact kit_ty (r := false) (by decide +kernel)
theorem kit_bool {K : PySem.W.Frag} {H : Hp} {v : V} {t : String} (k : Kd H v t) : PySem.W.kitOne K (.type t) (.type "bool") = some (isB v) := by
  cases k <;> first | exact kit_ty (r := true) (by decide +kernel) | exact kit_ty (r := false) (by decide +kernel)
/-- an integer of at most sixty digits; a count -/
def isInt : V → Bool
  | .int i => decide ((if i < 0 then -i else i) < 10 ^ (60 : Int).toNat)
  | _ => false
def isCount : V → Bool
  | .int i => decide ((if i < 0 then -i else i) < 10 ^ (60 : Int).toNat) && decide (0 ≤ i)
  | _ => false
theorem count_nat {v : V} (h : isCount v = true) : ∃ n : Nat, v = .int n ∧ n < 10 ^ 60 := by
  cases v with
  | int i =>
    have h' : (decide ((if i < 0 then -i else i) < 10 ^ (60 : Int).toNat) && decide (0 ≤ i)) = true := h
    rw [Bool.and_eq_true] at h'
    have h1 := of_decide_eq_true h'.1
    have h2 := of_decide_eq_true h'.2
    rw [if_neg (by omega)] at h1
    have e : ((10 : Int) ^ (60 : Int).toNat) = ((10 ^ 60 : Nat) : Int) := by decide +kernel
    rw [e] at h1
    exact ⟨i.toNat, by rw [Int.toNat_of_nonneg h2], by omega⟩
  | _ => cases h
theorem nat_count {n : Nat} (h : n < 10 ^ 60) : isCount (.int n) = true := by
  show (decide ((if (n : Int) < 0 then -(n : Int) else n) < 10 ^ (60 : Int).toNat) && decide ((0 : Int) ≤ n)) = true
  have e : ((10 : Int) ^ (60 : Int).toNat) = ((10 ^ 60 : Nat) : Int) := by decide +kernel
  rw [if_neg (by omega), e, decide_eq_true (by omega), decide_eq_true (by omega)]
  rfl
def spInt : Sp := fun vs H Q _ => ∃ (v : V) (t : String), vs = [v] ∧ Kd H v t ∧ Q (.bl (isInt v)) H
def spCount : Sp := fun vs H Q _ => ∃ (v : V) (t : String), vs = [v] ∧ Kd H v t ∧ Q (.bl (isCount v)) H
section
variable {P : Program} {w : World} {K : PySem.W.Frag} {mg : Str → Option Value} {base : Heap}
theorem scInteger : FnScope ["value"] ["value"] (defScope sInteger) := ⟨rfl, rfl, rfl, by decide +kernel, rfl, by decide +kernel, by decide +kernel⟩
theorem ok_integer {f : Addr} {fd : FuncData} (F : Fun K "is_integer" "is_integer" sInteger f fd) (T : Free mg) : FnOk P w K mg base CX0 1 f fd ["value"] spInt := by
  refine F.ok scInteger (fun vs H Q E h => ?_) (fun cdv A outer s H vs Q E hr h => ?_)
  · obtain ⟨v, t, rfl, _⟩ := h
    rfl
  · obtain ⟨v, t, rfl, kd, q⟩ := h
    refine ⟨_, pss_one (ps_ret (pe_and (pe_callB call_isi (by rfl) T.isi (by decide +kernel) (pa_cons (pv 0) (pa_cons (pe_bltn (v := .ty "int") (by rfl) T.int (by decide +kernel) rfl) pa_nil)))
      (pe_and (pe_not (pe_callB call_isi (by rfl) T.isi (by decide +kernel) (pa_cons (pv 0) (pa_cons (pe_bltn (v := .ty "bool") (by rfl) T.bool (by decide +kernel) rfl) pa_nil))))
        (pe_one (pe_cmpR op_lt (pe_callB call_abs (by rfl) T.abs (by decide +kernel) (pa_cons (pv 0) pa_nil)) (pe_op op_pow pe_int pe_int) (nomark _)))))), ?_⟩
    refine ⟨_, rfl, v, _, _, _, _, rfl, .ty "int", kd.ty, kit_int kd, _, rfl, ?_⟩
    cases kd with
    | int i => exact iteT ⟨_, rfl, _, _, _, _, _, rfl, .ty "bool", (Kd.int i).ty, kit_bool (Kd.int (H := H) i), _, rfl, _, rfl, iteT ⟨_, rfl, i, rfl, 10, 60, rfl, rfl, c10 (k := 60) (by decide), _, _, rfl, rfl, q⟩⟩
    | bl b => exact iteT ⟨_, rfl, _, _, _, _, _, rfl, .ty "bool", (Kd.bl b).ty, kit_bool (Kd.bl (H := H) b), _, rfl, _, rfl, iteF q⟩
    | _ => exact iteF q
theorem scCount : FnScope ["value"] ["value"] (defScope sCount) := ⟨rfl, rfl, rfl, by decide +kernel, rfl, by decide +kernel, by decide +kernel⟩
/-- the program's own defs that the others call -/
structure Words (K : PySem.W.Frag) (mg : Str → Option Value) (fI fC : Addr) (dI dC : FuncData) : Prop where
  FI : Fun K "is_integer" "is_integer" sInteger fI dI
  bI : Binds K dI ["value"] []
  gI : mg "is_integer" = some (.ref fI)
  FC : Fun K "is_count" "is_count" sCount fC dC
  bC : Binds K dC ["value"] []
  gC : mg "is_count" = some (.ref fC)
variable {fI fC : Addr} {dI dC : FuncData}
theorem ok_count (W : Words K mg fI fC dI dC) (T : Free mg) : FnOk P w K mg base CX0 2 fC dC ["value"] spCount := by
  have GI : FnOk P w K mg base CX0 1 fI dI ["value"] spInt := ok_integer W.FI T
  refine W.FC.ok scCount (fun vs H Q E h => ?_) (fun cdv A outer s H vs Q E hr h => ?_)
  · obtain ⟨v, t, rfl, _⟩ := h
    rfl
  · obtain ⟨v, t, rfl, kd, q⟩ := h
    refine ⟨_, pss_one (ps_ret (pe_and (pe_call GI hr (by rfl) W.gI W.FI.kp W.bI .nil pass0 (pa_cons (pv 0) pa_nil)) (pe_one (pe_cmpR op_ge (pv 0) pe_int (nomark _))))), ?_⟩
    refine ⟨_, rfl, v, t, rfl, kd, _, rfl, ?_⟩
    cases kd with
    | int i =>
      refine ite2 (fun c => ⟨_, rfl, i, _, rfl, rfl, ?_⟩) (fun c => ?_)
      · have e : isCount (.int i) = decide (0 ≤ i) := by
          show (_ && _) = _
          rw [show decide ((if i < 0 then -i else i) < 10 ^ (60 : Int).toNat) = true from c, Bool.true_and]
        rw [e] at q
        exact q
      · have e : isCount (.int i) = false := by
          show (_ && _) = _
          rw [show decide ((if i < 0 then -i else i) < 10 ^ (60 : Int).toNat) = false from Bool.eq_false_iff.mpr c, Bool.false_and]
        rw [e] at q
        exact q
    | _ => exact iteF q
end
end Pr

namespace Pr
open PySem PySem.Spec PyProof.Rows L2
/-! ### the same judges, as names that are never unfolded -/
theorem there_int : ∃ p : V → Bool, p = isInt := ⟨_, rfl⟩
theorem there_count : ∃ p : V → Bool, p = isCount := ⟨_, rfl⟩
noncomputable def isIntO : V → Bool := Classical.choose there_int
noncomputable def isCountO : V → Bool := Classical.choose there_count
theorem isIntO_eq : isIntO = isInt := Classical.choose_spec there_int
theorem isCountO_eq : isCountO = isCount := Classical.choose_spec there_count
def spIntO : Sp := fun vs H Q _ => ∃ (v : V) (t : String), vs = [v] ∧ Kd H v t ∧ Q (.bl (isIntO v)) H
def spCountO : Sp := fun vs H Q _ => ∃ (v : V) (t : String), vs = [v] ∧ Kd H v t ∧ Q (.bl (isCountO v)) H
theorem spIntO_eq : spIntO = spInt := by
  unfold spIntO spInt
  rw [isIntO_eq]
theorem spCountO_eq : spCountO = spCount := by
  unfold spCountO spCount
  rw [isCountO_eq]
theorem nat_countO {n : Nat} (h : n < 10 ^ 60) : isCountO (.int n) = true := by
  rw [isCountO_eq]
  exact nat_count h
section
variable {P : Program} {w : World} {K : PySem.W.Frag} {mg : Str → Option Value} {base : Heap}
theorem ok_integerO {f : Addr} {fd : FuncData} (F : Fun K "is_integer" "is_integer" sInteger f fd) (T : Free mg) : FnOk P w K mg base CX0 1 f fd ["value"] spIntO := by
  rw [spIntO_eq]
  exact ok_integer F T
theorem ok_countO {fI fC : Addr} {dI dC : FuncData} (W : Words K mg fI fC dI dC) (T : Free mg) : FnOk P w K mg base CX0 2 fC dC ["value"] spCountO := by
  rw [spCountO_eq]
  exact ok_count W T
end
end Pr
namespace Pr
open PySem PySem.Spec PyProof.Rows L2 Gd
/-! ### names: by the text's methods, and sign by sign -/
def azC (c : Nat) : Bool := decide (97 ≤ c) && decide (c ≤ 122)
def azB (z : Str) : Bool := decide (1 ≤ z.length) && decide (z.length ≤ 8) && z.cps.toList.all azC
def nameB : V → Bool
  | .str z => azB z
  | _ => false
theorem az_table : ((List.range 128).all fun c => ((Unicode.isAlpha c && !(Unicode.isUpper c || Unicode.isTitle c)) == azC c) && (!azC c || Unicode.isLower c)) = true := by decide +kernel
theorem az_at {c : Nat} (h : c < 128) : (Unicode.isAlpha c && !(Unicode.isUpper c || Unicode.isTitle c)) = azC c ∧ (azC c = true → Unicode.isLower c = true) := by
  have q := List.all_eq_true.mp az_table c (List.mem_range.mpr h)
  rw [Bool.and_eq_true] at q
  refine ⟨eq_of_beq q.1, fun e => ?_⟩
  have q2 := q.2
  rw [e] at q2
  simpa using q2
theorem az_lt {c : Nat} (h : azC c = true) : c < 128 := by
  unfold azC at h
  rw [Bool.and_eq_true] at h
  have := of_decide_eq_true h.2
  omega
/-- the three methods say what the signs say -/
theorem by_methods {z : Str} (h8 : z.length ≤ 8) : (Txt.isascii z && (Txt.isalpha z && Txt.islower z)) = azB z := by
  obtain ⟨⟨l⟩⟩ := z
  have hl : l.length ≤ 8 := h8
  have e1 : Txt.isascii ⟨⟨l⟩⟩ = l.all (· < 128) := by simp [Txt.isascii]
  have e2 : Txt.isalpha ⟨⟨l⟩⟩ = (decide (0 < l.length) && l.all Unicode.isAlpha) := by
    unfold Txt.isalpha
    simp [Str.length]
  have e3 : Txt.islower ⟨⟨l⟩⟩ = (l.any Unicode.isLower && !l.any fun c => Unicode.isUpper c || Unicode.isTitle c) := by simp [Txt.islower]
  have e4 : azB ⟨⟨l⟩⟩ = (decide (1 ≤ l.length) && decide (l.length ≤ 8) && l.all azC) := rfl
  rw [e1, e2, e3, e4, decide_eq_true hl, Bool.and_true]
  apply Bool.eq_iff_iff.mpr
  simp only [Bool.and_eq_true, List.all_eq_true, decide_eq_true_eq, Bool.not_eq_true', List.any_eq_false, List.any_eq_true]
  constructor
  · rintro ⟨a, ⟨b, c⟩, d, e⟩
    refine ⟨b, fun x m => ?_⟩
    rw [← (az_at (a x m)).1, c x m, Bool.true_and]
    have := e x m
    simpa using this
  · rintro ⟨a, b⟩
    have lt : ∀ x ∈ l, x < 128 := fun x m => az_lt (b x m)
    have both : ∀ x ∈ l, Unicode.isAlpha x = true ∧ (Unicode.isUpper x || Unicode.isTitle x) = false := fun x m => by
      have q := (az_at (lt x m)).1
      rw [b x m, Bool.and_eq_true] at q
      exact ⟨q.1, by simpa using q.2⟩
    refine ⟨lt, ⟨a, fun x m => (both x m).1⟩, ?_, fun x m => by rw [(both x m).2]; simp⟩
    cases l with
    | nil => simp at a
    | cons x r => exact ⟨x, List.mem_cons_self, (az_at (lt x List.mem_cons_self)).2 (b x List.mem_cons_self)⟩
def spName : Sp := fun vs H Q _ => ∃ (v : V) (t : String), vs = [v] ∧ Kd H v t ∧ (∀ z, v = .str z → z.length ≤ 1000000) ∧ Q (.bl (nameB v)) H
theorem kit_str {K : PySem.W.Frag} {H : Hp} {v : V} {t : String} (k : Kd H v t) : PySem.W.kitOne K (.type t) (.type "str") = some (match v with | .str _ => true | _ => false) := by
  cases k <;> first | exact kit_ty (r := true) (by decide +kernel) | exact kit_ty (r := false) (by decide +kernel)
/-- a list's address (or any other's) is no text -/
theorem nameB_not {H : Hp} {v : V} {t : String} (k : Kd H v t) (h : ∀ z, v ≠ .str z) : nameB v = false := by
  cases k with
  | str z => exact absurd rfl (h z)
  | _ => rfl
section
variable {P : Program} {w : World} {K : PySem.W.Frag} {mg : Str → Option Value} {base : Heap}
theorem scName : FnScope ["value"] ["value"] (defScope sName) := ⟨rfl, rfl, rfl, by decide +kernel, rfl, by decide +kernel, by decide +kernel⟩
theorem ok_name {f : Addr} {fd : FuncData} {tk : Tok} (F : Fun K "is_name" "is_name" sName f fd) (T : Free mg) (gm : mg "MAX_LETTERS" = some (.int 8 tk)) : FnOk P w K mg base CX0 1 f fd ["value"] spName := by
  refine F.ok scName (fun vs H Q E h => ?_) (fun cdv A outer s H vs Q E hr h => ?_)
  · obtain ⟨v, t, rfl, _⟩ := h
    rfl
  · obtain ⟨v, t, rfl, kd, hz, q⟩ := h
    refine ⟨_, pss_cons (ps_if (PW.pt (pw_or (pt_not (pt_val (pe_callB call_isi (by rfl) T.isi (by decide +kernel) (pa_cons (pv 0) (pa_cons (pe_bltn (v := .ty "str") (by rfl) T.str (by decide +kernel) rfl) pa_nil)))))
        (pw_or1 (pt_cmpR op_gt (pe_callB call_len_str (by rfl) T.len PySem.boot_len (pa_cons (pv 0) pa_nil)) (pe_glob (v := .int 8) (by rfl) gm ⟨_, rfl⟩) (nomark _))))) (pss_one (ps_ret pe_bl)) pss_nil)
      (pss_one (ps_ret (pe_and (pe_bm0 PySem.F.plainAttrs_str PySem.F.slot_str_isascii PySem.F.type_str_isascii mt_isascii (pv 0))
        (pe_and (pe_bm0 PySem.F.plainAttrs_str PySem.F.slot_str_isalpha PySem.F.type_str_isalpha mt_isalpha (pv 0))
          (pe_one (pe_bm0 PySem.F.plainAttrs_str PySem.F.slot_str_islower PySem.F.type_str_islower mt_islower (pv 0))))))), ?_⟩
    refine ⟨_, rfl, v, _, _, _, _, rfl, .ty "str", kd.ty, kit_str kd, _, rfl, ?_⟩
    cases kd with
    | str z =>
      have l := hz z rfl
      refine iteF ⟨_, rfl, z, rfl, by rw [sizeLine_eq]; omega, _, _, rfl, rfl, _, rfl, ite2 (fun c => ?_) (fun c => ?_)⟩
      · have e : nameB (.str z) = false := by
          have c' := of_decide_eq_true c
          show (_ && _ && _) = false
          rw [decide_eq_false (show ¬ z.length ≤ 8 by omega), Bool.and_false, Bool.false_and]
        rw [e] at q
        exact q
      · have c' : ¬ (8 : Int) < z.length := fun h => c (decide_eq_true h)
        have e : nameB (.str z) = (Txt.isascii z && (Txt.isalpha z && Txt.islower z)) := (by_methods (by omega)).symm
        rw [e] at q
        refine ⟨_, rfl, rfl, z, rfl, rfl, trivial, _, rfl, ite2 (fun c1 => ?_) (fun c1 => ?_)⟩
        · rw [c1, Bool.true_and] at q
          refine ⟨_, rfl, rfl, z, rfl, rfl, trivial, _, rfl, ite2 (fun c2 => ?_) (fun c2 => ?_)⟩
          · rw [c2, Bool.true_and] at q
            exact ⟨_, rfl, rfl, z, rfl, rfl, trivial, q⟩
          · rw [Bool.eq_false_iff.mpr c2, Bool.false_and] at q
            exact q
        · rw [Bool.eq_false_iff.mpr c1, Bool.false_and] at q
          exact q
    | _ => exact iteT (iteT q)
end
/-! ### a list beside the empty one -/
def rEqE (K : PySem.W.Frag) : R2 := fun x y H Q => ∃ a b xs, x = .ref a ∧ y = .ref b ∧ SqL K H a xs ∧ SqL K H b [] ∧ Q (.bl xs.isEmpty) H
theorem op_eqE {X : Cx} (hu : X.A.units + 64 < cLine) : OpR X (compareOp .Eq) (rEqE X.K) := by
  intro pins s σ H x y v u Q I rx ry h
  obtain ⟨a, b, xs, rfl, rfl, ha, hb, q⟩ := h
  cases (show v = Value.ref a from rx)
  cases (show u = Value.ref b from ry)
  obtain ⟨us, r1, p1, _⟩ := I.list ha
  obtain ⟨ws, r2, p2, _⟩ := I.list hb
  have l2 : ws.length = 0 := r2.length.symm
  have l1 : us.length = xs.length := r1.length.symm
  cases xs with
  | nil =>
    have hsz : us.toArray.size = ws.toArray.size := by
      rw [List.size_toArray, List.size_toArray, l1, l2]
      rfl
    have z := SeqAt.RcAt.lists (e := fun _ => true) p1.isList p2.isList hsz (A := X.A) (s := s) (by omega) (fun j h1 h2 => by
      rw [List.size_toArray, l1] at h1
      exact absurd h1 (Nat.not_lt_zero _))
    rw [show ((List.range us.toArray.size).all fun _ => true) = true from List.all_eq_true.mpr fun _ _ => rfl] at z
    exact z X.prog X.w _ _ ⟨.bl true, H, I, rfl, q⟩
  | cons x r =>
    have hsz : (us.toArray.size != ws.toArray.size) = true := by
      rw [List.size_toArray, List.size_toArray, l1, l2]
      rfl
    exact SeqAt.RcAt.lists_lengths p1.isList p2.isList hsz (A := X.A) (s := s) (by omega) X.prog X.w _ _ ⟨.bl false, H, I, rfl, q⟩
/-- a comprehension over the signs of a text -/
theorem lc_signs {x : Str} {g : TG} {tt : TT} {te : TE} {vs : List Nat} {σ : L2.St} {H1 : Hp} {D : Addr} {Qd : Hp → Prop} (Pv : Nat → Hp → Prop) (h0 : Pv 0 (upd H1 D (.lst [])))
    (hs : ∀ i c H, x.cps[i]? = some c → Pv i H → g (.str ⟨#[c]⟩) (wipe σ vs) H fun σ2 H2 => wipe σ2 vs = wipe σ vs ∧ tt σ2 H2 fun b H3 =>
      if b = true then te σ2 H3 fun y H4 => ∃ acc, H4 D = some (.lst acc) ∧ acc.length < sizeLine ∧ Pv (i + 1) (upd H4 D (.lst (acc ++ [y]))) else Pv (i + 1) H3) (hd : ∀ H, Pv x.cps.size H → Qd H) :
    ∃ W : Nat → Nat → Hp → Prop, (∃ m, W 0 m (upd H1 D (.lst []))) ∧ ∀ i m H, W i m H →
      ((Its x).stop i H ∧ Qd H) ∨ ((Its x).go i H ∧ ∃ Nx : Hp → Prop, (∀ H', Nx H' → ∃ m', m' < m ∧ W (i + 1) m' H') ∧ ∀ y H', (Its x).yld i H y H' → g y (wipe σ vs) H' fun σ2 H2 => wipe σ2 vs = wipe σ vs ∧ tt σ2 H2 fun b H3 =>
        if b = true then te σ2 H3 fun y H4 => ∃ acc, H4 D = some (.lst acc) ∧ acc.length < sizeLine ∧ Nx (upd H4 D (.lst (acc ++ [y]))) else Nx H3) := by
  refine ⟨fun i m H => m = x.cps.size - i ∧ i ≤ x.cps.size ∧ Pv i H, ⟨x.cps.size, by simp, Nat.zero_le _, h0⟩, ?_⟩
  rintro i m H ⟨rfl, hi, p⟩
  rcases Nat.lt_or_ge i x.cps.size with lt | ge
  · refine .inr ⟨lt, Pv (i + 1), fun H' p' => ⟨x.cps.size - (i + 1), by omega, rfl, lt, p'⟩, fun y H' h => ?_⟩
    obtain ⟨rfl, c, hc, rfl⟩ := h
    exact hs i c _ hc p
  · obtain rfl : i = x.cps.size := Nat.le_antisymm hi ge
    exact .inl ⟨Nat.le_refl _, hd H p⟩
end Pr
namespace Pr
open PySem PySem.Spec PyProof.Rows L2 Gd
theorem tyR {K : PySem.W.Frag} {H : Hp} {a : Addr} {xs : List V} (h : Rd H a (.tup xs)) : TyX K H (.ref a) (.type "tuple") := by
  rcases h with h | ⟨o, h⟩
  · exact .base (.tup h)
  · exact .fTuple h
theorem Rd.same {H H' : Hp} {a : Addr} {u : HO} (h : Rd H a u) (s : Same H H') : Rd H' a u := by
  rcases h with h | ⟨o, h⟩
  · exact .inl (s _ _ h)
  · exact .inr ⟨o, s _ _ h⟩
theorem TXr {H : Hp} {a : Addr} {xs : List V} (h : Tx.TX H a xs) : Rd H a (.tup xs) := let ⟨o, e, _⟩ := h; .inr ⟨o, e⟩
end Pr
namespace Pr
open PySem PySem.Spec PyProof.Rows L2 Gd
/-! ### is_whole -/
/-- the arity of a word that is one -/
def arity (l : List (Str × Nat)) : V → Option Int
  | .str z => (match valV (dkv l) (.inr z : Key) with
    | some (.int a) => some a
    | _ => none)
  | _ => none
/-- whether xs are n trees, one behind the other -/
def wgo (l : List (Str × Nat)) : Int → List V → Bool
  | n, [] => decide (n = 0)
  | n, x :: xs => if n = 0 then false else match arity l x with
    | some a => wgo l (n + (a - 1)) xs
    | none => false
theorem wgo_zero {l : List (Str × Nat)} {n : Int} {x : V} {xs : List V} (h : n = 0) : wgo l n (x :: xs) = false := if_pos h
theorem wgo_none {l : List (Str × Nat)} {n : Int} {x : V} {xs : List V} (h : arity l x = none) : wgo l n (x :: xs) = false := by
  show (if n = 0 then false else match arity l x with | some a => wgo l (n + (a - 1)) xs | none => false) = false
  rw [h]
  exact ite_self _
theorem wgo_some {l : List (Str × Nat)} {n a : Int} {x : V} {xs : List V} (h0 : n ≠ 0) (h : arity l x = some a) : wgo l n (x :: xs) = wgo l (n + (a - 1)) xs := by
  show (if n = 0 then false else match arity l x with | some a => wgo l (n + (a - 1)) xs | none => false) = _
  rw [if_neg h0, h]
theorem val_int {z : Str} {v : V} : ∀ {l : List (Str × Nat)}, valV (dkv l) (.inr z : Key) = some v → ∃ a, v = .int a
  | [], h => nomatch h
  | p :: l, h => by
    have h' : valV ((.inr p.1, .int (p.2 : Int)) :: dkv l) (.inr z : Key) = some v := h
    by_cases e : (.inr p.1 : Key) = .inr z
    · rw [valV_pos e] at h'
      exact ⟨_, (Option.some.inj h').symm⟩
    · rw [valV_neg e] at h'
      exact val_int h'
def spWhole : Sp := fun vs H Q _ => ∃ (t a : Addr) (xs : List V) (l : List (Str × Nat)), vs = [.ref t, .ref a] ∧ Rd H t (.tup xs) ∧ (∀ x ∈ xs, ∃ ty, Kd H x ty) ∧ H a = some (.dK (dkv l)) ∧ Q (.bl (wgo l 1 xs)) H
section
variable {P : Program} {w : World} {K : PySem.W.Frag} {mg : Str → Option Value} {base : Heap}
theorem scWhole : FnScope ["words", "arities", "awaited", "word"] ["words", "arities"] (defScope sWhole) := ⟨rfl, rfl, rfl, by decide +kernel, rfl, by decide +kernel, by decide +kernel⟩
theorem ok_whole {f : Addr} {fd : FuncData} (F : Fun K "is_whole" "is_whole" sWhole f fd) (T : Free mg) : FnOk P w K mg base CX0 1 f fd ["words", "arities"] spWhole := by
  refine F.ok scWhole (fun vs H Q E h => ?_) (fun cdv A outer s H vs Q E hr h => ?_)
  · obtain ⟨t, a, xs, l, rfl, _⟩ := h
    rfl
  · obtain ⟨t, a, xs, l, rfl, ht, all, ha, q⟩ := h
    have hu := hr.units
    have hu1 : ∀ {u : Nat}, u + 64 < cLine → u + 1 < cLine := fun h => by omega
    refine ⟨_, pss_cons (ps_set (i := 2) scWhole.nd rfl (.inl rfl) pe_int) (pss_cons (ps_for PassesOwn.never rfl (pi_tup (pv 0)) (pg_name (i := 3) scWhole.nd rfl (.inl rfl)) (pss_cons (ps_if (PW.pt (pw_or (pt_cmpR op_eq (pv 2) pe_int (nomark _)) (pw_or (pt_not (pt_val (pe_callB call_isi (by rfl) T.isi (by decide +kernel) (pa_cons (pv 3) (pa_cons (pe_bltn (v := .ty "str") (by rfl) T.str (by decide +kernel) rfl) pa_nil))))) (pw_or1 (pt_cmp (pc_dnotin (hu1 hu) (pv 3) (pv 1))))))) (pss_one (ps_ret pe_bl)) pss_nil) (pss_one (ps_aug (i := 2) scWhole.nd rfl (.inl rfl) (pe_op op_sub (pe_dget (hu1 hu) (pv 1) (pv 3) (fun _ _ => rfl)) pe_int) ip_add)))) (pss_one (ps_ret (pe_cmpR op_eq (pv 2) pe_int (nomark _))))), ?_⟩
    refine ⟨_, rfl, t, rfl, ⟨_, Or.inl ht⟩, ?_⟩
    refine for_tup (K := K) (a := t) (xs := xs) (fun i σ H' => H' = H ∧ ∃ (n : Int) (v3 : Option V), σ = [some (.ref t), some (.ref a), some (.int n), v3] ∧ wgo l 1 xs = wgo l n (xs.drop i))
      ⟨rfl, 1, none, rfl, rfl⟩ (fun i σ H' _ ⟨e, _⟩ => by rw [e]; exact Or.inl ht) ?_ ?_
    · rintro i x σ H' hx ⟨rfl, n, v3, rfl, hw⟩
      have hd : xs.drop i = x :: xs.drop (i + 1) := by
        obtain ⟨hi, e⟩ := List.getElem?_eq_some_iff.mp hx
        rw [← e]
        exact List.drop_eq_getElem_cons hi
      obtain ⟨ty, kd⟩ := all x (List.mem_of_getElem? hx)
      rw [hd] at hw
      refine ⟨_, rfl, rfl, _, rfl, ?_⟩
      by_cases c : n = 0
      · refine if_true_of (decide_eq_true (by rw [c])) ?_
        rw [hw, wgo_zero c] at q
        exact q
      · refine if_false_of (decide_eq_false fun z => c (V.int.inj z)) ⟨_, rfl, x, _, _, _, _, rfl, .ty "str", kd.ty, kit_str kd, _, rfl, ?_⟩
        cases kd with
        | str z =>
          refine if_false_of rfl ⟨_, rfl, _, rfl, a, _, rfl, DGet.k (k := .inr z) ha, _, rfl, ?_⟩
          cases e : valV (dkv l) (.inr z : Key) with
          | none =>
            refine if_true_of rfl ?_
            have an : arity l (.str z) = none := by
              show (match valV (dkv l) (.inr z : Key) with | some (.int a) => some a | _ => none) = none
              rw [e]
            rw [hw, wgo_none an] at q
            exact q
          | some v =>
            obtain ⟨a1, rfl⟩ := val_int e
            have an : arity l (.str z) = some a1 := by
              show (match valV (dkv l) (.inr z : Key) with | some (.int a) => some a | _ => none) = some a1
              rw [e]
            refine if_false_of rfl ⟨_, rfl, _, rfl, _, rfl, a, _, rfl, e ▸ DGet.k (k := .inr z) ha, _, _, rfl, rfl, _, _, rfl, rfl, rfl, _, _, rfl, ?_⟩
            rw [hw, wgo_some c an]
        | _ =>
          refine if_true_of rfl ?_
          rw [hw, wgo_none rfl] at q
          exact q
    · rintro σ H' ⟨rfl, n, v3, rfl, hw⟩
      rw [List.drop_of_length_le (Nat.le_refl _)] at hw
      refine ⟨_, rfl, rfl, ?_⟩
      have e : decide (V.int n = V.int 0) = wgo l 1 xs := by
        rw [hw]
        show _ = decide (n = 0)
        rw [dec_int]
        by_cases c : n = 0 <;> simp [c]
      rw [e]
      exact q
end
end Pr

namespace Pr
open PySem PySem.Spec PyProof.Rows L2 Gd
/-! ### operators that are let -/
structure OpsOk (l : List (Str × Nat)) : Prop where
  few : 1 ≤ l.length ∧ l.length ≤ 8
  nd : (l.map (·.1)).Nodup
  name : ∀ p ∈ l, azB p.1 = true
  two : ∀ p ∈ l, p.2 ≤ 2
theorem Ars.ok {l : List (Str × Nat)} (h : Ars l) : OpsOk l := by
  refine ⟨by have := h.few; omega, h.nd, fun p m => ?_, h.two⟩
  have t : ∀ z ∈ Pr.pool, azB z = true := by decide +kernel
  exact t _ (h.pool p m)
theorem val_at {l : List (Str × Nat)} {i : Nat} {k : Key} {v : V} (h : (dkv l)[i]? = some (k, v)) : ∃ p, l[i]? = some p ∧ k = .inr p.1 ∧ v = .int (p.2 : Int) := by
  unfold dkv at h
  rw [List.getElem?_map] at h
  cases e : l[i]? with
  | none => rw [e] at h; cases h
  | some p =>
    rw [e] at h
    cases (Option.some.inj h)
    exact ⟨p, rfl, rfl, rfl⟩
theorem isInt_small {n : Nat} (h : n ≤ 2) : isIntO (.int (n : Int)) = true := by
  rw [isIntO_eq]
  show decide ((if (n : Int) < 0 then -(n : Int) else n) < 10 ^ (60 : Int).toNat) = true
  have e : ((10 : Int) ^ (60 : Int).toNat) = ((10 ^ 60 : Nat) : Int) := by decide +kernel
  rw [if_neg (by omega), e, decide_eq_true (by omega)]
def spAre : Sp := fun vs H Q _ => ∃ (a : Addr) (l : List (Str × Nat)), vs = [.ref a] ∧ H a = some (.dK (dkv l)) ∧ OpsOk l ∧ ∀ H', Same H H' → Q (.bl true) H'
section
variable {P : Program} {w : World} {K : PySem.W.Frag} {mg : Str → Option Value} {base : Heap} {fI fN : Addr} {dI dN : FuncData} {tk tk2 : Tok}
theorem scAre : FnScope ["value", "name"] ["value"] (defScope sAre) := ⟨rfl, rfl, rfl, by decide +kernel, rfl, by decide +kernel, by decide +kernel⟩
theorem ok_are {f : Addr} {fd : FuncData} (F : Fun K "are_arities" "are_arities" sAre f fd) (T : Free mg) (gm : mg "MAX_LETTERS" = some (.int 8 tk)) (gm2 : mg "MAX_OPERATORS" = some (.int 8 tk2)) (FN : Fun K "is_name" "is_name" sName fN dN) (bN : Binds K dN ["value"] []) (gN : mg "is_name" = some (.ref fN))
    (FI : Fun K "is_integer" "is_integer" sInteger fI dI) (bI : Binds K dI ["value"] []) (gI : mg "is_integer" = some (.ref fI)) : FnOk P w K mg base CX0 2 f fd ["value"] spAre := by
  have GN : FnOk P w K mg base CX0 1 fN dN ["value"] spName := ok_name FN T gm
  have GI : FnOk P w K mg base CX0 1 fI dI ["value"] spIntO := ok_integerO FI T
  refine F.ok scAre (fun vs H Q E h => ?_) (fun cdv A outer s H vs Q E hr h => ?_)
  · obtain ⟨a, l, rfl, _⟩ := h
    rfl
  · obtain ⟨a, l, rfl, ha, ok, q⟩ := h
    have hu := hr.units
    have hu1 : ∀ {u : Nat}, u + 64 < cLine → u + 1 < cLine := fun h => by omega
    refine ⟨_, pss_cons (ps_if (PW.pt (pw_or (pt_not (pt_val (pe_callB call_isi (by rfl) T.isi (by decide +kernel) (pa_cons (pv 0) (pa_cons (pe_bltn (v := .ty "dict") (by rfl) T.dict (by decide +kernel) rfl) pa_nil))))) (pw_or1 (pt_not (pt_chain op_le op_le pe_int (pe_callB call_lenD (by rfl) T.len PySem.boot_len (pa_cons (pv 0) pa_nil)) (pe_glob (v := .int 8) (by rfl) gm2 ⟨_, rfl⟩)))))) (pss_one (ps_ret pe_bl)) pss_nil) (pss_one (ps_ret (pe_callB (cr_all rfl) (by rfl) T.all (by decide +kernel) (pa_cons (pe_lock (pe_lc (own := [("name", 1)]) (g := gName 1) (by rfl) scAre.nd (pi_keys (pv 0)) (blkOk_by (own := [("name", 1)]) (N := ["value", "name"]) (sc := defScope sAre) (by decide +kernel)) (fun _ _ _ _ _ => pg_name (i := 1) scAre.nd rfl (Or.inl rfl)) (fun _ _ _ _ _ => pts_nil) (fun _ _ _ _ _ => pe_and (pe_call GN hr (by rfl) gN FN.kp bN .nil pass0 (pa_cons (pv 1) pa_nil)) (pe_and (pe_call GI hr (by rfl) gI FI.kp bI .nil pass0 (pa_cons (pe_dget (hu1 hu) (pv 0) (pv 1) (fun _ _ => rfl)) pa_nil)) (pe_one (pe_chain op_le op_le pe_int (pe_dget (hu1 hu) (pv 0) (pv 1) (fun _ _ => rfl)) pe_int)))))) pa_nil)))), ?_⟩
    have few := ok.few
    have ln : (dkv l).length = l.length := List.length_map _
    refine ⟨_, rfl, .ref a, _, _, _, true, rfl, .ty "dict", (Kd.dK ha).ty, kit_ty (r := true) (by decide +kernel), _, rfl, iteF ⟨_, rfl, a, _, rfl, ha, _, _, rfl, rfl, _, rfl, ?_⟩⟩
    refine if_true_of (decide_eq_true (by rw [ln]; omega)) ⟨_, _, rfl, rfl, _, rfl, ?_⟩
    have e8 : decide (((dkv l).length : Int) ≤ 8) = true := decide_eq_true (by rw [ln]; omega)
    rw [e8]
    refine if_false_of rfl ?_
    refine ⟨a, _, ha, trivial, fun od => ⟨_, rfl, a, od, rfl, .inl ⟨dkv l, upd_same, fun D nD => ?_⟩⟩⟩
    have aD : a ≠ D := ne_of_none upd_same nD
    have nHD : H D = none := by
      rw [upd_ne aD.symm] at nD
      exact nD
    refine lc_it walk_keys (fun i G => G D = some (.lst ((l.take i).map fun _ => V.bl true)) ∧ G a = some (.frz od (.dK (dkv l))) ∧ ∀ b u, b ≠ a → H b = some u → G b = some u) ⟨upd_same, by rw [upd_ne aD, upd_same], fun b u nb e => by rw [upd_ne (ne_of_none e nHD), upd_ne nb]; exact e⟩
      (fun i G _ ⟨_, h, _⟩ => h) ?_ ?_
    · rintro i x G G' hi ⟨eD, eA, sm⟩ ⟨rfl, k, v, hk, rfl⟩
      obtain ⟨p, hp, rfl, rfl⟩ := val_at hk
      have mp := List.mem_of_getElem? hp
      have vz := val_some ok.nd (show (p.1, p.2) ∈ l from mp)
      have dg : DGet G' a (kV (.inr p.1 : Key)) (some (.int (p.2 : Int))) := vz ▸ (.inl ⟨dkv l, .inr p.1, .inr ⟨od, eA⟩, rfl, rfl⟩)
      have two := ok.two p mp
      have nm : nameB (.str p.1) = true := ok.name p mp
      have z8 : p.1.length ≤ 1000000 := by
        have h := ok.name p mp
        have h2 : (decide (1 ≤ p.1.length) && decide (p.1.length ≤ 8) && p.1.cps.toList.all azC) = true := h
        simp only [Bool.and_eq_true, decide_eq_true_eq] at h2
        omega
      have isi := isInt_small two
      have e2 : decide ((p.2 : Int) ≤ 2) = true := decide_eq_true (by omega)
      refine ⟨rfl, _, rfl, .str p.1, "str", rfl, .str p.1, fun z e => by cases e; exact z8, _, rfl, if_true_of nm ⟨_, rfl, _, rfl, a, _, rfl, dg, .int (p.2 : Int), "int", rfl, .int _, _, rfl, if_true_of isi ⟨_, rfl, _, rfl, a, _, rfl, dg, _, _, rfl, rfl, _, rfl, if_true_of (decide_eq_true (by omega)) ⟨_, _, rfl, rfl, ?_⟩⟩⟩⟩
      refine ⟨_, eD, ?_, ?_, by rw [upd_ne aD]; exact eA, fun b u nb e => by rw [upd_ne (ne_of_none e nHD)]; exact sm b u nb e⟩
      · have := (List.getElem?_eq_some_iff.mp hp).1
        rw [List.length_map, List.length_take, sizeLine_eq]
        omega
      · rw [upd_same, List.take_add_one, hp, List.map_append]
        show some (HO.lst (_ ++ [V.bl (decide ((p.2 : Int) ≤ 2))])) = _
        rw [e2]
        rfl
    · rintro G ⟨eD, eA, sm⟩
      refine ⟨eA, D, l.map fun _ => true, rfl, SqL.of ?_, ?_⟩
      · rw [upd_ne aD.symm, eD, ln, List.take_of_length_le (Nat.le_refl _), List.map_map]
        rfl
      · have e : (l.map fun _ => true).all id = true := by simp
        rw [e]
        refine q _ fun b u hb => ?_
        by_cases c : b = a
        · rw [c] at hb ⊢
          rw [upd_same, ← ha, hb]
        · rw [upd_ne c]
          exact sm b u c hb
end
end Pr

namespace Pr
open PySem PySem.Spec PyProof.Rows L2 Gd
/-! ### Operators(arities) -/
/-- what is known of the class -/
structure OpF (K : PySem.W.Frag) (C : Addr) : Prop where
  cls : Cls K C
  n1 : NoAttr K C "_names"
  n2 : NoAttr K C "_arities"
  n3 : NoAttr K C "_lines"
  n4 : NoAttr K C "_many"
  n5 : NoAttr K C "_counts"
  n6 : NoAttr K C "_rows"
theorem _root_.Tx.TX.upd {H : Hp} {a x : Addr} {xs : List V} {o : HO} (h : Tx.TX H a xs) (n : a ≠ x) : Tx.TX (L2.upd H x o) a xs := let ⟨ob, e, d⟩ := h; ⟨ob, (upd_ne n).trans e, d⟩
theorem Rd.same8 {H H' : Hp} {a : Addr} {u : HO} (h : Rd H a u) (s : Same H H') : Rd H' a u := by
  rcases h with h | ⟨o, h⟩
  · exact .inl (s _ _ h)
  · exact .inr ⟨o, s _ _ h⟩
/-- operators over l at o -/
structure OpsAt (H : Hp) (C o : Addr) (l : List (Str × Nat)) : Prop where
  ex : ∃ (dx tn ta : Addr) (tl : Addr × Addr × Addr × Addr), H o = some (.ins C dx [("_names", .ref tn), ("_arities", .ref ta), ("_lines", .ref tl.1), ("_many", .ref tl.2.1), ("_counts", .ref tl.2.2.1), ("_rows", .ref tl.2.2.2)]) ∧ Rd H tn (.tup (l.map fun p => V.str p.1)) ∧ H ta = some (.dK (dkv l))
theorem OpsAt.same {H H' : Hp} {C o : Addr} {l : List (Str × Nat)} (h : OpsAt H C o l) (s : Same H H') : OpsAt H' C o l :=
  let ⟨dx, tn, ta, tl, a, b, c⟩ := h.ex
  ⟨dx, tn, ta, tl, s _ _ a, Rd.same8 b s, s _ _ c⟩
abbrev t_line : TE := fun σ H Q => tJs [tC (V.str "op "), tFmt (tVar 2), tC (V.str " "), tFmt (tDGet (tVar 1) (tVar 2))] Str.empty σ H fun out H1 => Q (V.str out) H1
/-- a statement that isn't met -/
def tNever : TS := fun _ _ _ => False
theorem ps_never {X : Cx} {st : Stmt} : PS X st tNever := ⟨fun _ _ _ _ _ _ h => False.elim h⟩
/-- all that new operators hold -/
structure OpsX (H0 H : Hp) (C o : Addr) (l l' : List (Str × Nat)) : Prop where
  ex : ∃ dx t D t2 m c r : Addr, H o = some (.ins C dx [("_names", .ref t), ("_arities", .ref D), ("_lines", .ref t2), ("_many", .ref m), ("_counts", .ref c), ("_rows", .ref r)]) ∧ Tx.TX H t (l'.map fun p => V.str p.1) ∧ H D = some (.dK (dkv l')) ∧
    H m = some (.tup [.int ((l.map fun p => (p.2 : Int)).count 0 : Nat), .int ((l.map fun p => (p.2 : Int)).count 1 : Nat), .int ((l.map fun p => (p.2 : Int)).count 2 : Nat)]) ∧ H c = some (.lst [.int 0, .int ((l.map fun p => (p.2 : Int)).count 0 : Nat)]) ∧ H r = some (.lst []) ∧ H0 c = none ∧ H0 r = none ∧ c ≠ r
theorem OpsX.ops {H0 H : Hp} {C o : Addr} {l l' : List (Str × Nat)} (h : OpsX H0 H C o l l') : OpsAt H C o l' :=
  let ⟨dx, t, D, t2, m, c, r, a, b, d, _⟩ := h.ex
  ⟨dx, t, D, (t2, m, c, r), a, .inr (Tx.TX.there b), d⟩
theorem Kp.back {d a : Addr} {H H' : Hp} (k : Kp d H H') (ne : a ≠ d) (h : H' a = none) : H a = none := by
  cases e : H a with
  | none => rfl
  | some u =>
    rw [k _ _ ne e] at h
    cases h
def spInit (C : Addr) : Sp := fun vs H Q _ => ∃ (x dx a : Addr) (l : List (Str × Nat)), vs = [.ref x, .ref a] ∧ H x = some (.ins C dx []) ∧ H a = some (.dK (dkv l)) ∧ OpsOk l ∧
  ∀ (l' : List (Str × Nat)) (H' : Hp), l'.Perm l → sortedS (l'.map (·.1)) = true → Kp x H H' → OpsX H H' C x l l' → Q .non H'
section
variable {P : Program} {w : World} {K : PySem.W.Frag} {mg : Str → Option Value} {base : Heap} {C fA : Addr} {dA : FuncData}
theorem scInit : FnScope ["self", "arities", "name", "told"] ["self", "arities"] (defScope mInit) := ⟨rfl, rfl, rfl, by decide +kernel, rfl, by decide +kernel, by decide +kernel⟩
theorem ok_init {f : Addr} {fd : FuncData} (F : Fun K "__init__" "Operators.__init__" mInit f fd) (T : Free mg) (CF : OpF K C) (GA : FnOk P w K mg base CX0 2 fA dA ["value"] spAre) (FA : Fun K "are_arities" "are_arities" sAre fA dA) (bA : Binds K dA ["value"] []) (gA : mg "are_arities" = some (.ref fA)) :
    FnOk P w K mg base CX0 3 f fd ["self", "arities"] (spInit C) := by
  refine F.ok scInit (fun vs H Q E h => ?_) (fun cdv A outer s H vs Q E hr h => ?_)
  · obtain ⟨x, dx, a, l, rfl, _⟩ := h
    rfl
  · obtain ⟨x, dx, a, l, rfl, hx, ha, ok, q0⟩ := h
    have hu := hr.units
    have hu1 : ∀ {u : Nat}, u + 64 < cLine → u + 1 < cLine := fun h => by omega
    refine ⟨_, pss_cons (ps_if (pt_not (pt_val (pe_call GA hr (by rfl) gA FA.kp bA .nil pass0 (pa_cons (pv 1) pa_nil)))) (pss_one ps_never) pss_nil) (pss_cons (ps_fld (pv 0) (pe_callTy Tx.call_tupX (by rfl) T.tuple (by decide +kernel) (pa_cons (pe_callB (call_sortedD (by rfl)) (by rfl) T.sorted (by decide +kernel) (pa_cons (pv 1) pa_nil)) pa_nil)) rfl) (pss_cons (ps_fld (pv 0) (pe_dc (own := [("name", 2)]) (g := gName 2) (by rfl) scInit.nd (pi_tup (pe_fld (pv 0) rfl)) (blkOk_by (own := [("name", 2)]) (N := ["self", "arities", "name", "told"]) (sc := defScope mInit) (by decide +kernel)) (fun _ _ _ _ _ => pg_name (i := 2) scInit.nd rfl (Or.inl rfl)) (fun _ _ _ _ _ => pts_nil) (fun _ _ _ _ _ => pv 2) (fun _ _ _ _ _ => pe_dget (hu1 hu) (pv 1) (pv 2) (fun _ _ => rfl))) rfl) (pss_cons (ps_fld (pv 0) (pe_callTy call_tuple_of (by rfl) T.tuple (by decide +kernel) (pa_cons (pe_lc (own := [("name", 2)]) (g := gName 2) (by rfl) scInit.nd (pi_tup (pe_fld (pv 0) rfl)) (blkOk_by (own := [("name", 2)]) (N := ["self", "arities", "name", "told"]) (sc := defScope mInit) (by decide +kernel)) (fun _ _ _ _ _ => pg_name (i := 2) scInit.nd rfl (Or.inl rfl)) (fun _ _ _ _ _ => pts_nil) (fun _ _ _ _ _ => pe_joined (.cons pe_str (.cons (pe_fmt (pv 2)) (.cons pe_str (.cons (pe_fmt (pe_dget (hu1 hu) (pv 1) (pv 2) (fun _ _ => rfl))) .nil)))))) pa_nil)) rfl) (pss_cons (ps_set (i := 3) scInit.nd rfl (.inl rfl) (Lv.pe_listVals rfl (pv 1) (by rfl) T.list (by decide +kernel))) (pss_cons (ps_fld (pv 0) (pe_tup (pa_cons (pe_bm PySem.F.plainAttrs_list PySem.F.slot_list_count PySem.F.type_list_count mt_lcount (pv 3) (pa_cons pe_int pa_nil)) (pa_cons (pe_bm PySem.F.plainAttrs_list PySem.F.slot_list_count PySem.F.type_list_count mt_lcount (pv 3) (pa_cons pe_int pa_nil)) (pa_cons (pe_bm PySem.F.plainAttrs_list PySem.F.slot_list_count PySem.F.type_list_count mt_lcount (pv 3) (pa_cons pe_int pa_nil)) pa_nil)))) rfl) (pss_cons (ps_fld (pv 0) (pe_lst (pa_cons pe_int (pa_cons (pe_ix ix_tup (pe_fld (pv 0) rfl) pe_int (fun _ _ => rfl)) pa_nil))) rfl) (pss_one (ps_fld (pv 0) (pe_lst pa_nil) rfl)))))))), ?_⟩
    have few := ok.few
    have xa : x ≠ a := fun e => by
      rw [e, ha] at hx
      cases hx
    refine ⟨_, rfl, a, l, rfl, ha, ok, fun H1 s1 => ⟨_, rfl, if_false_of rfl ?_⟩⟩
    refine ⟨_, rfl, a, dkv l, l.map (·.1), rfl, Rd.of (s1 _ _ ha), by unfold dkv; rw [List.map_map, List.map_map]; rfl, by rw [List.length_map]; omega, fun ks ns pk srt nns => ?_⟩
    obtain ⟨l', pl, rfl⟩ := perm_map pk
    refine ⟨ns, _, rfl, SqL.of upd_same, fun t H2 nt sT ht2 => ?_⟩
    have s2 := (s1.trans (Same.new nns (o := .lst ((l'.map (·.1)).map V.str)))).trans sT
    have hx2 := s2 _ _ hx
    have xt : x ≠ t := fun e => by
      obtain ⟨ob, h, _⟩ := ht2
      rw [← e, hx2] at h
      cases h
    refine ⟨_, rfl, x, C, dx, [], rfl, hx2, CF.cls, CF.n1, by decide, ?_⟩
    have k3 : Kp x H (upd H2 x (.ins C dx (putF "_names" (.ref t) []))) := (Kp.same s2).trans Kp.upd
    have hx3 : (upd H2 x (.ins C dx (putF "_names" (.ref t) []))) x = some (.ins C dx [("_names", .ref t)]) := upd_same
    have ht3 : Tx.TX (upd H2 x (.ins C dx (putF "_names" (.ref t) []))) t ((l'.map (·.1)).map V.str) := ht2.upd xt.symm
    have ha3 := k3 a _ xa.symm ha
    have ndl : (l'.map (·.1)).Nodup := (pl.map _).nodup_iff.mpr ok.nd
    have mem : ∀ {i : Nat} {v : V}, ((l'.map (·.1)).map V.str)[i]? = some v → ∃ p, l'[i]? = some p ∧ v = .str p.1 ∧ valV (dkv l) (.inr p.1 : Key) = some (.int (p.2 : Int)) ∧ p.2 ≤ 2 ∧ azB p.1 = true := fun {i v} h => by
      rw [List.map_map, List.getElem?_map] at h
      cases e : l'[i]? with
      | none => rw [e] at h; cases h
      | some p =>
        rw [e] at h
        have mp : p ∈ l := pl.mem_iff.mp (List.mem_of_getElem? e)
        exact ⟨p, rfl, (Option.some.inj h).symm, val_some ok.nd mp, ok.two p mp, ok.name p mp⟩
    have ll : l'.length ≤ 8 := by
      rw [pl.length_eq]
      omega
    generalize upd H2 x (.ins C dx (putF "_names" (.ref t) [])) = H3 at k3 hx3 ht3 ha3 ⊢
    -- _arities
    refine ⟨_, rfl, x, C, dx, _, _, rfl, hx3, CF.cls, CF.n1, rfl, t, rfl, ⟨_, ht3.sq⟩, fun D nD => ?_⟩
    refine dc_tup (K := K) (a := t) (xs := (l'.map (·.1)).map V.str) (fun i G => G D = some (.dK (dkv (l'.take i))) ∧ Same H3 G) ⟨upd_same, Same.new nD⟩ (fun i G _ ⟨_, s⟩ => (ht3.same s).sq) ?_ ?_
    · rintro i v G hv ⟨eD, s⟩
      obtain ⟨p, hp, rfl, vz, two, _⟩ := mem hv
      have nz : p.1 ∉ (l'.take i).map (·.1) := fun m => by
        obtain ⟨j, hj, e⟩ := List.mem_iff_getElem.mp m
        rw [List.length_map, List.length_take] at hj
        obtain ⟨hi, ep⟩ := List.getElem?_eq_some_iff.mp hp
        have e2 : (l'.map (·.1))[j]'(by rw [List.length_map]; omega) = (l'.map (·.1))[i]'(by rw [List.length_map]; omega) := by
          rw [List.getElem_map, List.getElem_map, ep, ← e, List.getElem_map, List.getElem_take]
        have := (List.getElem_inj ndl).mp e2
        omega
      refine ⟨rfl, _, rfl, _, rfl, _, rfl, a, _, rfl, vz ▸ DGet.k (k := .inr p.1) (s _ _ ha3), dkv (l'.take i), .inr p.1, rfl, eD, ?_, ?_, fun b o q => by rw [upd_ne (ne_of_none q nD)]; exact s b o q⟩
      · have e : (dkv (l'.take i)).length = (l'.take i).length := List.length_map _
        rw [e, List.length_take, sizeLine_eq]
        omega
      · rw [upd_same, put_end nz, List.take_add_one, hp]
        rfl
    rintro G ⟨eD, s3⟩
    have eD : G D = some (.dK (dkv l')) := by
      have t0 := List.take_of_length_le (l := l') (i := ((l'.map (·.1)).map V.str).length) (by rw [List.length_map, List.length_map]; exact Nat.le_refl _)
      rw [t0] at eD
      exact eD
    refine ⟨_, rfl, x, C, dx, _, rfl, s3 _ _ hx3, CF.cls, CF.n2, Nat.le_of_ble_eq_true rfl, ?_⟩
    have xD : x ≠ D := ne_of_none hx3 nD
    have k4 : Kp x H (upd G x (.ins C dx (putF "_arities" (.ref D) [("_names", .ref t)]))) := (k3.trans (Kp.same s3)).trans Kp.upd
    have hx4 : (upd G x (.ins C dx (putF "_arities" (.ref D) [("_names", .ref t)]))) x = some (.ins C dx [("_names", .ref t), ("_arities", .ref D)]) := upd_same
    have ht4 : Tx.TX (upd G x (.ins C dx (putF "_arities" (.ref D) [("_names", .ref t)]))) t ((l'.map (·.1)).map V.str) := (ht3.same s3).upd xt.symm
    have hD4 : (upd G x (.ins C dx (putF "_arities" (.ref D) [("_names", .ref t)]))) D = some (.dK (dkv l')) := by rw [upd_ne xD.symm]; exact eD
    have ha4 := k4 a _ xa.symm ha
    generalize upd G x (.ins C dx (putF "_arities" (.ref D) [("_names", .ref t)])) = H4 at k4 hx4 ht4 hD4 ha4 ⊢
    -- _lines
    refine ⟨_, rfl, x, C, dx, _, _, rfl, hx4, CF.cls, CF.n1, rfl, t, rfl, ⟨_, ht4.sq⟩, fun D2 nD2 => ?_⟩
    refine lc_tup (K := K) (a := t) (xs := (l'.map (·.1)).map V.str) (tt := tYes) (g := gName 2) (te := t_line) (vs := [2]) (fun i G => ∃ ss : List V, G D2 = some (.lst ss) ∧ ss.length = i ∧ Same H4 G) ⟨[], upd_same, rfl, Same.new nD2⟩ (fun i G _ ⟨_, _, _, s⟩ => (ht4.same s).sq) ?_ ?_
    · rintro i v G2 hv ⟨ss, e2, ls, s⟩
      obtain ⟨p, hp, rfl, vz, two, az⟩ := mem hv
      have z8 : p.1.length ≤ 8 := by
        have h2 : (decide (1 ≤ p.1.length) && decide (p.1.length ≤ 8) && p.1.cps.toList.all azC) = true := az
        simp only [Bool.and_eq_true, decide_eq_true_eq] at h2
        omega
      have lg : ((p.2 : Int)).natAbs.log2 < 1920 := Nat.lt_of_le_of_lt (Nat.log2_le_self _) (by omega)
      have tl : (((toString (p.2 : Int) : String) : Str)).length ≤ 1921 := PyProof.Rows.int_text_len_1921 lg
      have il : i < 8 := by
        have := (List.getElem?_eq_some_iff.mp hp).1
        omega
      have n1 : (Str.empty ++ ("op " : Str)).length = 3 := rfl
      refine ⟨rfl, _, rfl, by rw [n1, sizeLine_eq]; decide, _, rfl, .inl ⟨p.1, rfl, by rw [sizeLine_eq]; omega, _, rfl, by rw [strLen_append, n1, sizeLine_eq]; omega, _, rfl, ?_, _, rfl, _, rfl, a, _, rfl, vz ▸ DGet.k (k := .inr p.1) (s _ _ ha4), .inr ⟨_, rfl, lg, _, rfl, ?_, ss, e2, by rw [sizeLine_eq]; omega, ss ++ [_], upd_same, by rw [List.length_append, ls]; rfl, fun b o q => by rw [upd_ne (ne_of_none q nD2)]; exact s b o q⟩⟩⟩
      · rw [strLen_append, strLen_append, n1, sizeLine_eq, show (" " : Str).length = 1 from rfl]
        omega
      · rw [strLen_append, strLen_append, strLen_append, n1, sizeLine_eq, show (" " : Str).length = 1 from rfl]
        have tl' : ((Str.ofString (toString (p.2 : Int)))).length ≤ 1921 := tl
        omega
    · rintro G2 ⟨ss, e2, ls, s⟩
      refine ⟨D2, ss, rfl, .inl ⟨SqL.of e2, fun t2 nt2 => ⟨_, rfl, x, C, dx, _, rfl, (Same.new nt2) _ _ (s _ _ hx4), CF.cls, CF.n3, Nat.le_of_ble_eq_true rfl, ?_⟩⟩⟩
      have s5 := s.trans (Same.new nt2 (o := .tup ss))
      have xt2 : x ≠ t2 := ne_of_none (s _ _ hx4) nt2
      have xa4 : a ≠ x := xa.symm
      have k5 : Kp x H (upd (upd G2 t2 (.tup ss)) x (.ins C dx (putF "_lines" (.ref t2) [("_names", .ref t), ("_arities", .ref D)]))) := (k4.trans (Kp.same s5)).trans Kp.upd
      have hx5 : (upd (upd G2 t2 (.tup ss)) x (.ins C dx (putF "_lines" (.ref t2) [("_names", .ref t), ("_arities", .ref D)]))) x = some (.ins C dx [("_names", .ref t), ("_arities", .ref D), ("_lines", .ref t2)]) := upd_same
      have ht5 : Tx.TX (upd (upd G2 t2 (.tup ss)) x (.ins C dx (putF "_lines" (.ref t2) [("_names", .ref t), ("_arities", .ref D)]))) t (l'.map fun p => V.str p.1) := by
        have z := (ht4.same s5).upd (o := (.ins C dx (putF "_lines" (.ref t2) [("_names", .ref t), ("_arities", .ref D)]))) xt.symm
        rw [List.map_map] at z
        exact z
      have hD5 : (upd (upd G2 t2 (.tup ss)) x (.ins C dx (putF "_lines" (.ref t2) [("_names", .ref t), ("_arities", .ref D)]))) D = some (.dK (dkv l')) := by
        rw [upd_ne xD.symm]
        exact s5 _ _ hD4
      generalize upd (upd G2 t2 (.tup ss)) x (.ins C dx (putF "_lines" (.ref t2) [("_names", .ref t), ("_arities", .ref D)])) = H5 at k5 hx5 ht5 hD5 ⊢
      have ha5 := k5 a _ xa4 ha
      -- told
      refine ⟨_, rfl, a, dkv l, rfl, ha5, fun q nq => ?_⟩
      have s6 := Same.new nq (o := .lst ((dkv l).map (·.2)))
      have xq : x ≠ q := ne_of_none hx5 nq
      have hq6 : (upd H5 q (.lst ((dkv l).map (·.2)))) q = some (.lst ((l.map fun p => (p.2 : Int)).map V.int)) := by
        rw [upd_same]
        unfold dkv
        rw [List.map_map, List.map_map]
        rfl
      generalize upd H5 q (.lst ((dkv l).map (·.2))) = H6 at s6 hq6 ⊢
      have hx6 := s6 _ _ hx5
      have ht6 := ht5.same s6
      have hD6 := s6 _ _ hD5
      have tyq : tyV K "list" (V.ref q) H6 := .inl ⟨rfl, _, SqL.of hq6⟩
      refine ⟨_, rfl, tyq, q, _, 0, rfl, rfl, SqL.of hq6, _, rfl, tyq, q, _, 1, rfl, rfl, SqL.of hq6, _, rfl, tyq, q, _, 2, rfl, rfl, SqL.of hq6, by show 3 ≤ sizeLine; decide, fun m nm => ?_⟩
      have s7 := Same.new nm (o := .tup [.int ((l.map fun p => (p.2 : Int)).count 0 : Nat), .int ((l.map fun p => (p.2 : Int)).count 1 : Nat), .int ((l.map fun p => (p.2 : Int)).count 2 : Nat)])
      have xm : x ≠ m := ne_of_none hx6 nm
      refine ⟨_, rfl, x, C, dx, _, rfl, s7 _ _ hx6, CF.cls, CF.n4, Nat.le_of_ble_eq_true rfl, ?_⟩
      have k7 : Kp x H (upd (upd H6 m (.tup [.int ((l.map fun p => (p.2 : Int)).count 0 : Nat), .int ((l.map fun p => (p.2 : Int)).count 1 : Nat), .int ((l.map fun p => (p.2 : Int)).count 2 : Nat)])) x (.ins C dx (putF "_many" (.ref m) [("_names", .ref t), ("_arities", .ref D), ("_lines", .ref t2)]))) := ((k5.trans (Kp.same s6)).trans (Kp.same s7)).trans Kp.upd
      have hx7 : (upd (upd H6 m (.tup [.int ((l.map fun p => (p.2 : Int)).count 0 : Nat), .int ((l.map fun p => (p.2 : Int)).count 1 : Nat), .int ((l.map fun p => (p.2 : Int)).count 2 : Nat)])) x (.ins C dx (putF "_many" (.ref m) [("_names", .ref t), ("_arities", .ref D), ("_lines", .ref t2)]))) x = some (.ins C dx [("_names", .ref t), ("_arities", .ref D), ("_lines", .ref t2), ("_many", .ref m)]) := upd_same
      have hm7 : (upd (upd H6 m (.tup [.int ((l.map fun p => (p.2 : Int)).count 0 : Nat), .int ((l.map fun p => (p.2 : Int)).count 1 : Nat), .int ((l.map fun p => (p.2 : Int)).count 2 : Nat)])) x (.ins C dx (putF "_many" (.ref m) [("_names", .ref t), ("_arities", .ref D), ("_lines", .ref t2)]))) m = some (.tup [.int ((l.map fun p => (p.2 : Int)).count 0 : Nat), .int ((l.map fun p => (p.2 : Int)).count 1 : Nat), .int ((l.map fun p => (p.2 : Int)).count 2 : Nat)]) := by rw [upd_ne xm.symm, upd_same]
      have ht7 : Tx.TX (upd (upd H6 m (.tup [.int ((l.map fun p => (p.2 : Int)).count 0 : Nat), .int ((l.map fun p => (p.2 : Int)).count 1 : Nat), .int ((l.map fun p => (p.2 : Int)).count 2 : Nat)])) x (.ins C dx (putF "_many" (.ref m) [("_names", .ref t), ("_arities", .ref D), ("_lines", .ref t2)]))) t (l'.map fun p => V.str p.1) := (ht6.same s7).upd xt.symm
      have hD7 : (upd (upd H6 m (.tup [.int ((l.map fun p => (p.2 : Int)).count 0 : Nat), .int ((l.map fun p => (p.2 : Int)).count 1 : Nat), .int ((l.map fun p => (p.2 : Int)).count 2 : Nat)])) x (.ins C dx (putF "_many" (.ref m) [("_names", .ref t), ("_arities", .ref D), ("_lines", .ref t2)]))) D = some (.dK (dkv l')) := by
        rw [upd_ne xD.symm]
        exact s7 _ _ hD6
      generalize upd (upd H6 m (.tup [.int ((l.map fun p => (p.2 : Int)).count 0 : Nat), .int ((l.map fun p => (p.2 : Int)).count 1 : Nat), .int ((l.map fun p => (p.2 : Int)).count 2 : Nat)])) x (.ins C dx (putF "_many" (.ref m) [("_names", .ref t), ("_arities", .ref D), ("_lines", .ref t2)])) = H7 at k7 hx7 hm7 ht7 hD7 ⊢
      -- _counts
      refine ⟨_, rfl, x, C, dx, _, _, rfl, hx7, CF.cls, CF.n4, rfl, m, _, _, _, rfl, rfl, SqT.of hm7, rfl, by show 2 ≤ sizeLine; decide, fun c nc => ?_⟩
      have xc : x ≠ c := ne_of_none hx7 nc
      have s8 := Same.new nc (o := .lst [.int 0, .int ((l.map fun p => (p.2 : Int)).count 0 : Nat)])
      refine ⟨_, rfl, x, C, dx, _, rfl, s8 _ _ hx7, CF.cls, CF.n5, Nat.le_of_ble_eq_true rfl, ?_⟩
      have k8 : Kp x H (upd (upd H7 c (.lst [.int 0, .int ((l.map fun p => (p.2 : Int)).count 0 : Nat)])) x (.ins C dx (putF "_counts" (.ref c) [("_names", .ref t), ("_arities", .ref D), ("_lines", .ref t2), ("_many", .ref m)]))) := (k7.trans (Kp.same s8)).trans Kp.upd
      have hx8 : (upd (upd H7 c (.lst [.int 0, .int ((l.map fun p => (p.2 : Int)).count 0 : Nat)])) x (.ins C dx (putF "_counts" (.ref c) [("_names", .ref t), ("_arities", .ref D), ("_lines", .ref t2), ("_many", .ref m)]))) x = some (.ins C dx [("_names", .ref t), ("_arities", .ref D), ("_lines", .ref t2), ("_many", .ref m), ("_counts", .ref c)]) := upd_same
      have ht8 : Tx.TX (upd (upd H7 c (.lst [.int 0, .int ((l.map fun p => (p.2 : Int)).count 0 : Nat)])) x (.ins C dx (putF "_counts" (.ref c) [("_names", .ref t), ("_arities", .ref D), ("_lines", .ref t2), ("_many", .ref m)]))) t (l'.map fun p => V.str p.1) := (ht7.same s8).upd xt.symm
      have hD8 : (upd (upd H7 c (.lst [.int 0, .int ((l.map fun p => (p.2 : Int)).count 0 : Nat)])) x (.ins C dx (putF "_counts" (.ref c) [("_names", .ref t), ("_arities", .ref D), ("_lines", .ref t2), ("_many", .ref m)]))) D = some (.dK (dkv l')) := by
        rw [upd_ne xD.symm]
        exact s8 _ _ hD7
      have hm8 : (upd (upd H7 c (.lst [.int 0, .int ((l.map fun p => (p.2 : Int)).count 0 : Nat)])) x (.ins C dx (putF "_counts" (.ref c) [("_names", .ref t), ("_arities", .ref D), ("_lines", .ref t2), ("_many", .ref m)]))) m = some (.tup [.int ((l.map fun p => (p.2 : Int)).count 0 : Nat), .int ((l.map fun p => (p.2 : Int)).count 1 : Nat), .int ((l.map fun p => (p.2 : Int)).count 2 : Nat)]) := by
        rw [upd_ne xm.symm]
        exact s8 _ _ hm7
      have hc8 : (upd (upd H7 c (.lst [.int 0, .int ((l.map fun p => (p.2 : Int)).count 0 : Nat)])) x (.ins C dx (putF "_counts" (.ref c) [("_names", .ref t), ("_arities", .ref D), ("_lines", .ref t2), ("_many", .ref m)]))) c = some (.lst [.int 0, .int ((l.map fun p => (p.2 : Int)).count 0 : Nat)]) := by
        rw [upd_ne xc.symm, upd_same]
      have nc0 : H c = none := k7.back xc.symm nc
      generalize upd (upd H7 c (.lst [.int 0, .int ((l.map fun p => (p.2 : Int)).count 0 : Nat)])) x (.ins C dx (putF "_counts" (.ref c) [("_names", .ref t), ("_arities", .ref D), ("_lines", .ref t2), ("_many", .ref m)])) = H8 at k8 hx8 ht8 hD8 hm8 hc8 ⊢
      -- _rows
      refine ⟨by show 0 ≤ sizeLine; decide, fun r nr => ?_⟩
      have s9 := Same.new nr (o := .lst [])
      refine ⟨_, rfl, x, C, dx, _, rfl, s9 _ _ hx8, CF.cls, CF.n6, Nat.le_of_ble_eq_true rfl, ?_⟩
      have xr : x ≠ r := ne_of_none hx8 nr
      refine q0 l' _ pl srt ((k8.trans (Kp.same s9)).trans Kp.upd) ⟨dx, t, D, t2, m, c, r, upd_same, ?_, ?_, ?_, ?_, ?_, nc0, k8.back xr.symm nr, ne_of_none hc8 nr⟩
      · exact (ht8.same s9).upd xt.symm
      · rw [upd_ne xD.symm]
        exact s9 _ _ hD8
      · rw [upd_ne xm.symm]
        exact s9 _ _ hm8
      · rw [upd_ne xc.symm]
        exact s9 _ _ hc8
      · rw [upd_ne xr.symm, upd_same]
end
end Pr
/-! ### tuple.count of a text, in a tuple of plain values, lists and tuples -/
namespace Tb
open PySem PySem.Spec PyProof.Rows L2 Pr
def rTCntJ (K : PySem.W.Frag) : V → List V → Hp → VK → Prop := fun x xs H Q => ∃ (p : Addr) (ys : List V) (z : Str), x = .ref p ∧ xs = [.str z] ∧ SqT K H p ys ∧ (∀ y ∈ ys, Ji H y) ∧ Q (.int (ys.countP fun y => eqV y (.str z) : Nat)) H
theorem ji_cnt {H : Hp} {z : Str} : ∀ {xs : List V} {us : List Value}, Vals xs us → (∀ y ∈ xs, Ji H y) → us.countP (eqU (.str z)) = xs.countP fun y => eqV y (.str z)
  | _, _, .nil, _ => rfl
  | y :: xs, u :: us, .cons r t, f => by
    have e : eqU (.str z) u = eqV y (.str z) := by
      obtain ⟨ty, k, _⟩ := f y List.mem_cons_self
      cases k with
      | non => exact eqU_of r rfl
      | bl b => exact eqU_of r rfl
      | int i => exact eqU_of r rfl
      | str z => exact eqU_of r rfl
      | lst e => cases r; rfl
      | tup e => cases r; rfl
      | dK e => cases r; rfl
    rw [List.countP_cons, List.countP_cons, e, ji_cnt t fun y m => f y (List.mem_cons_of_mem _ m)]
theorem ji_eq {X : Cx} {pins : List (Addr × Obj)} {s : Shared} {σ : L2.St} {H : Hp} (I : Inv X pins σ H s) {z : Str} {v : Value} (rx : RelV (.str z) v) {A : Around} (hu : A.units < cLine) : ∀ {xs : List V} {us : List Value}, Vals xs us → (∀ y ∈ xs, Ji H y) → ∀ u ∈ us, SeqAt.EqAt A s u v (eqU (.str z) u)
  | _, _, .nil, _ => fun u hu => by cases hu
  | y :: xs, u :: us, .cons r t, f => fun u' hm => by
    rcases List.mem_cons.mp hm with rfl | hm
    · obtain ⟨tk, rfl⟩ := rx
      obtain ⟨ty, k, nd⟩ := f y List.mem_cons_self
      cases k with
      | non => rw [eqU_of r rfl]; exact eqAt_V r ⟨tk, rfl⟩ rfl rfl
      | bl b => rw [eqU_of r rfl]; exact eqAt_V r ⟨tk, rfl⟩ rfl rfl
      | int i => rw [eqU_of r rfl]; exact eqAt_V r ⟨tk, rfl⟩ rfl rfl
      | str z => rw [eqU_of r rfl]; exact eqAt_V r ⟨tk, rfl⟩ rfl rfl
      | lst e =>
        cases r
        obtain ⟨its, rel, pl, _⟩ := I.list (show SqL X.K H _ _ from SqL.of e)
        exact SeqAt.EqAt.list_str z tk pl.isList hu
      | tup e =>
        cases r
        obtain ⟨its, rel, tt, _⟩ := I.tuple (show SqT X.K H _ _ from Tx.TX.sq e)
        exact SeqAt.EqAt.tuple_str z tk tt hu
      | dK e => exact absurd rfl nd
    · exact ji_eq I rx hu t (fun y m => f y (List.mem_cons_of_mem _ m)) u' hm
theorem mt_tcountJ {X : Cx} (hu : X.A.in1.units < cLine) : MtR X "tuple.count" (rTCntJ X.K) := by
  intro pins s σ H x xs v us Q I rx rxs h
  obtain ⟨p, ys, z, rfl, rfl, ht, js, q⟩ := h
  cases rx
  obtain ⟨u, rfl, ru⟩ := rxs.one
  obtain ⟨its, rel, ⟨⟨ocl, odi, oda, osl⟩, hat, hcl, cnt, hda⟩, _⟩ := I.tuple ht
  dsimp only at hcl hda
  subst hcl hda
  have each : ∀ y, y ∈ its.toArray → SeqAt.EqAt X.A.in1 s y u (eqU (.str z) y) := fun y hy => ji_eq I ru hu rel js y (by simpa using hy)
  refine call_meets PySem.F.slot_tuple_count ⟨_, hat, rfl⟩
    PySem.F.entry_tuple_count (PySem.F.args_tuple_count_2 _ _)
    (SeqAt.tuple_countAt p its.toArray cnt odi osl u (eqU (.str z))) ⟨hat, each, ?_⟩
  have e : its.toArray.toList.countP (eqU (.str z)) = ys.countP fun y => eqV y (.str z) := ji_cnt rel js
  refine ⟨.int (ys.countP fun y => eqV y (.str z) : Nat), H, I.tok _, ⟨s.toks, ?_⟩, q⟩
  show Value.int ((its.toArray.toList.countP (eqU (.str z)) : Nat) : Int) s.toks = _
  rw [e]
end Tb
namespace Pr
open PySem PySem.Spec PyProof.Rows L2 Gd
/-! ### is_tree, is_context of any value -/
theorem neSelf {v : V} : (!decide (v = v)) = false := by rw [decide_eq_true rfl]; rfl
def hole : Str := "_"
/-- the operators and the hole -/
def lH (l : List (Str × Nat)) : List (Str × Nat) := l ++ [(hole, 0)]
theorem dkv_lH {l : List (Str × Nat)} : dkv l ++ [(.inr hole, .int 0)] = dkv (lH l) := by
  unfold lH dkv
  rw [List.map_append]
  rfl
/-- what is_tree says -/
def tB (l : List (Str × Nat)) : Option (List V) → Bool
  | none => false
  | some xs => decide (xs.length ≤ 5000) && wgo l 1 xs
def isH (v : V) : Bool := eqV v (.str hole)
/-- what is_context says -/
def cB (l : List (Str × Nat)) : Option (List V) → Bool
  | none => false
  | some xs => decide (xs.length ≤ 5000) && (decide (xs.countP isH = 1) && wgo (lH l) 1 xs)
def spTreeV (C : Addr) : Sp := fun vs H Q _ => ∃ (o : Addr) (v : V) (l : List (Str × Nat)) (x : Option (List V)), vs = [.ref o, v] ∧ OpsAt H C o l ∧ Vw H v x ∧ Q (.bl (tB l x)) H
def spCtxV (C : Addr) : Sp := fun vs H Q _ => ∃ (o : Addr) (v : V) (l : List (Str × Nat)) (x : Option (List V)), vs = [.ref o, v] ∧ OpsAt H C o l ∧ hole ∉ l.map (·.1) ∧ l.length ≤ 8 ∧ Vw H v x ∧ ∀ H2, Same H H2 → Q (.bl (cB l x)) H2
theorem Ji.kd {H : Hp} {v : V} (h : Ji H v) : ∃ ty, Kd H v ty := let ⟨ty, k, _⟩ := h; ⟨ty, k⟩
theorem kit_tup {K : PySem.W.Frag} {H : Hp} {v : V} {t : String} (k : Kd H v t) : PySem.W.kitOne K (.type t) (.type "tuple") = some (match v with | .ref _ => decide (t = "tuple") | _ => false) := by
  cases k <;> first | exact kit_ty (r := true) (by decide +kernel) | exact kit_ty (r := false) (by decide +kernel)
theorem kit_tup_not {K : PySem.W.Frag} {H : Hp} {v : V} {t : String} (k : Kd H v t) (n : t ≠ "tuple") : PySem.W.kitOne K (.type t) (.type "tuple") = some false := by
  cases k <;> first | exact absurd rfl n | exact kit_ty (r := false) (by decide +kernel)
/-- what the methods lean on -/
structure Mt (K : PySem.W.Frag) (mg : Str → Option Value) (C fW : Addr) (dW : FuncData) (tk tk2 : Tok) : Prop where
  cf : OpF K C
  FW : Fun K "is_whole" "is_whole" sWhole fW dW
  bW : Binds K dW ["words", "arities"] []
  gW : mg "is_whole" = some (.ref fW)
  gM : mg "MAX_TREE" = some (.int 5000 tk)
  gH : mg "HOLE" = some (.str hole tk2)
theorem sameU {H G : Hp} {b : Addr} {o : HO} (s : Same H G) (n : H b = none) : Same H (upd G b o) := fun a u e => by
  rw [upd_ne (ne_of_none e n)]
  exact s a u e
theorem dkv_keys {l : List (Str × Nat)} {z : Str} (h : z ∉ l.map (·.1)) : (.inr z : Key) ∉ (dkv l).map (·.1) := by
  unfold dkv
  rw [List.map_map]
  intro m
  obtain ⟨p, hp, e⟩ := List.mem_map.mp m
  have e : (.inr p.1 : Key) = .inr z := e
  exact h (Sum.inr.inj e ▸ List.mem_map_of_mem (f := fun p : Str × Nat => p.1) hp)
section
variable {P : Program} {w : World} {K : PySem.W.Frag} {mg : Str → Option Value} {base : Heap} {C fW : Addr} {dW : FuncData} {tk tk2 : Tok}
theorem scIsTree : FnScope ["self", "value"] ["self", "value"] (defScope mIsTree) := ⟨rfl, rfl, rfl, by decide +kernel, rfl, by decide +kernel, by decide +kernel⟩
theorem scIsCtx : FnScope ["self", "value"] ["self", "value"] (defScope mIsCtx) := ⟨rfl, rfl, rfl, by decide +kernel, rfl, by decide +kernel, by decide +kernel⟩
theorem ok_treeV {f : Addr} {fd : FuncData} (F : Fun K "is_tree" "Operators.is_tree" mIsTree f fd) (M : Mt K mg C fW dW tk tk2) (T : Free mg) : FnOk P w K mg base CX0 2 f fd ["self", "value"] (spTreeV C) := by
  have GW : FnOk P w K mg base CX0 1 fW dW ["words", "arities"] spWhole := ok_whole M.FW T
  refine F.ok scIsTree (fun vs H Q E h => ?_) (fun cdv A outer s H vs Q E hr h => ?_)
  · obtain ⟨o, v, l, x, rfl, _⟩ := h
    rfl
  · obtain ⟨o, v, l, x, rfl, op, vw, q⟩ := h
    refine ⟨_, pss_one (ps_ret (pe_and (pe_callB call_isi (by rfl) T.isi (by decide +kernel) (pa_cons (pv 1) (pa_cons (pe_bltn (v := .ty "tuple") (by rfl) T.tuple (by decide +kernel) rfl) pa_nil))) (pe_and (pe_cmpR op_le (pe_callB call_len_seq (by rfl) T.len PySem.boot_len (pa_cons (pv 1) pa_nil)) (pe_glob (v := .int 5000) (by rfl) M.gM ⟨_, rfl⟩) (nomark _)) (pe_one (pe_call GW (hr.mono (by decide)) (by rfl) M.gW M.FW.kp M.bW .nil pass0 (pa_cons (pv 1) (pa_cons (pe_fld (pv 0) rfl) pa_nil))))))), ?_⟩
    obtain ⟨dx, tn, ta, tl, ho, hn, ha⟩ := op.ex
    cases vw with
    | not k ne => exact ⟨_, rfl, v, _, _, _, false, rfl, .ty "tuple", k.ty, kit_tup_not k ne, _, rfl, iteF q⟩
    | @tup t xs tx js =>
      have rd : Rd H t (.tup xs) := TXr tx
      refine ⟨_, rfl, .ref t, _, _, _, true, rfl, .ty "tuple", tyR rd, kit_ty (r := true) (by decide +kernel), _, rfl, iteT ⟨_, rfl, t, _, rfl, .inr (.inl rd), _, _, rfl, rfl, _, rfl, ?_⟩⟩
      by_cases c : xs.length ≤ 5000
      · refine if_true_of (decide_eq_true (by omega)) ⟨_, rfl, _, rfl, o, C, dx, _, _, rfl, ho, M.cf.cls, M.cf.n2, rfl, t, ta, _, l, rfl, rd, fun x m => (js x m).kd, ha, ?_⟩
        have e : tB l (some xs) = wgo l 1 xs := by
          show (decide _ && _) = _
          rw [decide_eq_true c, Bool.true_and]
        rw [← e]
        exact q
      · have e : tB l (some xs) = false := by
          show (decide _ && _) = _
          rw [decide_eq_false c, Bool.false_and]
        rw [e] at q
        exact if_false_of (decide_eq_false (by omega)) q
theorem ok_ctxV {f : Addr} {fd : FuncData} (F : Fun K "is_context" "Operators.is_context" mIsCtx f fd) (M : Mt K mg C fW dW tk tk2) (T : Free mg) : FnOk P w K mg base CX0 2 f fd ["self", "value"] (spCtxV C) := by
  have GW : FnOk P w K mg base CX0 1 fW dW ["words", "arities"] spWhole := ok_whole M.FW T
  refine F.ok scIsCtx (fun vs H Q E h => ?_) (fun cdv A outer s H vs Q E hr h => ?_)
  · obtain ⟨o, v, l, x, rfl, _⟩ := h
    rfl
  · obtain ⟨o, v, l, x, rfl, op, no, few, vw, q⟩ := h
    have hu := hr.units
    have hu1 : ∀ {u : Nat}, u + 64 < cLine → u + 1 < cLine := fun h => by omega
    refine ⟨_, pss_cons (ps_if (PW.pt (pw_or (pt_not (pt_val (pe_callB call_isi (by rfl) T.isi (by decide +kernel) (pa_cons (pv 1) (pa_cons (pe_bltn (v := .ty "tuple") (by rfl) T.tuple (by decide +kernel) rfl) pa_nil)))))
        (pw_or (pt_cmpR op_gt (pe_callB call_len_seq (by rfl) T.len PySem.boot_len (pa_cons (pv 1) pa_nil)) (pe_glob (v := .int 5000) (by rfl) M.gM ⟨_, rfl⟩) (nomark _))
          (pw_or1 (pt_cmpR op_ne (Tx.pe_tm PySem.F.slot_tuple_count PySem.F.type_tuple_count (Tb.mt_tcountJ (hu1 hu)) (pv 1) (pa_cons (pe_glob (v := .str hole) (by rfl) M.gH ⟨_, rfl⟩) pa_nil)) pe_int (nomark _)))))) (pss_one (ps_ret pe_bl)) pss_nil)
      (pss_one (ps_ret (pe_call GW (hr.mono (by decide)) (by rfl) M.gW M.FW.kp M.bW .nil pass0 (pa_cons (pv 1) (pa_cons (Du.pe_dunp (pe_fld (pv 0) rfl) (pe_glob (v := .str hole) (by rfl) M.gH ⟨_, rfl⟩) pe_int) pa_nil))))), ?_⟩
    obtain ⟨dx, tn, ta, tl, ho, hn, ha⟩ := op.ex
    cases vw with
    | not k ne => exact ⟨_, rfl, v, _, _, _, false, rfl, .ty "tuple", k.ty, kit_tup_not k ne, _, rfl, iteT (q _ (Same.refl _))⟩
    | @tup t xs tx js =>
      have rd : Rd H t (.tup xs) := TXr tx
      refine ⟨_, rfl, .ref t, _, _, _, true, rfl, .ty "tuple", tyR rd, kit_ty (r := true) (by decide +kernel), _, rfl, if_false_of rfl ⟨_, rfl, t, _, rfl, .inr (.inl rd), _, _, rfl, rfl, _, rfl, ?_⟩⟩
      by_cases c : xs.length ≤ 5000
      · refine if_false_of (decide_eq_false (by omega)) ⟨_, rfl, ⟨t, _, rfl, tx⟩, t, _, hole, rfl, rfl, .inl rd, js, ?_⟩
        have ec : (xs.countP fun y => eqV y (V.str hole)) = xs.countP isH := rfl
        rw [ec]
        by_cases c2 : xs.countP isH = 1
        · refine ⟨rfl, _, rfl, if_false_of (by rw [c2]; exact neSelf) ?_⟩
          refine ⟨_, rfl, fun p np => ?_⟩
          have s1 : Same H (upd H p (.dK [])) := Same.new np
          refine ⟨_, rfl, o, C, dx, _, _, rfl, s1 _ _ ho, M.cf.cls, M.cf.n2, rfl, ta, _, rfl, fun z => ?_, upd_same, s1 _ _ ha, fun q2 nq => ?_⟩
          · rw [z, np] at ha
            cases ha
          have nHq : H q2 = none := by
            cases e : H q2 with
            | none => rfl
            | some v =>
              have ne : q2 ≠ p := ne_of_none e np
              rw [upd_ne ne, upd_ne ne, e] at nq
              cases nq
          have pq : p ≠ q2 := ne_of_none upd_same nq
          have sF : Same H (upd (upd (upd (upd (upd H p (.dK [])) p (.dK (dkv l))) q2 (.dK [])) q2 (.dK [((.inr hole : Key), V.int 0)])) p (.dK (dkv l ++ [((.inr hole : Key), V.int 0)]))) := sameU (sameU (sameU (sameU s1 np) nHq) nHq) np
          refine ⟨.inr hole, rfl, upd_same, by rw [upd_ne pq, upd_same], dkv_keys no, by unfold dkv; rw [List.length_map]; omega, t, p, xs, lH l, rfl, Rd.same rd sF, fun x m => ((js x m).same sF).kd, by rw [upd_same, dkv_lH], ?_⟩
          have e : cB l (some xs) = wgo (lH l) 1 xs := by
            show (decide _ && (decide _ && _)) = _
            rw [decide_eq_true c, decide_eq_true c2, Bool.true_and, Bool.true_and]
          rw [← e]
          exact q _ sF
        · have e : cB l (some xs) = false := by
            show (decide _ && (decide _ && _)) = _
            rw [decide_eq_false c2, Bool.false_and, Bool.and_false]
          have q := q H (Same.refl H)
          rw [e] at q
          exact ⟨rfl, _, rfl, if_true_of (by rw [decide_eq_false fun z => c2 (by have := V.int.inj z; omega)]; rfl) q⟩
      · have e : cB l (some xs) = false := by
          show (decide _ && (decide _ && _)) = _
          rw [decide_eq_false c, Bool.false_and]
        have q := q H (Same.refl H)
        rw [e] at q
        exact if_true_of (decide_eq_true (by omega)) q
end
end Pr
namespace Pr
open PySem PySem.Spec PyProof.Rows L2 Gd
/-! ### lists beside lists: the same items, or another length -/
theorem eq_self {A : Around} {s : Shared} {H : Hp} {v : V} {t : String} {u u' : Value} (k : Kd H v t) (r : RelV v u) (r' : RelV v u') : SeqAt.EqAt A s u u' true := by
  cases k with
  | non => exact eqAt_same r r' rfl
  | bl b => exact eqAt_same r r' rfl
  | int i => exact eqAt_same r r' rfl
  | str z => exact eqAt_same r r' rfl
  | _ =>
    cases (show u = Value.ref _ from r)
    cases (show u' = Value.ref _ from r')
    exact SeqAt.EqAt.same _
theorem eq_items {A : Around} {s : Shared} {H : Hp} : ∀ {xs : List V} {us ws : List Value}, (∀ v ∈ xs, ∃ t, Kd H v t) → Vals xs us → Vals xs ws → ∀ j (h1 : j < us.length) (h2 : j < ws.length), SeqAt.EqAt A s us[j] ws[j] true
  | _, _, _, _, .nil, .nil, j, h1, _ => absurd h1 (Nat.not_lt_zero j)
  | _, _, _, k, .cons r _, .cons r' _, 0, _, _ => by
    obtain ⟨t, kt⟩ := k _ List.mem_cons_self
    exact eq_self kt r r'
  | _, _, _, k, .cons _ t, .cons _ t', j + 1, h1, h2 => eq_items (fun v m => k v (List.mem_cons_of_mem _ m)) t t' j (Nat.lt_of_succ_lt_succ h1) (Nat.lt_of_succ_lt_succ h2)
def rNeL (K : PySem.W.Frag) : R2 := fun x y H Q => ∃ a b xs ys, x = .ref a ∧ y = .ref b ∧ SqL K H a xs ∧ SqL K H b ys ∧ (xs.length ≠ ys.length ∧ Q (.bl true) H ∨ xs = ys ∧ (∀ v ∈ xs, ∃ t, Kd H v t) ∧ Q (.bl false) H)
def rEqL (K : PySem.W.Frag) : R2 := fun x y H Q => ∃ a b xs ys, x = .ref a ∧ y = .ref b ∧ SqL K H a xs ∧ SqL K H b ys ∧ (xs.length ≠ ys.length ∧ Q (.bl false) H ∨ xs = ys ∧ (∀ v ∈ xs, ∃ t, Kd H v t) ∧ Q (.bl true) H)
theorem op_neL {X : Cx} (hu : X.A.units + 64 < cLine) : OpR X (compareOp .NotEq) (rNeL X.K) := by
  intro pins s σ H x y v u Q I rx ry h
  obtain ⟨a, b, xs, ys, rfl, rfl, ha, hb, q⟩ := h
  cases (show v = Value.ref a from rx)
  cases (show u = Value.ref b from ry)
  obtain ⟨us, r1, p1, _⟩ := I.list ha
  obtain ⟨ws, r2, p2, _⟩ := I.list hb
  rcases q with ⟨ne, q⟩ | ⟨rfl, k, q⟩
  · have hsz : (us.toArray.size != ws.toArray.size) = true := by
      rw [List.size_toArray, List.size_toArray, ← r1.length, ← r2.length]
      exact bne_iff_ne.mpr ne
    exact SeqAt.RcNeAt.lists_lengths p1.isList p2.isList hsz (A := X.A) (s := s) (by omega) X.prog X.w _ _ ⟨.bl true, H, I, rfl, q⟩
  · have hsz : us.toArray.size = ws.toArray.size := by
      rw [List.size_toArray, List.size_toArray, ← r1.length, ← r2.length]
    have z := SeqAt.RcNeAt.lists (e := fun _ => true) p1.isList p2.isList hsz (A := X.A) (s := s) (by omega) (fun j h1 h2 => by
      have e := eq_items (A := X.A.in1) (s := s) k r1 r2 j (by simpa using h1) (by simpa using h2)
      simpa using e)
    rw [show ((List.range us.toArray.size).all fun _ => true) = true from List.all_eq_true.mpr fun _ _ => rfl] at z
    exact z X.prog X.w _ _ ⟨.bl false, H, I, rfl, q⟩
theorem op_eqL {X : Cx} (hu : X.A.units + 64 < cLine) : OpR X (compareOp .Eq) (rEqL X.K) := by
  intro pins s σ H x y v u Q I rx ry h
  obtain ⟨a, b, xs, ys, rfl, rfl, ha, hb, q⟩ := h
  cases (show v = Value.ref a from rx)
  cases (show u = Value.ref b from ry)
  obtain ⟨us, r1, p1, _⟩ := I.list ha
  obtain ⟨ws, r2, p2, _⟩ := I.list hb
  rcases q with ⟨ne, q⟩ | ⟨rfl, k, q⟩
  · have hsz : (us.toArray.size != ws.toArray.size) = true := by
      rw [List.size_toArray, List.size_toArray, ← r1.length, ← r2.length]
      exact bne_iff_ne.mpr ne
    exact SeqAt.RcAt.lists_lengths p1.isList p2.isList hsz (A := X.A) (s := s) (by omega) X.prog X.w _ _ ⟨.bl false, H, I, rfl, q⟩
  · have hsz : us.toArray.size = ws.toArray.size := by
      rw [List.size_toArray, List.size_toArray, ← r1.length, ← r2.length]
    have z := SeqAt.RcAt.lists (e := fun _ => true) p1.isList p2.isList hsz (A := X.A) (s := s) (by omega) (fun j h1 h2 => by
      have e := eq_items (A := X.A.in1) (s := s) k r1 r2 j (by simpa using h1) (by simpa using h2)
      simpa using e)
    rw [show ((List.range us.toArray.size).all fun _ => true) = true from List.all_eq_true.mpr fun _ _ => rfl] at z
    exact z X.prog X.w _ _ ⟨.bl true, H, I, rfl, q⟩
/-! ### comprehensions that choose -/
section
variable {K : PySem.W.Frag} {a D : Addr} {xs : List V} {tt : TT} {i : Nat} {σ : L2.St} {H1 : Hp} {Qd : Hp → Prop}
theorem filt_step (p : V → Bool) {k : Nat} {x : V} (h : xs[k]? = some x) : (xs.take (k + 1)).filter p = (xs.take k).filter p ++ (if p x then [x] else []) := by
  rw [List.take_add_one, h, List.filter_append]
  cases e : p x <;> simp [e]
theorem filt_len (p : V → Bool) {k : Nat} : ((xs.take k).filter p).length ≤ xs.length := by
  refine Nat.le_trans (List.length_filter_le _ _) ?_
  rw [List.length_take]
  exact Nat.min_le_right _ _
theorem filt_turn (p : V → Bool) (hi : i < σ.length) (nD : H1 D = none) (few : xs.length < sizeLine) (hs : ∀ x ∈ xs, ∀ G, Same H1 G → ∀ R : Bool → Hp → Prop, R (p x) G → tt ((σ.set i none).set i (some x)) G R) :
    ∀ k x G, xs[k]? = some x → (G D = some (.lst ((xs.take k).filter p)) ∧ Same H1 G) → gName i x (wipe σ [i]) G fun σ2 H2 => wipe σ2 [i] = wipe σ [i] ∧ tt σ2 H2 fun b H3 =>
      if b = true then tVar i σ2 H3 fun y H4 => ∃ acc, H4 D = some (.lst acc) ∧ acc.length < sizeLine ∧ ((upd H4 D (.lst (acc ++ [y]))) D = some (.lst ((xs.take (k + 1)).filter p)) ∧ Same H1 (upd H4 D (.lst (acc ++ [y])))) else (H3 D = some (.lst ((xs.take (k + 1)).filter p)) ∧ Same H1 H3) := by
  intro k x G hx h
  obtain ⟨eD, s⟩ := h
  refine ⟨?_, ?_⟩
  · show (((σ.set i none).set i (some x)).set i none) = σ.set i none
    rw [List.set_set, List.set_set]
  · refine hs x (List.mem_of_getElem? hx) G s _ ?_
    have e := filt_step (xs := xs) p hx
    by_cases c : p x = true
    · rw [if_pos c] at e ⊢
      refine ⟨x, ?_, _, eD, Nat.lt_of_le_of_lt (filt_len p) few, ?_, ?_⟩
      · show ((σ.set i none).set i (some x))[i]? = some (some x)
        rw [List.getElem?_set_self (by rw [List.length_set]; exact hi)]
      · rw [upd_same, e]
      · exact fun b u q => by
          rw [upd_ne (ne_of_none q nD)]
          exact s b u q
    · rw [if_neg c] at e ⊢
      rw [e, List.append_nil]
      exact ⟨eD, s⟩
theorem lc_filtT (p : V → Bool) (hi : i < σ.length) (ht : ∀ G, Same H1 G → SqT K G a xs) (nD : H1 D = none) (few : xs.length < sizeLine)
    (hs : ∀ x ∈ xs, ∀ G, Same H1 G → ∀ R : Bool → Hp → Prop, R (p x) G → tt ((σ.set i none).set i (some x)) G R) (hd : ∀ G, G D = some (.lst (xs.filter p)) → Same H1 G → Qd G) :
    ∃ W : Nat → Nat → Hp → Prop, (∃ m, W 0 m (upd H1 D (.lst []))) ∧ ∀ k m H, W k m H →
      ((Itt K a).stop k H ∧ Qd H) ∨ ((Itt K a).go k H ∧ ∃ Nx : Hp → Prop, (∀ H', Nx H' → ∃ m', m' < m ∧ W (k + 1) m' H') ∧ ∀ x H', (Itt K a).yld k H x H' → gName i x (wipe σ [i]) H' fun σ2 H2 => wipe σ2 [i] = wipe σ [i] ∧ tt σ2 H2 fun b H3 =>
        if b = true then tVar i σ2 H3 fun y H4 => ∃ acc, H4 D = some (.lst acc) ∧ acc.length < sizeLine ∧ Nx (upd H4 D (.lst (acc ++ [y]))) else Nx H3) := by
  refine lc_tup (K := K) (a := a) (xs := xs) (fun k G => G D = some (.lst ((xs.take k).filter p)) ∧ Same H1 G) ⟨upd_same, Same.new nD⟩ (fun k G _ ⟨_, s⟩ => ht G s) (filt_turn p hi nD few hs) ?_
  rintro G ⟨eD, s⟩
  rw [List.take_length] at eD
  exact hd G eD s
theorem lc_filtL (p : V → Bool) (hi : i < σ.length) (ht : ∀ G, Same H1 G → SqL K G a xs) (nD : H1 D = none) (few : xs.length < sizeLine)
    (hs : ∀ x ∈ xs, ∀ G, Same H1 G → ∀ R : Bool → Hp → Prop, R (p x) G → tt ((σ.set i none).set i (some x)) G R) (hd : ∀ G, G D = some (.lst (xs.filter p)) → Same H1 G → Qd G) :
    ∃ W : Nat → Nat → Hp → Prop, (∃ m, W 0 m (upd H1 D (.lst []))) ∧ ∀ k m H, W k m H →
      ((Itl K a).stop k H ∧ Qd H) ∨ ((Itl K a).go k H ∧ ∃ Nx : Hp → Prop, (∀ H', Nx H' → ∃ m', m' < m ∧ W (k + 1) m' H') ∧ ∀ x H', (Itl K a).yld k H x H' → gName i x (wipe σ [i]) H' fun σ2 H2 => wipe σ2 [i] = wipe σ [i] ∧ tt σ2 H2 fun b H3 =>
        if b = true then tVar i σ2 H3 fun y H4 => ∃ acc, H4 D = some (.lst acc) ∧ acc.length < sizeLine ∧ Nx (upd H4 D (.lst (acc ++ [y]))) else Nx H3) := by
  refine lc_list (K := K) (a := a) (xs := xs) (fun k G => G D = some (.lst ((xs.take k).filter p)) ∧ Same H1 G) ⟨upd_same, Same.new nD⟩ (fun k G _ ⟨_, s⟩ => ht G s) (filt_turn p hi nD few hs) ?_
  rintro G ⟨eD, s⟩
  rw [List.take_length] at eD
  exact hd G eD s
end
end Pr
namespace Pr
open PySem PySem.Spec PyProof.Rows L2 Gd
/-! ### the odd values -/
/-- values made so far: each can be judged, none is the dice -/
structure Good (d : Addr) (H0 H : Hp) (xs : List V) : Prop where
  same : Same H0 H
  there : ∃ o, H0 d = some o
  all : ∀ v ∈ xs, Vd (Hm d H) 4 100000 v
theorem Good.nil {d : Addr} {H : Hp} (h : ∃ o, H d = some o) : Good d H H [] := ⟨Same.refl H, h, fun v m => nomatch m⟩
theorem hm_new {d p : Addr} {H : Hp} {o : HO} (n : H p = none) : Same (Hm d H) (Hm d (upd H p o)) := (Kp.same (d := d) (Same.new n)).hm
theorem hm_fresh {d p : Addr} {H : Hp} {o : HO} (_ : H p = none) (ne : p ≠ d) : Hm d (upd H p o) p = some o := Hm.of upd_same ne
theorem Good.step {d : Addr} {H0 H H2 : Hp} {xs : List V} (g : Good d H0 H xs) (s : Same H H2) : Good d H0 H2 xs := ⟨g.same.trans s, g.there, fun v m => (g.all v m).same (Same.hm s)⟩
theorem Good.new {d p : Addr} {H0 H : Hp} {xs : List V} {o : HO} (g : Good d H0 H xs) (n : H p = none) : Good d H0 (upd H p o) xs := g.step (Same.new n)
theorem Good.ne {d p : Addr} {H0 H : Hp} {xs : List V} (g : Good d H0 H xs) (n : H p = none) : p ≠ d := by
  obtain ⟨u, hu⟩ := g.there
  exact (ne_of_none (g.same _ _ hu) n).symm
theorem Good.put {d : Addr} {H0 H : Hp} {xs : List V} {v : V} {n m : Nat} (g : Good d H0 H xs) (h : Vd (Hm d H) n m v) (hn : n ≤ 4) (hm : m ≤ 100000) : Good d H0 H (xs ++ [v]) := by
  refine ⟨g.same, g.there, fun u q => ?_⟩
  rcases List.mem_append.mp q with q | q
  · exact g.all u q
  · rw [List.mem_singleton.mp q]
    exact h.le hn hm
theorem all1 {P : V → Prop} {x : V} (h : P x) : ∀ y ∈ [x], P y := fun y m => by
  rw [List.mem_singleton.mp m]
  exact h
theorem all2 {P : V → Prop} {x y : V} (h : P x) (k : P y) : ∀ z ∈ [x, y], P z := fun z m => by
  rcases List.mem_cons.mp m with e | m
  · rw [e]
    exact h
  · rw [List.mem_singleton.mp m]
    exact k
theorem all0 {P : V → Prop} : ∀ z ∈ ([] : List V), P z := fun z m => nomatch m
def repS (z : Str) (k : Nat) : Str := ⟨(List.replicate k z.cps).foldl (· ++ ·) #[]⟩
/-- a text times a small number -/
def rRepS : R2 := fun x y H Q => ∃ z k, x = .str z ∧ y = .int k ∧ 2 ≤ k ∧ k ≤ 5000 ∧ z.length = 1 ∧ Q (.str (repS z k.toNat)) H
section
variable {X : Cx}
theorem foldl_size (c : Array Nat) : ∀ (k : Nat) (a : Array Nat), ((List.replicate k c).foldl (· ++ ·) a).size = a.size + k * c.size
  | 0, a => by simp
  | k + 1, a => by
    rw [List.replicate_succ, List.foldl_cons, foldl_size c k (a ++ c), Array.size_append, Nat.succ_mul]
    omega
theorem op_repS : OpR X (binaryOp .Mult) rRepS := by
  intro pins s σ H x y v u Q I rx ry h
  obtain ⟨z, k, rfl, rfl, h2, h5, hz, q⟩ := h
  obtain ⟨t, rfl⟩ := rx
  obtain ⟨t', rfl⟩ := ry
  have k1 : ¬ k < 1 := by omega
  have e1 : (k == 1 || z.length == 0) = false := by
    have a1 : (k == 1) = false := by rw [beq_eq_false_iff_ne]; omega
    have a2 : (z.length == 0) = false := by rw [beq_eq_false_iff_ne]; omega
    rw [a1, a2]
    rfl
  have hk : (k.toNat : Int) = k := Int.toNat_of_nonneg (by omega)
  have es : (repS z k.toNat).length ≤ sizeLine := by
    show ((List.replicate k.toNat z.cps).foldl (· ++ ·) #[]).size ≤ sizeLine
    have hc : z.cps.size = 1 := hz
    rw [foldl_size, hc, sizeLine_eq]
    simp
    omega
  refine PySem.P.mul_str ?_ (fun _ _ => ?_) (fun _ _ => ?_) ?_
  · rw [decide_eq_false (by omega), decide_eq_false (by omega)]
    rfl
  · rw [hz]
    have := Int.le_ediv_of_mul_le (a := 1) (b := 2 ^ 63 - 1) (c := k) (by omega) (by omega)
    omega
  · rw [hz]
    show decide (_ > sizeLine) = false
    exact decide_eq_false (by rw [sizeLine_eq]; omega)
  · rw [if_neg k1, e1, if_neg Bool.false_ne_true]
    exact ⟨es, .str (repS z k.toNat), H, I.tok _, ⟨_, rfl⟩, q⟩
end
theorem foldl_mem (c : Array Nat) : ∀ (k : Nat) (a : Array Nat) (x : Nat), x ∈ ((List.replicate k c).foldl (· ++ ·) a).toList → x ∈ a.toList ∨ x ∈ c.toList
  | 0, a, x, h => .inl h
  | k + 1, a, x, h => by
    rw [List.replicate_succ, List.foldl_cons] at h
    rcases foldl_mem c k (a ++ c) x h with h | h
    · rw [Array.toList_append] at h
      exact (List.mem_append.mp h).imp id id
    · exact .inr h
theorem sok_rep {k : Nat} {z : Str} (hz : SOk 1 z) : SOk k (repS z k) := by
  have h1 := hz.1
  have h2 : z.cps.size ≤ 1 := h1
  refine ⟨?_, fun c h => ?_⟩
  · show ((List.replicate k z.cps).foldl (· ++ ·) #[]).size ≤ k
    rw [foldl_size]
    have := Nat.mul_le_mul_left k h2
    simp
    omega
  · rcases foldl_mem z.cps k #[] c h with h | h
    · simp at h
    · exact hz.2 c h
/-- the law's odd values: each is odd, none is the dice -/
def spOdd : Sp := fun vs H Q _ => ∃ (d : Addr) (n : Nat), vs = [.ref d] ∧ Dice H d n ∧ n + 26 < 1000000 ∧
  ∀ (q : Addr) (ys : List V) (H' : Hp), q ≠ d → H q = none → Kp d H H' → H' q = some (.lst ys) → ys.length = 26 → (∀ y ∈ ys, Vd (Hm d H') 4 100000 y) → Dice H' d (n + 26) → Q (.ref q) H'
section
variable {P : Program} {w : World} {K : PySem.W.Frag} {mg : Str → Option Value} {base : Heap} {fR fP fM : Addr} {dR dP dM : FuncData}
theorem scOdd : FnScope ["dice", "some"] ["dice"] (defScope sOdd) := ⟨rfl, rfl, rfl, by decide +kernel, rfl, by decide +kernel, by decide +kernel⟩
theorem ok_odd {f : Addr} {fd : FuncData} (F : Fun K "_law_odd_values" "_law_odd_values" sOdd f fd) (D : Draws K mg fR fP fM dR dP dM) (T : Free mg) : FnOk P w K mg base CX0 3 f fd ["dice"] spOdd := by
  have GM : FnOk P w K mg base CX0 2 fM dM ["dice", "items"] (spMixed K) := ok_mixed D T
  refine F.ok scOdd (fun vs H Q E h => ?_) (fun cdv A outer s H vs Q E hr h => ?_)
  · obtain ⟨d, n, rfl, _⟩ := h
    rfl
  · obtain ⟨d, n, rfl, di, hn, k⟩ := h
    obtain ⟨ds, hd⟩ := di.there
    refine ⟨_, pss_cons (ps_set (i := 1) scOdd.nd rfl (.inl rfl) (pe_lst (pa_cons pe_non (pa_cons pe_int (pa_cons pe_int (pa_cons (pe_un un_neg pe_int) (pa_cons pe_bl (pa_cons pe_bl (pa_cons pe_str (pa_cons pe_str (pa_cons pe_str
        (pa_cons (Tx.pe_tupX pa_nil) (pa_cons (Tx.pe_tupX (pa_cons pe_str pa_nil)) (pa_cons (pe_lst pa_nil) (pa_cons (pe_lst (pa_cons pe_str pa_nil)) (pa_cons pe_dnewK (pa_cons (pe_disp (pps_cons pe_str pe_int pps_nil) (by rfl) (by rfl) (fun z => by cases z) (by decide))
        (pa_cons (Tx.pe_tupX (pa_cons (Tx.pe_tupX pa_nil) pa_nil)) (pa_cons (pe_op op_pow pe_int pe_int) (pa_cons pe_str pa_nil))))))))))))))))))))
      (pss_cons (ps_set (i := 1) scOdd.nd rfl (.inl rfl) (pe_op op_cat (pv 1) (pe_lst (pa_cons (pe_op op_repS pe_str pe_int) (pa_cons (pe_op Tb.op_repX (Tx.pe_tupX (pa_cons pe_str pa_nil)) pe_int) (pa_cons (Tx.pe_tupX (pa_cons pe_int (pa_cons pe_int pa_nil)))
        (pa_cons (Tx.pe_tupX (pa_cons pe_non pa_nil)) (pa_cons (Tx.pe_tupX (pa_cons (Tx.pe_tupX (pa_cons (Tx.pe_tupX (pa_cons pe_str pa_nil)) pa_nil)) pa_nil)) (pa_cons pe_str (pa_cons (pe_op op_mulW (pe_op op_pow pe_int pe_int) (pe_op op_pow pe_int pe_int)) pa_nil))))))))))
      (pss_one (ps_ret (pe_call GM hr (by rfl) D.gM D.FM.kp D.bM .nil pass0 (pa_cons (pv 0) (pa_cons (pe_op op_cat (pv 1) (pe_lst (pa_cons (pe_op op_sub pe_int (pe_op op_pow pe_int pe_int)) pa_nil))) pa_nil)))))), ?_⟩
    have z : ∀ {m : Nat}, m ≤ 64 → m ≤ sizeLine := fun h => Nat.le_trans h (by decide)
    have g0 : Good d H H [] := Good.nil ⟨_, hd⟩
    have L : ∀ {H : Hp}, Vd H 0 2000 (.str "c") := (Vd.text (k := 100) ⟨by decide, by decide +kernel⟩ (by decide)).le (Nat.le_refl _) (by decide)
    have T : ∀ {H : Hp} (z : Str), SOk 5 z → Vd H 0 2000 (.str z) := fun z h => (Vd.text (k := 100) (h.le (by decide)) (by decide)).le (Nat.le_refl _) (by decide)
    have I : ∀ {H : Hp} (i : Int), i.natAbs < 2 ^ 1900 → Vd H 0 2000 (.int i) := fun i h => Vd.int i h
    have g1 := ((((((((g0.put Vd.non (by decide) (by decide)).put (I 0 (by decide +kernel)) (by decide) (by decide)).put (I 1 (by decide +kernel)) (by decide) (by decide)).put (I (-1) (by decide +kernel)) (by decide) (by decide)).put (Vd.bl true) (by decide) (by decide)).put (Vd.bl false) (by decide) (by decide)).put (T "" ⟨by decide, by decide +kernel⟩) (by decide) (by decide)).put (T "a" ⟨by decide, by decide +kernel⟩) (by decide) (by decide)).put (T "A b" ⟨by decide, by decide +kernel⟩) (by decide) (by decide)
    refine ⟨_, rfl, z (Nat.le_of_ble_eq_true rfl), fun t1 H1 n1 s1 x1 => ?_⟩
    have g2 := (g1.step s1).put (Vd.tup (n := 0) (m := 2000) (k := 0) (TX.hm x1 (g1.ne n1)) all0 all0 (by decide)) (by decide) (by decide)
    refine ⟨z (Nat.le_of_ble_eq_true rfl), fun t2 H2 n2 s2 x2 => ?_⟩
    have g3 := (g2.step s2).put (Vd.tup (n := 0) (m := 2000) (k := 1) (TX.hm x2 (g2.ne n2)) (all1 L) (all1 (Ji.str _)) (by decide)) (by decide) (by decide)
    refine ⟨z (Nat.le_of_ble_eq_true rfl), fun t3 n3 => ?_⟩
    have g4 := (g3.new n3 (o := .lst [])).put (Vd.lst (n := 0) (m := 2000) (k := 0) (hm_fresh n3 (g3.ne n3)) all0 (by decide)) (by decide) (by decide)
    refine ⟨z (Nat.le_of_ble_eq_true rfl), fun t4 n4 => ?_⟩
    have g5 := (g4.new n4 (o := .lst [.str "c"])).put (Vd.lst (n := 0) (m := 2000) (k := 1) (hm_fresh n4 (g4.ne n4)) (all1 L) (by decide)) (by decide) (by decide)
    intro t5 n5
    have g6 := (g5.new n5 (o := .dK [])).put (Vd.dK0 (hm_fresh n5 (g5.ne n5))) (by decide) (by decide)
    refine fun t6 n6 => ⟨upd_same, [(Sum.inr "c", .int 0)], rfl, by decide, ?_⟩
    have g7 := (g6.new (o := .dK (mergeK [] [((Sum.inr "c" : Key), V.int 0)])) n6).put (Vd.dK1 (x := "c") (i := 0) (hm_fresh n6 (g6.ne n6)) ⟨by decide, by decide +kernel⟩ (by decide)) (by decide) (by decide)
    have g7b := g7
    rw [← upd_upd (H := upd _ t5 _) (a := t6) (o := .dK [])] at g7b
    refine ⟨z (Nat.le_of_ble_eq_true rfl), fun t7 H7 n7 s7 x7 => ⟨z (Nat.le_of_ble_eq_true rfl), fun t8 H8 n8 s8 x8 => ?_⟩⟩
    have g7c := g7b.step s7
    have v7 : Vd (Hm d _) 1 2000 (.ref t7) := (Vd.tup (n := 0) (m := 2000) (k := 0) (xs := []) (TX.hm x7 (g7b.ne n7)) all0 all0 (by decide)).le (by decide) (by decide)
    have x7b := TX.hm (Tx.TX.same x7 s8) (g7b.ne n7)
    have g8 := (g7c.step s8).put (Vd.tup (n := 1) (m := 2000) (k := 1) (TX.hm x8 (g7c.ne n8)) (all1 (v7.same (Same.hm s8))) (all1 (Ji.tup x7b)) (Nat.le_refl 1)) (by decide) (by decide)
    refine ⟨10, 60, rfl, rfl, c10 (k := 60) (by decide), ?_⟩
    have g9 := (g8.put (I (10 ^ (60 : Int).toNat) (by decide +kernel)) (by decide) (by decide)).put (T "_" ⟨by decide, by decide +kernel⟩) (by decide) (by decide)
    -- the list itself
    refine ⟨z (Nat.le_of_ble_eq_true rfl), fun l1 m1 => ?_⟩
    have g10 := g9.new m1 (o := .lst [V.non, .int 0, .int 1, .int (-1), .bl true, .bl false, .str "", .str "a", .str "A b", .ref t1, .ref t2, .ref t3, .ref t4, .ref t5, .ref t6, .ref t8, .int (10 ^ (60 : Int).toNat), .str "_"])
    -- some + [..]
    refine ⟨_, rfl, _, _, rfl, rfl, by decide, by decide, by decide +kernel, ?_⟩
    have V4 : ∀ {H : Hp}, Vd H 0 40002 (.str (repS "x" (4000 : Int).toNat)) := Vd.text (k := 4000) (sok_rep ⟨by decide, by decide +kernel⟩) (by decide)
    have h0 := g10.put V4 (by decide) (by decide)
    refine ⟨z (Nat.le_of_ble_eq_true rfl), fun t9 H9 n9 s9 x9 => ⟨_, 30, _, rfl, rfl, x9, by decide, by decide, by decide, (fun e => nomatch e), fun t10 H10 n10 s10 x10 => ?_⟩⟩
    have h0b := h0.step s9
    have inr : ∀ y ∈ (List.replicate 30 [V.str "c"]).flatten, y = V.str "c" := fun y m => by
      obtain ⟨l, hl, hy⟩ := List.mem_flatten.mp m
      rw [List.eq_of_mem_replicate hl] at hy
      exact List.mem_singleton.mp hy
    have h1 := (h0b.step s10).put (Vd.tup (n := 0) (m := 2000) (k := 30) (TX.hm x10 (h0b.ne n10)) (fun y m => by
      rw [inr y m]
      exact L) (fun y m => by
      rw [inr y m]
      exact Ji.str _) (by decide)) (by decide) (by decide)
    refine ⟨z (Nat.le_of_ble_eq_true rfl), fun t11 H11 n11 s11 x11 => ?_⟩
    have h2 := (h1.step s11).put (Vd.tup (n := 0) (m := 2000) (k := 2) (TX.hm x11 (h1.ne n11)) (all2 (I 1 (by decide +kernel)) (I 2 (by decide +kernel))) (all2 (Ji.int _) (Ji.int _)) (by decide)) (by decide) (by decide)
    refine ⟨z (Nat.le_of_ble_eq_true rfl), fun t12 H12 n12 s12 x12 => ?_⟩
    have h3 := (h2.step s12).put (Vd.tup (n := 0) (m := 2000) (k := 1) (TX.hm x12 (h2.ne n12)) (all1 (Vd.non.le (by decide) (by decide))) (all1 Ji.non) (by decide)) (by decide) (by decide)
    refine ⟨z (Nat.le_of_ble_eq_true rfl), fun t13 H13 n13 s13 x13 => ⟨z (Nat.le_of_ble_eq_true rfl), fun t14 H14 n14 s14 x14 => ⟨z (Nat.le_of_ble_eq_true rfl), fun t15 H15 n15 s15 x15 => ?_⟩⟩⟩
    have h3b := h3.step s13
    have v13 : Vd (Hm d _) 1 3000 (.ref t13) := (Vd.tup (n := 0) (m := 2000) (k := 1) (xs := [.str "c"]) (TX.hm x13 (h3.ne n13)) (all1 L) (all1 (Ji.str _)) (by decide)).le (by decide) (by decide)
    have x13b := TX.hm (Tx.TX.same x13 s14) (h3.ne n13)
    have h3c := h3b.step s14
    have v14 : Vd (Hm d _) 2 4000 (.ref t14) := (Vd.tup (n := 1) (m := 3000) (k := 1) (xs := [.ref t13]) (TX.hm x14 (h3b.ne n14)) (all1 (v13.same (Same.hm s14))) (all1 (Ji.tup x13b)) (Nat.le_refl 1)).le (by decide) (by decide)
    have x14b := TX.hm (Tx.TX.same x14 s15) (h3b.ne n14)
    have h4 := (h3c.step s15).put (Vd.tup (n := 2) (m := 4000) (k := 1) (TX.hm x15 (h3c.ne n15)) (all1 (v14.same (Same.hm s15))) (all1 (Ji.tup x14b)) (Nat.le_refl 1)) (by decide) (by decide)
    refine ⟨10, 60, rfl, rfl, c10 (k := 60) (by decide), 10, 39, rfl, rfl, c10 (k := 39) (by decide), _, _, rfl, rfl, wide_mul (a := 400) (b := 400) (by decide +kernel) (by decide +kernel) (by decide) (by decide) (by decide), ?_⟩
    have h5 := (h4.put (T "\n" ⟨by decide, by decide +kernel⟩) (by decide) (by decide)).put (I (10 ^ (60 : Int).toNat * 10 ^ (39 : Int).toNat) (by decide +kernel)) (by decide) (by decide)
    refine ⟨z (Nat.le_of_ble_eq_true rfl), fun l2 m2 => ?_⟩
    refine ⟨l1, l2, _, _, rfl, rfl, (((((((s9.trans s10).trans s11).trans s12).trans s13).trans s14).trans s15).trans (Same.new m2)) _ _ upd_same, upd_same, z (Nat.le_of_ble_eq_true rfl), fun p m3 => ?_⟩
    refine ⟨_, rfl, _, rfl, 10, 60, rfl, rfl, c10 (k := 60) (by decide), 0, _, rfl, rfl, z (Nat.le_of_ble_eq_true rfl), fun l3 m4 => ?_⟩
    refine ⟨p, l3, _, _, rfl, rfl, (Same.new m4) _ _ upd_same, upd_same, z (Nat.le_of_ble_eq_true rfl), fun p2 m5 => ?_⟩
    have h6 := fun o : HO => Good.new (o := o) (Good.put (Good.new (Good.new h5 m2) m3) (I (0 - 10 ^ (60 : Int).toNat) (by decide +kernel)) (by decide) (by decide)) m4
    have h7 := fun o : HO => Good.new (o := o) (h6 _) m5
    simp only [List.nil_append, List.cons_append] at h7
    have hd2 := fun o : HO => (h6 o).same _ _ hd
    refine ⟨d, p2, n, _, rfl, (ne_of_none (hd2 _) m5).symm, SqL.of upd_same, Nat.le_of_ble_eq_true rfl, di.same (h7 _).same, hn, fun q ys H' nqd nq kp hq pm di2 => ?_⟩
    · refine k q ys H' nqd ((h7 _).same.free nq) (fun b o nb e => kp b o nb ((h7 _).same b o e)) hq pm.length_eq (fun y m => ((h7 _).all y (pm.subset m)).same kp.hm) di2
end
end Pr
namespace Pr
open PySem PySem.Spec PyProof.Rows L2 Gd
/-! ### right trees are let through -/
theorem fo_wgo {l : List (Str × Nat)} (nd : (l.map (·.1)).Nodup) : ∀ {n : Nat} {zs : List Str}, Fo l n zs → wgo l n (zs.map V.str) = true
  | _, _, .nil => rfl
  | _, _, .cons (z := z) (a := a) (n := n) (zs := zs) m h => by
    have an : arity l (.str z) = some (a : Int) := by
      show (match valV (dkv l) (.inr z : Key) with | some (.int a) => some a | _ => none) = some (a : Int)
      rw [val_some nd m]
    rw [List.map_cons, wgo_some (by omega) an]
    have e : ((n + 1 : Nat) : Int) + ((a : Int) - 1) = ((n + a : Nat) : Int) := by omega
    rw [e]
    exact fo_wgo nd h
theorem kd_strs {H : Hp} {zs : List Str} : ∀ x ∈ zs.map V.str, ∃ ty, Kd H x ty := fun x m => by
  obtain ⟨z, _, rfl⟩ := List.mem_map.mp m
  exact ⟨_, .str z⟩
/-- a tree over the operators at o -/
structure TreeAt (H : Hp) (C o t : Addr) (l : List (Str × Nat)) (zs : List Str) : Prop where
  ops : OpsAt H C o l
  tup : Rd H t (.tup (zs.map V.str))
  nd : (l.map (·.1)).Nodup
  fo : Fo l 1 zs
  few : zs.length ≤ 5000
  two : ∀ p ∈ l, p.2 ≤ 2
def spTree (C : Addr) : Sp := fun vs H Q _ => ∃ (o t : Addr) (l : List (Str × Nat)) (zs : List Str), vs = [.ref o, .ref t] ∧ TreeAt H C o t l zs ∧ Q (.bl true) H
def spChTree (C : Addr) : Sp := fun vs H Q _ => ∃ (o t : Addr) (l : List (Str × Nat)) (zs : List Str), vs = [.ref o, .ref t] ∧ TreeAt H C o t l zs ∧ Q .non H
def spChPlace (C : Addr) : Sp := fun vs H Q _ => ∃ (o t : Addr) (l : List (Str × Nat)) (zs : List Str) (p : Nat), vs = [.ref o, .ref t, .int (p : Int)] ∧ TreeAt H C o t l zs ∧ p < zs.length ∧ Q .non H
/-- the methods that the others call -/
structure Ms (K : PySem.W.Frag) (mg : Str → Option Value) (C fW fT fC fP fE fI fN : Addr) (dW dT dC dP dE dI dN : FuncData) (tk : Tok) : Prop where
  cf : OpF K C
  FW : Fun K "is_whole" "is_whole" sWhole fW dW
  bW : Binds K dW ["words", "arities"] []
  gW : mg "is_whole" = some (.ref fW)
  gM : mg "MAX_TREE" = some (.int 5000 tk)
  FT : Fun K "is_tree" "Operators.is_tree" mIsTree fT dT
  bT : Binds K dT ["self", "value"] []
  mT : Meth K C "is_tree" fT
  FC : Fun K "_check_tree" "Operators._check_tree" mChTree fC dC
  bC : Binds K dC ["self", "tree"] []
  mC : Meth K C "_check_tree" fC
  FP : Fun K "_check_place" "Operators._check_place" mChPlace fP dP
  bP : Binds K dP ["self", "tree", "place"] []
  mP : Meth K C "_check_place" fP
  FE : Fun K "_end" "Operators._end" m_End fE dE
  bE : Binds K dE ["self", "tree", "place"] []
  mE : Meth K C "_end" fE
  FI : Fun K "is_integer" "is_integer" sInteger fI dI
  bI : Binds K dI ["value"] []
  gI : mg "is_integer" = some (.ref fI)
  FN : Fun K "is_count" "is_count" sCount fN dN
  bN : Binds K dN ["value"] []
  gN : mg "is_count" = some (.ref fN)
section
variable {P : Program} {w : World} {K : PySem.W.Frag} {mg : Str → Option Value} {base : Heap} {C fW fT fC fP fE fI fN : Addr} {dW dT dC dP dE dI dN : FuncData} {tk : Tok}
theorem scIsTree5 : FnScope ["self", "value"] ["self", "value"] (defScope mIsTree) := ⟨rfl, rfl, rfl, by decide +kernel, rfl, by decide +kernel, by decide +kernel⟩
theorem ok_isTree (M : Ms K mg C fW fT fC fP fE fI fN dW dT dC dP dE dI dN tk) (T : Free mg) : FnOk P w K mg base CX0 2 fT dT ["self", "value"] (spTree C) := by
  have GW : FnOk P w K mg base CX0 1 fW dW ["words", "arities"] spWhole := ok_whole M.FW T
  refine M.FT.ok scIsTree5 (fun vs H Q E h => ?_) (fun cdv A outer s H vs Q E hr h => ?_)
  · obtain ⟨o, t, l, zs, rfl, _⟩ := h
    rfl
  · obtain ⟨o, t, l, zs, rfl, tr, q⟩ := h
    refine ⟨_, pss_one (ps_ret (pe_and (pe_callB call_isi (by rfl) T.isi (by decide +kernel) (pa_cons (pv 1) (pa_cons (pe_bltn (v := .ty "tuple") (by rfl) T.tuple (by decide +kernel) rfl) pa_nil))) (pe_and (pe_cmpR op_le (pe_callB call_len_seq (by rfl) T.len PySem.boot_len (pa_cons (pv 1) pa_nil)) (pe_glob (v := .int 5000) (by rfl) M.gM ⟨_, rfl⟩) (nomark _)) (pe_one (pe_call GW (hr.mono (by decide)) (by rfl) M.gW M.FW.kp M.bW .nil pass0 (pa_cons (pv 1) (pa_cons (pe_fld (pv 0) rfl) pa_nil))))))), ?_⟩
    obtain ⟨dx, tn, ta, tl, ho, hn, ha⟩ := tr.ops.ex
    refine ⟨_, rfl, .ref t, _, _, _, true, rfl, .ty "tuple", tyR tr.tup, kit_ty (r := true) (by decide +kernel), _, rfl, iteT ⟨_, rfl, t, _, rfl, .inr (Or.inl tr.tup), _, _, rfl, rfl, _, rfl, ?_⟩⟩
    refine if_true_of (decide_eq_true (by rw [List.length_map]; have := tr.few; omega)) ⟨_, rfl, _, rfl, o, C, dx, _, _, rfl, ho, M.cf.cls, M.cf.n2, rfl, t, ta, _, l, rfl, tr.tup, kd_strs, ha, ?_⟩
    have e : wgo l 1 (zs.map V.str) = true := fo_wgo tr.nd tr.fo
    rw [e]
    exact q
theorem scChTree : FnScope ["self", "tree"] ["self", "tree"] (defScope mChTree) := ⟨rfl, rfl, rfl, by decide +kernel, rfl, by decide +kernel, by decide +kernel⟩
theorem ok_chTree (M : Ms K mg C fW fT fC fP fE fI fN dW dT dC dP dE dI dN tk) (T : Free mg) : FnOk P w K mg base CX0 3 fC dC ["self", "tree"] (spChTree C) := by
  have GT : FnOk P w K mg base CX0 2 fT dT ["self", "value"] (spTree C) := ok_isTree M T
  refine M.FC.ok scChTree (fun vs H Q E h => ?_) (fun cdv A outer s H vs Q E hr h => ?_)
  · obtain ⟨o, t, l, zs, rfl, _⟩ := h
    rfl
  · obtain ⟨o, t, l, zs, rfl, tr, q⟩ := h
    refine ⟨_, pss_one (ps_if (pt_not (pt_val (pe_meth (pv 0) M.cf.cls M.mT GT hr M.bT .nil pass0 (pa_cons (pv 1) pa_nil)))) (pss_one ps_never) pss_nil), ?_⟩
    obtain ⟨dx, tn, ta, tl, ho, hn, ha⟩ := tr.ops.ex
    exact ⟨_, rfl, o, dx, _, rfl, ho, rfl, _, rfl, o, t, l, zs, rfl, tr, _, rfl, if_false_of rfl q⟩
theorem scChPlace : FnScope ["self", "tree", "place"] ["self", "tree", "place"] (defScope mChPlace) := ⟨rfl, rfl, rfl, by decide +kernel, rfl, by decide +kernel, by decide +kernel⟩
theorem ok_chPlace (M : Ms K mg C fW fT fC fP fE fI fN dW dT dC dP dE dI dN tk) (T : Free mg) : FnOk P w K mg base CX0 4 fP dP ["self", "tree", "place"] (spChPlace C) := by
  have GC : FnOk P w K mg base CX0 3 fC dC ["self", "tree"] (spChTree C) := ok_chTree M T
  have GN : FnOk P w K mg base CX0 2 fN dN ["value"] spCountO := ok_countO ⟨M.FI, M.bI, M.gI, M.FN, M.bN, M.gN⟩ T
  refine M.FP.ok scChPlace (fun vs H Q E h => ?_) (fun cdv A outer s H vs Q E hr h => ?_)
  · obtain ⟨o, t, l, zs, p, rfl, _⟩ := h
    rfl
  · obtain ⟨o, t, l, zs, p, rfl, tr, hp, q⟩ := h
    have r2 : Room 2 _ := hr.mono (by decide)
    refine ⟨_, pss_cons (ps_expr (pe_meth (pv 0) M.cf.cls M.mC GC hr M.bC .nil pass0 (pa_cons (pv 1) pa_nil))) (pss_one (ps_if (PW.pt (pw_or (pt_not (pt_val (pe_call GN r2 (by rfl) M.gN M.FN.kp M.bN .nil pass0 (pa_cons (pv 2) pa_nil)))) (pw_or1 (pt_cmpR op_ge (pv 2) (pe_callB call_len_seq (by rfl) T.len PySem.boot_len (pa_cons (pv 1) pa_nil)) (nomark _))))) (pss_one ps_never) pss_nil)), ?_⟩
    obtain ⟨dx, tn, ta, tl, ho, hn, ha⟩ := tr.ops.ex
    have few := tr.few
    have c : isCountO (.int (p : Int)) = true := nat_countO (Nat.lt_of_lt_of_le (show p < 5000 by omega) (by decide))
    refine ⟨_, rfl, o, dx, _, rfl, ho, rfl, _, rfl, o, t, l, zs, rfl, tr, _, rfl, .int (p : Int), "int", rfl, .int _, _, rfl, ?_⟩
    rw [c]
    exact if_false_of rfl ⟨_, rfl, _, rfl, t, _, rfl, .inr (Or.inl tr.tup), _, _, rfl, rfl, _, rfl, if_false_of (decide_eq_false (by rw [List.length_map]; omega)) q⟩
end
end Pr

namespace Pr
open PySem PySem.Spec PyProof.Rows L2 Gd
/-! ### where a subtree ends -/
def ar (l : List (Str × Nat)) (z : Str) : Nat := match valV (dkv l) (.inr z : Key) with
  | some (.int a) => a.toNat
  | _ => 0
theorem ar_eq {l : List (Str × Nat)} {z : Str} {a : Nat} (nd : (l.map (·.1)).Nodup) (m : (z, a) ∈ l) : ar l z = a := by
  show (match valV (dkv l) (.inr z : Key) with | some (.int a) => a.toNat | _ => 0) = a
  rw [val_some nd m]
  rfl
/-- how many words the first n trees take -/
def ext (l : List (Str × Nat)) : List Str → Nat → Nat
  | _, 0 => 0
  | [], _ => 0
  | z :: zs, n + 1 => 1 + ext l zs (n + ar l z)
theorem ext_zero {l : List (Str × Nat)} : ∀ zs : List Str, ext l zs 0 = 0
  | [] => rfl
  | _ :: _ => rfl
theorem Fo.drop {l : List (Str × Nat)} : ∀ {n : Nat} {zs : List Str} {j : Nat}, Fo l n zs → j < zs.length → ∃ m, Fo l (m + 1) (zs.drop j)
  | _, _, _, .nil, h => absurd h (Nat.not_lt_zero _)
  | _, _, 0, .cons m h, _ => ⟨_, .cons m h⟩
  | _, _, j + 1, .cons m h, hj => Fo.drop (j := j) h (Nat.lt_of_succ_lt_succ hj)
theorem Fo.len {l : List (Str × Nat)} : ∀ {n : Nat} {zs : List Str}, Fo l (n + 1) zs → 0 < zs.length
  | _, _, .cons _ _ => Nat.succ_pos _
def spEnd_ (C : Addr) : Sp := fun vs H Q _ => ∃ (o t : Addr) (l : List (Str × Nat)) (zs : List Str) (p : Nat), vs = [.ref o, .ref t, .int (p : Int)] ∧ TreeAt H C o t l zs ∧ p < zs.length ∧ Q (.int ((p + ext l (zs.drop p) 1 : Nat) : Int)) H
section
variable {P : Program} {w : World} {K : PySem.W.Frag} {mg : Str → Option Value} {base : Heap} {C fW fT fC fP fE fI fN : Addr} {dW dT dC dP dE dI dN : FuncData} {tk : Tok}
theorem scEnd_ : FnScope ["self", "tree", "place", "awaited", "at"] ["self", "tree", "place"] (defScope m_End) := ⟨rfl, rfl, rfl, by decide +kernel, rfl, by decide +kernel, by decide +kernel⟩
theorem ok_end_ (M : Ms K mg C fW fT fC fP fE fI fN dW dT dC dP dE dI dN tk) (T : Free mg) : FnOk P w K mg base CX0 1 fE dE ["self", "tree", "place"] (spEnd_ C) := by
  refine M.FE.ok scEnd_ (fun vs H Q E h => ?_) (fun cdv A outer s H vs Q E hr h => ?_)
  · obtain ⟨o, t, l, zs, p, rfl, _⟩ := h
    rfl
  · obtain ⟨o, t, l, zs, p, rfl, tr, hp, q⟩ := h
    have hu := hr.units
    have hu1 : ∀ {u : Nat}, u + 64 < cLine → u + 1 < cLine := fun h => by omega
    refine ⟨_, pss_cons (ps_set (i := 3) scEnd_.nd rfl (.inl rfl) pe_int) (pss_cons (ps_set (i := 4) scEnd_.nd rfl (.inl rfl) (pv 2)) (pss_cons (ps_while PassesOwn.never (pt_cmpR op_gt (pv 3) pe_int (nomark _)) (pss_cons (ps_aug (i := 3) scEnd_.nd rfl (.inl rfl) (pe_op op_sub (pe_dget (hu1 hu) (pe_fld (pv 0) rfl) (pe_ix ix_tup (pv 1) (pv 4) (fun _ _ => rfl)) (fun _ _ => rfl)) pe_int) ip_add) (pss_one (ps_aug (i := 4) scEnd_.nd rfl (.inl rfl) pe_int ip_add)))) (pss_one (ps_ret (pv 4))))), ?_⟩
    obtain ⟨dx, tn, ta, tl, ho, hn, ha⟩ := tr.ops.ex
    obtain ⟨r, fo⟩ := Fo.drop tr.fo hp
    refine ⟨_, rfl, ?_⟩
    refine while_by (fun σ H' => H' = H ∧ ∃ k j : Nat, σ = [some (.ref o), some (.ref t), some (.int (p : Int)), some (.int (k : Int)), some (.int (j : Int))] ∧ Fo l (k + r) (zs.drop j) ∧ j ≤ zs.length ∧ j + ext l (zs.drop j) k = p + ext l (zs.drop p) 1)
      (fun σ _ => match σ with | [_, _, _, _, some (.int j)] => zs.length - j.toNat | _ => 0) ⟨rfl, 1, p, rfl, by rw [Nat.add_comm]; exact fo, by omega, rfl⟩ ?_ (fun σ H Q Q' k h => by
        obtain ⟨v, hv, i, j, e1, e2, c, ec, q⟩ := h
        exact ⟨v, hv, i, j, e1, e2, c, ec, k _ _ q⟩)
    rintro σ H' ⟨rfl, k, j, rfl, f1, jl, ej⟩
    refine ⟨_, rfl, _, _, rfl, rfl, _, rfl, ?_⟩
    cases k with
    | zero =>
      refine if_false_of (by decide) ⟨_, rfl, ?_⟩
      rw [ext_zero] at ej
      have e : (j : Int) = ((p + ext l (zs.drop p) 1 : Nat) : Int) := by omega
      rw [e]
      exact q
    | succ k =>
      refine if_true_of (decide_eq_true (by omega)) ?_
      have jl2 : j < zs.length := by
        have e : k + 1 + r = (k + r) + 1 := by omega
        rw [e] at f1
        have := f1.len
        rw [List.length_drop] at this
        omega
      have hd : zs.drop j = zs[j] :: zs.drop (j + 1) := List.drop_eq_getElem_cons jl2
      rw [hd] at f1 ej
      obtain ⟨a, m, f2⟩ : ∃ a, (zs[j], a) ∈ l ∧ Fo l (k + r + a) (zs.drop (j + 1)) := by
        have e : k + 1 + r = (k + r) + 1 := by omega
        rw [e] at f1
        cases f1 with
        | cons m h => exact ⟨_, m, h⟩
      have vz := val_some tr.nd m
      have arz := ar_eq tr.nd m
      have hx : atI (zs.map V.str) (j : Int) = some (V.str zs[j]) := atI_nat (by rw [List.getElem?_map, List.getElem?_eq_getElem jl2]; rfl)
      refine ⟨_, rfl, _, rfl, o, C, dx, _, _, rfl, ho, M.cf.cls, M.cf.n2, rfl, _, rfl, _, rfl, t, _, _, _, rfl, rfl, Or.inl tr.tup, hx, ta, _, rfl, vz ▸ DGet.k (k := .inr zs[j]) ha, _, _, rfl, rfl, _, _, rfl, rfl, ?_⟩
      have e1 : ((k + 1 : Nat) : Int) + ((a : Int) - 1) = ((k + a : Nat) : Int) := by omega
      have e2 : (j : Int) + 1 = ((j + 1 : Nat) : Int) := by omega
      have ej2 : j + (1 + ext l (zs.drop (j + 1)) (k + ar l zs[j])) = p + ext l (zs.drop p) 1 := ej
      rw [arz] at ej2
      refine ⟨_, rfl, _, _, rfl, rfl, ⟨rfl, k + a, j + 1, ?_, ?_, by omega, by omega⟩, ?_⟩
      · show ([some (V.ref o), some (V.ref t), some (V.int (p : Int)), some (V.int (((k + 1 : Nat) : Int) + ((a : Int) - 1))), some (V.int ((j : Int) + 1))] : L2.St) = _
        rw [e1, e2]
      · have e : k + a + r = k + r + a := by omega
        rw [e]
        exact f2
      · show zs.length - ((j : Int) + 1).toNat < zs.length - (j : Int).toNat
        omega
end
end Pr

namespace Pr
open PySem PySem.Spec PyProof.Rows L2 Gd
/-! ### end, subtree, children -/
theorem ext_fo {l : List (Str × Nat)} (nd : (l.map (·.1)).Nodup) : ∀ {zs : List Str} {n m : Nat}, Fo l (n + m) zs → Fo l m (zs.drop (ext l zs n)) ∧ ext l zs n ≤ zs.length
  | zs, 0, m, h => by
    rw [ext_zero, List.drop_zero]
    rw [Nat.zero_add] at h
    exact ⟨h, Nat.zero_le _⟩
  | [], n + 1, m, h => by
    have e : n + 1 + m = (n + m) + 1 := by omega
    rw [e] at h
    exact absurd h.len (Nat.lt_irrefl _)
  | z :: zs, n + 1, m, h => by
    have e : n + 1 + m = (n + m) + 1 := by omega
    rw [e] at h
    cases h with
    | cons mm h =>
      rename_i a
      have e2 : n + m + a = (n + a) + m := by omega
      rw [e2] at h
      obtain ⟨h1, h2⟩ := ext_fo nd h
      have e3 : ext l (z :: zs) (n + 1) = ext l zs (n + a) + 1 := by
        show 1 + ext l zs (n + ar l z) = _
        rw [ar_eq nd mm, Nat.add_comm]
      rw [e3]
      exact ⟨h1, by rw [List.length_cons]; omega⟩
/-- the places of n trees from c on -/
def kidsFrom (l : List (Str × Nat)) (zs : List Str) : Nat → Nat → List Nat
  | _, 0 => []
  | c, n + 1 => c :: kidsFrom l zs (c + ext l (zs.drop c) 1) n
theorem kids_len {l : List (Str × Nat)} {zs : List Str} : ∀ {n c : Nat}, (kidsFrom l zs c n).length = n
  | 0, _ => rfl
  | n + 1, _ => congrArg (· + 1) kids_len
theorem TreeAt.same {H H' : Hp} {C o t : Addr} {l : List (Str × Nat)} {zs : List Str} (h : TreeAt H C o t l zs) (s : Same H H') : TreeAt H' C o t l zs := ⟨h.ops.same s, Rd.same h.tup s, h.nd, h.fo, h.few, h.two⟩
end Pr
/-! ### enumerate over a tuple -/
namespace PySem
namespace EnT
open PySem.W PySem.Calls PyProof.Rows AutoSeq1
section
variable {prog : Program} {w : World} {A : Around} {E : Value → Shared → Prop} {s : Shared} {it t : Addr} {i : Nat} {ys : Array Value}
theorem nextT {x : Value} {Q : Value → Shared → Prop} (hit : s.heap.IsTupleIter it t i) (ht : s.heap.IsTuple t ys) (hx : ys[i]? = some x) (hQ : ∀ h', h'.IsTupleIter it t (i + 1) → Heap.SameBut it s.heap h' → Q x { s with heap := h' }) : wpAny (model prog w) A (Builtin.SmallTypes.nextOf (.ref it)) Q E s := by
  obtain ⟨⟨o, ho, hc, hd⟩, ⟨ot, hot, _, nt, hdt⟩⟩ := And.intro (id hit) ht
  refine (show wpAny _ _ _ _ _ _ from wpAny_bind (wpAny_callSpecial?_slot (name := Str.ofString "__next__") hit.typeIs F.slot_tuple_iterator_next (wpAny_call_entry F.slot_tuple_iterator_next hit.typeIs F.entry_tuple_iterator_next ?_ (F.args_tuple_iterator_next_1 _))))
  refine (show wpAny _ _ (field (.ref it) 0 >>= _) _ _ s from wpAny_bind (wpAny_field ho hd (x := .ref t) rfl ?_))
  refine (show wpAny _ _ (if (Value.ref t == Value.none) = true then _ else _) _ _ s from ?_); rw [if_neg (show ¬ ((Value.ref t == Value.none) = true) from Bool.false_ne_true)]
  refine (show wpAny _ _ (field (.ref it) 1 >>= _) _ _ s from wpAny_bind (wpAny_field ho hd (x := .int i 0) rfl ?_))
  refine (show wpAny _ _ (seqItems? (.ref t) >>= _) _ _ s from wpAny_bind (wpAny_seqItems hot hdt ?_)); simp only [Int.toNat_natCast, hx]
  exact wpAny_bind (wpAny_setField ho hd (by simp) (wpAny_pure ⟨x, rfl, wpAny_pure (hQ _ ⟨_, Heap.get?_update_self _ ho (Obj.isFreed_of_fields (Obj.data_mapFields hd _)), (Obj.cls_mapFields ..).trans hc, by rw [Obj.data_mapFields hd]; simp [rawInt]⟩ (Heap.SameBut.update ..))⟩))
theorem lastT {Q : Value → Shared → Prop} (hh : A.handled = none) (hit : s.heap.IsTupleIter it t i) (ht : s.heap.IsTuple t ys) (hx : ys[i]? = none) (hE : ∀ h' e, Heap.ExtBut it s.heap h' → (∃ o, h'.get? e = some o ∧ o.cls = .type "StopIteration") → E (.ref e) { s with heap := h' }) : wpAny (model prog w) A (Builtin.SmallTypes.nextOf (.ref it)) Q E s := by
  obtain ⟨⟨o, ho, hc, hd⟩, ⟨ot, hot, _, nt, hdt⟩⟩ := And.intro (id hit) ht
  refine (show wpAny _ _ _ _ _ _ from wpAny_bind (wpAny_callSpecial?_slot (name := Str.ofString "__next__") hit.typeIs F.slot_tuple_iterator_next (wpAny_call_entry F.slot_tuple_iterator_next hit.typeIs F.entry_tuple_iterator_next ?_ (F.args_tuple_iterator_next_1 _))))
  refine (show wpAny _ _ (field (.ref it) 0 >>= _) _ _ s from wpAny_bind (wpAny_field ho hd (x := .ref t) rfl ?_))
  refine (show wpAny _ _ (if (Value.ref t == Value.none) = true then _ else _) _ _ s from ?_); rw [if_neg (show ¬ ((Value.ref t == Value.none) = true) from Bool.false_ne_true)]
  refine (show wpAny _ _ (field (.ref it) 1 >>= _) _ _ s from wpAny_bind (wpAny_field ho hd (x := .int i 0) rfl ?_))
  refine (show wpAny _ _ (seqItems? (.ref t) >>= _) _ _ s from wpAny_bind (wpAny_seqItems hot hdt ?_)); simp only [Int.toNat_natCast, hx]
  refine wpAny_bind (wpAny_rule (wpAny_bind (wpAny_setField ho hd (by simp) (show wpAny _ _ (newExc (.type "StopIteration") [] >>= _) _ _ _ from wpAny_bind ?_)))); simp only [newExc, newTuple]
  refine wpAny_bind (wpAny_newObj_type (wpAny_bind (m := firstArgMember _ _) (wpAny_of_eq (a := Value.none) (by first | rfl | (simp only [firstArgMember]; rfl)) (wpAny_newObj_type ?_ (by size_fits)))) (by size_fits)); simp only [raiseNew]
  refine wpAny_bind (wpAny_handled ?_); first | rw [show A.in1.handled = none from hh] | rw [hh]
  exact wpAny_bind (wpAny_pure (wpAny_throw (hE _ _ (((Heap.SameBut.update ..).extBut.push _).push _) ⟨_, Heap.get?_push_size _ rfl, rfl⟩)))
end
theorem drawsT {prog : Program} {w : World} {A : Around} (hh : A.handled = none) (it t : Addr) (hne : t ≠ it) (ys : Array Value) : Draws prog w A it [it, t] ys.size (fun i v => ys[i]? = some v) (fun i h => h.IsTupleIter it t i ∧ h.IsTuple t ys) where
  live := fun _ _ st => let ⟨o, ho, _⟩ := st.1; ⟨o, ho⟩
  frame := fun _ _ _ st hk => ⟨st.1.at fun o e => hk it (by simp) o e, let ⟨o, ho, r⟩ := st.2; ⟨o, hk t (by simp) o ho, r⟩⟩
  item := fun i s Q E hi st hQ => nextT st.1 st.2 (x := ys[i]) (by simp [hi]) fun h' a b => hQ _ h' s.toks (by simp [hi]) ⟨a, st.2.extBut b.extBut hne⟩ b
  done := fun s Q E st hE => lastT hh st.1 st.2 (by simp) hE
end EnT
end PySem
namespace PySem
namespace EnT
open PySem.W PySem.Calls PyProof.Rows AutoSeq1
theorem newT (l : Addr) (ys : Array Value) (n : Nat) (dct : Option Addr) (sl : Array (Option Value)) :
    Meets (Builtin.«enumerate.__new__» ⟨[.type "enumerate", .ref l], []⟩) (fun _ R s => s.heap.get? l = some { cls := .type "tuple", dict := dct, data := .seq ys n, slots := sl } ∧
      R (.ok (.ret (.ref (s.heap.push { cls := .type "tuple_iterator", data := .fields #[.ref l, .int 0 0] }).objs.size)))
        { s with heap := (s.heap.push { cls := .type "tuple_iterator", data := .fields #[.ref l, .int 0 0] }).push { cls := .type "enumerate", data := .fields #[.none, .bool false, .ref s.heap.objs.size, rawInt 0, .none, .none] } }) :=
  .of_wp fun prog w A R s h => by
    obtain ⟨hp, g, d, tk, os⟩ := s; obtain ⟨hl, h⟩ := h
    have c1 := sub_enumerate
    have c2 : Heap.IsTuple (Shared.heap ⟨hp, g, d, tk, os⟩) l ys := ⟨_, hl, rfl, n, rfl⟩
    wp_walk using wpAny_loadPart' hl
    refine wpAny_stack_any fun _ => wpAny_pure (show _ from ?_); split
    · rename_i c _ _ _ _ _
      cases (c == Value.type "enumerate") <;> (wp_walk using wpAny_loadPart' hl, wpAny_pyIter_tuple c2; exact ⟨_, rfl, h⟩)
    · wp_walk using wpAny_loadPart' hl, wpAny_pyIter_tuple c2
      exact ⟨_, rfl, h⟩
theorem callT {prog : Program} {w : World} {A : Around} {E : Value → Shared → Prop} {s : Shared} {l : Addr} {ys : Array Value} {Q : Value → Shared → Prop} (hL : s.heap.IsTuple l ys)
    (h : ∀ h', IsEnum h' (s.heap.objs.size + 1) s.heap.objs.size 0 .none → h'.IsTupleIter s.heap.objs.size l 0 → h'.objs.size = s.heap.objs.size + 2 → (∀ b o, s.heap.get? b = some o → h'.get? b = some o) → Q (.ref (s.heap.objs.size + 1)) { s with heap := h' }) :
    wpAny (model prog w) A (call (.type "enumerate") [.ref l]) Q E s := by
  obtain ⟨⟨c, dct, dt, sl⟩, hl, hc, n, hd⟩ := hL
  cases (show c = .type "tuple" from hc)
  cases (show dt = .seq ys n from hd)
  refine callType_new F.called_enumerate (by decide) (F.typeCall_enumerate_1 _) (F.newCall_enumerate_1 _) (fun o => F.args_object_init_2 o _) F.entry_enumerate_new (newT l ys n dct sl) ⟨hl, ?_⟩
  have z : (s.heap.push { cls := .type "tuple_iterator", data := .fields #[.ref l, .int 0 0] }).objs.size = s.heap.objs.size + 1 := Heap.size_push ..
  refine (show _ ∧ _ from ?_)
  rw [z]
  have e1 : IsEnum ((s.heap.push { cls := .type "tuple_iterator", data := .fields #[.ref l, .int 0 0] }).push { cls := .type "enumerate", data := .fields #[.none, .bool false, .ref s.heap.objs.size, rawInt 0, .none, .none] }) (s.heap.objs.size + 1) s.heap.objs.size 0 .none := by
    have q := Heap.get?_push_size (s.heap.push { cls := .type "tuple_iterator", data := .fields #[.ref l, .int 0 0] }) (o := { cls := .type "enumerate", data := .fields #[.none, .bool false, .ref s.heap.objs.size, rawInt 0, .none, .none] }) rfl
    rw [z] at q
    exact q
  exact ⟨⟨_, e1, rfl⟩, h _ e1 ⟨_, Heap.get?_push_of_some _ (Heap.get?_push_size _ rfl), rfl, rfl⟩ (by rw [Heap.size_push, z]) fun b o x => Heap.get?_push_of_some _ (Heap.get?_push_of_some _ x)⟩
theorem endT {prog : Program} {w : World} {A : Around} {E : Value → Shared → Prop} {s : Shared} {e it t : Addr} {j : Nat} {i : Int} {old : Value} {ys : Array Value} {Q : Option Value → Shared → Prop} (hh : A.handled = none) (he : IsEnum s.heap e it i old) (hit : s.heap.IsTupleIter it t j) (ht : s.heap.IsTuple t ys) (hx : ys[j]? = none)
    (hQ : ∀ h', Heap.ExtBut it s.heap h' → Q none { s with heap := h' }) : wpAny (model prog w) A (pyNext (.ref e)) Q E s := by
  have ty : s.TypeIs (.ref e) "enumerate" := ⟨_, he, rfl⟩
  unfold pyNext
  refine (show wpAny _ _ _ _ _ _ from wpAny_bind (wpAny_attempt (wpAny_callSpecial?_slot (name := Str.ofString "__next__") ty F.slot_enumerate_next (wpAny_call_entry F.slot_enumerate_next ty F.entry_enumerate_next ?_ (F.args_enumerate_next_1 _)))))
  refine (show wpAny _ _ (field (.ref e) 2 >>= _) _ _ _ from wpAny_bind (wpAny_field he rfl (x := .ref it) rfl ?_))
  refine wpAny_bind (lastT (show A.in1.handled = none from hh) hit ht hx fun h' x eb ⟨o, ho, hc⟩ => ?_)
  exact wpAny_bind (wpAny_isInstance (T := "StopIteration") (b := true) ⟨o, ho, hc⟩ isSubtype_stop (wpAny_pure (hQ _ eb)))
end EnT
end PySem
namespace L2
open PySem PySem.Spec PyProof.Rows
/-- the tuple at a, each item in a new pair -/
def Iet (K : PySem.W.Frag) (a : Addr) : It :=
  ⟨fun i H => ∃ (xs : List V) (x : V), SqT K H a xs ∧ xs[i]? = some x, fun i H v H' => ∃ U x, v = .ref U ∧ H U = none ∧ H' = upd H U (.tup [.int (i : Nat), x]) ∧ ∀ xs, SqT K H a xs → xs[i]? = some x, fun i H => ∃ xs : List V, SqT K H a xs ∧ xs.length ≤ i⟩
theorem turn_enT {P : Program} {w : World} {K : PySem.W.Frag} {elts : List Expr} {kk : Nat} {tpos : Pos} (a e it : Addr) (ne2 : a ≠ it) (ne3 : a ≠ e) :
    Turn P w K (.Tuple elts kk tpos) (Iet K a) [e, it] e (fun i h => (∃ old, IsEnum h e it ((i : Nat) : Int) old) ∧ h.IsTupleIter it a i ∧ e ≠ it) where
  mem := by simp
  obj := fun i h ⟨⟨old, he⟩, ⟨o, ho, hc, hd⟩, _⟩ b hb => by
    rcases (show b = e ∨ b = it by simpa using hb) with z | z
    · rw [z]; exact ⟨_, he, fun v q => nomatch q⟩
    · rw [z]; exact ⟨o, ho, fun v q => by rw [hd] at q; cases q⟩
  keep := fun i h h' ⟨⟨old, he⟩, hi, hne⟩ k => ⟨⟨old, k e (by simp) _ he⟩, hi.at fun o q => k it (by simp) o q, hne⟩
  item := by
    intro X hP hw hK hc i pins s σ H E I hf ⟨⟨old, he⟩, hit, hne⟩ ⟨xs, x, hq, hx⟩
    subst hP hw hK
    obtain ⟨its, rv, p, hz⟩ := I.tuple hq
    obtain ⟨u, hu, ru⟩ := rv.get hx
    have l1 : e < s.heap.objs.size := Heap.lt_size he
    have l2 : it < s.heap.objs.size := by obtain ⟨_, q, _⟩ := hit; exact Heap.lt_size q
    have hi : i < its.toArray.size := by
      have := (List.getElem?_eq_some_iff.mp hu).1
      simpa using this
    have D := PySem.EnT.drawsT (prog := X.prog) (w := X.w) (A := X.A.in1) (show X.A.in1.handled = none from I.ok.hd hc) it a ne2 its.toArray
    refine wpAny_pyNext_enum_itemD D he ⟨hit, (show s.heap.IsTuple a its.toArray from p)⟩ hi hne (by simp [hne, Ne.symm ne3]) fun x' h' tk hP ho hit' hT hsz hk => ?_
    have ex : x' = u := by
      have q : its.toArray[i]? = some x' := hP
      rw [List.getElem?_toArray, hu] at q
      exact (Option.some.inj q).symm
    subst ex
    refine ⟨_, rfl, wpAny_letOwnedTupleGo_enum (s := { s with heap := h', toks := tk + 1 }) ho fun h'' he' sb => ?_⟩
    have t2 : h''.get? s.heap.objs.size = some { cls := .type "tuple", data := .seq #[.int i tk, x'] } := (sb.2 _ (Nat.ne_of_gt l1)).trans hT
    have fresh : ObjOk X.prog X.w (upd H s.heap.objs.size (.tup [.int (i : Nat), x])) h'' s.heap.objs.size (.tup [.int (i : Nat), x]) := ⟨by show 2 ≤ sizeLine; decide, [.int i tk, x'], .cons ⟨_, rfl⟩ (.cons ru .nil), ⟨_, t2, rfl, _, rfl⟩⟩
    have J : Inv X pins σ (upd H s.heap.objs.size (.tup [.int (i : Nat), x])) { s with heap := h'', toks := tk + 1 } := I.turnedNew (ch := [e, it]) (fun b ob hb q => (sb.2 b (fun z => hb (by simp [z]))).trans (hk b ob (fun z => hb (by simp [z])) (fun z => hb (by simp [z])) q)) hf (Nat.le_refl _) fresh
    refine ⟨.ref s.heap.objs.size, _, J, rfl, ⟨_, x, rfl, I.hok.fresh (Nat.le_refl _), rfl, fun zs hy => by rw [I.tuple_inj hy hq]; exact hx⟩, ⟨⟨x', ?_⟩, hit'.1.at fun o q => (sb.2 it (Ne.symm hne)).trans q, hne⟩, fun b hb => ?_⟩
    · rw [show ((i + 1 : Nat) : Int) = (i : Int) + 1 by omega]
      exact he'
    · have lb : b < s.heap.objs.size := by
        rcases (show b = e ∨ b = it by simpa using hb) with z | z <;> rw [z] <;> assumption
      rw [upd_ne (Nat.ne_of_lt lb)]
      exact (hf b hb).1
  done := by
    intro X hP hw hK hc i pins s σ H E I hf ⟨⟨old, he⟩, hit, hne⟩ ⟨xs, hq, hx⟩
    subst hP hw hK
    obtain ⟨its, rv, p, hz⟩ := I.tuple hq
    obtain ⟨f0, f1, f2, f3, f4, f5⟩ := hf it (by simp)
    have hl := rv.length
    exact PySem.EnT.endT (I.ok.hd hc) he hit (show s.heap.IsTuple a its.toArray from p) (by simp; omega) fun h' eb => ⟨rfl, I.turned (t' := s.toks) (fun b o hb q => eb b o hb q) f0 f1 f3 f4 f5⟩
  self := fun A i s Q E ⟨⟨_, he⟩, _⟩ h => wpAny_pyIter_enum he h
def iEnumT (K : PySem.W.Frag) (ta : TA) : TI := fun σ H R => ta σ H fun vs H1 => ∃ a xs, vs = [.ref a] ∧ SqT K H1 a xs ∧ R (Iet K a) H1
/-- enumerate(a tuple) -/
theorem pi_enumT {X : Cx} {e : Expr} {ta : TA} {p pos tpos : Pos} {elts : List Expr} {kk : Nat} (hg : Gl X "enumerate") (hm : X.mg "enumerate" = none) (ha : PA X [e] ta) (hs : starEach [e] X.env = [(false, eval e X.env)] := by rfl) : PI X (.Tuple elts kk tpos) (.Call (.Name "enumerate" p) [e] [] pos) (iEnumT X.K ta) := by
  refine ⟨fun pins s σ H R I h => ?_⟩
  refine Call_ (ld_blt I hg hm boot_enumerate (PyProof.Rows.callWith_type1 (thn (ha.run pos pins s σ H _ I h) fun us s1 ⟨vs, H1, I1, r1, a, xs, ex, hq, q⟩ => ?_) hs rfl))
  subst ex
  rw [Vals.ref1 r1]
  obtain ⟨its, rv, pt, hz⟩ := I1.tuple hq
  have old : a < s1.heap.objs.size := by
    obtain ⟨o, ho, _⟩ := (show s1.heap.IsTuple a its.toArray from pt)
    exact Heap.lt_size ho
  refine PySem.EnT.callT (show s1.heap.IsTuple a its.toArray from pt) fun h' he hit hsz hk => wpAny_pyIter_enum he ?_
  have I2 : Inv X pins σ H1 { s1 with heap := h' } := I1.kept (t' := s1.toks) hk
  refine ⟨s1.heap.objs.size + 1, [s1.heap.objs.size + 1, s1.heap.objs.size], _, _, H1, rfl, I2, turn_enT a (s1.heap.objs.size + 1) s1.heap.objs.size (Nat.ne_of_lt old) (Nat.ne_of_lt (Nat.lt_succ_of_lt old)), ⟨⟨.none, he⟩, hit, Nat.succ_ne_self _⟩, fun b hb => ?_, q⟩
  have hle : s1.heap.objs.size ≤ b := by
    rcases (show b = s1.heap.objs.size + 1 ∨ b = s1.heap.objs.size by simpa using hb) with z | z
    · rw [z]; exact Nat.le_succ _
    · rw [z]; exact Nat.le_refl _
  exact I1.fpOk hle (I1.hok.fresh hle)
theorem walk_enumT {K : PySem.W.Frag} {a : Addr} {xs : List V} : Walk (Iet K a) xs.length (fun H => SqT K H a xs) (YPair (fun i => some (.int (i : Nat))) (fun i => xs[i]?)) := by
  refine ⟨fun i _ hi q => ⟨xs, xs[i], q, by simp [hi]⟩, fun _ q => ⟨xs, q, Nat.le_refl _⟩, fun i H v H' _ q y => ?_⟩
  obtain ⟨U, x, h1, h2, h3, h4⟩ := y
  exact ⟨U, .int (i : Nat), x, h1, h2, h3, rfl, h4 xs q⟩
end L2
namespace Pr
open PySem PySem.Spec PyProof.Rows L2 Gd
/-! ### where each subtree ends, from behind -/
theorem ext_nil {l : List (Str × Nat)} : ∀ n : Nat, ext l [] n = 0
  | 0 => rfl
  | _ + 1 => rfl
theorem ext_add {l : List (Str × Nat)} : ∀ (xs : List Str) (n m : Nat), ext l xs (n + m) = ext l xs n + ext l (xs.drop (ext l xs n)) m
  | xs, 0, m => by rw [ext_zero, List.drop_zero, Nat.zero_add, Nat.zero_add]
  | [], n + 1, m => by rw [ext_nil, ext_nil, List.drop_nil, ext_nil]
  | z :: xs, n + 1, m => by
    have e1 : n + 1 + m = (n + m) + 1 := by omega
    have e2 : n + m + ar l z = (n + ar l z) + m := by omega
    rw [e1]
    show 1 + ext l xs (n + m + ar l z) = 1 + ext l xs (n + ar l z) + ext l ((z :: xs).drop (1 + ext l xs (n + ar l z))) m
    rw [e2, ext_add xs (n + ar l z) m, Nat.add_comm 1 (ext l xs (n + ar l z)), List.drop_succ_cons]
    omega
/-- where the n trees from c on end, one after the other -/
def ends (l : List (Str × Nat)) (zs : List Str) : Nat → Nat → List Nat
  | _, 0 => []
  | c, n + 1 => (c + ext l (zs.drop c) 1) :: ends l zs (c + ext l (zs.drop c) 1) n
theorem ends_len {l : List (Str × Nat)} {zs : List Str} : ∀ {n c : Nat}, (ends l zs c n).length = n
  | 0, _ => rfl
  | n + 1, _ => congrArg (· + 1) ends_len
/-- after k trees from c on -/
def past (l : List (Str × Nat)) (zs : List Str) (c k : Nat) : Nat := c + ext l (zs.drop c) k
theorem past_succ {l : List (Str × Nat)} {zs : List Str} {c k : Nat} : past l zs c (k + 1) = past l zs c k + ext l (zs.drop (past l zs c k)) 1 := by
  unfold past
  rw [ext_add, List.drop_drop]
  omega
theorem ends_drop {l : List (Str × Nat)} {zs : List Str} : ∀ {k n c : Nat}, (ends l zs c (k + n)).drop k = ends l zs (past l zs c k) n
  | 0, n, c => by
    show (ends l zs c (0 + n)).drop 0 = ends l zs (c + ext l (zs.drop c) 0) n
    rw [ext_zero, List.drop_zero, Nat.zero_add, Nat.add_zero]
  | k + 1, n, c => by
    have e : k + 1 + n = (k + n) + 1 := by omega
    rw [e]
    show (ends l zs (c + ext l (zs.drop c) 1) (k + n)).drop k = _
    rw [ends_drop]
    have e2 : past l zs (c + ext l (zs.drop c) 1) k = past l zs c (k + 1) := by
      unfold past
      rw [show k + 1 = 1 + k by omega, ext_add (zs.drop c) 1 k, List.drop_drop]
      omega
    rw [e2]
theorem ends_cons {l : List (Str × Nat)} {zs : List Str} {c n : Nat} : ends l zs c (n + 1) = past l zs c 1 :: ends l zs (past l zs c 1) n := rfl
/-- the place behind the tree at j -/
def stopAt (l : List (Str × Nat)) (zs : List Str) (j : Nat) : Nat := past l zs j 1
theorem stop_eq {l : List (Str × Nat)} {zs : List Str} {j : Nat} (h : j < zs.length) : stopAt l zs j = past l zs (j + 1) (ar l zs[j]) := by
  unfold stopAt past
  rw [List.drop_eq_getElem_cons h]
  show j + (1 + ext l (zs.drop (j + 1)) (0 + ar l zs[j])) = _
  rw [Nat.zero_add]
  omega
end Pr

namespace Pr
open PySem PySem.Spec PyProof.Rows L2 Gd
/-! ### subtrees -/
def intV (c : Nat) : V := .int (c : Int)
/-- the subtree at p -/
def sub (l : List (Str × Nat)) (zs : List Str) (p : Nat) : List Str := (zs.drop p).take (ext l (zs.drop p) 1)
theorem Fo.take {l : List (Str × Nat)} (nd : (l.map (·.1)).Nodup) : ∀ {zs : List Str} {n m : Nat}, Fo l (n + m) zs → Fo l n (zs.take (ext l zs n))
  | zs, 0, m, h => by
    rw [ext_zero, List.take_zero]
    exact .nil
  | [], n + 1, m, h => by
    have e : n + 1 + m = (n + m) + 1 := by omega
    rw [e] at h
    cases h
  | z :: zs, n + 1, m, h => by
    have e : n + 1 + m = (n + m) + 1 := by omega
    rw [e] at h
    cases h with
    | cons mm h =>
      rename_i a
      have e2 : n + m + a = (n + a) + m := by omega
      rw [e2] at h
      have e3 : ext l (z :: zs) (n + 1) = ext l zs (n + a) + 1 := by
        show 1 + ext l zs (n + ar l z) = _
        rw [ar_eq nd mm, Nat.add_comm]
      rw [e3, List.take_succ_cons]
      exact .cons mm (Fo.take nd h)
theorem sub_fo {l : List (Str × Nat)} (nd : (l.map (·.1)).Nodup) {zs : List Str} (fo : Fo l 1 zs) {p : Nat} (hp : p < zs.length) : Fo l 1 (sub l zs p) := by
  obtain ⟨r, f⟩ := Fo.drop fo hp
  have f' : Fo l (1 + r) (zs.drop p) := by
    rw [Nat.add_comm]
    exact f
  exact Fo.take nd f'
theorem ar_perm {l l' : List (Str × Nat)} (nd : (l.map (·.1)).Nodup) (pm : l'.Perm l) (z : Str) : ar l' z = ar l z := by
  have nd' : (l'.map (·.1)).Nodup := (pm.map _).nodup_iff.mpr nd
  by_cases h : z ∈ l.map (·.1)
  · obtain ⟨⟨x, a⟩, hm, e⟩ := List.mem_map.mp h
    cases e
    rw [ar_eq nd hm, ar_eq nd' (pm.mem_iff.mpr hm)]
  · have h' : z ∉ l'.map (·.1) := fun m => h ((pm.map _).mem_iff.mp m)
    unfold ar
    rw [val_none h, val_none h']
theorem Fo.perm {l l' : List (Str × Nat)} (pm : l'.Perm l) : ∀ {n : Nat} {zs : List Str}, Fo l n zs → Fo l' n zs
  | _, _, .nil => .nil
  | _, _, .cons m h => .cons (pm.mem_iff.mpr m) (Fo.perm pm h)
theorem ext_perm {l l' : List (Str × Nat)} (nd : (l.map (·.1)).Nodup) (pm : l'.Perm l) : ∀ (zs : List Str) (n : Nat), ext l' zs n = ext l zs n
  | zs, 0 => by rw [ext_zero, ext_zero]
  | [], n + 1 => rfl
  | z :: zs, n + 1 => by
    show 1 + ext l' zs (n + ar l' z) = 1 + ext l zs (n + ar l z)
    rw [ar_perm nd pm, ext_perm nd pm zs]
theorem stop_perm {l l' : List (Str × Nat)} (nd : (l.map (·.1)).Nodup) (pm : l'.Perm l) (zs : List Str) (j : Nat) : stopAt l' zs j = stopAt l zs j := by
  unfold stopAt past
  rw [ext_perm nd pm]
end Pr
namespace Pr
open PySem PySem.Spec PyProof.Rows L2 Gd
/-! ### rows of names and of numbers, told apart -/
def strD (z : Str) : PyData := .str z
def natD (n : Nat) : PyData := .int (n : Int)
theorem dp_strs {K : PySem.W.Frag} {H : Hp} : ∀ zs : List Str, DpAll K H (zs.map V.str) (zs.map strD)
  | [] => .nil
  | z :: zs => .cons (.str z) (dp_strs zs)
theorem dp_nats {K : PySem.W.Frag} {H : Hp} : ∀ ns : List Nat, DpAll K H (ns.map intV) (ns.map natD)
  | [] => .nil
  | n :: ns => .cons (.int (n : Int)) (dp_nats ns)
theorem low_depth : ∀ {ds : List PyData}, (∀ d ∈ ds, d.depth = 0) → PyData.depthAll ds = 0
  | [], _ => rfl
  | d :: ds, h => by
    simp only [PyData.depthAll]
    rw [h d List.mem_cons_self, low_depth fun x m => h x (List.mem_cons_of_mem _ m)]
    rfl
theorem lay_all : ∀ {ds : List PyData}, (∀ d ∈ ds, d.canLay0 = true) → PyData.canLayAll0 ds = true
  | [], _ => rfl
  | d :: ds, h => by
    simp only [PyData.canLayAll0]
    rw [h d List.mem_cons_self, lay_all fun x m => h x (List.mem_cons_of_mem _ m)]
    rfl
theorem shaped_row {ds : List PyData} (h : ∀ d ∈ ds, d.depth = 0 ∧ d.canLay0 = true) : SeqAt.shaped (.tuple ds) = true := by
  have e : PyData.depth (.tuple ds) = PyData.depthAll ds + 1 := by simp only [PyData.depth]
  have e2 : PyData.canLay0 (.tuple ds) = PyData.canLayAll0 ds := by simp only [PyData.canLay0]
  unfold SeqAt.shaped
  rw [e, e2, low_depth fun d m => (h d m).1, lay_all fun d m => (h d m).2]
  rfl
theorem shaped_strs {zs : List Str} (h : ∀ z ∈ zs, PyData.strOk z = true) : SeqAt.shaped (.tuple (zs.map strD)) = true := shaped_row fun d m => by
  obtain ⟨z, hz, rfl⟩ := List.mem_map.mp m
  exact ⟨by unfold strD; simp only [PyData.depth], by unfold strD; simp only [PyData.canLay0]; exact h z hz⟩
theorem shaped_nats {ns : List Nat} : SeqAt.shaped (.tuple (ns.map natD)) = true := shaped_row fun d m => by
  obtain ⟨z, hz, rfl⟩ := List.mem_map.mp m
  exact ⟨by unfold natD; simp only [PyData.depth], by unfold natD; simp only [PyData.canLay0]⟩
theorem neT {K : PySem.W.Frag} {H : Hp} {x y : V} {Q : VK} {ds : List PyData} (hx : Dp K H x (.tuple ds)) (hy : Dp K H y (.tuple ds)) (hs : SeqAt.shaped (.tuple ds) = true) (q : Q (.bl false) H) : rNeD K x y H Q :=
  ⟨_, _, hx, hy, hs, hs, by rw [SeqAt.eqv_refl _ (SeqAt.canLay_of_shaped hs)]; exact q⟩
theorem eqT {K : PySem.W.Frag} {H : Hp} {x y : V} {Q : VK} {ds : List PyData} (hx : Dp K H x (.tuple ds)) (hy : Dp K H y (.tuple ds)) (hs : SeqAt.shaped (.tuple ds) = true) (q : Q (.bl true) H) : rEqD K x y H Q :=
  ⟨_, _, hx, hy, hs, hs, by rw [SeqAt.eqv_refl _ (SeqAt.canLay_of_shaped hs)]; exact q⟩
theorem neStrs {K : PySem.W.Frag} {H : Hp} {a b : Addr} {Q : VK} {zs : List Str} (ha : H a = some (.tup (zs.map V.str))) (hb : H b = some (.tup (zs.map V.str))) (hz : ∀ z ∈ zs, PyData.strOk z = true) (q : Q (.bl false) H) : rNeD K (.ref a) (.ref b) H Q :=
  neT (.tup (SqT.of ha) (dp_strs zs)) (.tup (SqT.of hb) (dp_strs zs)) (shaped_strs hz) q
theorem eqStrs {K : PySem.W.Frag} {H : Hp} {a b : Addr} {Q : VK} {zs : List Str} (ha : H a = some (.tup (zs.map V.str))) (hb : H b = some (.tup (zs.map V.str))) (hz : ∀ z ∈ zs, PyData.strOk z = true) (q : Q (.bl true) H) : rEqD K (.ref a) (.ref b) H Q :=
  eqT (.tup (SqT.of ha) (dp_strs zs)) (.tup (SqT.of hb) (dp_strs zs)) (shaped_strs hz) q
theorem neNats {K : PySem.W.Frag} {H : Hp} {a b : Addr} {Q : VK} {ns : List Nat} (ha : H a = some (.tup (ns.map intV))) (hb : H b = some (.tup (ns.map intV))) (q : Q (.bl false) H) : rNeD K (.ref a) (.ref b) H Q :=
  neT (.tup (SqT.of ha) (dp_nats ns)) (.tup (SqT.of hb) (dp_nats ns)) shaped_nats q
/-- a slice of a row of names -/
theorem cut_strs {zs : List Str} {p e : Nat} (hp : p ≤ zs.length) (he : e ≤ zs.length) (pe : p ≤ e) : cutV (zs.map V.str) (some (p : Int)) (some (e : Int)) = ((zs.drop p).take (e - p)).map V.str ∧ HT.sIx (zs.map V.str).length 0 (some (p : Int)) = p ∧ HT.sIx (zs.map V.str).length (zs.map V.str).length (some (e : Int)) = e := by
  have lz : (zs.map V.str).length = zs.length := List.length_map _
  have i1 : HT.sIx (zs.map V.str).length 0 (some (p : Int)) = p := by
    rw [HT.sIx_nat, lz]
    omega
  have i2 : HT.sIx (zs.map V.str).length (zs.map V.str).length (some (e : Int)) = e := by
    rw [HT.sIx_nat, lz]
    omega
  refine ⟨?_, i1, i2⟩
  unfold cutV
  rw [i1, i2, ← List.map_drop, ← List.map_take]
end Pr
namespace Pr
open PySem PySem.Spec PyProof.Rows L2 Gd
/-! ### rows of words at an address: joined, cut -/
/-- a row of words -/
def Ws (H : Hp) (a : Addr) (zs : List Str) : Prop := Rd H a (.tup (zs.map V.str))
/-- a row of words that is a plain tuple -/
def Wp (H : Hp) (a : Addr) (zs : List Str) : Prop := Tx.TX H a (zs.map V.str)
theorem Wp.ws {H : Hp} {a : Addr} {zs : List Str} (h : Wp H a zs) : Ws H a zs := TXr h
theorem Ws.same {H H' : Hp} {a : Addr} {zs : List Str} (h : Ws H a zs) (s : Same H H') : Ws H' a zs := Rd.same h s
theorem Wp.same {H H' : Hp} {a : Addr} {zs : List Str} (h : Wp H a zs) (s : Same H H') : Wp H' a zs := Tx.TX.same h s
theorem map_nil {zs : List Str} (h : zs.map V.str = []) : zs = [] := List.map_eq_nil_iff.mp h
/-- a + b -/
theorem catWs {K : PySem.W.Frag} {H : Hp} {a b : Addr} {xs ys : List Str} {Q : VK} (ha : Ws H a xs) (hb : Ws H b ys) (few : xs.length + ys.length ≤ sizeLine)
    (q : ∀ p H2, Same H H2 → Ws H2 p (xs ++ ys) → Q (.ref p) H2) : Tx.rCatY K (.ref a) (.ref b) H Q := by
  refine ⟨a, b, _, _, rfl, rfl, .inl ha, .inl hb, by rw [List.length_map, List.length_map]; exact few, fun e => ?_, fun _ e => ?_, fun p H2 _ s tx => ?_⟩
  · have e := map_nil e
    subst e
    exact q b H (Same.refl H) hb
  · have e := map_nil e
    subst e
    exact q a H (Same.refl H) (by rw [List.append_nil]; exact ha)
  · refine q p H2 s ?_
    have h := TXr tx
    rw [← List.map_append] at h
    exact h
/-- the same, plain: the second one is plain, and is not empty -/
theorem catWpR {K : PySem.W.Frag} {H : Hp} {a b : Addr} {xs ys : List Str} {Q : VK} (ha : Ws H a xs) (hb : Wp H b ys) (ne : ys ≠ []) (few : xs.length + ys.length ≤ sizeLine)
    (q : ∀ p H2, Same H H2 → Wp H2 p (xs ++ ys) → Q (.ref p) H2) : Tx.rCatY K (.ref a) (.ref b) H Q := by
  refine ⟨a, b, _, _, rfl, rfl, .inl ha, .inl hb.ws, by rw [List.length_map, List.length_map]; exact few, fun e => ?_, fun _ e => absurd (map_nil e) ne, fun p H2 _ s tx => ?_⟩
  · have e := map_nil e
    subst e
    exact q b H (Same.refl H) hb
  · refine q p H2 s ?_
    rw [← List.map_append] at tx
    exact tx
/-- the same, plain: the first one is plain, and is not empty -/
theorem catWpL {K : PySem.W.Frag} {H : Hp} {a b : Addr} {xs ys : List Str} {Q : VK} (ha : Wp H a xs) (hb : Ws H b ys) (ne : xs ≠ []) (few : xs.length + ys.length ≤ sizeLine)
    (q : ∀ p H2, Same H H2 → Wp H2 p (xs ++ ys) → Q (.ref p) H2) : Tx.rCatY K (.ref a) (.ref b) H Q := by
  refine ⟨a, b, _, _, rfl, rfl, .inl ha.ws, .inl hb, by rw [List.length_map, List.length_map]; exact few, fun e => absurd (map_nil e) ne, fun _ e => ?_, fun p H2 _ s tx => ?_⟩
  · have e := map_nil e
    subst e
    exact q a H (Same.refl H) (by rw [List.append_nil]; exact ha)
  · refine q p H2 s ?_
    rw [← List.map_append] at tx
    exact tx
/-- the same, plain: both are plain -/
theorem catWp {K : PySem.W.Frag} {H : Hp} {a b : Addr} {xs ys : List Str} {Q : VK} (ha : Wp H a xs) (hb : Wp H b ys) (few : xs.length + ys.length ≤ sizeLine)
    (q : ∀ p H2, Same H H2 → Wp H2 p (xs ++ ys) → Q (.ref p) H2) : Tx.rCatY K (.ref a) (.ref b) H Q := by
  by_cases ne : xs = []
  · by_cases ny : ys = []
    · subst ne ny
      exact ⟨a, b, _, _, rfl, rfl, .inl ha.ws, .inl hb.ws, by decide, fun e => q b H (Same.refl H) hb, fun h => absurd rfl h, fun p H2 _ s tx => q p H2 s tx⟩
    · exact catWpR ha.ws hb ny few q
  · exact catWpL ha hb.ws ne few q
/-- t[lo:hi] -/
theorem slRd {K : PySem.W.Frag} {H : Hp} {a : Addr} {xs : List V} {lo hi : Option Int} {Q : VK} (ha : Rd H a (.tup xs)) (q : ∀ p H2, Same H H2 → Rd H2 p (.tup (cutV xs lo hi)) → Q (.ref p) H2) : rSlA K (.ref a) lo hi H Q := by
  refine ⟨a, _, rfl, .inl ha, fun hw => ?_, fun _ p np => ?_⟩
  · refine q a H (Same.refl H) ?_
    rw [Tx.cut_whole hw]
    exact ha
  · exact q p _ (Same.new np) (.inl upd_same)
theorem cut_to {zs : List Str} {p : Nat} : cutV (zs.map V.str) none (some (p : Int)) = (zs.take p).map V.str := by
  have lz : (zs.map V.str).length = zs.length := List.length_map _
  have i1 : HT.sIx (zs.map V.str).length 0 none = 0 := rfl
  have i2 : HT.sIx (zs.map V.str).length (zs.map V.str).length (some (p : Int)) = min p zs.length := by
    rw [HT.sIx_nat, lz]
  unfold cutV
  rw [i1, i2, List.drop_zero, Nat.sub_zero, ← List.map_take]
  congr 1
  by_cases h : p ≤ zs.length
  · rw [Nat.min_eq_left h]
  · rw [Nat.min_eq_right (by omega), List.take_length, List.take_of_length_le (by omega)]
theorem cut_from {zs : List Str} {p : Nat} : cutV (zs.map V.str) (some (p : Int)) none = (zs.drop p).map V.str := by
  have lz : (zs.map V.str).length = zs.length := List.length_map _
  have i1 : HT.sIx (zs.map V.str).length 0 (some (p : Int)) = min p zs.length := by
    rw [HT.sIx_nat, lz]
  have i2 : HT.sIx (zs.map V.str).length (zs.map V.str).length none = zs.length := lz
  unfold cutV
  rw [i1, i2, ← List.map_drop]
  by_cases h : p ≤ zs.length
  · rw [Nat.min_eq_left h, List.take_of_length_le (by rw [List.length_map, List.length_drop]; omega)]
  · rw [Nat.min_eq_right (by omega), List.drop_of_length_le (Nat.le_refl _), List.drop_of_length_le (by omega), List.map_nil, List.take_nil]
theorem noPart {σ : L2.St} {H : Hp} {k : Option Int → Hp → Prop} (h : k none H) : tNoPart σ H k := h
theorem slTo {K : PySem.W.Frag} {H : Hp} {a : Addr} {zs : List Str} {p : Nat} {Q : VK} (ha : Ws H a zs) (q : ∀ b H2, Same H H2 → Ws H2 b (zs.take p) → Q (.ref b) H2) : rSlA K (.ref a) none (some (p : Int)) H Q :=
  slRd ha fun b H2 s h => q b H2 s (by rw [cut_to] at h; exact h)
theorem slFrom {K : PySem.W.Frag} {H : Hp} {a : Addr} {zs : List Str} {p : Nat} {Q : VK} (ha : Ws H a zs) (q : ∀ b H2, Same H H2 → Ws H2 b (zs.drop p) → Q (.ref b) H2) : rSlA K (.ref a) (some (p : Int)) none H Q :=
  slRd ha fun b H2 s h => q b H2 s (by rw [cut_from] at h; exact h)
theorem slMid {K : PySem.W.Frag} {H : Hp} {a : Addr} {zs : List Str} {p e : Nat} {Q : VK} (ha : Ws H a zs) (hp : p ≤ zs.length) (he : e ≤ zs.length) (pe : p ≤ e) (q : ∀ b H2, Same H H2 → Ws H2 b ((zs.drop p).take (e - p)) → Q (.ref b) H2) : rSlA K (.ref a) (some (p : Int)) (some (e : Int)) H Q :=
  slRd ha fun b H2 s h => q b H2 s (by rw [(cut_strs hp he pe).1] at h; exact h)
/-- equal rows -/
theorem neWs {K : PySem.W.Frag} {H : Hp} {a b : Addr} {Q : VK} {zs : List Str} (ha : Ws H a zs) (hb : Ws H b zs) (hz : ∀ z ∈ zs, PyData.strOk z = true) (q : Q (.bl false) H) : rNeD K (.ref a) (.ref b) H Q :=
  neT (.tup (.inl ha) (dp_strs zs)) (.tup (.inl hb) (dp_strs zs)) (shaped_strs hz) q
theorem eqWs {K : PySem.W.Frag} {H : Hp} {a b : Addr} {Q : VK} {zs : List Str} (ha : Ws H a zs) (hb : Ws H b zs) (hz : ∀ z ∈ zs, PyData.strOk z = true) (q : Q (.bl true) H) : rEqD K (.ref a) (.ref b) H Q :=
  eqT (.tup (.inl ha) (dp_strs zs)) (.tup (.inl hb) (dp_strs zs)) (shaped_strs hz) q
theorem flat_strs {zs : List Str} : (zs.map V.str).all flatV = true := by
  rw [List.all_eq_true]
  intro x m
  obtain ⟨z, _, rfl⟩ := List.mem_map.mp m
  rfl
end Pr
namespace Pr
open PySem PySem.Spec PyProof.Rows L2 Gd
theorem Fo.le {l : List (Str × Nat)} : ∀ {n : Nat} {zs : List Str}, Fo l n zs → n ≤ zs.length
  | _, _, .nil => Nat.le_refl _
  | _, _, .cons m h => by
    have := Fo.le h
    rw [List.length_cons]
    omega
theorem Fo.uniq {l : List (Str × Nat)} (nd : (l.map (·.1)).Nodup) : ∀ {zs : List Str} {n n' : Nat}, Fo l n zs → Fo l n' zs → n = n'
  | _, _, _, .nil, .nil => rfl
  | _, _, _, .cons m h, .cons m' h' => by
    have e := (ar_eq nd m).symm.trans (ar_eq nd m')
    have e2 := Fo.uniq nd h h'
    omega
theorem set_more {f : Nat → V} {N j : Nat} {v : V} (hj : j < N) (hv : v = f j) : ((List.range N).map fun q => if j + 1 ≤ q then f q else V.int 0).set j v = (List.range N).map fun q => if j ≤ q then f q else V.int 0 := by
  refine List.ext_getElem (by simp) fun q h1 h2 => ?_
  rw [List.getElem_set, List.getElem_map, List.getElem_map, List.getElem_range]
  by_cases e : j = q
  · subst e
    rw [if_pos rfl, if_pos (Nat.le_refl _), hv]
  · rw [if_neg e]
    by_cases c : j + 1 ≤ q
    · rw [if_pos c, if_pos (by omega)]
    · rw [if_neg c, if_neg (by omega)]
end Pr
namespace Pr
open PySem PySem.Spec PyProof.Rows L2 Gd
/-! ### the places right above -/
def optV : Option Nat → V
  | none => .non
  | some k => .int (k : Int)
/-- the place above each word; ws are those that still wait for subtrees -/
def parL (l : List (Str × Nat)) : List Str → Nat → List (Option Nat) → List (Option Nat)
  | [], _, _ => []
  | _ :: _, _, [] => []
  | z :: zs, k, w :: ws => w :: parL l zs (k + 1) (List.replicate (ar l z) (some k) ++ ws)
theorem rdT {K : PySem.W.Frag} {H : Hp} {a : Addr} {xs : List V} (h : Rd H a (.tup xs)) : SqT K H a xs := by
  rcases h with h | ⟨o, h⟩
  · exact .inl (.inl h)
  · exact .inl (.inr ⟨o, h⟩)
def spParents (C : Addr) : Sp := fun vs H Q _ => ∃ (o t : Addr) (l : List (Str × Nat)) (zs : List Str), vs = [.ref o, .ref t] ∧ TreeAt H C o t l zs ∧ ∀ q H', Same H H' → H q = none → H' q = some (.lst ((parL l zs 0 [none]).map optV)) → Q (.ref q) H'
section
variable {P : Program} {w : World} {K : PySem.W.Frag} {mg : Str → Option Value} {base : Heap} {C fW fT fC fP fE fI fN : Addr} {dW dT dC dP dE dI dN : FuncData} {tk : Tok}
theorem scParents : FnScope ["self", "tree", "parents", "waiting", "at", "word"] ["self", "tree"] (defScope mParents) := ⟨rfl, rfl, rfl, by decide +kernel, rfl, by decide +kernel, by decide +kernel⟩
theorem ok_parents {f : Addr} {fd : FuncData} (F : Fun K "_parents" "Operators._parents" mParents f fd) (M : Ms K mg C fW fT fC fP fE fI fN dW dT dC dP dE dI dN tk) (T : Free mg) : FnOk P w K mg base CX0 1 f fd ["self", "tree"] (spParents C) := by
  refine F.ok scParents (fun vs H Q E h => ?_) (fun cdv A outer s H vs Q E hr h => ?_)
  · obtain ⟨o, t, l, zs, rfl, _⟩ := h
    rfl
  · obtain ⟨o, t, l, zs, rfl, tr, q⟩ := h
    have hu := hr.units
    have hu1 : ∀ {u : Nat}, u + 64 < cLine → u + 1 < cLine := fun h => by omega
    refine ⟨_, pss_cons (ps_set (i := 2) scParents.nd rfl (.inl rfl) (pe_lst pa_nil)) (pss_cons (ps_set (i := 3) scParents.nd rfl (.inl rfl) (pe_lst (pa_cons pe_non pa_nil))) (pss_cons (ps_for PassesOwn.never rfl (pi_enumT (by rfl) T.enum (pa_cons (pv 1) pa_nil)) (pg_tup rfl (pgs_cons (pg_name (i := 4) scParents.nd rfl (.inl rfl)) (pgs_cons (pg_name (i := 5) scParents.nd rfl (.inl rfl)) pgs_nil))) (pss_cons (ps_expr (pe_bm PySem.F.plainAttrs_list PySem.F.slot_list_append PySem.F.type_list_append mt_append (pv 2) (pa_cons (pe_bm0 PySem.F.plainAttrs_list PySem.F.slot_list_pop PySem.F.type_list_pop mt_pop (pv 3)) pa_nil))) (pss_one (ps_expr (pe_bm PySem.F.plainAttrs_list PySem.F.slot_list_extend PySem.F.type_list_extend mt_extend (pv 3) (pa_cons (pe_op op_rep (pe_lst (pa_cons (pv 4) pa_nil)) (pe_dget (hu1 hu) (pe_fld (pv 0) rfl) (pv 5) (fun _ _ => rfl))) pa_nil)))))) (pss_one (ps_ret (pv 2))))), ?_⟩
    obtain ⟨dx, tn, ta, tl, ho, hn, ha⟩ := tr.ops.ex
    have lz : (zs.map V.str).length = zs.length := List.length_map _
    have few := tr.few
    refine ⟨by show 0 ≤ sizeLine; decide, fun L nL => ⟨by show 1 ≤ sizeLine; decide, fun W nW => ?_⟩⟩
    have LW : L ≠ W := ne_of_none (upd_same (H := H) (a := L) (o := .lst [])) nW
    have s1 := (Same.new nL (o := .lst [])).trans (Same.new nW (o := .lst [.non]))
    have nHW : H W = none := (Same.new nL (o := .lst [])).free nW
    refine ⟨_, rfl, t, _, rfl, rdT (Rd.same tr.tup s1), ?_⟩
    refine for_it (walk_enumT (xs := zs.map V.str)) (fun i σ H' => ∃ (v4 v5 : Option V) (done ws : List (Option Nat)), σ = [some (.ref o), some (.ref t), some (.ref L), some (.ref W), v4, v5] ∧ Same H H' ∧ H' L = some (.lst (done.map optV)) ∧ H' W = some (.lst (ws.reverse.map optV)) ∧
        parL l zs 0 [none] = done ++ parL l (zs.drop i) i ws ∧ Fo l ws.length (zs.drop i) ∧ done.length = i)
      ⟨none, none, [], [none], rfl, s1, (Same.new nW) _ _ upd_same, upd_same, rfl, tr.fo, rfl⟩ (fun i σ H' _ ⟨_, _, _, _, _, s, _⟩ => rdT (Rd.same tr.tup s)) ?_ ?_
    · rintro i x σ H' G hi ⟨v4, v5, done, ws, rfl, sm, hL, hW, ep, fo, ld⟩ ⟨U, x1, x2, rfl, nU, rfl, e1, e2⟩
      rw [lz] at hi
      cases e1
      have hd : zs.drop i = zs[i] :: zs.drop (i + 1) := List.drop_eq_getElem_cons hi
      have e3 : (zs.map V.str)[i]? = some x2 := e2
      rw [List.getElem?_map, List.getElem?_eq_getElem hi] at e3
      cases (Option.some.inj e3)
      rw [hd] at ep fo
      cases ws with
      | nil => cases fo
      | cons w0 ws =>
      obtain ⟨a, ma, fa⟩ : ∃ a, (zs[i], a) ∈ l ∧ Fo l (ws.length + a) (zs.drop (i + 1)) := by
        cases fo with
        | cons m h => exact ⟨_, m, h⟩
      have arz := ar_eq tr.nd ma
      have a2 : a ≤ 2 := tr.two _ ma
      have s2 := sm.trans (Same.new nU (o := .tup [.int (i : Nat), .str zs[i]]))
      have hL2 := (Same.new nU (o := .tup [.int (i : Nat), .str zs[i]])) _ _ hL
      have hW2 := (Same.new nU (o := .tup [.int (i : Nat), .str zs[i]])) _ _ hW
      rw [List.reverse_cons, List.map_append] at hW2
      have UL : U ≠ L := fun e => by
        rw [e, hL] at nU
        cases nU
      have UW : U ≠ W := fun e => by
        rw [e, hW] at nU
        cases nU
      refine ⟨U, _, rfl, SqT.of upd_same, rfl, ?_⟩
      have s3 : ∀ (x y : HO), Same H (upd (upd (upd H' U (.tup [.int (i : Nat), .str zs[i]])) W x) L y) := fun x y b u e => by
        rw [upd_ne (ne_of_none e nL), upd_ne (ne_of_none e nHW)]
        exact s2 b u e
      refine ⟨_, _, rfl, _, _, rfl, rfl, ?_⟩
      refine ⟨_, rfl, .inl ⟨rfl, _, SqL.of hL2⟩, _, rfl, .inl ⟨rfl, _, SqL.of hW2⟩, W, _, optV w0, rfl, rfl, hW2, by simp, ?_⟩
      have dl : (ws.reverse.map optV ++ [w0].map optV).dropLast = ws.reverse.map optV := List.dropLast_concat
      rw [dl]
      have hL3 : (upd (upd H' U (.tup [.int (i : Nat), .str zs[i]])) W (.lst (ws.reverse.map optV))) L = some (.lst (done.map optV)) := by rw [upd_ne LW]; exact hL2
      refine ⟨L, done.map optV, optV w0, rfl, rfl, hL3, by rw [List.length_map, sizeLine_eq]; omega, ?_⟩
      have s4 := s3 (.lst (ws.reverse.map optV)) (.lst (done.map optV ++ [optV w0]))
      have hL4 : (upd (upd (upd H' U (.tup [.int (i : Nat), .str zs[i]])) W (.lst (ws.reverse.map optV))) L (.lst (done.map optV ++ [optV w0]))) L = some (.lst (done.map optV ++ [optV w0])) := upd_same
      have hW4 : (upd (upd (upd H' U (.tup [.int (i : Nat), .str zs[i]])) W (.lst (ws.reverse.map optV))) L (.lst (done.map optV ++ [optV w0]))) W = some (.lst (ws.reverse.map optV)) := by rw [upd_ne LW.symm, upd_same]
      generalize upd (upd (upd H' U (.tup [.int (i : Nat), .str zs[i]])) W (.lst (ws.reverse.map optV))) L (.lst (done.map optV ++ [optV w0])) = G4 at s4 hL4 hW4 ⊢
      refine ⟨_, rfl, .inl ⟨rfl, _, SqL.of hW4⟩, _, rfl, by show 1 ≤ sizeLine; decide, fun q1 nq1 => ?_⟩
      have s5 := s4.trans (Same.new nq1 (o := .lst [.int (i : Nat)]))
      have wl : ws.length + a ≤ 5000 := by
        have := fa.le
        rw [List.length_drop] at this
        omega
      have ea : (a : Int).toNat = a := Int.toNat_natCast a
      refine ⟨_, rfl, o, C, dx, _, _, rfl, s5 _ _ ho, M.cf.cls, M.cf.n2, rfl, _, rfl, ta, _, rfl, val_some tr.nd ma ▸ DGet.k (k := .inr zs[i]) (s5 _ _ ha), q1, (a : Int), [.int (i : Nat)], rfl, rfl, upd_same, by omega, by omega, by rw [ea, sizeLine_eq]; show 1 * a ≤ _; omega, fun q2 nq2 => ?_⟩
      have hW6 := (Same.new nq2 (o := .lst (List.replicate (a : Int).toNat [V.int (i : Nat)]).flatten)) _ _ ((Same.new nq1 (o := .lst [.int (i : Nat)])) _ _ hW4)
      have hL6 := (Same.new nq2 (o := .lst (List.replicate (a : Int).toNat [V.int (i : Nat)]).flatten)) _ _ ((Same.new nq1 (o := .lst [.int (i : Nat)])) _ _ hL4)
      have s6 := s5.trans (Same.new nq2 (o := .lst (List.replicate (a : Int).toNat [V.int (i : Nat)]).flatten))
      have fl : (List.replicate (a : Int).toNat [V.int (i : Nat)]).flatten = List.replicate a (V.int (i : Nat)) := by rw [ea, List.flatten_replicate_singleton]
      refine ⟨W, q2, _, _, rfl, rfl, hW6, upd_same, by rw [fl, List.length_map, List.length_reverse, List.length_replicate, sizeLine_eq]; omega, ?_⟩
      refine ⟨_, _, done ++ [w0], List.replicate a (some i) ++ ws, rfl, fun b u e => ?_, ?_, ?_, ?_, ?_, by simp [ld]⟩
      · rw [upd_ne (ne_of_none e nHW)]
        exact s6 b u e
      · rw [upd_ne LW, hL6, List.map_append]
        rfl
      · rw [upd_same, fl, List.reverse_append, List.reverse_replicate, List.map_append, List.map_replicate]
        rfl
      · rw [ep, List.append_assoc]
        show done ++ (w0 :: parL l (zs.drop (i + 1)) (i + 1) (List.replicate (ar l zs[i]) (some i) ++ ws)) = _
        rw [arz]
        rfl
      · rw [List.length_append, List.length_replicate, Nat.add_comm]
        exact fa
    · rintro σ H' ⟨v4, v5, done, ws, rfl, sm, hL, hW, ep, fo, ld⟩
      refine ⟨_, rfl, q L H' sm nL ?_⟩
      rw [hL, ep, lz, List.drop_length]
      show _ = some (HO.lst ((done ++ []).map optV))
      rw [List.append_nil]
end
end Pr

namespace Pr
open PySem PySem.Spec PyProof.Rows L2 Gd
/-! ### the way down to each place -/
/-- the way to each word; ws are the ways to the subtrees that still wait -/
def paths (l : List (Str × Nat)) : List Str → Nat → List (List Nat) → List (List Nat)
  | [], _, _ => []
  | _ :: _, _, [] => []
  | z :: zs, k, w :: ws => w :: paths l zs (k + 1) (List.replicate (ar l z) (w ++ [k]) ++ ws)
theorem parL_paths {l : List (Str × Nat)} : ∀ (zs : List Str) (k : Nat) (ws : List (List Nat)), parL l zs k (ws.map List.getLast?) = (paths l zs k ws).map List.getLast?
  | [], _, _ => by simp [parL, paths]
  | _ :: _, _, [] => rfl
  | z :: zs, k, w :: ws => by
    show w.getLast? :: parL l zs (k + 1) (List.replicate (ar l z) (some k) ++ ws.map List.getLast?) = w.getLast? :: (paths l zs (k + 1) (List.replicate (ar l z) (w ++ [k]) ++ ws)).map List.getLast?
    rw [← parL_paths zs (k + 1), List.map_append, List.map_replicate, List.getLast?_concat]
/-- how deep each word lies, counted from 1 -/
def dpt (l : List (Str × Nat)) : List Str → List Nat → List Nat
  | [], _ => []
  | _ :: _, [] => []
  | z :: zs, d :: ds => d :: dpt l zs (List.replicate (ar l z) (d + 1) ++ ds)
theorem paths_dpt {l : List (Str × Nat)} : ∀ (zs : List Str) (k : Nat) (ws : List (List Nat)), (paths l zs k ws).map (fun w => w.length + 1) = dpt l zs (ws.map fun w => w.length + 1)
  | [], _, _ => by simp [dpt, paths]
  | _ :: _, _, [] => rfl
  | z :: zs, k, w :: ws => by
    show (w.length + 1) :: (paths l zs (k + 1) (List.replicate (ar l z) (w ++ [k]) ++ ws)).map (fun w => w.length + 1) = (w.length + 1) :: dpt l zs (List.replicate (ar l z) (w.length + 1 + 1) ++ ws.map fun w => w.length + 1)
    rw [paths_dpt zs (k + 1), List.map_append, List.map_replicate, List.length_append]
    rfl
theorem ext_lt {l : List (Str × Nat)} (nd : (l.map (·.1)).Nodup) {zs : List Str} {n j k : Nat} (h : Fo l n zs) (jk : j < k) (kn : k ≤ n) : ext l zs j < ext l zs k := by
  have h' : Fo l (j + (n - j)) zs := by
    rw [Nat.add_sub_cancel' (by omega)]
    exact h
  have f := (ext_fo nd h').1
  obtain ⟨r, hr⟩ : ∃ r, k = j + (r + 1) := ⟨k - j - 1, by omega⟩
  obtain ⟨r2, hr2⟩ : ∃ r, n - j = r + 1 := ⟨n - j - 1, by omega⟩
  rw [hr, ext_add]
  rw [hr2] at f
  cases e : zs.drop (ext l zs j) with
  | nil =>
    rw [e] at f
    cases f
  | cons z xs =>
    show _ < _ + (1 + ext l xs (r + ar l z))
    omega
theorem past_lt {l : List (Str × Nat)} (nd : (l.map (·.1)).Nodup) {zs : List Str} {i n j k : Nat} (h : Fo l n (zs.drop i)) (jk : j < k) (kn : k ≤ n) : past l zs i j < past l zs i k := by
  have := ext_lt nd h jk kn
  unfold past
  omega
theorem past_le {l : List (Str × Nat)} (nd : (l.map (·.1)).Nodup) {zs : List Str} {i n j k : Nat} (h : Fo l n (zs.drop i)) (jk : j ≤ k) (kn : k ≤ n) : past l zs i j ≤ past l zs i k := by
  by_cases e : j = k
  · rw [e]; exact Nat.le_refl _
  · exact Nat.le_of_lt (past_lt nd h (by omega) kn)
theorem past_zero {l : List (Str × Nat)} {zs : List Str} {i : Nat} : past l zs i 0 = i := by
  unfold past
  rw [ext_zero, Nat.add_zero]
theorem past_next {l : List (Str × Nat)} {zs : List Str} {i j : Nat} (h : i < zs.length) : past l zs i (j + 1) = past l zs (i + 1) (j + ar l zs[i]) := by
  unfold past
  rw [List.drop_eq_getElem_cons h]
  show i + (1 + ext l (zs.drop (i + 1)) (j + ar l zs[i])) = _
  omega
theorem mem_kidsFrom {l : List (Str × Nat)} {zs : List Str} : ∀ {n c k : Nat}, k < n → past l zs c k ∈ kidsFrom l zs c n
  | n + 1, c, 0, _ => by
    rw [past_zero]
    exact List.mem_cons_self
  | n + 1, c, k + 1, h => by
    refine List.mem_cons_of_mem _ ?_
    have e : past l zs c (k + 1) = past l zs (c + ext l (zs.drop c) 1) k := by
      unfold past
      rw [show k + 1 = 1 + k by omega, ext_add (zs.drop c) 1 k, List.drop_drop]
      omega
    rw [e]
    exact mem_kidsFrom (Nat.lt_of_succ_lt_succ h)
/-- the places above i, as the law counts them -/
def abv (l : List (Str × Nat)) (zs : List Str) (i : Nat) : List Nat := (List.range i).filter fun a => decide (i < stopAt l zs a)
structure PIn (l : List (Str × Nat)) (zs : List Str) (i : Nat) (ws : List (List Nat)) : Prop where
  fo : Fo l ws.length (zs.drop i)
  op : ∀ j w, ws[j]? = some w → w = (List.range i).filter fun a => decide (past l zs i j < stopAt l zs a)
  lam : ∀ b, b < i → stopAt l zs b ≤ i ∨ ∃ m, 1 ≤ m ∧ m ≤ ws.length ∧ stopAt l zs b = past l zs i m
  kid : ∀ j w k, ws[j]? = some w → w.getLast? = some k → k < i ∧ (∃ (hk : k < zs.length) (c : Nat), c < ar l zs[k] ∧ past l zs i j = past l zs (k + 1) c) ∧ (paths l zs 0 [[]])[k]? = some w.dropLast
  tl : ∃ done, done.length = i ∧ paths l zs 0 [[]] = done ++ paths l (zs.drop i) i ws
theorem PIn.start {l : List (Str × Nat)} {zs : List Str} (fo : Fo l 1 zs) : PIn l zs 0 [[]] := by
  refine ⟨fo, fun j w h => ?_, fun b h => absurd h (Nat.not_lt_zero _), fun j w k h e => ?_, [], rfl, rfl⟩
  · cases j with
    | zero => cases h; rfl
    | succ j => cases h
  · cases j with
    | zero => cases h; cases e
    | succ j => cases h
theorem PIn.next {l : List (Str × Nat)} (nd : (l.map (·.1)).Nodup) {zs : List Str} {i : Nat} (hi : i < zs.length) {w0 : List Nat} {ws : List (List Nat)} (h : PIn l zs i (w0 :: ws)) : PIn l zs (i + 1) (List.replicate (ar l zs[i]) (w0 ++ [i]) ++ ws) := by
  have hd : zs.drop i = zs[i] :: zs.drop (i + 1) := List.drop_eq_getElem_cons hi
  have fo := h.fo
  rw [hd] at fo
  obtain ⟨a, ma, fa⟩ : ∃ a, (zs[i], a) ∈ l ∧ Fo l (ws.length + a) (zs.drop (i + 1)) := by
    cases fo with
    | cons m h => exact ⟨_, m, h⟩
  have arz := ar_eq nd ma
  have st : stopAt l zs i = past l zs (i + 1) a := by rw [stop_eq hi, arz]
  have nx : ∀ j, past l zs i (j + 1) = past l zs (i + 1) (j + a) := fun j => by rw [past_next hi, arz]
  have w0e := h.op 0 w0 rfl
  rw [past_zero] at w0e
  have atP : (paths l zs 0 [[]])[i]? = some w0 := by
    obtain ⟨done, ld, e⟩ := h.tl
    rw [e, List.getElem?_append_right (by omega), ld, Nat.sub_self, hd]
    rfl
  rw [arz]
  refine ⟨?_, ?_, ?_, ?_, ?_⟩
  · rw [List.length_append, List.length_replicate, Nat.add_comm]
    exact fa
  · intro j w hw
    rw [List.range_succ, List.filter_append]
    by_cases ja : j < a
    · rw [List.getElem?_append_left (by rw [List.length_replicate]; exact ja), List.getElem?_replicate, if_pos ja] at hw
      cases hw
      have lt : past l zs (i + 1) j < stopAt l zs i := by
        rw [st]
        exact past_lt nd fa ja (by omega)
      have ge : i + 1 ≤ past l zs (i + 1) j := by
        unfold past
        omega
      have e1 : ([i].filter fun a => decide (past l zs (i + 1) j < stopAt l zs a)) = [i] := by
        rw [List.filter_cons_of_pos (by simpa using lt)]
        rfl
      rw [e1, w0e]
      congr 1
      refine List.filter_congr fun b hb => ?_
      have hb' := List.mem_range.mp hb
      rw [decide_eq_decide]
      constructor
      · intro c
        rcases h.lam b hb' with q | ⟨m, m1, m2, em⟩
        · omega
        · rw [em]
          have h1 : past l zs i 1 ≤ past l zs i m := past_le nd h.fo m1 m2
          have h2 : past l zs i 1 = stopAt l zs i := rfl
          omega
      · intro c
        omega
    · have hj : ws[j - a]? = some w := by
        rw [List.getElem?_append_right (by rw [List.length_replicate]; omega), List.length_replicate] at hw
        exact hw
      have o := h.op (j - a + 1) w (by rw [List.getElem?_cons_succ]; exact hj)
      have jl := (List.getElem?_eq_some_iff.mp hj).1
      rw [nx, Nat.sub_add_cancel (by omega)] at o
      have e1 : ([i].filter fun a => decide (past l zs (i + 1) j < stopAt l zs a)) = [] := by
        rw [List.filter_cons_of_neg]
        · rfl
        · have : stopAt l zs i ≤ past l zs (i + 1) j := by
            rw [st]
            exact past_le nd fa (by omega) (by omega)
          simpa using this
      rw [e1, List.append_nil]
      exact o
  · intro b hb
    rw [List.length_append, List.length_replicate]
    by_cases e : b = i
    · subst e
      by_cases a0 : a = 0
      · left
        rw [st, a0, past_zero]
        exact Nat.le_refl _
      · exact .inr ⟨a, by omega, by omega, st⟩
    · rcases h.lam b (by omega) with q | ⟨m, m1, m2, em⟩
      · exact .inl (by omega)
      · obtain ⟨m', rfl⟩ : ∃ m', m = m' + 1 := ⟨m - 1, by omega⟩
        rw [nx] at em
        rw [List.length_cons] at m2
        by_cases z : m' + a = 0
        · left
          rw [em, z, past_zero]
          exact Nat.le_refl _
        · exact .inr ⟨m' + a, by omega, by omega, em⟩
  · intro j w k hw hk
    by_cases ja : j < a
    · rw [List.getElem?_append_left (by rw [List.length_replicate]; exact ja), List.getElem?_replicate, if_pos ja] at hw
      cases hw
      rw [List.getLast?_concat] at hk
      cases hk
      refine ⟨Nat.lt_succ_self _, ⟨hi, j, by rw [arz]; exact ja, rfl⟩, ?_⟩
      rw [List.dropLast_concat]
      exact atP
    · have hj : ws[j - a]? = some w := by
        rw [List.getElem?_append_right (by rw [List.length_replicate]; omega), List.length_replicate] at hw
        exact hw
      obtain ⟨k1, ⟨k2, c, c1, c2⟩, k3⟩ := h.kid (j - a + 1) w k (by rw [List.getElem?_cons_succ]; exact hj) hk
      rw [nx, Nat.sub_add_cancel (by omega)] at c2
      exact ⟨by omega, ⟨k2, c, c1, c2⟩, k3⟩
  · obtain ⟨done, ld, e⟩ := h.tl
    refine ⟨done ++ [w0], by rw [List.length_append, ld]; rfl, ?_⟩
    rw [e, hd, List.append_assoc]
    show done ++ (w0 :: paths l (zs.drop (i + 1)) (i + 1) (List.replicate (ar l zs[i]) (w0 ++ [i]) ++ ws)) = _
    rw [arz]
    rfl
theorem PIn.all {l : List (Str × Nat)} (nd : (l.map (·.1)).Nodup) {zs : List Str} (fo : Fo l 1 zs) : ∀ i, i ≤ zs.length → ∃ ws, PIn l zs i ws
  | 0, _ => ⟨_, .start fo⟩
  | i + 1, h => by
    obtain ⟨ws, p⟩ := PIn.all nd fo i (by omega)
    cases ws with
    | nil =>
      have f := p.fo
      rw [List.drop_eq_getElem_cons (by omega)] at f
      cases f
    | cons w ws => exact ⟨_, p.next nd (by omega)⟩
theorem paths_at {l : List (Str × Nat)} (nd : (l.map (·.1)).Nodup) {zs : List Str} (fo : Fo l 1 zs) {i : Nat} (hi : i < zs.length) : (paths l zs 0 [[]])[i]? = some (abv l zs i) ∧
    ∀ k, (abv l zs i).getLast? = some k → k < i ∧ abv l zs i = abv l zs k ++ [k] ∧ ∃ hk : k < zs.length, i ∈ kidsFrom l zs (k + 1) (ar l zs[k]) := by
  have key : ∀ i, i < zs.length → (paths l zs 0 [[]])[i]? = some (abv l zs i) ∧ ∀ k, (abv l zs i).getLast? = some k → k < i ∧ (paths l zs 0 [[]])[k]? = some (abv l zs i).dropLast ∧ ∃ hk : k < zs.length, i ∈ kidsFrom l zs (k + 1) (ar l zs[k]) := fun i hi => by
    obtain ⟨ws, p⟩ := PIn.all nd fo i (by omega)
    cases ws with
    | nil =>
      have f := p.fo
      rw [List.drop_eq_getElem_cons hi] at f
      cases f
    | cons w ws =>
      have o := p.op 0 w rfl
      rw [past_zero] at o
      have ew : w = abv l zs i := o
      subst ew
      refine ⟨?_, fun k hk => ?_⟩
      · obtain ⟨done, ld, e⟩ := p.tl
        rw [e, List.getElem?_append_right (by omega), ld, Nat.sub_self, List.drop_eq_getElem_cons hi]
        rfl
      · obtain ⟨k1, ⟨k2, c, c1, c2⟩, k3⟩ := p.kid 0 _ k rfl hk
        rw [past_zero] at c2
        refine ⟨k1, k3, k2, ?_⟩
        rw [c2]
        exact mem_kidsFrom c1
  refine ⟨(key i hi).1, fun k hk => ?_⟩
  obtain ⟨k1, k2, k3, k4⟩ := (key i hi).2 k hk
  refine ⟨k1, ?_, k3, k4⟩
  rw [(key k k3).1] at k2
  rw [Option.some.inj k2]
  obtain ⟨ys, e⟩ := List.getLast?_eq_some_iff.mp hk
  rw [e, List.dropLast_concat]
theorem paths_len {l : List (Str × Nat)} (nd : (l.map (·.1)).Nodup) {zs : List Str} (fo : Fo l 1 zs) : paths l zs 0 [[]] = (List.range zs.length).map (abv l zs) := by
  refine List.ext_getElem? fun i => ?_
  by_cases hi : i < zs.length
  · rw [(paths_at nd fo hi).1, List.getElem?_map, List.getElem?_range hi]
    rfl
  · obtain ⟨ws, p⟩ := PIn.all nd fo zs.length (Nat.le_refl _)
    obtain ⟨done, ld, e⟩ := p.tl
    rw [List.drop_length] at e
    have e2 : paths l [] zs.length ws = [] := rfl
    rw [e2, List.append_nil] at e
    rw [List.getElem?_eq_none (by rw [e]; omega), List.getElem?_eq_none (by simp; omega)]
end Pr
namespace Pr
open PySem PySem.Spec PyProof.Rows L2 Gd
/-! ### above, levels -/
def mx : List Nat → Nat
  | [] => 0
  | x :: xs => Nat.max x (mx xs)
theorem mx_le : ∀ {xs : List Nat} {y : Nat}, y ∈ xs → y ≤ mx xs
  | x :: xs, y, h => by
    rcases List.mem_cons.mp h with rfl | h
    · exact Nat.le_max_left _ _
    · exact Nat.le_trans (mx_le h) (Nat.le_max_right _ _)
theorem mx_mem : ∀ {xs : List Nat}, xs ≠ [] → mx xs ∈ xs
  | [x], _ => by
    show Nat.max x 0 ∈ [x]
    rw [show Nat.max x 0 = x from Nat.max_eq_left (Nat.zero_le _)]
    exact List.mem_cons_self
  | x :: y :: xs, _ => by
    have ih := mx_mem (xs := y :: xs) (by simp)
    show Nat.max x (mx (y :: xs)) ∈ _
    rcases Nat.le_total x (mx (y :: xs)) with h | h
    · rw [show Nat.max x (mx (y :: xs)) = mx (y :: xs) from Nat.max_eq_right h]
      exact List.mem_cons_of_mem _ ih
    · rw [show Nat.max x (mx (y :: xs)) = x from Nat.max_eq_left h]
      exact List.mem_cons_self
theorem mx_of {xs : List Nat} {m : Int} (hm : m ∈ xs.map fun (x : Nat) => (x : Int)) (hl : ∀ y, y ∈ (xs.map fun (x : Nat) => (x : Int)) → y ≤ m) : m = (mx xs : Nat) := by
  obtain ⟨k, hk, rfl⟩ := List.mem_map.mp hm
  have h1 := mx_le hk
  have h2 := hl _ (List.mem_map_of_mem (mx_mem (List.ne_nil_of_mem hk)))
  omega
/-- the levels of a tree -/
def lvl (l : List (Str × Nat)) (zs : List Str) : Nat := mx (dpt l zs [1])
theorem lvl_abv {l : List (Str × Nat)} (nd : (l.map (·.1)).Nodup) {zs : List Str} (fo : Fo l 1 zs) : dpt l zs [1] = (List.range zs.length).map fun i => (abv l zs i).length + 1 := by
  have h := paths_dpt (l := l) zs 0 [[]]
  rw [paths_len nd fo, List.map_map] at h
  exact h.symm
def spAbove (C : Addr) : Sp := fun vs H Q _ => ∃ (o t : Addr) (l : List (Str × Nat)) (zs : List Str) (p : Nat), vs = [.ref o, .ref t, .int (p : Int)] ∧ TreeAt H C o t l zs ∧ p < zs.length ∧
  ∀ q H', Same H H' → H' q = some (.tup ((abv l zs p).map intV)) → Q (.ref q) H'
def spLvl (C : Addr) : Sp := fun vs H Q _ => ∃ (o t : Addr) (l : List (Str × Nat)) (zs : List Str), vs = [.ref o, .ref t] ∧ TreeAt H C o t l zs ∧ ∀ H', Same H H' → Q (.int (lvl l zs : Nat)) H'
theorem parents_eq {l : List (Str × Nat)} (nd : (l.map (·.1)).Nodup) {zs : List Str} (fo : Fo l 1 zs) : (parL l zs 0 [none]).map optV = (List.range zs.length).map fun i => optV (abv l zs i).getLast? := by
  have h := parL_paths (l := l) zs 0 [[]]
  rw [paths_len nd fo, List.map_map] at h
  have h' : parL l zs 0 [none] = _ := h
  rw [h', List.map_map]
  rfl
section
variable {P : Program} {w : World} {K : PySem.W.Frag} {mg : Str → Option Value} {base : Heap} {C fW fT fC fP fE fI fN fQ : Addr} {dW dT dC dP dE dI dN dQ : FuncData} {tk : Tok}
theorem scAbove : FnScope ["self", "tree", "place", "parents", "way", "at"] ["self", "tree", "place"] (defScope mAbove) := ⟨rfl, rfl, rfl, by decide +kernel, rfl, by decide +kernel, by decide +kernel⟩
theorem ok_above {f : Addr} {fd : FuncData} (F : Fun K "above" "Operators.above" mAbove f fd) (M : Ms K mg C fW fT fC fP fE fI fN dW dT dC dP dE dI dN tk) (T : Free mg)
    (FQ : Fun K "_parents" "Operators._parents" mParents fQ dQ) (bQ : Binds K dQ ["self", "tree"] []) (mQ : Meth K C "_parents" fQ) : FnOk P w K mg base CX0 5 f fd ["self", "tree", "place"] (spAbove C) := by
  have GP : FnOk P w K mg base CX0 4 fP dP ["self", "tree", "place"] (spChPlace C) := ok_chPlace M T
  have GQ : FnOk P w K mg base CX0 1 fQ dQ ["self", "tree"] (spParents C) := ok_parents FQ M T
  refine F.ok scAbove (fun vs H Q E h => ?_) (fun cdv A outer s H vs Q E hr h => ?_)
  · obtain ⟨o, t, l, zs, p, rfl, _⟩ := h
    rfl
  · obtain ⟨o, t, l, zs, p, rfl, tr, hp, q⟩ := h
    have r1 : Room 1 _ := hr.mono (by decide)
    refine ⟨_, pss_cons (ps_expr (pe_meth (pv 0) M.cf.cls M.mP GP (hr.mono (by decide)) M.bP .nil pass0 (pa_cons (pv 1) (pa_cons (pv 2) pa_nil))))
      (pss_cons (ps_set (i := 3) scAbove.nd rfl (.inl rfl) (pe_meth (pv 0) M.cf.cls mQ GQ r1 bQ .nil pass0 (pa_cons (pv 1) pa_nil)))
      (pss_cons (ps_set (i := 4) scAbove.nd rfl (.inl rfl) (pe_lst pa_nil))
      (pss_cons (ps_set (i := 5) scAbove.nd rfl (.inl rfl) (pe_ix ix_list (pv 3) (pv 2) (fun _ _ => rfl)))
      (pss_cons (ps_while PassesOwn.never (pt_cmp (pc_notN (pv 5)))
        (pss_cons (ps_expr (pe_bm PySem.F.plainAttrs_list PySem.F.slot_list_append PySem.F.type_list_append mt_append (pv 4) (pa_cons (pv 5) pa_nil)))
        (pss_one (ps_set (i := 5) scAbove.nd rfl (.inl rfl) (pe_ix ix_list (pv 3) (pv 5) (fun _ _ => rfl))))))
      (pss_one (ps_ret (pe_callTy call_tuple_of (by rfl) T.tuple (by decide +kernel) (pa_cons (pe_revL (pv 4)) pa_nil)))))))), ?_⟩
    obtain ⟨dx, tn, ta, tl, ho, hn, ha⟩ := tr.ops.ex
    have few := tr.few
    refine ⟨_, rfl, o, dx, _, rfl, ho, rfl, _, rfl, _, rfl, o, t, l, zs, p, rfl, tr, hp, ?_⟩
    refine ⟨_, rfl, o, dx, _, rfl, ho, rfl, _, rfl, o, t, l, zs, rfl, tr, fun PL H1 s1 nPL hPL => ?_⟩
    rw [parents_eq tr.nd tr.fo] at hPL
    have hxs : ∀ k, k < zs.length → atI ((List.range zs.length).map fun i => optV (abv l zs i).getLast?) (k : Int) = some (optV (abv l zs k).getLast?) := fun k hk => atI_nat (by rw [List.getElem?_map, List.getElem?_range hk]; rfl)
    refine ⟨by show 0 ≤ sizeLine; decide, fun W nW => ?_⟩
    have PW : PL ≠ W := ne_of_none hPL nW
    have nHW : H W = none := s1.free nW
    have s2 := s1.trans (Same.new nW (o := .lst []))
    have hPL2 := (Same.new nW (o := .lst [])) _ _ hPL
    refine ⟨_, rfl, _, rfl, PL, _, _, _, rfl, rfl, SqL.of hPL2, hxs p hp, ?_⟩
    refine while_by (fun σ H' => ∃ ww done : List Nat, σ = [some (.ref o), some (.ref t), some (.int (p : Int)), some (.ref PL), some (.ref W), some (optV ww.getLast?)] ∧ Same H H' ∧ H' PL = some (.lst ((List.range zs.length).map fun i => optV (abv l zs i).getLast?)) ∧ H' W = some (.lst (done.reverse.map intV)) ∧
        abv l zs p = ww ++ done ∧ done.length ≤ p ∧ (ww = [] ∨ ∃ k, k < zs.length ∧ ww = abv l zs k ++ [k]))
      (fun σ _ => match σ with | [_, _, _, _, _, some (.int j)] => j.toNat + 1 | _ => 0) ⟨abv l zs p, [], rfl, s2, hPL2, upd_same, (List.append_nil _).symm, Nat.zero_le _, ?_⟩ ?_ (fun σ H Q Q' k h => by
        obtain ⟨v, hv, c, ec, q⟩ := h
        exact ⟨v, hv, c, ec, k _ _ q⟩)
    · cases e : (abv l zs p).getLast? with
      | none => exact .inl (List.getLast?_eq_none_iff.mp e)
      | some k =>
        obtain ⟨_, k2, k3, _⟩ := (paths_at tr.nd tr.fo hp).2 k e
        exact .inr ⟨k, k3, k2⟩
    · rintro σ H' ⟨ww, done, rfl, sm, hP, hW, ea, dl, alt⟩
      rcases alt with rfl | ⟨k, hk, rfl⟩
      · refine ⟨_, rfl, false, rfl, if_false_of rfl ?_⟩
        refine ⟨_, rfl, W, _, rfl, SqL.of hW, fun R nR => ⟨R, _, rfl, .inl ⟨SqL.of upd_same, fun t2 nt2 => q t2 _ ((sm.trans (Same.new nR)).trans (Same.new nt2)) ?_⟩⟩⟩
        rw [upd_same, ea, ← List.map_reverse, List.reverse_reverse]
        rfl
      · have al : (abv l zs p).length ≤ p := by
          have := List.length_filter_le (fun a => decide (p < stopAt l zs a)) (List.range p)
          rw [List.length_range] at this
          exact this
        have dl2 : done.length + 1 ≤ p := by
          rw [ea] at al
          simp only [List.length_append, List.length_cons, List.length_nil] at al
          omega
        rw [List.getLast?_concat]
        refine ⟨_, rfl, true, rfl, if_true_of rfl ?_⟩
        refine ⟨_, rfl, .inl ⟨rfl, _, SqL.of hW⟩, _, rfl, W, _, _, rfl, rfl, hW, by rw [List.length_map, List.length_reverse, sizeLine_eq]; omega, ?_⟩
        have hP2 : (upd H' W (.lst (done.reverse.map intV ++ [intV k]))) PL = some (.lst ((List.range zs.length).map fun i => optV (abv l zs i).getLast?)) := by
          rw [upd_ne PW]
          exact hP
        refine ⟨_, rfl, _, rfl, PL, _, _, _, rfl, rfl, SqL.of hP2, hxs k hk, ⟨abv l zs k, k :: done, rfl, fun b u e => ?_, hP2, ?_, ?_, by rw [List.length_cons]; omega, ?_⟩, ?_⟩
        · rw [upd_ne (ne_of_none e nHW)]
          exact sm b u e
        · rw [upd_same, List.reverse_cons, List.map_append]
          rfl
        · rw [ea, List.append_assoc]
          rfl
        · cases e : (abv l zs k).getLast? with
          | none => exact .inl (List.getLast?_eq_none_iff.mp e)
          | some j =>
            obtain ⟨_, k2, k3, _⟩ := (paths_at tr.nd tr.fo hk).2 j e
            exact .inr ⟨j, k3, k2⟩
        · cases e : (abv l zs k).getLast? with
          | none => exact Nat.succ_pos _
          | some j =>
            have := ((paths_at tr.nd tr.fo hk).2 j e).1
            show ((j : Int)).toNat + 1 < ((k : Int)).toNat + 1
            omega
theorem scLvl : FnScope ["self", "tree", "levels", "parent"] ["self", "tree"] (defScope mLevels) := ⟨rfl, rfl, rfl, by decide +kernel, rfl, by decide +kernel, by decide +kernel⟩
theorem ok_lvl {f : Addr} {fd : FuncData} (F : Fun K "levels" "Operators.levels" mLevels f fd) (M : Ms K mg C fW fT fC fP fE fI fN dW dT dC dP dE dI dN tk) (T : Free mg)
    (FQ : Fun K "_parents" "Operators._parents" mParents fQ dQ) (bQ : Binds K dQ ["self", "tree"] []) (mQ : Meth K C "_parents" fQ) : FnOk P w K mg base CX0 4 f fd ["self", "tree"] (spLvl C) := by
  have GC : FnOk P w K mg base CX0 3 fC dC ["self", "tree"] (spChTree C) := ok_chTree M T
  have GQ : FnOk P w K mg base CX0 1 fQ dQ ["self", "tree"] (spParents C) := ok_parents FQ M T
  refine F.ok scLvl (fun vs H Q E h => ?_) (fun cdv A outer s H vs Q E hr h => ?_)
  · obtain ⟨o, t, l, zs, rfl, _⟩ := h
    rfl
  · obtain ⟨o, t, l, zs, rfl, tr, q⟩ := h
    have r1 : Room 1 _ := hr.mono (by decide)
    refine ⟨_, pss_cons (ps_expr (pe_meth (pv 0) M.cf.cls M.mC GC hr M.bC .nil pass0 (pa_cons (pv 1) pa_nil)))
      (pss_cons (ps_set (i := 2) scLvl.nd rfl (.inl rfl) (pe_lst pa_nil))
      (pss_cons (ps_for PassesOwn.never rfl (pi_list (pe_meth (pv 0) M.cf.cls mQ GQ r1 bQ .nil pass0 (pa_cons (pv 1) pa_nil))) (pg_name (i := 3) scLvl.nd rfl (.inl rfl))
        (pss_one (ps_expr (pe_bm PySem.F.plainAttrs_list PySem.F.slot_list_append PySem.F.type_list_append mt_append (pv 2) (pa_cons (pe_ifExp (pt_cmp (pc_isN (pv 3))) pe_int (pe_op op_add (pe_ix ix_list (pv 2) (pv 3) (fun _ _ => rfl)) pe_int)) pa_nil)))))
      (pss_one (ps_ret (pe_callB (cr_max rfl) (by rfl) T.max (by decide +kernel) (pa_cons (pv 2) pa_nil)))))), ?_⟩
    obtain ⟨dx, tn, ta, tl, ho, hn, ha⟩ := tr.ops.ex
    have few := tr.few
    have pos : 0 < zs.length := tr.fo.len
    refine ⟨_, rfl, o, dx, _, rfl, ho, rfl, _, rfl, o, t, l, zs, rfl, tr, by show 0 ≤ sizeLine; decide, fun L nL => ?_⟩
    have s0 := Same.new nL (o := .lst [])
    refine ⟨_, rfl, o, dx, _, rfl, s0 _ _ ho, rfl, _, rfl, o, t, l, zs, rfl, tr.same s0, fun PL H1 s1 nPL hPL => ?_⟩
    rw [parents_eq tr.nd tr.fo] at hPL
    have PL' : PL ≠ L := fun e => by
      rw [e, upd_same] at nPL
      cases nPL
    have hL1 := s1 _ _ (upd_same (H := H) (a := L) (o := .lst []))
    refine ⟨PL, rfl, ⟨_, SqL.of hPL⟩, ?_⟩
    refine for_list (K := K) (a := PL) (xs := (List.range zs.length).map fun i => optV (abv l zs i).getLast?) (fun i σ H' => ∃ v3 : Option V, σ = [some (.ref o), some (.ref t), some (.ref L), v3] ∧ Same H H' ∧ H' PL = some (.lst ((List.range zs.length).map fun i => optV (abv l zs i).getLast?)) ∧
        H' L = some (.lst ((List.range i).map fun j => intV ((abv l zs j).length + 1)))) ⟨none, rfl, s0.trans s1, hPL, hL1⟩ (fun i σ H' _ ⟨_, _, _, hP, _⟩ => SqL.of hP) ?_ ?_
    · rintro i x σ H' hx ⟨v3, rfl, sm, hP, hL⟩
      have hi : i < zs.length := by
        have := (List.getElem?_eq_some_iff.mp hx).1
        rw [List.length_map, List.length_range] at this
        exact this
      rw [List.getElem?_map, List.getElem?_range hi] at hx
      cases (Option.some.inj hx)
      refine ⟨_, rfl, .inl ⟨rfl, _, SqL.of hL⟩, ?_⟩
      have fin : ∀ v : V, v = intV ((abv l zs i).length + 1) → ∃ v3 : Option V, ([some (V.ref o), some (V.ref t), some (V.ref L), some (optV (abv l zs i).getLast?)] : L2.St) = [some (.ref o), some (.ref t), some (.ref L), v3] ∧ Same H (upd H' L (.lst (((List.range i).map fun j => intV ((abv l zs j).length + 1)) ++ [v]))) ∧ (upd H' L (.lst (((List.range i).map fun j => intV ((abv l zs j).length + 1)) ++ [v]))) PL = some (.lst ((List.range zs.length).map fun i => optV (abv l zs i).getLast?)) ∧
        (upd H' L (.lst (((List.range i).map fun j => intV ((abv l zs j).length + 1)) ++ [v]))) L = some (.lst ((List.range (i + 1)).map fun j => intV ((abv l zs j).length + 1))) := fun v ev => by
        refine ⟨_, rfl, fun b u e => ?_, ?_, ?_⟩
        · rw [upd_ne (ne_of_none e nL)]
          exact sm b u e
        · rw [upd_ne PL']
          exact hP
        · rw [upd_same, List.range_succ, List.map_append, ev]
          rfl
      cases e : (abv l zs i).getLast? with
      | none =>
        have e0 : abv l zs i = [] := List.getLast?_eq_none_iff.mp e
        refine ⟨_, rfl, true, congrArg V.bl (decide_eq_true (by show optV (abv l zs i).getLast? = V.non; rw [e]; rfl)), if_true_of rfl ?_⟩
        refine ⟨L, _, _, rfl, rfl, hL, by rw [List.length_map, List.length_range, sizeLine_eq]; omega, fin _ (by rw [e0]; rfl)⟩
      | some k =>
        obtain ⟨k1, k2, k3, _⟩ := (paths_at tr.nd tr.fo hi).2 k e
        have hx : atI ((List.range i).map fun j => intV ((abv l zs j).length + 1)) (k : Int) = some (intV ((abv l zs k).length + 1)) := atI_nat (by rw [List.getElem?_map, List.getElem?_range k1]; rfl)
        refine ⟨_, rfl, false, congrArg V.bl (decide_eq_false (by show ¬ optV (abv l zs i).getLast? = V.non; rw [e]; intro z; cases z)), if_false_of rfl ?_⟩
        refine ⟨_, rfl, _, rfl, L, _, (k : Int), _, rfl, (show optV (abv l zs i).getLast? = V.int (k : Int) by rw [e]; rfl), SqL.of hL, hx, _, _, rfl, rfl, L, _, _, rfl, rfl, hL, by rw [List.length_map, List.length_range, sizeLine_eq]; omega, fin _ ?_⟩
        rw [k2, List.length_append]
        show V.int _ = V.int _
        congr 1
    · rintro σ H' ⟨v3, rfl, sm, hP, hL⟩
      rw [List.length_map, List.length_range] at hL
      have eL : ((List.range zs.length).map fun j => intV ((abv l zs j).length + 1)) = ((dpt l zs [1]).map fun (x : Nat) => (x : Int)).map V.int := by
        rw [lvl_abv tr.nd tr.fo, List.map_map, List.map_map]
        rfl
      rw [eL] at hL
      refine ⟨_, rfl, L, _, rfl, SqL.of hL, ?_, fun m hm hl => ?_⟩
      · rw [List.length_map, lvl_abv tr.nd tr.fo, List.length_map, List.length_range]
        exact pos
      · rw [mx_of hm hl]
        exact q H' sm
end
end Pr
/-! ### xs.extend(t) of a tuple -/
namespace Tb
open PySem PySem.Spec PyProof.Rows L2
def rExtT (K : PySem.W.Frag) : V → List V → Hp → VK → Prop := fun x vs H Q => ∃ (l b : Addr) (xs zs : List V), x = .ref l ∧ vs = [.ref b] ∧ H l = some (.lst xs) ∧ SqT K H b zs ∧ xs.length + zs.length ≤ sizeLine ∧ Q .non (upd H l (.lst (xs ++ zs)))
theorem ext_any (l : Addr) (mine : Array Value) (n : Nat) (b : Addr) (more : Array Value) (n2 : Nat) (dd : Option Addr) (sl : Array (Option Value)) (room : ¬(!mine.isEmpty && Builtin.List.listTooLong (mine.size + more.size)) = true) (few : mine.size ≤ sizeLine) (sum : mine.size + more.size ≤ sizeLine + 1) :
    Meets (Builtin.«list.extend» ⟨[.ref l, .ref b], []⟩) (fun _ R s => s.heap.get? l = some { cls := .type "list", dict := none, data := .seq mine n, slots := #[] } ∧ s.heap.get? b = some { cls := .type "tuple", dict := dd, data := .seq more n2, slots := sl } ∧
      R (.ok (.ret Value.none)) { s with heap := s.heap.update l (Obj.mapSeq fun x => x ++ more), toks := s.toks }) :=
  .of_wp fun prog w A R s h => by
    obtain ⟨hp, gn, dr, tk, os⟩ := s
    obtain ⟨atL, atB, fin⟩ := h
    have g1 := AutoSeq1.idx_int
    have g2 := AutoSeq1.sub_tuple_tuple
    have g3 := AutoSeq1.sub_list_list
    have g4 := AutoSeq1.sub_tuple_list
    have g5 := AutoSeq1.sub_list_tuple
    have szz : (mine ++ more).size ≤ sizeLine + 1 := by rw [Array.size_append]; exact sum
    wp_walk using (wpAny_updateSeq atL rfl (hz := few) (_hz' := szz)), wpAny_loadPart' atL, wpAny_loadPart' atB
    exact ⟨_, rfl, fin⟩
theorem mt_extT {X : Cx} : MtM X "list.extend" (rExtT X.K) := by
  intro pins s σ G0 x vs v us Q J rx rv h
  obtain ⟨l, b, xs, zs, rfl, rfl, hL, hB, few, q⟩ := h
  cases rx
  obtain ⟨u, rfl, ru⟩ := rv.one
  cases ru
  obtain ⟨_, itx, n, relx, lx, atx⟩ := J.lstM hL
  obtain ⟨itz, relz, ⟨⟨ocl, odi, oda, osl⟩, hat, hcl, cnt, hda⟩, _⟩ := J.tuple hB
  dsimp only at hcl hda
  subst hcl hda
  have lz := relz.length
  have sum : itx.toArray.size + itz.toArray.size ≤ sizeLine := by
    rw [List.size_toArray, List.size_toArray]
    omega
  have room : ¬ (!itx.toArray.isEmpty && Builtin.List.listTooLong (itx.toArray.size + itz.toArray.size)) = true := by
    rw [notLongL sum, Bool.and_false]
    exact Bool.false_ne_true
  refine call_meets PySem.F.slot_list_extend ⟨_, atx, rfl⟩
    PySem.F.entry_list_extend (PySem.F.args_list_extend_2 _ _)
    (ext_any l itx.toArray n b itz.toArray cnt odi osl room (by omega) (by omega)) ⟨atx, hat, ?_⟩
  refine ⟨.non, _, J.lset (its' := itx ++ itz) hL atx (by simp) (relx.append relz) ?_, rfl, q⟩
  rw [List.length_append]
  exact few
end Tb
namespace Pr
open PySem PySem.Spec PyProof.Rows L2 Gd
/-- t[p:end] -/
theorem sub_eq {l : List (Str × Nat)} {zs : List Str} {p : Nat} : (zs.drop p).take (stopAt l zs p - p) = sub l zs p := by
  have e : stopAt l zs p - p = ext l (zs.drop p) 1 := by
    show p + ext l (zs.drop p) 1 - p = _
    omega
  rw [e]
  rfl
theorem stop_le {l : List (Str × Nat)} {zs : List Str} {p : Nat} (nd : (l.map (·.1)).Nodup) (fo : Fo l 1 zs) (hp : p < zs.length) : p ≤ stopAt l zs p ∧ stopAt l zs p ≤ zs.length := by
  obtain ⟨r, f⟩ := Fo.drop fo hp
  have f' : Fo l (1 + r) (zs.drop p) := by
    rw [Nat.add_comm]
    exact f
  have el := (ext_fo nd f').2
  rw [List.length_drop] at el
  have es : stopAt l zs p = p + ext l (zs.drop p) 1 := rfl
  omega
theorem slSubR {K : PySem.W.Frag} {H : Hp} {t : Addr} {l : List (Str × Nat)} {zs : List Str} {p : Nat} {Q : VK} (nd : (l.map (·.1)).Nodup) (fo : Fo l 1 zs) (hp : p < zs.length) (ht : Ws H t zs)
    (q : ∀ a H', Same H H' → Ws H' a (sub l zs p) → Q (.ref a) H') : rSlA K (.ref t) (some (p : Int)) (some ((p + ext l (zs.drop p) 1 : Nat) : Int)) H Q := by
  obtain ⟨h1, h2⟩ := stop_le nd fo hp
  have e : p + ext l (zs.drop p) 1 = stopAt l zs p := rfl
  rw [e]
  exact slMid ht (by omega) h2 h1 fun a H' s h => q a H' s (by rw [sub_eq] at h; exact h)
theorem ix_listK {X : Cx} {K : PySem.W.Frag} (h : X.K = K) : IxR X (rIxL K) := h ▸ ix_list
theorem sub_mem {l : List (Str × Nat)} {zs : List Str} {p : Nat} {z : Str} (h : z ∈ sub l zs p) : z ∈ zs := List.mem_of_mem_drop (List.mem_of_mem_take h)
structure MtF (K : PySem.W.Frag) (C : Addr) (name qual : Str) (st : Stmt) (f : Addr) (fd : FuncData) (ps : List Str) : Prop where
  F : Fun K name qual st f fd
  b : Binds K fd ps []
  m : Meth K C name f
theorem atI_last {α : Type} {ys : List α} {v : α} : atI (ys ++ [v]) (-1) = some v := by
  unfold atI ixN
  have e : (ys ++ [v]).length = ys.length + 1 := by simp
  have e3 : (-1 + ((ys.length + 1 : Nat) : Int)).toNat = ys.length := by omega
  rw [if_neg (by decide), e, if_pos (by omega)]
  show (ys ++ [v])[(-1 + ((ys.length + 1 : Nat) : Int)).toNat]? = some v
  rw [e3]
  simp
theorem join {H : Hp} {R : Hp → Prop} {A : Prop} (f : (∀ G, Same H G → R G) → A) (g : ∀ G, Same H G → R G) : A := f g
end Pr
namespace Pr
open PySem PySem.Spec PyProof.Rows L2 Gd
/-! ### contexts -/
theorem Fo.mono {l L : List (Str × Nat)} (h : ∀ p ∈ l, p ∈ L) : ∀ {n : Nat} {zs : List Str}, Fo l n zs → Fo L n zs
  | _, _, .nil => .nil
  | _, _, .cons m f => .cons (h _ m) (f.mono h)
theorem Fo.up {l : List (Str × Nat)} {n : Nat} {zs : List Str} (f : Fo l n zs) : Fo (lH l) n zs := f.mono fun _ m => List.mem_append_left _ m
theorem Fo.join {l : List (Str × Nat)} : ∀ {j k : Nat} {xs ys : List Str}, Fo l j xs → Fo l k ys → Fo l (j + k) (xs ++ ys)
  | _, k, _, _, .nil, g => by
    rw [Nat.zero_add]
    exact g
  | _, k, _, _, .cons (n := n) (a := a) m f, g => by
    have h := Fo.join f g
    have e : n + 1 + k = (n + k) + 1 := by omega
    have e2 : n + a + k = n + k + a := by omega
    rw [e]
    rw [e2] at h
    exact .cons m h
theorem Fo.cutl {l : List (Str × Nat)} (nd : (l.map (·.1)).Nodup) : ∀ {j k : Nat} {xs ys : List Str}, Fo l j xs → Fo l (j + k) (xs ++ ys) → Fo l k ys
  | _, k, _, _, .nil, g => by
    rw [Nat.zero_add] at g
    exact g
  | _, k, _, _, .cons (n := n) (a := a) m f, g => by
    have e : n + 1 + k = (n + k) + 1 := by omega
    rw [e] at g
    cases g with
    | cons m2 g =>
      rename_i a2
      have ea : a = a2 := (ar_eq nd m).symm.trans (ar_eq nd m2)
      subst ea
      have e2 : n + k + a = n + a + k := by omega
      rw [e2] at g
      exact Fo.cutl nd f g
theorem Fo.pre {l : List (Str × Nat)} : ∀ {xs ys : List Str} {n : Nat}, Fo l n (xs ++ ys) → ∃ m, Fo l m ys ∧ ∀ zs, Fo l m zs → Fo l n (xs ++ zs)
  | [], ys, n, h => ⟨n, h, fun _ g => g⟩
  | x :: xs, ys, n, h => by
    cases h with
    | cons m h =>
      obtain ⟨k, f, re⟩ := Fo.pre h
      exact ⟨k, f, fun zs g => .cons m (re zs g)⟩
/-- one tree in the place of another one -/
theorem Fo.swap {l : List (Str × Nat)} (nd : (l.map (·.1)).Nodup) {n : Nat} {a x y b : List Str} (h : Fo l n (a ++ (x ++ b))) (fx : Fo l 1 x) (fy : Fo l 1 y) : Fo l n (a ++ (y ++ b)) := by
  obtain ⟨m, f, re⟩ := Fo.pre h
  have pos : 0 < m := by
    cases fx with
    | cons mm g =>
      cases f with
      | cons m2 g2 => exact Nat.succ_pos _
  obtain ⟨k, rfl⟩ : ∃ k, m = 1 + k := ⟨m - 1, by omega⟩
  exact re _ (Fo.join fy (Fo.cutl nd fx f))
theorem lH_nd {l : List (Str × Nat)} (nd : (l.map (·.1)).Nodup) (no : hole ∉ l.map (·.1)) : ((lH l).map (·.1)).Nodup := by
  unfold lH
  rw [List.map_append, List.nodup_append]
  refine ⟨nd, by simp, fun x hx y hy e => ?_⟩
  rw [List.map_cons, List.map_nil, List.mem_singleton] at hy
  rw [e, hy] at hx
  exact no hx
theorem Fo.low {l : List (Str × Nat)} : ∀ {n : Nat} {zs : List Str}, Fo (lH l) n zs → hole ∉ zs → Fo l n zs
  | _, _, .nil, _ => .nil
  | _, _, .cons (z := z) (a := a) m f, h => by
    rcases List.mem_append.mp m with m | m
    · exact .cons m (f.low fun x => h (List.mem_cons_of_mem _ x))
    · have e : (z, a) = (hole, 0) := List.mem_singleton.mp m
      cases e
      exact absurd List.mem_cons_self h
theorem Fo.noH {l : List (Str × Nat)} (no : hole ∉ l.map (·.1)) : ∀ {n : Nat} {zs : List Str}, Fo l n zs → hole ∉ zs
  | _, _, .nil, h => by cases h
  | _, _, .cons m f, h => by
    rcases List.mem_cons.mp h with e | h
    · rw [← e] at m
      exact no (List.mem_map_of_mem (f := fun p : Str × Nat => p.1) m)
    · exact f.noH no h
theorem fo_hole {l : List (Str × Nat)} : Fo (lH l) 1 [hole] := .cons (List.mem_append_right _ List.mem_cons_self) .nil
/-- a context, by what stands ahead of its hole and behind it -/
structure IsC (l : List (Str × Nat)) (a b : List Str) : Prop where
  na : hole ∉ a
  nb : hole ∉ b
  fo : Fo (lH l) 1 (a ++ hole :: b)
def cxt (a b : List Str) : List Str := a ++ hole :: b
theorem IsC.hole0 {l : List (Str × Nat)} : IsC l [] [] := ⟨by simp, by simp, fo_hole⟩
/-- a tree in a context -/
theorem IsC.put {l : List (Str × Nat)} (nd : (l.map (·.1)).Nodup) (no : hole ∉ l.map (·.1)) {a b v : List Str} (c : IsC l a b) (fv : Fo l 1 v) : Fo l 1 (a ++ (v ++ b)) := by
  have h : Fo (lH l) 1 (a ++ ([hole] ++ b)) := c.fo
  refine (Fo.swap (lH_nd nd no) h fo_hole fv.up).low fun m => ?_
  rcases List.mem_append.mp m with m | m
  · exact c.na m
  · rcases List.mem_append.mp m with m | m
    · exact fv.noH no m
    · exact c.nb m
/-- a context in a context -/
theorem IsC.putC {l : List (Str × Nat)} (nd : (l.map (·.1)).Nodup) (no : hole ∉ l.map (·.1)) {a b a2 b2 : List Str} (c : IsC l a b) (c2 : IsC l a2 b2) : IsC l (a ++ a2) (b2 ++ b) := by
  have h : Fo (lH l) 1 (a ++ ([hole] ++ b)) := c.fo
  have f := Fo.swap (lH_nd nd no) h fo_hole c2.fo
  refine ⟨fun m => ?_, fun m => ?_, ?_⟩
  · rcases List.mem_append.mp m with m | m
    · exact c.na m
    · exact c2.na m
  · rcases List.mem_append.mp m with m | m
    · exact c2.nb m
    · exact c.nb m
  · have e : a ++ ((a2 ++ hole :: b2) ++ b) = (a ++ a2) ++ hole :: (b2 ++ b) := by simp
    rw [e] at f
    exact f
/-- a tree cut at a place -/
theorem cut_ctx {l : List (Str × Nat)} (nd : (l.map (·.1)).Nodup) (no : hole ∉ l.map (·.1)) {zs : List Str} (fo : Fo l 1 zs) {p : Nat} (hp : p < zs.length) :
    zs = zs.take p ++ (sub l zs p ++ zs.drop (stopAt l zs p)) ∧ IsC l (zs.take p) (zs.drop (stopAt l zs p)) := by
  have e : zs = zs.take p ++ (sub l zs p ++ zs.drop (stopAt l zs p)) := by
    have e1 : zs.drop (stopAt l zs p) = (zs.drop p).drop (ext l (zs.drop p) 1) := by
      rw [List.drop_drop]
      rfl
    unfold sub
    rw [e1, List.take_append_drop, List.take_append_drop]
  refine ⟨e, fun m => fo.noH no (List.mem_of_mem_take m), fun m => fo.noH no (List.mem_of_mem_drop m), ?_⟩
  have h := fo.up
  rw [e] at h
  exact Fo.swap (lH_nd nd no) h (sub_fo nd fo hp).up fo_hole
/-- what is_whole says of rows of words -/
theorem wgo_fo {l : List (Str × Nat)} : ∀ {zs : List Str} {n : Nat}, wgo l (n : Int) (zs.map V.str) = true → (∀ z v, valV (dkv l) (.inr z : Key) = some v → ∃ a, (z, a) ∈ l ∧ v = .int (a : Int)) → Fo l n zs
  | [], n, h, _ => by
    have e : ((n : Nat) : Int) = 0 := of_decide_eq_true h
    have e2 : n = 0 := by omega
    rw [e2]
    exact .nil
  | z :: zs, 0, h, _ => by
    rw [List.map_cons, wgo_zero (by rfl)] at h
    cases h
  | z :: zs, n + 1, h, at_ => by
    cases ea : arity l (.str z) with
    | none =>
      rw [List.map_cons, wgo_none ea] at h
      cases h
    | some a =>
      have ev : ∃ v, valV (dkv l) (.inr z : Key) = some v ∧ v = .int a := by
        have ea' : (match valV (dkv l) (.inr z : Key) with | some (.int a) => some a | _ => none) = some a := ea
        cases e : valV (dkv l) (.inr z : Key) with
        | none =>
          rw [e] at ea'
          cases ea'
        | some v =>
          obtain ⟨b, hb, rfl⟩ := at_ z v e
          rw [e] at ea'
          cases ea'
          exact ⟨_, rfl, rfl⟩
      obtain ⟨v, e1, rfl⟩ := ev
      obtain ⟨b, hb, e2⟩ := at_ z _ e1
      cases e2
      rw [List.map_cons, wgo_some (by omega) ea] at h
      have e3 : ((n + 1 : Nat) : Int) + ((b : Int) - 1) = ((n + b : Nat) : Int) := by omega
      rw [e3] at h
      exact .cons hb (wgo_fo h at_)
theorem val_in {l : List (Str × Nat)} : ∀ z v, valV (dkv l) (.inr z : Key) = some v → ∃ a, (z, a) ∈ l ∧ v = .int (a : Int) := by
  induction l with
  | nil => intro z v h; cases h
  | cons p l ih =>
    intro z v h
    have h' : valV ((.inr p.1, .int (p.2 : Int)) :: dkv l) (.inr z : Key) = some v := h
    by_cases e : (.inr p.1 : Key) = .inr z
    · rw [valV_pos e] at h'
      have e' : p.1 = z := Sum.inr.inj e
      exact ⟨p.2, by rw [← e']; exact List.mem_cons_self, (Option.some.inj h').symm⟩
    · rw [valV_neg e] at h'
      obtain ⟨a, m, ev⟩ := ih z v h'
      exact ⟨a, List.mem_cons_of_mem _ m, ev⟩
theorem wgo_ctx {l : List (Str × Nat)} (no : hole ∉ l.map (·.1)) {a b : List Str} : wgo l 1 ((cxt a b).map V.str) = false := by
  cases e : wgo l 1 ((cxt a b).map V.str) with
  | false => rfl
  | true =>
    have f := wgo_fo (n := 1) e val_in
    exact absurd (List.mem_append_right _ List.mem_cons_self) (f.noH no)
/-- how often the hole stands in a row -/
def isHole (z : Str) : Bool := eqV (V.str z) (V.str hole)
theorem countP_none {p : Str → Bool} : ∀ {xs : List Str}, (∀ x ∈ xs, p x = false) → xs.countP p = 0
  | [], _ => rfl
  | x :: xs, h => by
    rw [List.countP_cons, countP_none (fun y m => h y (List.mem_cons_of_mem _ m)), h x List.mem_cons_self]
    rfl
theorem isHole_no {xs : List Str} (h : hole ∉ xs) : ∀ x ∈ xs, isHole x = false := fun x m => by
  cases e : isHole x with
  | false => rfl
  | true =>
    have e' : (x == hole) = true := e
    rw [eq_of_beq e'] at m
    exact absurd m h
theorem count_ctx {a b : List Str} (na : hole ∉ a) (nb : hole ∉ b) : (cxt a b).countP isHole = 1 := by
  unfold cxt
  rw [List.countP_append, List.countP_cons, countP_none (isHole_no na), countP_none (isHole_no nb)]
  rfl
theorem count_no {xs : List Str} (h : hole ∉ xs) : xs.countP isHole = 0 := countP_none (isHole_no h)
end Pr
namespace Pr
open PySem PySem.Spec PyProof.Rows L2 Gd
/-! ### is_tree of any row of words; is_context -/
/-- what is_tree says -/
def treeB (l : List (Str × Nat)) (zs : List Str) : Bool := decide (zs.length ≤ 5000) && wgo l 1 (zs.map V.str)
/-- what is_context says -/
def ctxB (l : List (Str × Nat)) (zs : List Str) : Bool := decide (zs.length ≤ 5000) && (decide (zs.countP isHole = 1) && wgo (lH l) 1 (zs.map V.str))
def spTreeB (C : Addr) : Sp := fun vs H Q _ => ∃ (o t : Addr) (l : List (Str × Nat)) (zs : List Str), vs = [.ref o, .ref t] ∧ OpsAt H C o l ∧ Ws H t zs ∧ Q (.bl (treeB l zs)) H
def spCtxB (C : Addr) : Sp := fun vs H Q _ => ∃ (o t : Addr) (l : List (Str × Nat)) (zs : List Str), vs = [.ref o, .ref t] ∧ OpsAt H C o l ∧ hole ∉ l.map (·.1) ∧ l.length ≤ 8 ∧ Wp H t zs ∧ ∀ H2, Same H H2 → Q (.bl (ctxB l zs)) H2
section
variable {P : Program} {w : World} {K : PySem.W.Frag} {mg : Str → Option Value} {base : Heap} {C fW fT fC fP fE fI fN : Addr} {dW dT dC dP dE dI dN : FuncData} {tk tk2 : Tok}
theorem ok_treeB (M : Ms K mg C fW fT fC fP fE fI fN dW dT dC dP dE dI dN tk) (T : Free mg) : FnOk P w K mg base CX0 2 fT dT ["self", "value"] (spTreeB C) := by
  have GW : FnOk P w K mg base CX0 1 fW dW ["words", "arities"] spWhole := ok_whole M.FW T
  refine M.FT.ok scIsTree (fun vs H Q E h => ?_) (fun cdv A outer s H vs Q E hr h => ?_)
  · obtain ⟨o, t, l, zs, rfl, _⟩ := h
    rfl
  · obtain ⟨o, t, l, zs, rfl, op, ht, q⟩ := h
    refine ⟨_, pss_one (ps_ret (pe_and (pe_callB call_isi (by rfl) T.isi (by decide +kernel) (pa_cons (pv 1) (pa_cons (pe_bltn (v := .ty "tuple") (by rfl) T.tuple (by decide +kernel) rfl) pa_nil))) (pe_and (pe_cmpR op_le (pe_callB call_len_seq (by rfl) T.len PySem.boot_len (pa_cons (pv 1) pa_nil)) (pe_glob (v := .int 5000) (by rfl) M.gM ⟨_, rfl⟩) (nomark _)) (pe_one (pe_call GW (hr.mono (by decide)) (by rfl) M.gW M.FW.kp M.bW .nil pass0 (pa_cons (pv 1) (pa_cons (pe_fld (pv 0) rfl) pa_nil))))))), ?_⟩
    obtain ⟨dx, tn, ta, tl, ho, hn, ha⟩ := op.ex
    refine ⟨_, rfl, .ref t, _, _, _, true, rfl, .ty "tuple", tyR ht, kit_ty (r := true) (by decide +kernel), _, rfl, iteT ⟨_, rfl, t, _, rfl, .inr (.inl ht), _, _, rfl, rfl, _, rfl, ?_⟩⟩
    have lz : (zs.map V.str).length = zs.length := List.length_map _
    by_cases c : zs.length ≤ 5000
    · refine if_true_of (decide_eq_true (by rw [lz]; omega)) ⟨_, rfl, _, rfl, o, C, dx, _, _, rfl, ho, M.cf.cls, M.cf.n2, rfl, t, ta, _, l, rfl, ht, kd_strs, ha, ?_⟩
      have e : treeB l zs = wgo l 1 (zs.map V.str) := by
        unfold treeB
        rw [decide_eq_true c, Bool.true_and]
      rw [← e]
      exact q
    · have e : treeB l zs = false := by
        unfold treeB
        rw [decide_eq_false c, Bool.false_and]
      rw [e] at q
      exact if_false_of (decide_eq_false (by rw [lz]; omega)) q
theorem ok_isCtx {f : Addr} {fd : FuncData} (F : Fun K "is_context" "Operators.is_context" mIsCtx f fd) (M : Ms K mg C fW fT fC fP fE fI fN dW dT dC dP dE dI dN tk) (gH : mg "HOLE" = some (.str hole tk2)) (T : Free mg) : FnOk P w K mg base CX0 2 f fd ["self", "value"] (spCtxB C) := by
  have GW : FnOk P w K mg base CX0 1 fW dW ["words", "arities"] spWhole := ok_whole M.FW T
  refine F.ok scIsCtx (fun vs H Q E h => ?_) (fun cdv A outer s H vs Q E hr h => ?_)
  · obtain ⟨o, t, l, zs, rfl, _⟩ := h
    rfl
  · obtain ⟨o, t, l, zs, rfl, op, no, few, ht, q⟩ := h
    refine ⟨_, pss_cons (ps_if (PW.pt (pw_or (pt_not (pt_val (pe_callB call_isi (by rfl) T.isi (by decide +kernel) (pa_cons (pv 1) (pa_cons (pe_bltn (v := .ty "tuple") (by rfl) T.tuple (by decide +kernel) rfl) pa_nil)))))
        (pw_or (pt_cmpR op_gt (pe_callB call_len_seq (by rfl) T.len PySem.boot_len (pa_cons (pv 1) pa_nil)) (pe_glob (v := .int 5000) (by rfl) M.gM ⟨_, rfl⟩) (nomark _))
          (pw_or1 (pt_cmpR op_ne (Tx.pe_tm PySem.F.slot_tuple_count PySem.F.type_tuple_count Tb.mt_tcount (pv 1) (pa_cons (pe_glob (v := .str hole) (by rfl) gH ⟨_, rfl⟩) pa_nil)) pe_int (nomark _)))))) (pss_one (ps_ret pe_bl)) pss_nil)
      (pss_one (ps_ret (pe_call GW (hr.mono (by decide)) (by rfl) M.gW M.FW.kp M.bW .nil pass0 (pa_cons (pv 1) (pa_cons (Du.pe_dunp (pe_fld (pv 0) rfl) (pe_glob (v := .str hole) (by rfl) gH ⟨_, rfl⟩) pe_int) pa_nil))))), ?_⟩
    obtain ⟨dx, tn, ta, tl, ho, hn, ha⟩ := op.ex
    have lz : (zs.map V.str).length = zs.length := List.length_map _
    refine ⟨_, rfl, .ref t, _, _, _, true, rfl, .ty "tuple", tyR ht.ws, kit_ty (r := true) (by decide +kernel), _, rfl, if_false_of rfl ⟨_, rfl, t, _, rfl, .inr (.inl ht.ws), _, _, rfl, rfl, _, rfl, ?_⟩⟩
    by_cases c : zs.length ≤ 5000
    · refine if_false_of (decide_eq_false (by rw [lz]; omega)) ⟨_, rfl, ⟨t, _, rfl, ht⟩, t, _, _, rfl, rfl, .inl ht.ws, rfl, flat_strs, ?_⟩
      have ec : ((zs.map V.str).countP fun y => eqV y (V.str hole)) = zs.countP isHole := by
        rw [List.countP_map]
        rfl
      rw [ec]
      by_cases c2 : zs.countP isHole = 1
      · refine ⟨rfl, _, rfl, if_false_of (by rw [c2]; exact neSelf) ?_⟩
        refine ⟨_, rfl, fun p np => ?_⟩
        have s1 : Same H (upd H p (.dK [])) := Same.new np
        refine ⟨_, rfl, o, C, dx, _, _, rfl, s1 _ _ ho, M.cf.cls, M.cf.n2, rfl, ta, _, rfl, fun z => ?_, upd_same, s1 _ _ ha, fun q2 nq => ?_⟩
        · rw [z, np] at ha
          cases ha
        have nHq : H q2 = none := by
          cases e : H q2 with
          | none => rfl
          | some v =>
            have ne : q2 ≠ p := ne_of_none e np
            rw [upd_ne ne, upd_ne ne, e] at nq
            cases nq
        have pq : p ≠ q2 := ne_of_none upd_same nq
        have sF : Same H (upd (upd (upd (upd (upd H p (.dK [])) p (.dK (dkv l))) q2 (.dK [])) q2 (.dK [((.inr hole : Key), V.int 0)])) p (.dK (dkv l ++ [((.inr hole : Key), V.int 0)]))) := sameU (sameU (sameU (sameU s1 np) nHq) nHq) np
        refine ⟨.inr hole, rfl, upd_same, by rw [upd_ne pq, upd_same], dkv_keys no, by unfold dkv; rw [List.length_map]; omega, t, p, zs.map V.str, lH l, rfl, Ws.same ht.ws sF, kd_strs, by rw [upd_same, dkv_lH], ?_⟩
        have e : ctxB l zs = wgo (lH l) 1 (zs.map V.str) := by
          unfold ctxB
          rw [decide_eq_true c, decide_eq_true c2, Bool.true_and, Bool.true_and]
        rw [← e]
        exact q _ sF
      · have e : ctxB l zs = false := by
          unfold ctxB
          rw [decide_eq_false c2, Bool.false_and, Bool.and_false]
        have q := q H (Same.refl H)
        rw [e] at q
        exact ⟨rfl, _, rfl, if_true_of (by rw [decide_eq_false fun z => c2 (by have := V.int.inj z; omega)]; rfl) q⟩
    · have e : ctxB l zs = false := by
        unfold ctxB
        rw [decide_eq_false c, Bool.false_and]
      have q := q H (Same.refl H)
      rw [e] at q
      exact if_true_of (decide_eq_true (by rw [lz]; omega)) q
end
end Pr
namespace Pr
open PySem PySem.Spec PyProof.Rows L2 Gd
/-! ### _check_filling -/
/-- a context, what stands ahead of its hole and behind it -/
abbrev Cw := List Str × List Str
structure CtxR (H : Hp) (l : List (Str × Nat)) (p : Addr × Cw) : Prop where
  wp : Wp H p.1 (cxt p.2.1 p.2.2)
  is : IsC l p.2.1 p.2.2
  few : (cxt p.2.1 p.2.2).length ≤ 5000
theorem CtxR.same {H H' : Hp} {l : List (Str × Nat)} {p : Addr × Cw} (h : CtxR H l p) (s : Same H H') : CtxR H' l p := ⟨h.wp.same s, h.is, h.few⟩
/-- a tree or a context -/
structure LastR (H : Hp) (l : List (Str × Nat)) (u : Addr) (v : List Str) : Prop where
  ws : Ws H u v
  few : v.length ≤ 5000
  alt : Fo l 1 v ∨ ∃ a b, v = cxt a b ∧ CtxR H l (u, (a, b))
theorem LastR.same {H H' : Hp} {l : List (Str × Nat)} {u : Addr} {v : List Str} (h : LastR H l u v) (s : Same H H') : LastR H' l u v := ⟨h.ws.same s, h.few, h.alt.imp id fun ⟨a, b, e, c⟩ => ⟨a, b, e, c.same s⟩⟩
def refV (a : Addr) : V := .ref a
def lastL (z : Option (Addr × List Str)) : List V := match z with
  | none => []
  | some u => [.ref u.1]
/-- what the parameters of filled are -/
structure FillAt (H : Hp) (C o c rp : Addr) (l : List (Str × Nat)) (k : Cw) (mid : List (Addr × Cw)) (z : Option (Addr × List Str)) : Prop where
  ops : OpsAt H C o l
  no : hole ∉ l.map (·.1)
  nd : (l.map (·.1)).Nodup
  eight : l.length ≤ 8
  first : CtxR H l (c, k)
  mids : ∀ p ∈ mid, CtxR H l p
  rest : Rd H rp (.tup ((mid.map fun p => refV p.1) ++ lastL z))
  none_ : z = none → mid = []
  last : ∀ u, z = some u → LastR H l u.1 u.2
  small : mid.length ≤ 1000
theorem FillAt.same {H H' : Hp} {C o c rp : Addr} {l : List (Str × Nat)} {k : Cw} {mid : List (Addr × Cw)} {z : Option (Addr × List Str)} (h : FillAt H C o c rp l k mid z) (s : Same H H') : FillAt H' C o c rp l k mid z :=
  ⟨h.ops.same s, h.no, h.nd, h.eight, h.first.same s, fun p m => (h.mids p m).same s, Rd.same h.rest s, h.none_, fun u e => (h.last u e).same s, h.small⟩
theorem ctxB_is {l : List (Str × Nat)} (nd : (l.map (·.1)).Nodup) (no : hole ∉ l.map (·.1)) {a b : List Str} (c : IsC l a b) (few : (cxt a b).length ≤ 5000) : ctxB l (cxt a b) = true := by
  unfold ctxB
  have e := fo_wgo (n := 1) (lH_nd nd no) c.fo
  have e : wgo (lH l) 1 ((cxt a b).map V.str) = true := e
  rw [decide_eq_true few, decide_eq_true (count_ctx c.na c.nb), e]
  rfl
theorem treeB_is {l : List (Str × Nat)} (nd : (l.map (·.1)).Nodup) {zs : List Str} (f : Fo l 1 zs) (few : zs.length ≤ 5000) : treeB l zs = true := by
  unfold treeB
  have e := fo_wgo (n := 1) nd f
  have e : wgo l 1 (zs.map V.str) = true := e
  rw [decide_eq_true few, e]
  rfl
theorem treeB_ctx {l : List (Str × Nat)} (no : hole ∉ l.map (·.1)) {a b : List Str} : treeB l (cxt a b) = false := by
  unfold treeB
  rw [wgo_ctx no, Bool.and_false]
theorem cut_last {xs : List V} : cutV xs none (some (-1)) = xs.dropLast := by
  have i1 : HT.sIx xs.length 0 none = 0 := rfl
  unfold cutV
  rw [i1, List.drop_zero, Nat.sub_zero, List.dropLast_eq_take]
  congr 1
  show (if (-1 : Int) < 0 then ((-1 : Int) + (xs.length : Int)).toNat else min (-1 : Int).toNat xs.length) = _
  rw [if_pos (by decide)]
  omega
theorem catRd {K : PySem.W.Frag} {H : Hp} {a b : Addr} {xs ys : List V} {Q : VK} (ha : Rd H a (.tup xs)) (hb : Rd H b (.tup ys)) (few : xs.length + ys.length ≤ sizeLine)
    (q : ∀ p H2, Same H H2 → Rd H2 p (.tup (xs ++ ys)) → Q (.ref p) H2) : Tx.rCatY K (.ref a) (.ref b) H Q := by
  refine ⟨a, b, _, _, rfl, rfl, .inl ha, .inl hb, few, fun e => ?_, fun _ e => ?_, fun p H2 _ s tx => q p H2 s (TXr tx)⟩
  · subst e
    exact q b H (Same.refl H) hb
  · subst e
    exact q a H (Same.refl H) (by rw [List.append_nil]; exact ha)
theorem rest_dl {mid : List (Addr × Cw)} {z : Option (Addr × List Str)} (h : z = none → mid = []) : ((mid.map fun p => refV p.1) ++ lastL z).dropLast = mid.map fun p => refV p.1 := by
  cases z with
  | none =>
    rw [h rfl]
    rfl
  | some u => exact List.dropLast_concat
theorem rest_last {mid : List (Addr × Cw)} {u : Addr × List Str} : atI ((mid.map fun p => refV p.1) ++ lastL (some u)) (-1) = some (.ref u.1) := atI_last
def spChFill (C : Addr) : Sp := fun vs H Q _ => ∃ (o c rp : Addr) (l : List (Str × Nat)) (k : Cw) (mid : List (Addr × Cw)) (z : Option (Addr × List Str)), vs = [.ref o, .ref c, .ref rp] ∧ FillAt H C o c rp l k mid z ∧ ∀ H', Same H H' → Q .non H'
section
variable {P : Program} {w : World} {K : PySem.W.Frag} {mg : Str → Option Value} {base : Heap} {C fW fT fC fP fE fI fN : Addr} {dW dT dC dP dE dI dN : FuncData} {tk tk2 : Tok} {fX : Addr} {dX : FuncData}
theorem scChFill : FnScope ["self", "context", "rest", "contexts", "part"] ["self", "context", "rest"] (defScope mChFill) := ⟨rfl, rfl, rfl, by decide +kernel, rfl, by decide +kernel, by decide +kernel⟩
theorem ok_chFill {f : Addr} {fd : FuncData} (F : Fun K "_check_filling" "Operators._check_filling" mChFill f fd) (M : Ms K mg C fW fT fC fP fE fI fN dW dT dC dP dE dI dN tk) (X5 : MtF K C "is_context" "Operators.is_context" mIsCtx fX dX ["self", "value"]) (gH : mg "HOLE" = some (.str hole tk2)) (T : Free mg) : FnOk P w K mg base CX0 3 f fd ["self", "context", "rest"] (spChFill C) := by
  have GB : FnOk P w K mg base CX0 2 fT dT ["self", "value"] (spTreeB C) := ok_treeB M T
  have GX : FnOk P w K mg base CX0 2 fX dX ["self", "value"] (spCtxB C) := ok_isCtx X5.F M gH T
  refine F.ok scChFill (fun vs H Q E h => ?_) (fun cdv A outer s H vs Q E hr h => ?_)
  · obtain ⟨o, c, rp, l, k, mid, z, rfl, _⟩ := h
    rfl
  · obtain ⟨o, c, rp, l, k, mid, z, rfl, fa, q⟩ := h
    refine ⟨_, pss_cons (ps_set (i := 3) scChFill.nd rfl (.inl rfl) (pe_op Tx.op_catY (Tx.pe_tupX (pa_cons (pv 1) pa_nil)) (pe_slice sl_tupA (pv 2) po_none (po_some (pe_un un_neg pe_int)))))
      (pss_cons (ps_if (pt_not (pt_val (pe_callB (cr_all rfl) (by rfl) T.all (by decide +kernel) (pa_cons (pe_lc (own := [("part", 4)]) (g := gName 4) (by rfl) scChFill.nd (pi_tup (pv 3)) (blkOk_by (own := [("part", 4)]) (N := ["self", "context", "rest", "contexts", "part"]) (sc := defScope mChFill) (by decide +kernel)) (fun _ _ _ _ _ => pg_name (i := 4) scChFill.nd rfl (Or.inl rfl)) (fun _ _ _ _ _ => pts_nil)
          (fun _ _ _ _ _ => pe_meth (pv 0) M.cf.cls X5.m GX hr X5.b .nil pass0 (pa_cons (pv 4) pa_nil))) pa_nil)))) (pss_one ps_never) pss_nil)
      (pss_one (ps_if (PW.pt (pw_and (pt_truth (pv 2) (fun _ => rfl)) (pw_and (pt_not (pt_val (pe_meth (pv 0) M.cf.cls M.mT GB hr M.bT .nil pass0 (pa_cons (pe_ix ix_tup (pv 2) (pe_un un_neg pe_int) (fun _ _ => rfl)) pa_nil))))
          (pw_and1 (pt_not (pt_val (pe_meth (pv 0) M.cf.cls X5.m GX hr X5.b .nil pass0 (pa_cons (pe_ix ix_tup (pv 2) (pe_un un_neg pe_int) (fun _ _ => rfl)) pa_nil)))))))) (pss_one ps_never) pss_nil))), ?_⟩
    obtain ⟨dx, tn, ta, tl, ho, hn, ha⟩ := fa.ops.ex
    refine ⟨_, rfl, by show 1 ≤ sizeLine; decide, fun b1 H1 n1 s1 w1 => ?_⟩
    refine ⟨_, rfl, _, rfl, _, rfl, slRd (Rd.same fa.rest s1) fun b2 H2 s2 w2 => ?_⟩
    rw [cut_last, rest_dl fa.none_] at w2
    have sm := fa.small
    refine catRd (TXr (w1.same s2)) w2 (by rw [List.length_map, sizeLine_eq]; show 1 + mid.length ≤ _; omega) fun b3 H3 s3 w3 => ?_
    have s03 := (s1.trans s2).trans s3
    have w3 : Rd H3 b3 (.tup (((c, k) :: mid).map fun p => refV p.1)) := w3
    have all3 : ∀ p ∈ (c, k) :: mid, CtxR H3 l p := fun p m => by
      rcases List.mem_cons.mp m with rfl | m
      · exact fa.first.same s03
      · exact (fa.mids p m).same s03
    have few3 : ((c, k) :: mid).length ≤ 1001 := by
      rw [List.length_cons]
      omega
    generalize (c, k) :: mid = ks at w3 all3 few3
    have fa3 := fa.same s03
    refine ⟨_, rfl, b3, rfl, ⟨_, .inl w3⟩, fun D nD => ?_⟩
    have s4 : Same H3 (upd H3 D (.lst [])) := Same.new nD
    refine lc_tup (K := K) (a := b3) (xs := ks.map fun p => refV p.1) (fun i G => G D = some (.lst (List.replicate i (V.bl true))) ∧ Same H3 G) ⟨upd_same, s4⟩ (fun i G _ ⟨_, s⟩ => .inl (Rd.same w3 s)) ?_ ?_
    · rintro i x G hx ⟨eD, sG⟩
      rw [List.getElem?_map, Option.map_eq_some_iff] at hx
      obtain ⟨p, hp, rfl⟩ := hx
      have hi := (List.getElem?_eq_some_iff.mp hp).1
      have cp := (all3 p (List.mem_of_getElem? hp)).same sG
      refine ⟨rfl, _, rfl, o, dx, _, rfl, sG _ _ (s03 _ _ ho), rfl, _, rfl, o, p.1, l, _, rfl, (fa3.same sG).ops, fa.no, fa.eight, cp.wp, fun H5 s5 => ?_⟩
      rw [ctxB_is fa.nd fa.no cp.is cp.few]
      refine ⟨_, s5 _ _ eD, ?_, ?_, ?_⟩
      · rw [List.length_replicate, sizeLine_eq]
        omega
      · rw [upd_same, List.replicate_succ']
      · exact fun b u e => by
          have nH : H3 D = none := nD
          rw [upd_ne (ne_of_none e nH)]
          exact s5 _ _ (sG b u e)
    · rintro G ⟨eD, sG⟩
      rw [List.length_map] at eD
      refine ⟨D, List.replicate ks.length true, rfl, SqL.of ?_, ?_⟩
      · rw [eD, List.map_replicate]
      have e : (List.replicate ks.length true).all id = true := by simp
      rw [e]
      refine ⟨_, rfl, if_false_of rfl ?_⟩
      have s0 := s03.trans sG
      have f2 := fa.same s0
      have tr : TruV K (.ref rp) G (!((mid.map fun p => refV p.1) ++ lastL z).isEmpty) := .inr (.inl ⟨_, .inl f2.rest, rfl⟩)
      refine ⟨_, rfl, _, tr, ?_⟩
      cases z with
      | none =>
        have e0 := fa.none_ rfl
        rw [e0]
        refine if_false_of rfl ?_
        exact q G s0
      | some u =>
        have ne : (!((mid.map fun p => refV p.1) ++ lastL (some u)).isEmpty) = true := by
          cases mid <;> rfl
        rw [ne]
        refine if_true_of rfl ?_
        have la := f2.last u rfl
        refine ⟨_, rfl, o, dx, _, rfl, s0 _ _ ho, rfl, _, rfl, _, rfl, rp, _, _, _, rfl, rfl, .inl f2.rest, rest_last, o, u.1, l, u.2, rfl, f2.ops, la.ws, _, rfl, ?_⟩
        rcases la.alt with f | ⟨a, b, ev, cr⟩
        · rw [treeB_is fa.nd f la.few]
          exact if_false_of rfl (q G s0)
        · rw [ev, treeB_ctx fa.no]
          refine if_true_of rfl ?_
          refine ⟨_, rfl, o, dx, _, rfl, s0 _ _ ho, rfl, _, rfl, _, rfl, rp, _, _, _, rfl, rfl, .inl f2.rest, rest_last, o, u.1, l, _, rfl, f2.ops, fa.no, fa.eight, cr.wp, fun H5 s5 => ?_⟩
          rw [ctxB_is fa.nd fa.no cr.is cr.few]
          exact ⟨_, rfl, if_false_of rfl (q H5 (s0.trans s5))⟩
end
end Pr
namespace Pr
open PySem PySem.Spec PyProof.Rows L2 Gd
/-- what a TooMany of 5000 keeps -/
def errL : HO := .xd [(("limit" : Str), .int 5000)]
end Pr
namespace Pr
open PySem PySem.Spec PyProof.Rows L2 Gd
/-! ### filled -/
def rLenK (K : PySem.W.Frag) : List V → Hp → VK → Prop := fun xs H Q => ∃ p ys, xs = [V.ref p] ∧ (SqL K H p ys ∨ SqT K H p ys) ∧ Q (.int (ys.length : Nat)) H
theorem call_len_seqK {X : Cx} {K : PySem.W.Frag} (h : X.K = K) : CallR X (.builtin "len") (rLenK K) := by
  subst h
  exact call_len_seq
def fillA (ks : List Cw) : List Str := ks.flatMap (·.1)
def revB (ks : List Cw) : List Str := ks.flatMap fun c => c.2.reverse
/-- contexts one in the other, v in the last one -/
def fill (ks : List Cw) (v : List Str) : List Str := fillA ks ++ (v ++ (revB ks).reverse)
theorem cxt_take {a b : List Str} : (cxt a b).take a.length = a := by simp [cxt]
theorem cxt_drop {a b : List Str} : (cxt a b).drop (a.length + 1) = b := by simp [cxt]
theorem cxt_hole {a b : List Str} : (cxt a b)[a.length]? = some hole := by simp [cxt]
theorem cxt_before {a b : List Str} (na : hole ∉ a) : ∀ m, m < a.length → (cxt a b)[m]? ≠ some hole := fun m h e => by
  unfold cxt at e
  rw [List.getElem?_append_left h] at e
  exact na (List.mem_of_getElem? e)
theorem fillA_snoc {ks : List Cw} {c : Cw} : fillA (ks ++ [c]) = fillA ks ++ c.1 := by simp [fillA]
theorem revB_snoc {ks : List Cw} {c : Cw} : revB (ks ++ [c]) = revB ks ++ c.2.reverse := by simp [revB]
theorem fill_nil {v : List Str} : fill [] v = v := by simp [fill, fillA, revB]
theorem fill_cons {c : Cw} {ks : List Cw} {v : List Str} : fill (c :: ks) v = c.1 ++ (fill ks v ++ c.2) := by simp [fill, fillA, revB]
/-- what filled makes -/
def resF (k : Cw) (mid : List (Addr × Cw)) : Option (Addr × List Str) → List Str
  | none => cxt k.1 k.2
  | some u => fill (k :: mid.map (·.2)) u.2
/-- what stands behind the first parameter -/
def restW (mid : List (Addr × Cw)) : Option (Addr × List Str) → List (Addr × List Str)
  | none => []
  | some u => mid.map (fun p => (p.1, cxt p.2.1 p.2.2)) ++ [u]
theorem restW_refs {mid : List (Addr × Cw)} {z : Option (Addr × List Str)} (h : z = none → mid = []) : (mid.map fun p => refV p.1) ++ lastL z = (restW mid z).map fun p => refV p.1 := by
  cases z with
  | none =>
    rw [h rfl]
    rfl
  | some u =>
    show _ = (mid.map (fun p => (p.1, cxt p.2.1 p.2.2)) ++ [u]).map fun p => refV p.1
    rw [List.map_append, List.map_map]
    rfl
/-- the contexts whose holes are filled -/
def ksF (c : Addr) (k : Cw) (mid : List (Addr × Cw)) : Option (Addr × List Str) → List (Addr × Cw)
  | none => []
  | some _ => (c, k) :: mid
def lastW (c : Addr) (k : Cw) : Option (Addr × List Str) → Addr × List Str
  | none => (c, cxt k.1 k.2)
  | some u => u
theorem ksF_len {c : Addr} {k : Cw} {mid : List (Addr × Cw)} {z : Option (Addr × List Str)} : (restW mid z).length = (ksF c k mid z).length := by
  cases z with
  | none => rfl
  | some u => simp [restW, ksF]
theorem ks_get {c : Addr} {k : Cw} {mid : List (Addr × Cw)} {z : Option (Addr × List Str)} {i : Nat} (h : i < (ksF c k mid z).length) :
    ((c, cxt k.1 k.2) :: restW mid z)[i]? = some (((ksF c k mid z)[i]).1, cxt ((ksF c k mid z)[i]).2.1 ((ksF c k mid z)[i]).2.2) := by
  cases z with
  | none => exact absurd h (Nat.not_lt_zero _)
  | some u =>
    have h' : i < mid.length + 1 := h
    cases i with
    | zero => rfl
    | succ i =>
      have hi : i < mid.length := by omega
      show (mid.map (fun p => (p.1, cxt p.2.1 p.2.2)) ++ [u])[i]? = some ((mid[i]).1, cxt (mid[i]).2.1 (mid[i]).2.2)
      rw [List.getElem?_append_left (by rw [List.length_map]; exact hi), List.getElem?_map, List.getElem?_eq_getElem hi]
      rfl
theorem ks_last {c : Addr} {k : Cw} {mid : List (Addr × Cw)} {z : Option (Addr × List Str)} : ((c, cxt k.1 k.2) :: restW mid z)[(ksF c k mid z).length]? = some (lastW c k z) := by
  cases z with
  | none => rfl
  | some u =>
    show (mid.map (fun p => (p.1, cxt p.2.1 p.2.2)) ++ [u])[mid.length]? = some u
    rw [List.getElem?_append_right (by rw [List.length_map]; exact Nat.le_refl _), List.length_map, Nat.sub_self]
    rfl
theorem resF_eq {c : Addr} {k : Cw} {mid : List (Addr × Cw)} {z : Option (Addr × List Str)} : resF k mid z = fill ((ksF c k mid z).map (·.2)) (lastW c k z).2 := by
  cases z with
  | none => exact fill_nil.symm
  | some u => rfl
theorem fill_len {ks : List Cw} {v : List Str} : (fill ks v).length = (ks.map fun c => c.1.length + c.2.length).sum + v.length := by
  induction ks with
  | nil => rw [fill_nil]; simp
  | cons c ks ih =>
    rw [fill_cons, List.length_append, List.length_append, ih, List.map_cons, List.sum_cons]
    omega
theorem sum_rest {k : Cw} {mid : List (Addr × Cw)} {z : Option (Addr × List Str)} (h : z = none → mid = []) : ((restW mid z).map fun p => (p.2.length : Int) - 1).sum + ((cxt k.1 k.2).length : Int) = ((resF k mid z).length : Int) := by
  have lc : ∀ c : Cw, (cxt c.1 c.2).length = c.1.length + c.2.length + 1 := fun c => by
    unfold cxt
    rw [List.length_append, List.length_cons]
    omega
  cases z with
  | none =>
    show (0 : Int) + _ = _
    rw [Int.zero_add]
    rfl
  | some u =>
    show ((mid.map (fun p => (p.1, cxt p.2.1 p.2.2)) ++ [u]).map fun p => (p.2.length : Int) - 1).sum + _ = ((fill (k :: mid.map (·.2)) u.2).length : Int)
    rw [fill_len, lc]
    simp only [List.map_append, List.sum_append, List.map_map, List.map_cons, List.map_nil, List.sum_cons, List.sum_nil]
    have e : (mid.map ((fun p : Addr × List Str => (p.2.length : Int) - 1) ∘ fun p : Addr × Cw => (p.1, cxt p.2.1 p.2.2))).sum = (((mid.map ((fun c : Cw => c.1.length + c.2.length) ∘ fun p : Addr × Cw => p.2)).sum : Nat) : Int) := by
      clear h
      induction mid with
      | nil => rfl
      | cons p mid ih =>
        rw [List.map_cons, List.sum_cons, ih, List.map_cons, List.sum_cons]
        show ((cxt p.2.1 p.2.2).length : Int) - 1 + _ = _
        rw [lc]
        show _ = ((p.2.1.length + p.2.2.length + _ : Nat) : Int)
        omega
    rw [e]
    omega
/-- a + b, and whether it is plain -/
theorem catB {K : PySem.W.Frag} {H : Hp} {a b : Addr} {xs ys : List Str} {Q : VK} (ha : Wp H a xs) (hb : Ws H b ys) (few : xs.length + ys.length ≤ sizeLine)
    (q : ∀ p H2, Same H H2 → Ws H2 p (xs ++ ys) → (Wp H b ys → Wp H2 p (xs ++ ys)) → Q (.ref p) H2) : Tx.rCatY K (.ref a) (.ref b) H Q := by
  refine ⟨a, b, _, _, rfl, rfl, .inl ha.ws, .inl hb, by rw [List.length_map, List.length_map]; exact few, fun e => ?_, fun _ e => ?_, fun p H2 _ s tx => ?_⟩
  · have e := map_nil e
    subst e
    exact q b H (Same.refl H) hb id
  · have e := map_nil e
    subst e
    rw [List.append_nil] at q
    exact q a H (Same.refl H) ha.ws fun _ => ha
  · rw [← List.map_append] at tx
    exact q p H2 s (TXr tx) fun _ => tx
theorem catB2 {K : PySem.W.Frag} {H : Hp} {a b : Addr} {xs ys : List Str} {Q : VK} (ha : Ws H a xs) (hb : Wp H b ys) (few : xs.length + ys.length ≤ sizeLine)
    (q : ∀ p H2, Same H H2 → Ws H2 p (xs ++ ys) → (Wp H a xs → Wp H2 p (xs ++ ys)) → Q (.ref p) H2) : Tx.rCatY K (.ref a) (.ref b) H Q := by
  refine ⟨a, b, _, _, rfl, rfl, .inl ha, .inl hb.ws, by rw [List.length_map, List.length_map]; exact few, fun e => ?_, fun _ e => ?_, fun p H2 _ s tx => ?_⟩
  · have e := map_nil e
    subst e
    exact q b H (Same.refl H) hb.ws fun _ => hb
  · have e := map_nil e
    subst e
    rw [List.append_nil] at q
    exact q a H (Same.refl H) ha id
  · rw [← List.map_append] at tx
    exact q p H2 s (TXr tx) fun _ => tx
def spFillB (C CT : Addr) : Sp := fun vs H Q E => ∃ (o c rp : Addr) (l : List (Str × Nat)) (k : Cw) (mid : List (Addr × Cw)) (z : Option (Addr × List Str)), vs = [.ref o, .ref c, .ref rp] ∧ FillAt H C o c rp l k mid z ∧
  ((resF k mid z).length ≤ 5000 → ∀ r H', Same H H' → Ws H' r (resF k mid z) → ((∀ u, z = some u → Wp H u.1 u.2) → Wp H' r (resF k mid z)) → Q (.ref r) H') ∧
  (5000 < (resF k mid z).length → ∀ d H', Same H H' → H' d = none → E (.ref CT) (some d) (upd H' d errL))
section
variable {P : Program} {w : World} {K : PySem.W.Frag} {mg : Str → Option Value} {base : Heap} {C fW fT fC fP fE fI fN : Addr} {dW dT dC dP dE dI dN : FuncData} {tk tk2 : Tok} {CT fL fX fY : Addr} {dX dY : FuncData}
theorem scFill : FnScope ["self", "context", "rest", "ahead", "behind", "inner", "part", "hole"] ["self", "context", "rest"] (defScope mFilled) := ⟨rfl, rfl, rfl, by decide +kernel, rfl, by decide +kernel, by decide +kernel⟩
theorem ok_fill {f : Addr} {fd : FuncData} (F : Fun K "filled" "Operators.filled" mFilled f fd) (M : Ms K mg C fW fT fC fP fE fI fN dW dT dC dP dE dI dN tk) (X5 : MtF K C "is_context" "Operators.is_context" mIsCtx fX dX ["self", "value"])
    (Y5 : MtF K C "_check_filling" "Operators._check_filling" mChFill fY dY ["self", "context", "rest"]) (gH : mg "HOLE" = some (.str hole tk2)) (L : PySem.TmnyX.TmnyTxt K mg CT fL) (T : Free mg) :
    FnR P w K mg base (L2.CX P w) 4 f (fun vs H Q E => ∃ ws rest, vs = ws ++ rest ∧ ws.length = 2 ∧ rest.length ≤ sizeLine ∧ ∀ p, H p = Option.none → spFillB C CT (ws ++ [V.ref p]) (upd H p (.tup rest)) Q E) := by
  have GY : FnOk P w K mg base CX0 3 fY dY ["self", "context", "rest"] (spChFill C) := ok_chFill Y5.F M X5 gH T
  obtain ⟨oc, od, kV, doc, pm, an, cdv, ct, osl, rfl, lk, hcd⟩ := F.ex
  refine StX.fn_star (ps := ["self", "context"]) (pv := "rest") lk hcd scFill StX.cxUp (fun us rest hl => match us, rest, hl with | [_, _], [], _ => rfl | [_, _], _ :: _, _ => rfl) (fun A outer s H vs Q E hr h => ?_)
  obtain ⟨o, c, rp, l, k, mid, z, rfl, fa, q, qe⟩ := h
  refine ⟨_, pss_cons (ps_expr (pe_meth (pv 0) M.cf.cls Y5.m GY hr Y5.b .nil pass0 (pa_cons (pv 1) (pa_cons (pv 2) pa_nil))))
    (pss_cons (ps_if (pt_cmpR op_gt (pe_op op_add (pe_callB (cr_sum rfl) (by rfl) T.sum (by decide +kernel) (pa_cons (pe_lc (own := [("part", 6)]) (g := gName 6) (by rfl) scFill.nd (pi_tup (pv 2)) (blkOk_by (own := [("part", 6)]) (N := ["self", "context", "rest", "ahead", "behind", "inner", "part", "hole"]) (sc := defScope mFilled) (by decide +kernel)) (fun _ _ _ _ _ => pg_name (i := 6) scFill.nd rfl (Or.inl rfl)) (fun _ _ _ _ _ => pts_nil)
          (fun _ _ _ _ _ => pe_op op_sub (pe_callB (call_len_seqK (K := K) rfl) (by rfl) T.len PySem.boot_len (pa_cons (pv 6) pa_nil)) pe_int)) pa_nil)) (pe_callB call_len_seq (by rfl) T.len PySem.boot_len (pa_cons (pv 1) pa_nil))) (pe_glob (v := .int 5000) (by rfl) M.gM ⟨_, rfl⟩) (nomark _))
        (pss_one (ps_raiseTmny rfl L hr (takes_of rfl rfl rfl rfl) (by exact (pa_cons (pe_glob (v := .int 5000) (by rfl) M.gM ⟨_, rfl⟩) pa_nil)))) pss_nil)
    (pss_cons (ps_set (i := 3) scFill.nd rfl (.inl rfl) (pe_lst pa_nil))
    (pss_cons (ps_set (i := 4) scFill.nd rfl (.inl rfl) (pe_lst pa_nil))
    (pss_cons (ps_set (i := 5) scFill.nd rfl (.inl rfl) (pv 1))
    (PSs.nox (pss_cons (ps_for PassesOwn.never rfl (pi_tup (pv 2)) (pg_name (i := 6) scFill.nd rfl (.inl rfl))
      (pss_cons (ps_set (i := 7) scFill.nd rfl (.inl rfl) (Tx.pe_tm PySem.F.slot_tuple_index PySem.F.type_tuple_index mt_tup_index (pv 5) (pa_cons (pe_glob (v := .str hole) (by rfl) gH ⟨_, rfl⟩) pa_nil)))
      (pss_cons (ps_expr (pe_bm PySem.F.plainAttrs_list PySem.F.slot_list_extend PySem.F.type_list_extend Tb.mt_extT (pv 3) (pa_cons (pe_slice sl_tupA (pv 5) po_none (po_some (pv 7))) pa_nil)))
      (pss_cons (ps_expr (pe_bm PySem.F.plainAttrs_list PySem.F.slot_list_extend PySem.F.type_list_extend Tb.mt_extT (pv 4) (pa_cons (Tb.pe_revUp (pv 5) (pv 7)) pa_nil)))
      (pss_one (ps_set (i := 5) scFill.nd rfl (.inl rfl) (pv 6)))))))
    (pss_one (ps_ret (pe_op Tx.op_catY (pe_op Tx.op_catY (pe_callTy Tx.call_tupX (by rfl) T.tuple (by decide +kernel) (pa_cons (pv 3) pa_nil)) (pv 5)) (pe_callTy Tx.call_tupX (by rfl) T.tuple (by decide +kernel) (pa_cons (pe_revL (pv 4)) pa_nil))))))))))), ?_⟩
  obtain ⟨dx, tn, ta, tl, ho, hn, ha⟩ := fa.ops.ex
  refine ⟨_, rfl, o, dx, _, rfl, ho, rfl, _, rfl, _, rfl, o, c, rp, l, k, mid, z, rfl, fa, fun H1 s1 => ?_⟩
  have fa1 := fa.same s1
  have rest1 := fa1.rest
  rw [restW_refs fa.none_] at rest1
  have wsR : ∀ p ∈ restW mid z, Ws H1 p.1 p.2 := fun p m => by
    cases z with
    | none => cases m
    | some u =>
      rcases List.mem_append.mp m with m | m
      · obtain ⟨r, hr, rfl⟩ := List.mem_map.mp m
        exact (fa1.mids r hr).wp.ws
      · rw [List.mem_singleton.mp m]
        exact (fa1.last u rfl).ws
  have nR : (restW mid z).length ≤ 1001 := by
    have := fa.small
    cases z with
    | none => exact Nat.zero_le _
    | some u =>
      show (mid.map (fun p => (p.1, cxt p.2.1 p.2.2)) ++ [u]).length ≤ 1001
      rw [List.length_append, List.length_map]
      show mid.length + 1 ≤ 1001
      omega
  -- how many places
  refine ⟨_, rfl, rp, rfl, ⟨_, .inl rest1⟩, fun D nD => ?_⟩
  refine lc_tup (K := K) (a := rp) (xs := (restW mid z).map fun p => refV p.1) (fun i G => G D = some (.lst (((restW mid z).take i).map fun p => V.int ((p.2.length : Int) - 1))) ∧ Same H1 G) ⟨upd_same, Same.new nD⟩ (fun i G _ ⟨_, s⟩ => .inl (Rd.same rest1 s)) ?_ ?_
  · rintro i x G hx ⟨eD, sG⟩
    rw [List.getElem?_map, Option.map_eq_some_iff] at hx
    obtain ⟨p, hp, rfl⟩ := hx
    have hi := (List.getElem?_eq_some_iff.mp hp).1
    refine ⟨rfl, _, rfl, p.1, _, rfl, .inr (.inl ((wsR p (List.mem_of_getElem? hp)).same sG)), _, _, rfl, rfl, ?_⟩
    refine ⟨_, eD, ?_, ?_, ?_⟩
    · rw [List.length_map, List.length_take, sizeLine_eq]
      omega
    · rw [upd_same, List.take_add_one, hp, List.map_append, List.length_map]
      rfl
    · exact fun b u e => by
        rw [upd_ne (ne_of_none e nD)]
        exact sG b u e
  rintro G ⟨eD, sG⟩
  rw [List.length_map, List.take_of_length_le (Nat.le_refl _)] at eD
  refine ⟨D, (restW mid z).map fun p => (p.2.length : Int) - 1, rfl, SqL.of (by rw [eD, List.map_map]; rfl), ?_⟩
  refine ⟨_, rfl, c, _, rfl, .inr (.inl (fa1.first.same sG).wp.ws), _, _, rfl, rfl, ?_⟩
  have s2 := s1.trans sG
  have tot := sum_rest (k := k) fa.none_
  refine ⟨_, _, rfl, rfl, _, rfl, ?_⟩
  rw [List.length_map, tot]
  refine ite2 (fun cc => ?_) (fun cc => ?_)
  · have cc := of_decide_eq_true cc
    exact ⟨_, rfl, fun d hd => qe (by omega) d G s2 hd⟩
  have small := of_decide_eq_false (Bool.eq_false_iff.mpr cc)
  have small : (resF k mid z).length ≤ 5000 := by omega
  refine ⟨by show 0 ≤ sizeLine; decide, fun A nA => ?_⟩
  refine ⟨by show 0 ≤ sizeLine; decide, fun B nB => ?_⟩
  have AB : A ≠ B := ne_of_none upd_same nB
  have nGA : G A = none := nA
  have nGB : G B = none := (Same.new nA).free nB
  have fa2 := fa.same s2
  have rest2 := Rd.same rest1 sG
  generalize eks : ksF c k mid z = ks
  have gt : ∀ (i : Nat) (h : i < ks.length), ((c, cxt k.1 k.2) :: restW mid z)[i]? = some ((ks[i]).1, cxt (ks[i]).2.1 (ks[i]).2.2) := fun i h => by
    subst eks
    exact ks_get h
  have lst : ((c, cxt k.1 k.2) :: restW mid z)[ks.length]? = some (lastW c k z) := by
    subst eks
    exact ks_last
  have nks : (restW mid z).length = ks.length := by
    subst eks
    exact ksF_len
  have cks : ∀ p ∈ ks, CtxR G l p := fun p m => by
    subst eks
    cases z with
    | none => cases m
    | some u =>
      rcases List.mem_cons.mp m with rfl | m
      · exact fa2.first
      · exact fa2.mids p m
  have er : resF k mid z = fill (ks.map (·.2)) (lastW c k z).2 := by
    subst eks
    exact resF_eq
  refine ⟨_, rfl, _, rfl, rp, rfl, ⟨_, .inl (Rd.same rest2 ((Same.new nA).trans (Same.new nB)))⟩, ?_⟩
  refine for_tup (K := K) (a := rp) (xs := (restW mid z).map fun p => refV p.1) (fun i σ H' => ∃ (p : Addr × List Str) (v6 v7 : Option V), ((c, cxt k.1 k.2) :: restW mid z)[i]? = some p ∧ σ = [some (.ref o), some (.ref c), some (.ref rp), some (.ref A), some (.ref B), some (.ref p.1), v6, v7] ∧
      Same G H' ∧ H' A = some (.lst ((fillA ((ks.take i).map (·.2))).map V.str)) ∧ H' B = some (.lst ((revB ((ks.take i).map (·.2))).map V.str)) ∧ (fillA ((ks.take i).map (·.2))).length ≤ 5000 * i ∧ (revB ((ks.take i).map (·.2))).length ≤ 5000 * i)
    ⟨(c, cxt k.1 k.2), none, none, rfl, rfl, (Same.new nA).trans (Same.new nB), by rw [upd_ne AB, upd_same]; rfl, by rw [upd_same]; rfl, Nat.zero_le _, Nat.zero_le _⟩ (fun i σ H' _ ⟨_, _, _, _, _, s, _⟩ => .inl (Rd.same rest2 s)) ?_ ?_
  · rintro i x σ H' hx ⟨p, v6, v7, hp, rfl, sm, hA, hB, lA, lB⟩
    rw [List.getElem?_map, Option.map_eq_some_iff] at hx
    obtain ⟨nx, hnx, rfl⟩ := hx
    have hi : i < ks.length := by
      rw [← nks]
      exact (List.getElem?_eq_some_iff.mp hnx).1
    have g0 := gt i hi
    rw [g0] at hp
    have mem : ks[i] ∈ ks := List.getElem_mem hi
    have tk1 : ks.take (i + 1) = ks.take i ++ [ks[i]] := by rw [List.take_add_one, List.getElem?_eq_getElem hi]; rfl
    rw [tk1, List.map_append]
    generalize ks[i] = r at hp mem
    cases hp
    have c0 := cks r mem
    have cr := c0.same sm
    have fw := c0.few
    have lc : (cxt r.2.1 r.2.2).length = r.2.1.length + r.2.2.length + 1 := by
      unfold cxt
      rw [List.length_append, List.length_cons]
      omega
    refine ⟨_, rfl, ⟨_, _, rfl, cr.wp⟩, r.1, cxt r.2.1 r.2.2, hole, r.2.1.length, rfl, rfl, .inl cr.wp.ws, cxt_hole, cxt_before cr.is.na, ?_⟩
    refine ⟨_, rfl, .inl ⟨rfl, _, SqL.of hA⟩, _, rfl, _, rfl, _, rfl, slTo cr.wp.ws fun b1 H2 s3 w2 => ?_⟩
    rw [cxt_take] at w2
    refine ⟨A, b1, _, _, rfl, rfl, s3 _ _ hA, .inl w2, by rw [List.length_map, List.length_map, sizeLine_eq]; omega, ?_⟩
    have sm2 := sameU (o := .lst ((fillA ((ks.take i).map (·.2))).map V.str ++ r.2.1.map V.str)) (sm.trans s3) nGA
    have hB2 : (upd H2 A (.lst ((fillA ((ks.take i).map (·.2))).map V.str ++ r.2.1.map V.str))) B = some (.lst ((revB ((ks.take i).map (·.2))).map V.str)) := by
      rw [upd_ne AB.symm]
      exact s3 _ _ hB
    have hA2 : (upd H2 A (.lst ((fillA ((ks.take i).map (·.2))).map V.str ++ r.2.1.map V.str))) A = some (.lst ((fillA ((ks.take i).map (·.2)) ++ r.2.1).map V.str)) := by
      rw [upd_same, List.map_append]
    generalize upd H2 A (.lst ((fillA ((ks.take i).map (·.2))).map V.str ++ r.2.1.map V.str)) = H3 at sm2 hB2 hA2
    have cr3 := c0.same sm2
    refine ⟨_, rfl, .inl ⟨rfl, _, SqL.of hB2⟩, _, rfl, _, rfl, _, rfl, r.1, _, r.2.1.length, rfl, rfl, .inl cr3.wp.ws, by rw [List.length_map]; omega, fun b2 nb2 => ?_⟩
    have e2 : (((cxt r.2.1 r.2.2).map V.str).drop (r.2.1.length + 1)).reverse = (r.2.2.reverse).map V.str := by
      rw [← List.map_drop, cxt_drop, List.map_reverse]
    rw [e2]
    have Bb : B ≠ b2 := ne_of_none hB2 nb2
    have Ab : A ≠ b2 := ne_of_none hA2 nb2
    refine ⟨B, b2, _, _, rfl, rfl, by rw [upd_ne Bb]; exact hB2, SqT.of upd_same, by rw [List.length_map, List.length_map, List.length_reverse, sizeLine_eq]; omega, ?_⟩
    refine ⟨_, rfl, nx, _, _, hnx, rfl, sameU (sm2.trans (Same.new nb2)) nGB, ?_, ?_, ?_, ?_⟩
    · rw [upd_ne AB, upd_ne Ab, hA2]
      show _ = some (HO.lst ((fillA ((ks.take i).map (·.2) ++ [r.2])).map V.str))
      rw [fillA_snoc]
    · rw [upd_same]
      show _ = some (HO.lst ((revB ((ks.take i).map (·.2) ++ [r.2])).map V.str))
      rw [revB_snoc, List.map_append]
    · show (fillA ((ks.take i).map (·.2) ++ [r.2])).length ≤ _
      rw [fillA_snoc, List.length_append]
      omega
    · show (revB ((ks.take i).map (·.2) ++ [r.2])).length ≤ _
      rw [revB_snoc, List.length_append, List.length_reverse]
      omega
  · rintro σ H' ⟨p, v6, v7, hp, rfl, sm, hA, hB, lA, lB⟩
    rw [List.length_map, nks] at hp lA lB hA hB
    rw [List.take_of_length_le (Nat.le_refl _)] at lA lB hA hB
    rw [lst] at hp
    cases hp
    have few5 : ks.length ≤ 1001 := by omega
    have lw : Ws G (lastW c k z).1 (lastW c k z).2 ∧ (lastW c k z).2.length ≤ 5000 := by
      cases z with
      | none => exact ⟨fa2.first.wp.ws, fa2.first.few⟩
      | some u => exact ⟨(fa2.last u rfl).ws, (fa2.last u rfl).few⟩
    have lp : (∀ u, z = some u → Wp H u.1 u.2) → Wp G (lastW c k z).1 (lastW c k z).2 := fun h => by
      cases z with
      | none => exact fa2.first.wp
      | some u => exact (h u rfl).same s2
    rw [er] at q small
    generalize lastW c k z = u at lw lp q small
    refine ⟨_, rfl, A, _, rfl, SqL.of hA, fun q1 H2 n1 s3 w3 => ?_⟩
    have w3 : Wp H2 q1 (fillA (ks.map (·.2))) := w3
    refine ⟨_, rfl, catB w3 (lw.1.same (sm.trans s3)) (by rw [sizeLine_eq]; omega) fun q2 H3 s4 w4 p4 => ?_⟩
    refine ⟨_, rfl, B, _, rfl, SqL.of (s4 _ _ (s3 _ _ hB)), fun R nR => ⟨R, _, rfl, SqL.of upd_same, fun q3 H5 n3 s5 w5 => ?_⟩⟩
    have s6 := (Same.new nR).trans s5
    rw [← List.map_reverse] at w5
    have w5 : Wp H5 q3 (revB (ks.map (·.2))).reverse := w5
    refine catB2 (w4.same s6) w5 (by rw [List.length_append, List.length_reverse, sizeLine_eq]; omega) fun q4 H6 s7 w7 p7 => ?_
    rw [List.append_assoc] at w7 p7
    refine q small q4 H6 ?_ w7 (fun h => p7 ((p4 ((lp h).same (sm.trans s3))).same s6))
    exact ((((s2.trans sm).trans s3).trans s4).trans s6).trans s7
end
end Pr
namespace Pr
open PySem PySem.Spec PyProof.Rows L2 Gd
/-! ### _check_tree, _check_place: with what they refuse -/
/-- what is known of InvalidTree -/
structure ItF (K : PySem.W.Frag) (mg : Str → Option Value) (CT : Addr) : Prop where
  x : PySem.W.excIn K CT [.type "ValueError", .type "Exception", .type "BaseException", .type "object"] "ValueError.__new__" = true
  g : mg "InvalidTree" = some (.ref CT)
  k : PySem.W.keepIn K (.ref CT) = true
  b : PySem.W.subIn K (.ref CT) (.type "BaseException") = some true
  t : PySem.W.typeIn K (.ref CT) = some (.type "type")
/-- the dict of an InvalidNumber -/
def numX (v : V) : HO := .xd [(("value" : Str), v)]
def spChT (C CT : Addr) : Sp := fun vs H Q E => ∃ (o : Addr) (v : V) (l : List (Str × Nat)) (x : Option (List V)), vs = [.ref o, v] ∧ OpsAt H C o l ∧ Vw H v x ∧ (tB l x = true → Q .non H) ∧ (tB l x = false → ∀ H', Same H H' → E (.ref CT) none H')
theorem spChT.imp {C CT : Addr} {vs : List V} {H : Hp} {Q Q' : VK} {E : XK} (h : spChT C CT vs H Q E) (k : ∀ v H', Q v H' → Q' v H') : spChT C CT vs H Q' E :=
  let ⟨o, v, l, x, e, op, vw, a, b⟩ := h; ⟨o, v, l, x, e, op, vw, fun z => k _ _ (a z), b⟩
/-- whether a value is a place of n places -/
noncomputable def plB (pl : V) (n : Nat) : Bool := isCountO pl && (match pl with | .int i => decide (i < (n : Int)) | _ => false)
def spChP (C CT CN : Addr) : Sp := fun vs H Q E => ∃ (o : Addr) (v pl : V) (l : List (Str × Nat)) (x : Option (List V)) (ty : String), vs = [.ref o, v, pl] ∧ OpsAt H C o l ∧ Vw H v x ∧ Kd H pl ty ∧ (tB l x = false → ∀ H', Same H H' → E (.ref CT) none H') ∧
  (∀ xs, tB l x = true → x = some xs → (plB pl xs.length = true → Q .non H) ∧ (plB pl xs.length = false → ∀ d H', Same H H' → H' d = none → E (.ref CN) (some d) (upd H' d (numX pl))))
theorem spChP.imp {C CT CN : Addr} {vs : List V} {H : Hp} {Q Q' : VK} {E : XK} (h : spChP C CT CN vs H Q E) (k : ∀ v H', Q v H' → Q' v H') : spChP C CT CN vs H Q' E :=
  let ⟨o, v, pl, l, x, ty, e, op, vw, kd, a, b⟩ := h; ⟨o, v, pl, l, x, ty, e, op, vw, kd, a, fun xs t ex => ⟨fun z => k _ _ ((b xs t ex).1 z), (b xs t ex).2⟩⟩
theorem count_int {v : V} (h : isCountO v = true) : ∃ i, v = .int i := by
  rw [isCountO_eq] at h
  cases v with
  | int i => exact ⟨i, rfl⟩
  | _ => cases h
theorem tB_some {l : List (Str × Nat)} {x : Option (List V)} (h : tB l x = true) : ∃ xs, x = some xs := by
  cases x with
  | none => cases h
  | some xs => exact ⟨xs, rfl⟩
section
variable {P : Program} {w : World} {K : PySem.W.Frag} {mg : Str → Option Value} {base : Heap} {C CT CN eN fW fT fC fP fE fI fN : Addr} {dW dT dC dP dE dI dN : FuncData} {tk tk2 : Tok}
theorem ok_chT (M : Ms K mg C fW fT fC fP fE fI fN dW dT dC dP dE dI dN tk) (gH : mg "HOLE" = some (.str hole tk2)) (IT : ItF K mg CT) (T : Free mg) : FnOk P w K mg base (L2.CX P w) 3 fC dC ["self", "tree"] (spChT C CT) := by
  have GT : FnOk P w K mg base CX0 2 fT dT ["self", "value"] (spTreeV C) := ok_treeV M.FT ⟨M.cf, M.FW, M.bW, M.gW, M.gM, gH⟩ T
  refine M.FC.okX scChTree (fun vs H Q E h => ?_) (fun cdv A outer s H vs Q E hr h => ?_)
  · obtain ⟨o, v, l, x, rfl, _⟩ := h
    rfl
  · obtain ⟨o, v, l, x, rfl, op, vw, q, qe⟩ := h
    refine ⟨_, pss_one (ps_if (pt_not (pt_val (pe_meth (pv 0) M.cf.cls M.mT GT hr M.bT .nil pass0 (pa_cons (pv 1) pa_nil)))) (pss_one (ps_raise rfl (takes_of rfl rfl rfl rfl) (pmk_own PySem.F.excBase_ValueError IT.x IT.g IT.k (raises_own IT.b IT.t) rfl))) pss_nil), ?_⟩
    obtain ⟨dx, tn, ta, tl, ho, _⟩ := op.ex
    refine ⟨_, rfl, o, dx, _, rfl, ho, rfl, _, rfl, o, v, l, x, rfl, op, vw, _, rfl, ?_⟩
    cases e : tB l x with
    | true => exact if_false_of rfl (q e)
    | false => exact if_true_of rfl (qe e H (Same.refl H))
theorem ok_chP (M : Ms K mg C fW fT fC fP fE fI fN dW dT dC dP dE dI dN tk) (gH : mg "HOLE" = some (.str hole tk2)) (IT : ItF K mg CT) (N : PySem.InumX.InumTxt K mg CN eN) (T : Free mg) : FnOk P w K mg base (L2.CX P w) 4 fP dP ["self", "tree", "place"] (spChP C CT CN) := by
  have GC : FnOk P w K mg base (L2.CX P w) 3 fC dC ["self", "tree"] (spChT C CT) := ok_chT M gH IT T
  have GN : FnOk P w K mg base CX0 2 fN dN ["value"] spCountO := ok_countO ⟨M.FI, M.bI, M.gI, M.FN, M.bN, M.gN⟩ T
  refine M.FP.okX scChPlace (fun vs H Q E h => ?_) (fun cdv A outer s H vs Q E hr h => ?_)
  · obtain ⟨o, v, pl, l, x, ty, rfl, _⟩ := h
    rfl
  · obtain ⟨o, v, pl, l, x, ty, rfl, op, vw, kd, qt, q⟩ := h
    have r2 : Room 2 _ := hr.mono (by decide)
    refine ⟨_, pss_cons (ps_expr (pe_meth (pv 0) M.cf.cls M.mC GC hr M.bC .nil (E := E) (passes_call (takes_of rfl rfl rfl rfl) fun _ _ _ _ h => h) (pa_cons (pv 1) pa_nil)))
      (pss_one (ps_if (PW.pt (pw_or (pt_not (pt_val (pe_call GN r2 (by rfl) M.gN M.FN.kp M.bN .nil pass0 (pa_cons (pv 2) pa_nil)))) (pw_or1 (pt_cmpR op_ge (pv 2) (pe_callB call_len_seq (by rfl) T.len PySem.boot_len (pa_cons (pv 1) pa_nil)) (nomark _)))))
        (pss_one (ps_raiseInum rfl N hr (takes_of rfl rfl rfl rfl) (pa_cons (pv 2) pa_nil))) pss_nil)), ?_⟩
    obtain ⟨dx, tn, ta, tl, ho, _⟩ := op.ex
    refine ⟨_, rfl, o, dx, _, rfl, ho, rfl, _, rfl, o, v, l, x, rfl, op, vw, fun tt => ?_, qt⟩
    obtain ⟨xs, rfl⟩ := tB_some tt
    obtain ⟨q1, q2⟩ := q xs tt rfl
    cases vw with
    | @tup a _ tx js =>
      refine ⟨_, rfl, pl, ty, rfl, kd, _, rfl, ?_⟩
      cases ec : isCountO pl with
      | false =>
        have e : plB pl xs.length = false := by
          unfold plB
          rw [ec, Bool.false_and]
        exact if_true_of rfl ⟨_, rfl, pl, rfl, fun d hd => q2 e d H (Same.refl H) hd⟩
      | true =>
        obtain ⟨i, rfl⟩ := count_int ec
        have e : plB (.int i) xs.length = decide (i < (xs.length : Int)) := by
          unfold plB
          rw [ec, Bool.true_and]
        refine if_false_of rfl ⟨_, rfl, _, rfl, a, xs, rfl, .inr tx.sq, _, _, rfl, rfl, _, rfl, ?_⟩
        by_cases c : i < (xs.length : Int)
        · exact if_false_of (decide_eq_false (by omega)) (q1 (by rw [e]; exact decide_eq_true c))
        · exact if_true_of (decide_eq_true (by omega)) ⟨_, rfl, _, rfl, fun d hd => q2 (by rw [e]; exact decide_eq_false c) d H (Same.refl H) hd⟩
end
end Pr
namespace Pr
open PySem PySem.Spec PyProof.Rows L2 Gd
/-! ### methods that refuse in their first statements -/
theorem pss_no {X : Cx} {l : List Stmt} : PSs X l (fun _ _ _ => False) := ⟨fun _ _ _ _ _ _ h => h.elim⟩
def spBadP (C CT CN : Addr) : Sp := fun vs H _ E => ∃ (o : Addr) (v pl : V), vs = [.ref o, v, pl] ∧ spChP C CT CN [.ref o, v, pl] H (fun _ _ => False) E
def spBadT (C CT : Addr) : Sp := fun vs H _ E => ∃ (o : Addr) (v : V), vs = [.ref o, v] ∧ spChT C CT [.ref o, v] H (fun _ _ => False) E
def spBadR (C CT CN : Addr) : Sp := fun vs H _ E => ∃ (o : Addr) (v pl u : V), vs = [.ref o, v, pl, u] ∧ spChP C CT CN [.ref o, v, pl] H (fun _ H1 => spChT C CT [.ref o, u] H1 (fun _ _ => False) E) E
theorem spChP.ops {C CT CN o : Addr} {v pl : V} {H : Hp} {Q : VK} {E : XK} (h : spChP C CT CN [.ref o, v, pl] H Q E) : ∃ l, OpsAt H C o l := by
  obtain ⟨o', v', pl', l, x, ty, e, op, _⟩ := h
  cases e
  exact ⟨l, op⟩
theorem spChT.ops {C CT o : Addr} {v : V} {H : Hp} {Q : VK} {E : XK} (h : spChT C CT [.ref o, v] H Q E) : ∃ l, OpsAt H C o l := by
  obtain ⟨o', v', l, x, e, op, _⟩ := h
  cases e
  exact ⟨l, op⟩
section
variable {P : Program} {w : World} {K : PySem.W.Frag} {mg : Str → Option Value} {base : Heap} {C CT CN eN fW fT fC fP fE fI fN : Addr} {dW dT dC dP dE dI dN : FuncData} {tk tk2 : Tok}
theorem scmEndB : FnScope ["self", "tree", "place"] ["self", "tree", "place"] (defScope mEnd) := ⟨rfl, rfl, rfl, by decide +kernel, rfl, by decide +kernel, by decide +kernel⟩
theorem ok_mEndB {f : Addr} {fd : FuncData} (F : Fun K "end" "Operators.end" mEnd f fd) (M : Ms K mg C fW fT fC fP fE fI fN dW dT dC dP dE dI dN tk) (gH : mg "HOLE" = some (.str hole tk2)) (IT : ItF K mg CT) (N : PySem.InumX.InumTxt K mg CN eN) (T : Free mg) :
    FnOk P w K mg base (L2.CX P w) 5 f fd ["self", "tree", "place"] (spBadP C CT CN) := by
  have GP : FnOk P w K mg base (L2.CX P w) 4 fP dP ["self", "tree", "place"] (spChP C CT CN) := ok_chP M gH IT N T
  refine F.okX scmEndB (fun vs H Q E h => ?_) (fun cdv A outer s H vs Q E hr h => ?_)
  · obtain ⟨o, v, pl, rfl, _⟩ := h
    rfl
  · obtain ⟨o, v, pl, rfl, h⟩ := h
    refine ⟨_, pss_cons (ps_expr (pe_meth (pv 0) M.cf.cls M.mP GP hr M.bP .nil (E := E) (passes_call (takes_of rfl rfl rfl rfl) fun _ _ _ _ h => h) (pa_cons (pv 1) (pa_cons (pv 2) pa_nil)))) pss_no, ?_⟩
    obtain ⟨_, _, _, l, x, ty, e, op, vw, kd, a, b⟩ := h
    cases e
    obtain ⟨dx, tn, ta, tl, ho, _⟩ := op.ex
    exact ⟨_, rfl, o, dx, _, rfl, ho, rfl, _, rfl, _, rfl, o, v, pl, l, x, ty, rfl, op, vw, kd, a, fun xs t ex => ⟨fun z => ((b xs t ex).1 z).elim, (b xs t ex).2⟩⟩
theorem scmSubB : FnScope ["self", "tree", "place"] ["self", "tree", "place"] (defScope mSub) := ⟨rfl, rfl, rfl, by decide +kernel, rfl, by decide +kernel, by decide +kernel⟩
theorem ok_mSubB {f : Addr} {fd : FuncData} (F : Fun K "subtree" "Operators.subtree" mSub f fd) (M : Ms K mg C fW fT fC fP fE fI fN dW dT dC dP dE dI dN tk) (gH : mg "HOLE" = some (.str hole tk2)) (IT : ItF K mg CT) (N : PySem.InumX.InumTxt K mg CN eN) (T : Free mg) :
    FnOk P w K mg base (L2.CX P w) 5 f fd ["self", "tree", "place"] (spBadP C CT CN) := by
  have GP : FnOk P w K mg base (L2.CX P w) 4 fP dP ["self", "tree", "place"] (spChP C CT CN) := ok_chP M gH IT N T
  refine F.okX scmSubB (fun vs H Q E h => ?_) (fun cdv A outer s H vs Q E hr h => ?_)
  · obtain ⟨o, v, pl, rfl, _⟩ := h
    rfl
  · obtain ⟨o, v, pl, rfl, h⟩ := h
    refine ⟨_, pss_cons (ps_expr (pe_meth (pv 0) M.cf.cls M.mP GP hr M.bP .nil (E := E) (passes_call (takes_of rfl rfl rfl rfl) fun _ _ _ _ h => h) (pa_cons (pv 1) (pa_cons (pv 2) pa_nil)))) pss_no, ?_⟩
    obtain ⟨_, _, _, l, x, ty, e, op, vw, kd, a, b⟩ := h
    cases e
    obtain ⟨dx, tn, ta, tl, ho, _⟩ := op.ex
    exact ⟨_, rfl, o, dx, _, rfl, ho, rfl, _, rfl, _, rfl, o, v, pl, l, x, ty, rfl, op, vw, kd, a, fun xs t ex => ⟨fun z => ((b xs t ex).1 z).elim, (b xs t ex).2⟩⟩
theorem scmKidsB : FnScope ["self", "tree", "place", "places", "child", "_"] ["self", "tree", "place"] (defScope mKids) := ⟨rfl, rfl, rfl, by decide +kernel, rfl, by decide +kernel, by decide +kernel⟩
theorem ok_mKidsB {f : Addr} {fd : FuncData} (F : Fun K "children" "Operators.children" mKids f fd) (M : Ms K mg C fW fT fC fP fE fI fN dW dT dC dP dE dI dN tk) (gH : mg "HOLE" = some (.str hole tk2)) (IT : ItF K mg CT) (N : PySem.InumX.InumTxt K mg CN eN) (T : Free mg) :
    FnOk P w K mg base (L2.CX P w) 5 f fd ["self", "tree", "place"] (spBadP C CT CN) := by
  have GP : FnOk P w K mg base (L2.CX P w) 4 fP dP ["self", "tree", "place"] (spChP C CT CN) := ok_chP M gH IT N T
  refine F.okX scmKidsB (fun vs H Q E h => ?_) (fun cdv A outer s H vs Q E hr h => ?_)
  · obtain ⟨o, v, pl, rfl, _⟩ := h
    rfl
  · obtain ⟨o, v, pl, rfl, h⟩ := h
    refine ⟨_, pss_cons (ps_expr (pe_meth (pv 0) M.cf.cls M.mP GP hr M.bP .nil (E := E) (passes_call (takes_of rfl rfl rfl rfl) fun _ _ _ _ h => h) (pa_cons (pv 1) (pa_cons (pv 2) pa_nil)))) pss_no, ?_⟩
    obtain ⟨_, _, _, l, x, ty, e, op, vw, kd, a, b⟩ := h
    cases e
    obtain ⟨dx, tn, ta, tl, ho, _⟩ := op.ex
    exact ⟨_, rfl, o, dx, _, rfl, ho, rfl, _, rfl, _, rfl, o, v, pl, l, x, ty, rfl, op, vw, kd, a, fun xs t ex => ⟨fun z => ((b xs t ex).1 z).elim, (b xs t ex).2⟩⟩
theorem scmAboveB : FnScope ["self", "tree", "place", "parents", "way", "at"] ["self", "tree", "place"] (defScope mAbove) := ⟨rfl, rfl, rfl, by decide +kernel, rfl, by decide +kernel, by decide +kernel⟩
theorem ok_mAboveB {f : Addr} {fd : FuncData} (F : Fun K "above" "Operators.above" mAbove f fd) (M : Ms K mg C fW fT fC fP fE fI fN dW dT dC dP dE dI dN tk) (gH : mg "HOLE" = some (.str hole tk2)) (IT : ItF K mg CT) (N : PySem.InumX.InumTxt K mg CN eN) (T : Free mg) :
    FnOk P w K mg base (L2.CX P w) 5 f fd ["self", "tree", "place"] (spBadP C CT CN) := by
  have GP : FnOk P w K mg base (L2.CX P w) 4 fP dP ["self", "tree", "place"] (spChP C CT CN) := ok_chP M gH IT N T
  refine F.okX scmAboveB (fun vs H Q E h => ?_) (fun cdv A outer s H vs Q E hr h => ?_)
  · obtain ⟨o, v, pl, rfl, _⟩ := h
    rfl
  · obtain ⟨o, v, pl, rfl, h⟩ := h
    refine ⟨_, pss_cons (ps_expr (pe_meth (pv 0) M.cf.cls M.mP GP hr M.bP .nil (E := E) (passes_call (takes_of rfl rfl rfl rfl) fun _ _ _ _ h => h) (pa_cons (pv 1) (pa_cons (pv 2) pa_nil)))) pss_no, ?_⟩
    obtain ⟨_, _, _, l, x, ty, e, op, vw, kd, a, b⟩ := h
    cases e
    obtain ⟨dx, tn, ta, tl, ho, _⟩ := op.ex
    exact ⟨_, rfl, o, dx, _, rfl, ho, rfl, _, rfl, _, rfl, o, v, pl, l, x, ty, rfl, op, vw, kd, a, fun xs t ex => ⟨fun z => ((b xs t ex).1 z).elim, (b xs t ex).2⟩⟩
theorem scmCutB : FnScope ["self", "tree", "place", "end"] ["self", "tree", "place"] (defScope mCut) := ⟨rfl, rfl, rfl, by decide +kernel, rfl, by decide +kernel, by decide +kernel⟩
theorem ok_mCutB {f : Addr} {fd : FuncData} (F : Fun K "cut" "Operators.cut" mCut f fd) (M : Ms K mg C fW fT fC fP fE fI fN dW dT dC dP dE dI dN tk) (gH : mg "HOLE" = some (.str hole tk2)) (IT : ItF K mg CT) (N : PySem.InumX.InumTxt K mg CN eN) (T : Free mg) :
    FnOk P w K mg base (L2.CX P w) 5 f fd ["self", "tree", "place"] (spBadP C CT CN) := by
  have GP : FnOk P w K mg base (L2.CX P w) 4 fP dP ["self", "tree", "place"] (spChP C CT CN) := ok_chP M gH IT N T
  refine F.okX scmCutB (fun vs H Q E h => ?_) (fun cdv A outer s H vs Q E hr h => ?_)
  · obtain ⟨o, v, pl, rfl, _⟩ := h
    rfl
  · obtain ⟨o, v, pl, rfl, h⟩ := h
    refine ⟨_, pss_cons (ps_expr (pe_meth (pv 0) M.cf.cls M.mP GP hr M.bP .nil (E := E) (passes_call (takes_of rfl rfl rfl rfl) fun _ _ _ _ h => h) (pa_cons (pv 1) (pa_cons (pv 2) pa_nil)))) pss_no, ?_⟩
    obtain ⟨_, _, _, l, x, ty, e, op, vw, kd, a, b⟩ := h
    cases e
    obtain ⟨dx, tn, ta, tl, ho, _⟩ := op.ex
    exact ⟨_, rfl, o, dx, _, rfl, ho, rfl, _, rfl, _, rfl, o, v, pl, l, x, ty, rfl, op, vw, kd, a, fun xs t ex => ⟨fun z => ((b xs t ex).1 z).elim, (b xs t ex).2⟩⟩
theorem scmLevelsB : FnScope ["self", "tree", "levels", "parent"] ["self", "tree"] (defScope mLevels) := ⟨rfl, rfl, rfl, by decide +kernel, rfl, by decide +kernel, by decide +kernel⟩
theorem ok_mLevelsB {f : Addr} {fd : FuncData} (F : Fun K "levels" "Operators.levels" mLevels f fd) (M : Ms K mg C fW fT fC fP fE fI fN dW dT dC dP dE dI dN tk) (gH : mg "HOLE" = some (.str hole tk2)) (IT : ItF K mg CT) (T : Free mg) :
    FnOk P w K mg base (L2.CX P w) 4 f fd ["self", "tree"] (spBadT C CT) := by
  have GC : FnOk P w K mg base (L2.CX P w) 3 fC dC ["self", "tree"] (spChT C CT) := ok_chT M gH IT T
  refine F.okX scmLevelsB (fun vs H Q E h => ?_) (fun cdv A outer s H vs Q E hr h => ?_)
  · obtain ⟨o, v, rfl, _⟩ := h
    rfl
  · obtain ⟨o, v, rfl, h⟩ := h
    refine ⟨_, pss_cons (ps_expr (pe_meth (pv 0) M.cf.cls M.mC GC hr M.bC .nil (E := E) (passes_call (takes_of rfl rfl rfl rfl) fun _ _ _ _ h => h) (pa_cons (pv 1) pa_nil))) pss_no, ?_⟩
    obtain ⟨_, _, l, x, e, op, vw, a, b⟩ := h
    cases e
    obtain ⟨dx, tn, ta, tl, ho, _⟩ := op.ex
    exact ⟨_, rfl, o, dx, _, rfl, ho, rfl, _, rfl, o, v, l, x, rfl, op, vw, fun z => (a z).elim, b⟩
theorem scmNumOfB : FnScope ["self", "tree", "size", "forests", "number", "awaited", "at", "word", "row", "name"] ["self", "tree"] (defScope mNumOf) := ⟨rfl, rfl, rfl, by decide +kernel, rfl, by decide +kernel, by decide +kernel⟩
theorem ok_mNumOfB {f : Addr} {fd : FuncData} (F : Fun K "number_of" "Operators.number_of" mNumOf f fd) (M : Ms K mg C fW fT fC fP fE fI fN dW dT dC dP dE dI dN tk) (gH : mg "HOLE" = some (.str hole tk2)) (IT : ItF K mg CT) (T : Free mg) :
    FnOk P w K mg base (L2.CX P w) 4 f fd ["self", "tree"] (spBadT C CT) := by
  have GC : FnOk P w K mg base (L2.CX P w) 3 fC dC ["self", "tree"] (spChT C CT) := ok_chT M gH IT T
  refine F.okX scmNumOfB (fun vs H Q E h => ?_) (fun cdv A outer s H vs Q E hr h => ?_)
  · obtain ⟨o, v, rfl, _⟩ := h
    rfl
  · obtain ⟨o, v, rfl, h⟩ := h
    refine ⟨_, pss_cons (ps_expr (pe_meth (pv 0) M.cf.cls M.mC GC hr M.bC .nil (E := E) (passes_call (takes_of rfl rfl rfl rfl) fun _ _ _ _ h => h) (pa_cons (pv 1) pa_nil))) pss_no, ?_⟩
    obtain ⟨_, _, l, x, e, op, vw, a, b⟩ := h
    cases e
    obtain ⟨dx, tn, ta, tl, ho, _⟩ := op.ex
    exact ⟨_, rfl, o, dx, _, rfl, ho, rfl, _, rfl, o, v, l, x, rfl, op, vw, fun z => (a z).elim, b⟩
theorem scmReplacedB : FnScope ["self", "tree", "place", "other", "whole"] ["self", "tree", "place", "other"] (defScope mReplaced) := ⟨rfl, rfl, rfl, by decide +kernel, rfl, by decide +kernel, by decide +kernel⟩
theorem ok_mReplacedB {f : Addr} {fd : FuncData} (F : Fun K "replaced" "Operators.replaced" mReplaced f fd) (M : Ms K mg C fW fT fC fP fE fI fN dW dT dC dP dE dI dN tk) (gH : mg "HOLE" = some (.str hole tk2)) (IT : ItF K mg CT) (N : PySem.InumX.InumTxt K mg CN eN) (T : Free mg) :
    FnOk P w K mg base (L2.CX P w) 5 f fd ["self", "tree", "place", "other"] (spBadR C CT CN) := by
  have GC : FnOk P w K mg base (L2.CX P w) 3 fC dC ["self", "tree"] (spChT C CT) := ok_chT M gH IT T
  have GP : FnOk P w K mg base (L2.CX P w) 4 fP dP ["self", "tree", "place"] (spChP C CT CN) := ok_chP M gH IT N T
  refine F.okX scmReplacedB (fun vs H Q E h => ?_) (fun cdv A outer s H vs Q E hr h => ?_)
  · obtain ⟨o, v, pl, u, rfl, _⟩ := h
    rfl
  · obtain ⟨o, v, pl, u, rfl, h⟩ := h
    have r3 : Room 3 _ := hr.mono (by decide)
    refine ⟨_, pss_cons (ps_expr (pe_meth (pv 0) M.cf.cls M.mP GP hr M.bP .nil (E := E) (passes_call (takes_of rfl rfl rfl rfl) fun _ _ _ _ h => h) (pa_cons (pv 1) (pa_cons (pv 2) pa_nil))))
      (pss_cons (ps_expr (pe_meth (pv 0) M.cf.cls M.mC GC r3 M.bC .nil (E := E) (passes_call (takes_of rfl rfl rfl rfl) fun _ _ _ _ h => h) (pa_cons (pv 3) pa_nil))) pss_no), ?_⟩
    obtain ⟨_, _, _, l, x, ty, e, op, vw, kd, a, b⟩ := h
    cases e
    obtain ⟨dx, tn, ta, tl, ho, _⟩ := op.ex
    refine ⟨_, rfl, o, dx, _, rfl, ho, rfl, _, rfl, _, rfl, o, v, pl, l, x, ty, rfl, op, vw, kd, a, fun xs t ex => ⟨fun z => ?_, (b xs t ex).2⟩⟩
    obtain ⟨_, _, l2, x2, e2, op2, vw2, a2, b2⟩ := (b xs t ex).1 z
    cases e2
    exact ⟨_, rfl, o, dx, _, rfl, ho, rfl, _, rfl, o, u, l2, x2, rfl, op2, vw2, fun z => (a2 z).elim, b2⟩
end
end Pr
namespace Pr
open PySem PySem.Spec PyProof.Rows L2 Gd
/-! ### _check_filling of any values: what it refuses -/
/-- whether a first value and others can be filled -/
def okF (l : List (Str × Nat)) (x0 : Option (List V)) (xs : List (Option (List V))) : Bool :=
  (x0 :: xs.dropLast).all (cB l) && (match xs.getLast? with | none => true | some x => tB l x || cB l x)
abbrev Pv := V × Option (List V)
def spChF (C CT : Addr) : Sp := fun vs H _ E => ∃ (o : Addr) (c : V) (rp : Addr) (l : List (Str × Nat)) (x0 : Option (List V)) (prs : List Pv), vs = [.ref o, c, .ref rp] ∧ OpsAt H C o l ∧ hole ∉ l.map (·.1) ∧ l.length ≤ 8 ∧ Vw H c x0 ∧
  Rd H rp (.tup (prs.map (·.1))) ∧ (∀ p ∈ prs, Vw H p.1 p.2) ∧ prs.length ≤ 10 ∧ okF l x0 (prs.map (·.2)) = false ∧ ∀ H', Same H H' → E (.ref CT) none H'
theorem last_at {α : Type} {xs : List α} {x : α} (h : xs.getLast? = some x) : xs ≠ [] ∧ ∃ ys, xs = ys ++ [x] := by
  rcases List.eq_nil_or_concat xs with rfl | ⟨ys, y, rfl⟩
  · cases h
  · rw [List.concat_eq_append] at h ⊢
    rw [List.getLast?_concat] at h
    cases h
    exact ⟨by simp, ys, rfl⟩
section
variable {P : Program} {w : World} {K : PySem.W.Frag} {mg : Str → Option Value} {base : Heap} {C CT fW fT fC fP fE fI fN : Addr} {dW dT dC dP dE dI dN : FuncData} {tk tk2 : Tok} {fX : Addr} {dX : FuncData}
theorem ok_chF {f : Addr} {fd : FuncData} (F : Fun K "_check_filling" "Operators._check_filling" mChFill f fd) (M : Ms K mg C fW fT fC fP fE fI fN dW dT dC dP dE dI dN tk) (X5 : MtF K C "is_context" "Operators.is_context" mIsCtx fX dX ["self", "value"]) (gH : mg "HOLE" = some (.str hole tk2)) (IT : ItF K mg CT) (T : Free mg) :
    FnOk P w K mg base (L2.CX P w) 3 f fd ["self", "context", "rest"] (spChF C CT) := by
  have MM : Mt K mg C fW dW tk tk2 := ⟨M.cf, M.FW, M.bW, M.gW, M.gM, gH⟩
  have GT : FnOk P w K mg base CX0 2 fT dT ["self", "value"] (spTreeV C) := ok_treeV M.FT MM T
  have GX : FnOk P w K mg base CX0 2 fX dX ["self", "value"] (spCtxV C) := ok_ctxV X5.F MM T
  refine F.okX scChFill (fun vs H Q E h => ?_) (fun cdv A outer s H vs Q E hr h => ?_)
  · obtain ⟨o, c, rp, l, x0, prs, rfl, _⟩ := h
    rfl
  · obtain ⟨o, c, rp, l, x0, prs, rfl, op, no, few, vc, hrp, vps, few2, bad, qe⟩ := h
    refine ⟨_, pss_cons (ps_set (i := 3) scChFill.nd rfl (.inl rfl) (pe_op Tx.op_catY (Tx.pe_tupX (pa_cons (pv 1) pa_nil)) (pe_slice sl_tupA (pv 2) po_none (po_some (pe_un un_neg pe_int)))))
      (pss_cons (ps_if (pt_not (pt_val (pe_callB (cr_all rfl) (by rfl) T.all (by decide +kernel) (pa_cons (pe_lc (own := [("part", 4)]) (g := gName 4) (by rfl) scChFill.nd (pi_tup (pv 3)) (blkOk_by (own := [("part", 4)]) (N := ["self", "context", "rest", "contexts", "part"]) (sc := defScope mChFill) (by decide +kernel)) (fun _ _ _ _ _ => pg_name (i := 4) scChFill.nd rfl (Or.inl rfl)) (fun _ _ _ _ _ => pts_nil)
          (fun _ _ _ _ _ => pe_meth (pv 0) M.cf.cls X5.m GX hr X5.b .nil pass0 (pa_cons (pv 4) pa_nil))) pa_nil)))) (pss_one (ps_raise rfl (takes_of rfl rfl rfl rfl) (pmk_own PySem.F.excBase_ValueError IT.x IT.g IT.k (raises_own IT.b IT.t) rfl))) pss_nil)
      (pss_one (ps_if (PW.pt (pw_and (pt_truth (pv 2) (fun _ => rfl)) (pw_and (pt_not (pt_val (pe_meth (pv 0) M.cf.cls M.mT GT hr M.bT .nil pass0 (pa_cons (pe_ix ix_tup (pv 2) (pe_un un_neg pe_int) (fun _ _ => rfl)) pa_nil))))
          (pw_and1 (pt_not (pt_val (pe_meth (pv 0) M.cf.cls X5.m GX hr X5.b .nil pass0 (pa_cons (pe_ix ix_tup (pv 2) (pe_un un_neg pe_int) (fun _ _ => rfl)) pa_nil)))))))) (pss_one (ps_raise rfl (takes_of rfl rfl rfl rfl) (pmk_own PySem.F.excBase_ValueError IT.x IT.g IT.k (raises_own IT.b IT.t) rfl))) pss_nil))), ?_⟩
    obtain ⟨dx, tn, ta, tl, ho, hn, ha⟩ := op.ex
    refine ⟨_, rfl, by show 1 ≤ sizeLine; decide, fun b1 H1 n1 s1 w1 => ?_⟩
    refine ⟨_, rfl, _, rfl, _, rfl, slRd (Rd.same hrp s1) fun b2 H2 s2 w2 => ?_⟩
    rw [cut_last] at w2
    refine catRd (TXr (w1.same s2)) w2 (by rw [List.length_dropLast, List.length_map, sizeLine_eq]; show 1 + (prs.length - 1) ≤ _; omega) fun b3 H3 s3 w3 => ?_
    have s03 := (s1.trans s2).trans s3
    have e3 : [c] ++ (prs.map (·.1)).dropLast = ((c, x0) :: prs.dropLast).map (·.1) := by
      rw [List.map_cons, List.map_dropLast]
      rfl
    rw [e3] at w3
    have all3 : ∀ p ∈ (c, x0) :: prs.dropLast, Vw H3 p.1 p.2 := fun p m => by
      rcases List.mem_cons.mp m with rfl | m
      · exact vc.same s03
      · exact (vps p ((List.dropLast_sublist _).subset m)).same s03
    have few3 : ((c, x0) :: prs.dropLast).length ≤ 11 := by
      rw [List.length_cons, List.length_dropLast]
      omega
    have eall : (x0 :: (prs.map (·.2)).dropLast) = ((c, x0) :: prs.dropLast).map (·.2) := by
      rw [List.map_cons, List.map_dropLast]
    unfold okF at bad
    rw [eall] at bad
    generalize (c, x0) :: prs.dropLast = ks at w3 all3 few3 bad
    refine ⟨_, rfl, b3, rfl, ⟨_, .inl w3⟩, fun D nD => ?_⟩
    have s4 : Same H3 (upd H3 D (.lst [])) := Same.new nD
    refine lc_tup (K := K) (a := b3) (xs := ks.map (·.1)) (fun i G => G D = some (.lst ((ks.take i).map fun p => V.bl (cB l p.2))) ∧ Same H3 G) ⟨upd_same, s4⟩ (fun i G _ ⟨_, s⟩ => .inl (Rd.same w3 s)) ?_ ?_
    · rintro i x G hx ⟨eD, sG⟩
      rw [List.getElem?_map, Option.map_eq_some_iff] at hx
      obtain ⟨p, hp, rfl⟩ := hx
      have hi := (List.getElem?_eq_some_iff.mp hp).1
      refine ⟨rfl, _, rfl, o, dx, _, rfl, sG _ _ (s03 _ _ ho), rfl, _, rfl, o, p.1, l, p.2, rfl, (op.same s03).same sG, no, few, (all3 p (List.mem_of_getElem? hp)).same sG, fun H5 s5 => ?_⟩
      refine ⟨_, s5 _ _ eD, ?_, ?_, fun b u e => ?_⟩
      · rw [List.length_map, List.length_take, sizeLine_eq]
        omega
      · rw [upd_same, List.take_add_one, hp, List.map_append]
        rfl
      · have nH : H3 D = none := nD
        rw [upd_ne (ne_of_none e nH)]
        exact s5 _ _ (sG b u e)
    · rintro G ⟨eD, sG⟩
      rw [List.length_map, List.take_of_length_le (Nat.le_refl _)] at eD
      have eb : (ks.map fun p => V.bl (cB l p.2)) = ((ks.map (·.2)).map (cB l)).map V.bl := by
        rw [List.map_map, List.map_map]
        rfl
      rw [eb] at eD
      refine ⟨D, (ks.map (·.2)).map (cB l), rfl, SqL.of eD, ?_⟩
      have ea : ((ks.map (·.2)).map (cB l)).all id = (ks.map (·.2)).all (cB l) := by
        rw [List.all_map]
        rfl
      rw [ea]
      have s0 := s03.trans sG
      cases ca : (ks.map (·.2)).all (cB l) with
      | false => exact ⟨_, rfl, if_true_of rfl (qe G s0)⟩
      | true =>
        rw [ca, Bool.true_and] at bad
        refine ⟨_, rfl, if_false_of rfl ?_⟩
        have f2 := Rd.same hrp s0
        have tr : TruV K (.ref rp) G (!(prs.map (·.1)).isEmpty) := .inr (.inl ⟨_, .inl f2, rfl⟩)
        refine ⟨_, rfl, _, tr, ?_⟩
        cases el : (prs.map (·.2)).getLast? with
        | none =>
          rw [el] at bad
          cases bad
        | some xl =>
          rw [el] at bad
          have bad : (tB l xl || cB l xl) = false := bad
          obtain ⟨ne, ys, ey⟩ := last_at el
          have np : prs ≠ [] := fun z => by
            rw [z] at ne
            exact ne rfl
          obtain ⟨p0, pl, ep⟩ : ∃ p0 pl, prs = p0 ++ [pl] := by
            rcases List.eq_nil_or_concat prs with z | ⟨p0, pl, z⟩
            · exact absurd z np
            · exact ⟨p0, pl, by rw [z, List.concat_eq_append]⟩
          have exl : pl.2 = xl := by
            rw [ep, List.map_append, List.map_cons, List.map_nil, List.getLast?_concat] at el
            exact Option.some.inj el
          have tb : tB l pl.2 = false := by
            rw [exl]
            exact (Bool.or_eq_false_iff.mp bad).1
          have cb : cB l pl.2 = false := by
            rw [exl]
            exact (Bool.or_eq_false_iff.mp bad).2
          have vl : Vw G pl.1 pl.2 := (vps pl (by rw [ep]; simp)).same s0
          have em : (prs.map (·.1)) = p0.map (·.1) ++ [pl.1] := by rw [ep, List.map_append]; rfl
          rw [em] at f2 ⊢
          have neT : (!(p0.map (·.1) ++ [pl.1]).isEmpty) = true := by
            cases p0 <;> rfl
          rw [neT]
          refine if_true_of rfl ?_
          refine ⟨_, rfl, o, dx, _, rfl, s0 _ _ ho, rfl, _, rfl, _, rfl, rp, _, _, _, rfl, rfl, .inl f2, atI_last, o, pl.1, l, pl.2, rfl, op.same s0, vl, _, rfl, ?_⟩
          rw [tb]
          refine if_true_of rfl ?_
          refine ⟨_, rfl, o, dx, _, rfl, s0 _ _ ho, rfl, _, rfl, _, rfl, rp, _, _, _, rfl, rfl, .inl f2, atI_last, o, pl.1, l, pl.2, rfl, op.same s0, no, few, vl, fun H5 s5 => ?_⟩
          rw [cb]
          exact ⟨_, rfl, if_true_of rfl (qe H5 (s0.trans s5))⟩
end
end Pr
namespace Pr
open PySem PySem.Spec PyProof.Rows L2 Gd
/-! ### filled, where it refuses -/
def spFE (C CT : Addr) : Sp := fun vs H _ E => ∃ (o : Addr) (c : V) (l : List (Str × Nat)) (x0 : Option (List V)) (prs : List Pv), vs = .ref o :: c :: prs.map (·.1) ∧ OpsAt H C o l ∧ hole ∉ l.map (·.1) ∧ l.length ≤ 8 ∧ Vw H c x0 ∧
  (∀ p ∈ prs, Vw H p.1 p.2) ∧ prs.length ≤ 10 ∧ okF l x0 (prs.map (·.2)) = false ∧ ∀ H', Same H H' → E (.ref CT) none H'
section
variable {P : Program} {w : World} {K : PySem.W.Frag} {mg : Str → Option Value} {base : Heap} {C CT fW fT fC fP fE fI fN : Addr} {dW dT dC dP dE dI dN : FuncData} {tk tk2 : Tok} {fX fY : Addr} {dX dY : FuncData}
theorem ok_fillE {f : Addr} {fd : FuncData} (F : Fun K "filled" "Operators.filled" mFilled f fd) (M : Ms K mg C fW fT fC fP fE fI fN dW dT dC dP dE dI dN tk) (X5 : MtF K C "is_context" "Operators.is_context" mIsCtx fX dX ["self", "value"])
    (Y5 : MtF K C "_check_filling" "Operators._check_filling" mChFill fY dY ["self", "context", "rest"]) (gH : mg "HOLE" = some (.str hole tk2)) (IT : ItF K mg CT) (T : Free mg) : FnR P w K mg base (L2.CX P w) 4 f (spFE C CT) := by
  have GY : FnOk P w K mg base (L2.CX P w) 3 fY dY ["self", "context", "rest"] (spChF C CT) := ok_chF Y5.F M X5 gH IT T
  obtain ⟨oc, od, kV, doc, pm, an, cdv, ct, osl, rfl, lk, hcd⟩ := F.ex
  have R := StX.fn_star (P := P) (w := w) (mg := mg) (base := base) (k := 3) (ps := ["self", "context"]) (pv := "rest") (sp := spChF C CT) lk hcd scFill StX.cxUp (fun us rest hl => match us, rest, hl with | [_, _], [], _ => rfl | [_, _], _ :: _, _ => rfl) (fun A outer s H vs Q E hr h => by
    obtain ⟨o, c, rp, l, x0, prs, rfl, op, r⟩ := h
    refine ⟨_, pss_cons (ps_expr (pe_meth (pv 0) M.cf.cls Y5.m GY hr Y5.b .nil (E := E) (passes_call (takes_of rfl rfl rfl rfl) fun _ _ _ _ h => h) (pa_cons (pv 1) (pa_cons (pv 2) pa_nil)))) pss_no, ?_⟩
    obtain ⟨dx, tn, ta, tl, ho, _⟩ := op.ex
    exact ⟨_, rfl, o, dx, _, rfl, ho, rfl, _, rfl, _, rfl, o, c, rp, l, x0, prs, rfl, op, r⟩)
  refine fun A outer s H us vs Q E hr env r h => R A outer s H us vs Q E hr env r ?_
  obtain ⟨o, c, l, x0, prs, rfl, op, no, few, vc, vps, few2, bad, qe⟩ := h
  refine ⟨[.ref o, c], prs.map (·.1), rfl, rfl, by rw [List.length_map, sizeLine_eq]; omega, fun p np => ?_⟩
  have s1 := Same.new np (o := .tup (prs.map (·.1)))
  exact ⟨o, c, p, l, x0, prs, rfl, op.same s1, no, few, vc.same s1, .inl upd_same, fun q m => (vps q m).same s1, few2, bad, fun H' s' => qe H' (s1.trans s')⟩
end
end Pr
namespace Pr
open PySem PySem.Spec PyProof.Rows L2 Gd
/-! ### check_size, _count -/
/-- whether a value is a size -/
noncomputable def szB (v : V) : Bool := isCountO v && (match v with | .int i => decide (1 ≤ i) && decide (i ≤ 200) | _ => false)
def spSz (CN : Addr) : Sp := fun vs H Q E => ∃ (v : V) (ty : String), vs = [v] ∧ Kd H v ty ∧ (szB v = true → Q .non H) ∧ (szB v = false → ∀ d H', Same H H' → H' d = none → E (.ref CN) (some d) (upd H' d (numX v)))
theorem szB_int {v : V} (h : szB v = true) : ∃ n : Nat, v = .int (n : Int) ∧ 1 ≤ n ∧ n ≤ 200 := by
  unfold szB at h
  cases v with
  | int i =>
    have h2 := (Bool.and_eq_true_iff.mp h).2
    have h2 : (decide (1 ≤ i) && decide (i ≤ 200)) = true := h2
    simp only [Bool.and_eq_true, decide_eq_true_eq] at h2
    exact ⟨i.toNat, by congr 1; omega, by omega, by omega⟩
  | _ =>
    rw [Bool.and_eq_true] at h
    cases h.2
theorem szB_nat {n : Nat} (h : 1 ≤ n ∧ n ≤ 200) : szB (.int (n : Int)) = true := by
  unfold szB
  rw [nat_countO (Nat.lt_of_le_of_lt h.2 (by decide)), Bool.true_and]
  show (decide (1 ≤ (n : Int)) && decide ((n : Int) ≤ 200)) = true
  rw [decide_eq_true (by omega), decide_eq_true (by omega)]
  rfl
/-- what the counts of operators are: at tc, as many as were asked for -/
structure CntAt (H : Hp) (C o tc : Addr) (n0 n1 n2 : Nat) (cs : List Int) : Prop where
  ex : ∃ (dx tn ta tl tm tr : Addr), H o = some (.ins C dx [("_names", .ref tn), ("_arities", .ref ta), ("_lines", .ref tl), ("_many", .ref tm), ("_counts", .ref tc), ("_rows", .ref tr)]) ∧ H tm = some (.tup [.int (n0 : Int), .int (n1 : Int), .int (n2 : Int)])
  li : H tc = some (.lst (cs.map V.int))
  n8 : n0 ≤ 8 ∧ n1 ≤ 8 ∧ n2 ≤ 8
  len : 2 ≤ cs.length ∧ cs.length ≤ 201
  bd : ∀ i c, cs[i]? = some c → c.natAbs ≤ 8 * 10000 ^ i
theorem CntAt.up {H H' : Hp} {C o tc : Addr} {n0 n1 n2 : Nat} {cs : List Int} (h : CntAt H C o tc n0 n1 n2 cs) (k : ∀ b u, b = o ∨ b = tc ∨ (∃ xs, u = .tup xs) → H b = some u → H' b = some u) : CntAt H' C o tc n0 n1 n2 cs := by
  obtain ⟨dx, tn, ta, tl, tm, tr, e1, e2⟩ := h.ex
  exact ⟨⟨dx, tn, ta, tl, tm, tr, k _ _ (.inl rfl) e1, k _ _ (.inr (.inr ⟨_, rfl⟩)) e2⟩, k _ _ (.inr (.inl rfl)) h.li, h.n8, h.len, h.bd⟩
theorem CntAt.same {H H' : Hp} {C o tc : Addr} {n0 n1 n2 : Nat} {cs : List Int} (h : CntAt H C o tc n0 n1 n2 cs) (s : Same H H') : CntAt H' C o tc n0 n1 n2 cs := h.up fun b u _ e => s b u e
theorem upd_back {H : Hp} {a : Addr} {o : HO} (h : H a = some o) : upd H a o = H := by
  funext b
  by_cases e : b = a
  · rw [e, upd_same, h]
  · rw [upd_ne e]
/-- the list of counts grows -/
theorem CntAt.put {H : Hp} {C o tc : Addr} {n0 n1 n2 : Nat} {cs cs' : List Int} (h : CntAt H C o tc n0 n1 n2 cs) (l : 2 ≤ cs'.length ∧ cs'.length ≤ 201) (b : ∀ i c, cs'[i]? = some c → c.natAbs ≤ 8 * 10000 ^ i) : CntAt (upd H tc (.lst (cs'.map V.int))) C o tc n0 n1 n2 cs' := by
  obtain ⟨dx, tn, ta, tl, tm, tr, e1, e2⟩ := h.ex
  have no : o ≠ tc := fun e => by
    rw [e, h.li] at e1
    cases e1
  have nm : tm ≠ tc := fun e => by
    rw [e, h.li] at e2
    cases e2
  exact ⟨⟨dx, tn, ta, tl, tm, tr, by rw [upd_ne no]; exact e1, by rw [upd_ne nm]; exact e2⟩, upd_same, h.n8, l, b⟩
theorem abs_sub_le (a b : Int) : (a - b).natAbs ≤ a.natAbs + b.natAbs := by omega
theorem abs_div_le (a : Int) {m : Nat} (h : 0 < m) : (a / (m : Int)).natAbs ≤ a.natAbs + 1 := by
  have e := Int.emod_add_mul_ediv a (m : Int)
  have r0 := Int.emod_nonneg a (show (m : Int) ≠ 0 by omega)
  have r1 := Int.emod_lt_of_pos a (show (0 : Int) < m by omega)
  generalize a / (m : Int) = q at e
  generalize a % (m : Int) = r at e r0 r1
  rcases Int.lt_or_le q 0 with hq | hq
  · have h1 : (m : Int) * q ≤ 1 * q := by
      rw [Int.mul_comm, Int.mul_comm 1 q]
      exact Int.mul_le_mul_of_nonpos_left (by omega) (by omega)
    by_cases m1 : m = 1
    · subst m1
      omega
    · -- m * q ≤ 2 * q, and r < m
      have h2 : a < (m : Int) + (m : Int) * q := by omega
      have h3 : (m : Int) + (m : Int) * q = (m : Int) * (q + 1) := by rw [Int.mul_add, Int.mul_one, Int.add_comm]
      have h4 : (m : Int) * (q + 1) ≤ 1 * (q + 1) := by
        rw [Int.mul_comm, Int.mul_comm 1 (q + 1)]
        exact Int.mul_le_mul_of_nonpos_left (by omega) (by omega)
      omega
  · have h1 : 1 * q ≤ (m : Int) * q := Int.mul_le_mul_of_nonneg_right (by omega) hq
    omega
/-- a new count is not too great -/
theorem step_bd {n0 n1 n2 p : Nat} {a b : Int} (h8 : n0 ≤ 8 ∧ n1 ≤ 8 ∧ n2 ≤ 8) (p2 : 2 ≤ p) (p200 : p ≤ 200) (ha : a.natAbs ≤ 8 * 10000 ^ (p - 1)) (hb : b.natAbs ≤ 8 * 10000 ^ (p - 2)) :
    (((n1 : Int) * (2 * (p : Int) - 1) * a - ((n1 : Int) * n1 - 4 * n0 * n2) * ((p : Int) - 2) * b) / ((p : Int) + 1)).natAbs ≤ 8 * 10000 ^ p := by
  have e1 : ((p : Int) + 1) = ((p + 1 : Nat) : Int) := by omega
  rw [e1]
  refine Nat.le_trans (abs_div_le _ (by omega)) ?_
  have s := abs_sub_le ((n1 : Int) * (2 * (p : Int) - 1) * a) (((n1 : Int) * n1 - 4 * n0 * n2) * ((p : Int) - 2) * b)
  have t1 : ((n1 : Int) * (2 * (p : Int) - 1) * a).natAbs ≤ 8 * 400 * (8 * 10000 ^ (p - 1)) := by
    rw [Int.natAbs_mul, Int.natAbs_mul]
    exact Nat.mul_le_mul (Nat.mul_le_mul (by omega) (by omega)) ha
  have q1 : n1 * n1 ≤ 8 * 8 := Nat.mul_le_mul h8.2.1 h8.2.1
  have q2 : n0 * n2 ≤ 8 * 8 := Nat.mul_le_mul h8.1 h8.2.2
  have q3 : ((n1 : Int) * n1 - 4 * n0 * n2) = ((n1 * n1 : Nat) : Int) - 4 * ((n0 * n2 : Nat) : Int) := by
    rw [Int.natCast_mul, Int.natCast_mul, Int.mul_assoc]
  have t2 : (((n1 : Int) * n1 - 4 * n0 * n2) * ((p : Int) - 2) * b).natAbs ≤ 400 * 200 * (8 * 10000 ^ (p - 2)) := by
    rw [Int.natAbs_mul, Int.natAbs_mul, q3]
    exact Nat.mul_le_mul (Nat.mul_le_mul (by omega) (by omega)) hb
  obtain ⟨k, rfl⟩ : ∃ k, p = k + 2 := ⟨p - 2, by omega⟩
  have x1 : k + 2 - 1 = k + 1 := by omega
  have x2 : k + 2 - 2 = k := by omega
  rw [x1] at t1
  rw [x2] at t2
  have y1 : 10000 ^ (k + 1) = 10000 ^ k * 10000 := Nat.pow_succ ..
  have y2 : 10000 ^ (k + 2) = 10000 ^ k * 10000 * 10000 := by rw [Nat.pow_succ, Nat.pow_succ]
  rw [y1] at t1
  rw [y2]
  have pos : 0 < 10000 ^ k := Nat.pow_pos (by decide)
  generalize 10000 ^ k = z at t1 t2 pos ⊢
  omega
end Pr
namespace Pr
open PySem PySem.Spec PyProof.Rows L2 Gd
/-- the counts at the size n are told -/
def spCnt (C : Addr) : Sp := fun vs H Q _ => ∃ (o tc : Addr) (n0 n1 n2 : Nat) (cs : List Int) (n : Nat), vs = [.ref o, .int (n : Int)] ∧ CntAt H C o tc n0 n1 n2 cs ∧ n ≤ 200 ∧
  ∀ (cs' : List Int) (c : Int), cs <+: cs' → CntAt (upd H tc (.lst (cs'.map V.int))) C o tc n0 n1 n2 cs' → cs'[n]? = some c → Q (.int c) (upd H tc (.lst (cs'.map V.int)))
theorem atI_sub {α : Type} {ys : List α} {p k : Nat} {v : α} (hk : k ≤ p) (h : ys[p - k]? = some v) : atI ys ((p : Int) - (k : Int)) = some v := by
  rw [show ((p : Int) - (k : Int)) = ((p - k : Nat) : Int) by omega]
  exact atI_nat h
/-- how far the counts are from three hundred -/
def cntM (tc : Addr) (G : Hp) : Nat := match G tc with
  | some (.lst ys) => 300 - ys.length
  | _ => 0
theorem cntM_upd {tc : Addr} {H : Hp} {ys : List V} : cntM tc (upd H tc (.lst ys)) = 300 - ys.length := by
  unfold cntM
  rw [upd_same]
section
variable {P : Program} {w : World} {K : PySem.W.Frag} {mg : Str → Option Value} {base : Heap} {C CN eN fI fN : Addr} {dI dN : FuncData} {tk : Tok}
theorem scSize : FnScope ["size"] ["size"] (defScope sSize) := ⟨rfl, rfl, rfl, by decide +kernel, rfl, by decide +kernel, by decide +kernel⟩
theorem ok_size {f : Addr} {fd : FuncData} (F : Fun K "check_size" "check_size" sSize f fd) (W : Words K mg fI fN dI dN) (gS : mg "MAX_SIZE" = some (.int 200 tk)) (N : PySem.InumX.InumTxt K mg CN eN) (T : Free mg) : FnOk P w K mg base (L2.CX P w) 3 f fd ["size"] (spSz CN) := by
  have GN : FnOk P w K mg base CX0 2 fN dN ["value"] spCountO := ok_countO W T
  refine F.okX scSize (fun vs H Q E h => ?_) (fun cdv A outer s H vs Q E hr h => ?_)
  · obtain ⟨v, ty, rfl, _⟩ := h
    rfl
  · obtain ⟨v, ty, rfl, kd, q, qe⟩ := h
    refine ⟨_, pss_one (ps_if (PW.pt (pw_or (pt_not (pt_val (pe_call GN hr (by rfl) W.gC W.FC.kp W.bC .nil pass0 (pa_cons (pv 0) pa_nil)))) (pw_or1 (pt_not (pt_chain op_le op_le pe_int (pv 0) (pe_glob (v := .int 200) (by rfl) gS ⟨_, rfl⟩))))))
        (pss_one (ps_raiseInum rfl N hr (takes_of rfl rfl rfl rfl) (pa_cons (pv 0) pa_nil))) pss_nil), ?_⟩
    have bad : szB v = false → ∀ G, Same H G → ∃ v1, [v] = [v1] ∧ ∀ d, G d = none → E (.ref CN) (some d) (upd G d (.xd [(("value" : Str), v1)])) := fun e G s => ⟨v, rfl, fun d hd => qe e d G s hd⟩
    refine ⟨_, rfl, v, ty, rfl, kd, _, rfl, ?_⟩
    cases ec : isCountO v with
    | false =>
      have e : szB v = false := by
        unfold szB
        rw [ec, Bool.false_and]
      exact if_true_of rfl ⟨_, rfl, bad e H (Same.refl H)⟩
    | true =>
      obtain ⟨i, rfl⟩ := count_int ec
      have e : szB (.int i) = (decide (1 ≤ i) && decide (i ≤ 200)) := by
        unfold szB
        rw [ec, Bool.true_and]
      refine if_false_of rfl ⟨_, rfl, _, _, rfl, rfl, _, rfl, ?_⟩
      by_cases c1 : 1 ≤ i
      · refine if_true_of (decide_eq_true c1) ⟨_, _, rfl, rfl, _, rfl, ?_⟩
        by_cases c2 : i ≤ 200
        · refine if_false_of (by rw [decide_eq_true c2]; rfl) (q (by rw [e, decide_eq_true c1, decide_eq_true c2]; rfl))
        · refine if_true_of (by rw [decide_eq_false c2]; rfl) ⟨_, rfl, bad (by rw [e, decide_eq_false c2, Bool.and_false]) H (Same.refl H)⟩
      · refine if_false_of (decide_eq_false c1) ?_
        exact ⟨_, rfl, if_true_of rfl ⟨_, rfl, bad (by rw [e, decide_eq_false c1, Bool.false_and]) H (Same.refl H)⟩⟩
theorem scCnt : FnScope ["self", "size", "counts", "none", "one", "two", "places", "less"] ["self", "size"] (defScope mCnt) := ⟨rfl, rfl, rfl, by decide +kernel, rfl, by decide +kernel, by decide +kernel⟩
theorem ok_cnt {f : Addr} {fd : FuncData} (F : Fun K "_count" "Operators._count" mCnt f fd) (cf : OpF K C) (T : Free mg) : FnOk P w K mg base CX0 1 f fd ["self", "size"] (spCnt C) := by
  refine F.ok scCnt (fun vs H Q E h => ?_) (fun cdv A outer s H vs Q E hr h => ?_)
  · obtain ⟨o, tc, n0, n1, n2, cs, n, rfl, _⟩ := h
    rfl
  · obtain ⟨o, tc, n0, n1, n2, cs, n, rfl, ca, hn, q⟩ := h
    refine ⟨_, pss_cons (ps_asg (pe_fld (pv 0) rfl) (pg_tup rfl (pgs_cons (pg_name (i := 3) scCnt.nd rfl (.inl rfl)) (pgs_cons (pg_name (i := 4) scCnt.nd rfl (.inl rfl)) (pgs_cons (pg_name (i := 5) scCnt.nd rfl (.inl rfl)) pgs_nil)))))
      (pss_cons (ps_set (i := 2) scCnt.nd rfl (.inl rfl) (pe_fld (pv 0) rfl))
      (pss_cons (ps_while PassesOwn.never (pt_cmpR op_le (pe_callB call_len_seq (by rfl) T.len PySem.boot_len (pa_cons (pv 2) pa_nil)) (pv 1) (nomark _))
        (pss_cons (ps_set (i := 6) scCnt.nd rfl (.inl rfl) (pe_callB call_len_seq (by rfl) T.len PySem.boot_len (pa_cons (pv 2) pa_nil)))
        (pss_cons (ps_set (i := 7) scCnt.nd rfl (.inl rfl) (pe_op op_mul (pe_op op_mul (pe_op op_sub (pe_op op_mul (pv 4) (pv 4)) (pe_op op_mul (pe_op op_mul pe_int (pv 3)) (pv 5))) (pe_op op_sub (pv 6) pe_int)) (pe_ix ix_list (pv 2) (pe_op op_sub (pv 6) pe_int) (fun _ _ => rfl))))
        (pss_one (ps_expr (pe_bm PySem.F.plainAttrs_list PySem.F.slot_list_append PySem.F.type_list_append mt_append (pv 2) (pa_cons (pe_op op_fdiv (pe_op op_sub (pe_op op_mul (pe_op op_mul (pv 4) (pe_op op_sub (pe_op op_mul pe_int (pv 6)) pe_int)) (pe_ix ix_list (pv 2) (pe_op op_sub (pv 6) pe_int) (fun _ _ => rfl))) (pv 7)) (pe_op op_add (pv 6) pe_int)) pa_nil)))))))
      (pss_one (ps_ret (pe_ix ix_list (pv 2) (pv 1) (fun _ _ => rfl)))))), ?_⟩
    obtain ⟨dx, tn, ta, tl, tm, tr, ho, hm⟩ := ca.ex
    have h8 := ca.n8
    refine ⟨_, rfl, o, C, dx, _, _, rfl, ho, cf.cls, cf.n4, rfl, tm, _, rfl, SqT.of hm, rfl, _, _, rfl, _, _, rfl, _, _, rfl, rfl, ?_⟩
    refine ⟨_, rfl, o, C, dx, _, _, rfl, ho, cf.cls, cf.n5, rfl, ?_⟩
    -- the loop
    have grow : ∀ (xs : List Int), cs <+: xs → (∀ i c, xs[i]? = some c → c.natAbs ≤ 8 * 10000 ^ i) → xs.length ≤ 201 → CntAt (upd H tc (.lst (xs.map V.int))) C o tc n0 n1 n2 xs := fun xs p b l => ca.put ⟨Nat.le_trans ca.len.1 p.length_le, l⟩ b
    refine while_by (fun σ G => ∃ (xs : List Int) (v6 v7 : Option V), σ = [some (.ref o), some (.int (n : Int)), some (.ref tc), some (.int (n0 : Int)), some (.int (n1 : Int)), some (.int (n2 : Int)), v6, v7] ∧ G = upd H tc (.lst (xs.map V.int)) ∧ cs <+: xs ∧ (∀ i c, xs[i]? = some c → c.natAbs ≤ 8 * 10000 ^ i) ∧ xs.length ≤ 201)
      (fun σ G => cntM tc G) ⟨cs, none, none, rfl, (upd_back ca.li).symm, List.prefix_refl _, ca.bd, ca.len.2⟩ ?_ ?_
    · rintro σ G ⟨xs, v6, v7, rfl, rfl, px, bx, lx⟩
      have l2 := Nat.le_trans ca.len.1 px.length_le
      have hl : (upd H tc (.lst (xs.map V.int))) tc = some (.lst (xs.map V.int)) := upd_same
      refine ⟨_, rfl, tc, _, rfl, .inl (SqL.of hl), _, rfl, _, _, rfl, rfl, _, rfl, ?_⟩
      rw [List.length_map]
      have b11 : (n1 : Int) * (n1 : Int) = ((n1 * n1 : Nat) : Int) := (Int.natCast_mul ..).symm
      have b02 : (4 : Int) * (n0 : Int) * (n2 : Int) = ((4 * n0 * n2 : Nat) : Int) := by rw [Int.natCast_mul, Int.natCast_mul]; rfl
      have c11 : n1 * n1 ≤ 8 * 8 := Nat.mul_le_mul h8.2.1 h8.2.1
      have c02 : 4 * n0 * n2 ≤ 4 * 8 * 8 := Nat.mul_le_mul (Nat.mul_le_mul_left 4 h8.1) h8.2.2
      by_cases c : xs.length ≤ n
      · refine if_true_of (decide_eq_true (by omega)) ?_
        have p2 : 2 ≤ xs.length := l2
        obtain ⟨a, ha⟩ : ∃ a, xs[xs.length - 1]? = some a := ⟨_, List.getElem?_eq_getElem (by omega)⟩
        obtain ⟨b, hb⟩ : ∃ b, xs[xs.length - 2]? = some b := ⟨_, List.getElem?_eq_getElem (by omega)⟩
        have ia : atI (xs.map V.int) ((xs.length : Int) - 1) = some (.int a) := atI_sub (k := 1) (by omega) (by rw [List.getElem?_map, ha]; rfl)
        have ib : atI (xs.map V.int) ((xs.length : Int) - 2) = some (.int b) := atI_sub (k := 2) (by omega) (by rw [List.getElem?_map, hb]; rfl)
        refine ⟨_, rfl, tc, _, rfl, .inl (SqL.of hl), ?_⟩
        rw [List.length_map]
        have kk : (((n1 : Int) * n1 - 4 * n0 * n2) * ((xs.length : Int) - 2)).natAbs ≤ 256 * 200 := by
          rw [Int.natAbs_mul, b11, b02]
          exact Nat.mul_le_mul (by omega) (by omega)
        refine ⟨_, rfl, _, rfl, _, _, rfl, rfl, .inl ⟨by omega, by omega⟩, _, rfl, _, _, rfl, rfl, .inl ⟨by decide, by decide⟩, _, rfl, _, _, rfl, rfl, .inl ⟨by omega, by omega⟩, _, _, rfl, rfl, _, rfl, _, _, rfl, rfl, _, _, rfl, rfl, .inl ⟨by rw [b11, b02]; omega, by rw [b11, b02]; omega⟩, ?_⟩
        refine ⟨_, rfl, _, rfl, _, _, rfl, rfl, tc, _, _, _, rfl, rfl, SqL.of hl, ib, _, _, rfl, rfl, .inl ⟨by omega, by omega⟩, ?_⟩
        have k2 : ((n1 : Int) * (2 * (xs.length : Int) - 1)).natAbs ≤ 8 * 402 := by
          rw [Int.natAbs_mul]
          exact Nat.mul_le_mul (by omega) (by omega)
        have ty : tyV K "list" (V.ref tc) (upd H tc (.lst (xs.map V.int))) := .inl ⟨rfl, _, SqL.of hl⟩
        refine ⟨_, rfl, ty, _, rfl, _, rfl, _, _, rfl, rfl, .inl ⟨by decide, by decide⟩, _, _, rfl, rfl, _, _, rfl, rfl, .inl ⟨by omega, by omega⟩, _, rfl, _, rfl, _, _, rfl, rfl, tc, _, _, _, rfl, rfl, SqL.of hl, ia, _, _, rfl, rfl, .inl ⟨by omega, by omega⟩, _, rfl, _, _, rfl, rfl, _, rfl, _, _, rfl, rfl, _, _, rfl, rfl, ⟨by omega, by omega⟩, ?_⟩
        refine ⟨tc, _, _, rfl, rfl, hl, by rw [List.length_map, sizeLine_eq]; omega, ?_⟩
        have sb := step_bd (n0 := n0) (n1 := n1) (n2 := n2) (a := a) (b := b) h8 p2 (by omega) (bx _ _ ha) (bx _ _ hb)
        refine ⟨⟨xs ++ [((n1 : Int) * (2 * (xs.length : Int) - 1) * a - ((n1 : Int) * n1 - 4 * n0 * n2) * ((xs.length : Int) - 2) * b) / ((xs.length : Int) + 1)], _, _, rfl, by rw [upd_upd, List.map_append]; rfl, px.trans (List.prefix_append ..), fun i c hc => ?_, by rw [List.length_append]; simp; omega⟩, ?_⟩
        · by_cases hi : i < xs.length
          · rw [List.getElem?_append_left hi] at hc
            exact bx i c hc
          · have hi2 : i = xs.length := by
              have := (List.getElem?_eq_some_iff.mp hc).1
              rw [List.length_append] at this
              simp at this
              omega
            subst hi2
            rw [List.getElem?_concat_length] at hc
            cases hc
            exact sb
        · rw [cntM_upd, cntM_upd, List.length_append, List.length_map]
          simp
          omega
      · refine if_false_of (decide_eq_false (by omega)) ?_
        obtain ⟨a, ha⟩ : ∃ a, xs[n]? = some a := ⟨_, List.getElem?_eq_getElem (by omega)⟩
        exact ⟨_, rfl, _, rfl, tc, _, (n : Int), .int a, rfl, rfl, SqL.of hl, atI_nat (by rw [List.getElem?_map, ha]; rfl), q xs a px (grow xs px bx lx) ha⟩
    · rintro σ G Q1 Q2 k ⟨v1, e1, r1, ys, er, sq, v2, e2, i1, i2, ei, ej, b, eb, h⟩
      exact ⟨v1, e1, r1, ys, er, sq, v2, e2, i1, i2, ei, ej, b, eb, k _ _ h⟩
end
end Pr
namespace Pr
open PySem PySem.Spec PyProof.Rows L2 Gd
/-! ### count_trees, tree_at, each_tree -/
def spCT (C CN : Addr) : Sp := fun vs H Q E => ∃ (o dx : Addr) (fs : List (Str × V)) (v : V), vs = [.ref o, v] ∧ H o = some (.ins C dx fs) ∧ fs.lookup ("_count" : Str) = none ∧ spSz CN [v] H (fun _ H1 => H1 = H ∧ spCnt C [.ref o, v] H Q E0) E
def spTA (C CN : Addr) : Sp := fun vs H _ E => ∃ (o dx : Addr) (fs : List (Str × V)) (v m : V) (ty : String), vs = [.ref o, v, m] ∧ H o = some (.ins C dx fs) ∧ fs.lookup ("_count" : Str) = none ∧ Kd H m ty ∧ spSz CN [v] H (fun _ H1 => H1 = H ∧
  (isCountO m = false → ∀ d, H d = none → E (.ref CN) (some d) (upd H d (numX m))) ∧
  (isCountO m = true → spCnt C [.ref o, v] H (fun c H2 => ∃ i j, m = .int i ∧ c = .int j ∧ j ≤ i ∧ ∀ d, H2 d = none → E (.ref CN) (some d) (upd H2 d (numX m))) E0)) E
def spEach (CN : Addr) : SpG := fun vs H _ E => ∃ (o : Addr) (v : V), vs = [.ref o, v] ∧ spSz CN [v] H (fun _ _ => False) E
section
variable {P : Program} {w : World} {K : PySem.W.Frag} {mg : Str → Option Value} {base : Heap} {C CN eN fI fN fZ fCn : Addr} {dI dN dZ dCn : FuncData} {tk : Tok}
theorem scCountT : FnScope ["self", "size"] ["self", "size"] (defScope mCountT) := ⟨rfl, rfl, rfl, by decide +kernel, rfl, by decide +kernel, by decide +kernel⟩
theorem scTreeAt : FnScope ["self", "size", "number", "words", "awaited", "rest", "row", "at"] ["self", "size", "number"] (defScope mTreeAt) := ⟨rfl, rfl, rfl, by decide +kernel, rfl, by decide +kernel, by decide +kernel⟩
/-- what sizes lean on -/
structure Sz (K : PySem.W.Frag) (mg : Str → Option Value) (C CN eN fI fN fZ fCn : Addr) (dI dN dZ dCn : FuncData) (tk : Tok) : Prop where
  cf : OpF K C
  W : Words K mg fI fN dI dN
  gS : mg "MAX_SIZE" = some (.int 200 tk)
  N : PySem.InumX.InumTxt K mg CN eN
  FZ : Fun K "check_size" "check_size" sSize fZ dZ
  bZ : Binds K dZ ["size"] []
  gZ : mg "check_size" = some (.ref fZ)
  FC : Fun K "_count" "Operators._count" mCnt fCn dCn
  bC : Binds K dCn ["self", "size"] []
  mC : Meth K C "_count" fCn
theorem ok_countT {f : Addr} {fd : FuncData} (F : Fun K "count_trees" "Operators.count_trees" mCountT f fd) (S : Sz K mg C CN eN fI fN fZ fCn dI dN dZ dCn tk) (T : Free mg) : FnOk P w K mg base (L2.CX P w) 4 f fd ["self", "size"] (spCT C CN) := by
  have GZ : FnOk P w K mg base (L2.CX P w) 3 fZ dZ ["size"] (spSz CN) := ok_size S.FZ S.W S.gS S.N T
  have GC : FnOk P w K mg base CX0 1 fCn dCn ["self", "size"] (spCnt C) := ok_cnt S.FC S.cf T
  refine F.okX scCountT (fun vs H Q E h => ?_) (fun cdv A outer s H vs Q E hr h => ?_)
  · obtain ⟨o, dx, fs, v, rfl, _⟩ := h
    rfl
  · obtain ⟨o, dx, fs, v, rfl, ho, nl, v', ty, ev, kd, q, qe⟩ := h
    cases ev
    have r1 : Room 1 _ := hr.mono (by decide)
    refine ⟨_, pss_cons (ps_expr (pe_call GZ hr (by rfl) S.gZ S.FZ.kp S.bZ .nil (E := E) (passes_call (takes_of rfl rfl rfl rfl) fun _ _ _ _ h => h) (pa_cons (pv 1) pa_nil)))
      (pss_one (ps_ret (pe_meth (pv 0) S.cf.cls S.mC GC r1 S.bC .nil pass0 (pa_cons (pv 1) pa_nil)))), ?_⟩
    exact ⟨_, rfl, v, ty, rfl, kd, fun z => ⟨_, rfl, o, dx, fs, rfl, ho, nl, _, rfl, (q z).2⟩, qe⟩
theorem ok_treeAt {f : Addr} {fd : FuncData} (F : Fun K "tree_at" "Operators.tree_at" mTreeAt f fd) (S : Sz K mg C CN eN fI fN fZ fCn dI dN dZ dCn tk) (T : Free mg) : FnOk P w K mg base (L2.CX P w) 4 f fd ["self", "size", "number"] (spTA C CN) := by
  have GZ : FnOk P w K mg base (L2.CX P w) 3 fZ dZ ["size"] (spSz CN) := ok_size S.FZ S.W S.gS S.N T
  have GC : FnOk P w K mg base CX0 1 fCn dCn ["self", "size"] (spCnt C) := ok_cnt S.FC S.cf T
  have GN : FnOk P w K mg base CX0 2 fN dN ["value"] spCountO := ok_countO S.W T
  refine F.okX scTreeAt (fun vs H Q E h => ?_) (fun cdv A outer s H vs Q E hr h => ?_)
  · obtain ⟨o, dx, fs, v, m, ty, rfl, _⟩ := h
    rfl
  · obtain ⟨o, dx, fs, v, m, tm, rfl, ho, nl, km, v', ty, ev, kd, q, qe⟩ := h
    cases ev
    have r1 : Room 1 _ := hr.mono (by decide)
    have r2 : Room 2 _ := hr.mono (by decide)
    refine ⟨_, pss_cons (ps_expr (pe_call GZ hr (by rfl) S.gZ S.FZ.kp S.bZ .nil (E := E) (passes_call (takes_of rfl rfl rfl rfl) fun _ _ _ _ h => h) (pa_cons (pv 1) pa_nil)))
      (pss_cons (ps_if (PW.pt (pw_or (pt_not (pt_val (pe_call GN r2 (by rfl) S.W.gC S.W.FC.kp S.W.bC .nil pass0 (pa_cons (pv 2) pa_nil)))) (pw_or1 (pt_cmpR op_ge (pv 2) (pe_meth (pv 0) S.cf.cls S.mC GC r1 S.bC .nil pass0 (pa_cons (pv 1) pa_nil)) (nomark _)))))
        (pss_one (ps_raiseInum rfl S.N hr (takes_of rfl rfl rfl rfl) (pa_cons (pv 2) pa_nil))) pss_nil) pss_no), ?_⟩
    refine ⟨_, rfl, v, ty, rfl, kd, fun z => ?_, qe⟩
    obtain ⟨_, q1, q2⟩ := q z
    refine ⟨_, rfl, m, tm, rfl, km, _, rfl, ?_⟩
    cases ec : isCountO m with
    | false => exact if_true_of rfl ⟨_, rfl, m, rfl, fun d hd => q1 ec d hd⟩
    | true =>
      refine if_false_of rfl ⟨_, rfl, _, rfl, o, dx, fs, rfl, ho, nl, _, rfl, ?_⟩
      obtain ⟨o', tc, n0, n1, n2, cs, n, en, ca, hn, qc⟩ := q2 ec
      cases en
      refine ⟨o, tc, n0, n1, n2, cs, n, rfl, ca, hn, fun cs' c px ca' hc => ?_⟩
      obtain ⟨i, j, ei, ej, ji, qd⟩ := qc cs' c px ca' hc
      exact ⟨i, j, ei, ej, _, rfl, if_true_of (decide_eq_true ji) ⟨_, rfl, m, rfl, fun d hd => qd d hd⟩⟩
theorem gscEach : GScope ["self", "size", "forests", "waiting", "row", "name", "words", "awaited", "then"] ["self", "size"] (defScope mEach) := ⟨rfl, rfl, rfl, by decide +kernel, rfl, by decide +kernel, by decide +kernel⟩
theorem gfn_each {f : Addr} {fd : FuncData} (F : Fun K "each_tree" "Operators.each_tree" mEach f fd) (S : Sz K mg C CN eN fI fN fZ fCn dI dN dZ dCn tk) (T : Free mg) : GFn P w K mg base 4 f fd ["self", "size"] (spEach CN) := by
  have GZ : FnOk P w K mg base (L2.CX P w) 3 fZ dZ ["size"] (spSz CN) := ok_size S.FZ S.W S.gS S.N T
  obtain ⟨oc, od, kV, doc, pm, an, cdv, ct, osl, rfl, lk, hcd⟩ := F.ex
  refine gfn_of (k := 3) lk hcd gscEach (fun vs H Q E h => ?_) (fun A outer s H vs Q E pn hr h => ?_)
  · obtain ⟨o, v, rfl, _⟩ := h
    rfl
  · obtain ⟨o, v, rfl, v', ty, ev, kd, q, qe⟩ := h
    cases ev
    refine ⟨_, gss_cons (gs_ps (ps_expr (pe_call GZ hr (by rfl) S.gZ S.FZ.kp S.bZ .nil (E := E) (passes_call takes_gcx fun _ _ _ _ h => h) (pa_cons (pv 1) pa_nil)))) (gss_pss pss_no), ?_⟩
    exact ⟨_, rfl, v, ty, rfl, kd, fun z => (q z).elim, qe⟩
end
end Pr
namespace Pr
open PySem PySem.Spec PyProof.Rows L2 Gd LamX NdefX Clo
/-! ### _law_word: the word for what a lambda ends with -/
/-- what an exception of the call gives -/
def wE (CT CN : Addr) (Q : VK) : XK := fun cls d H' => (cls = .ref CT ∧ Q (.str "tree") H') ∨
  (cls = .ref CN ∧ ∃ (dd : Addr) (v : V) (n : Nat) (t : Str), d = some dd ∧ H' dd = some (numX v) ∧ Sh H' n v t ∧ n ≤ 50 ∧ t.length ≤ 10000000 ∧ Q (.str (("number " : Str) ++ t)) H')
def TWord (CT CN : Addr) (te : XK → TE) (ws : List (Option V)) (H : Hp) (Q : VK) : Prop := ∀ E' : XK, (∀ cls d H', wE CT CN Q cls d H' → E' cls d H') → te E' ws H fun _ H' => Q (.str "fine") H'
/-- what _law_word leans on -/
structure WdF (K : PySem.W.Frag) (mg : Str → Option Value) (CT CN CM eN g : Addr) (gd : FuncData) : Prop where
  F : Fun K "_law_word" "_law_word" sWord g gd
  b : Binds K gd ["call"] []
  g : mg "_law_word" = some (.ref g)
  T : mg "InvalidTree" = some (.ref CT)
  M : mg "TooMany" = some (.ref CM)
  N : PySem.InumX.InumTxt K mg CN eN
  e1 : PySem.W.exmOne K (.ref CT) (.ref CT) = some true
  e2 : PySem.W.exmOne K (.ref CN) (.ref CT) = some false
theorem scWord : FnScope ["call", "error"] ["call"] (defScope sWord) := ⟨rfl, rfl, rfl, by decide +kernel, rfl, by decide +kernel, by decide +kernel⟩
section
variable {P : Program} {w : World} {K : PySem.W.Frag} {mg : Str → Option Value} {base : Heap} {CT CN CM eN g : Addr} {gd : FuncData} {k : Nat} {q : Str} {l : Lam} {fr : List Str} {te : XK → TE}
theorem word_run (Fr : Free mg) (Wd : WdF K mg CT CN CM eN g gd) (t : Told P w K mg base (L2.CX P w) k q l fr te) {A : Around} {outer : List Env} {s : Shared} {H : Hp} {cl : List (Str × Addr)} {f c : Addr} {ws : List (Option V)} {Q : VK} (hr : Room (k + 2) A) (hgd : A.guards = some [])
    (e0 : Env0 P w K mg base A outer s H) (hf : H f = some (LamO q l cl f c)) (hc : H c = some (CodeO c q)) (C : CellsAt cl fr ws s.heap H) (h : TWord CT CN te ws H Q) : codeAny (model P w) A (.call (.ref g) ⟨[.ref f], []⟩) (CR CX0 outer P w H s Q E0) s := by
  obtain ⟨oc, od, kV, doc, pm, an, cdv, ct, osl, rfl, lk, hcd⟩ := Wd.F.ex
  have hb := Wd.b s [.ref f] (e0.mod.kin.keeps fun b o e => (e0.bs b o e).1) rfl
  refine run_ofS (N := ["call", "error"]) (ps := ["call"]) (us := [.ref f]) (vs := [.ref f]) (k := k + 1) lk hcd scWord hr e0 hb (.cons rfl .nil) rfl fun hr' => ?_
  have hu := hr'.units
  have gd' : (A.deeper (envOfC "_law_word" (defScope sWord) s.heap.objs.size g cdv)).guards = some [] := hgd
  refine ⟨_, PSs.nox (pss_cons (ps_try_mix (tb := fun W D σ H => tCall0S q l cl 0 te (WE W) ws σ H fun _ H1 => D.nx σ H1) (Wout := fun _ _ _ _ => False) rfl rfl scWord.nd L2.takes0
      (fun W pn xe tk _ => pss_one (ps_expr (pe_call0S t C (fun _ c _ z => absurd (show c ∈ ([] : List Addr) from z) (by simp)) hr' (fun σ => passAt tk σ) rfl (.inl rfl))))
      (.un (c := .ref CT) ⟨rfl, by decide, Or.inl Wd.T⟩ (fun a oe cls d pn hz hf => pss_one (ps_ret pe_str))
      (.as (i := 1) (c := .ref CN) ⟨rfl, by decide, Or.inl Wd.N.gC⟩ rfl rfl (fun a oe cls d pn hz hf => pss_one (ps_ret (pe_op op_add_str pe_str (pe_callB (call_repr gd' hu) (by rfl) Fr.repr (by decide +kernel) (pa_cons (pe_byInum Wd.N hz hf (pv 1)) pa_nil)))))
      (.as (i := 1) (c := .ref CM) ⟨rfl, by decide, Or.inl Wd.M⟩ rfl rfl (fun a oe cls d pn hz hf => pss_no) .nil))))
    (pss_one (ps_ret pe_str))), ?_⟩
  refine ⟨f, c, rfl, hf, hc, h _ fun cls d H' we => ?_⟩
  rcases we with ⟨rfl, q1⟩ | ⟨rfl, dd, v, n, tx, rfl, hd, sh, n50, tl, q1⟩
  · exact ⟨true, Wd.e1, fun _ a _ => q1, fun z => Bool.noConfusion z⟩
  · refine ⟨false, Wd.e2, fun z => Bool.noConfusion z, fun _ => ⟨true, Wd.N.te, fun _ a _ => ?_, fun z => Bool.noConfusion z⟩⟩
    exact ⟨_, rfl, rfl, rfl, dd, v, rfl, hd, v, n, tx, rfl, sh, n50, by rw [sizeLine_eq]; omega, _, _, rfl, rfl, by rw [sizeLine_eq]; show 7 + tx.length ≤ _; omega, q1⟩
end
end Pr
namespace Pr
open PySem PySem.Spec PyProof.Rows L2 Gd LamX NdefX Clo
/-! ### calls of _law_word -/
/-- a lambda as a list can hold it: its words, the captured names and their slots, its reading -/
structure LD where
  l : Lam
  fr : List Str
  js : List Nat
  te : XK → TE
def rWord (CT CN : Addr) (Ds : List LD) (q : Str) (cells : List (Str × Addr)) (σ0 : L2.St) (v : V) (H : Hp) (Q : VK) : Prop :=
  ∃ d ∈ Ds, ∃ f c, v = .ref f ∧ H f = some (LamO q d.l (cloFrom cells d.l.scope.names []) f c) ∧ H c = some (CodeO c q) ∧ TWord CT CN d.te (d.js.map (slotAt σ0)) H Q
section
variable {X : Cx} {CT CN CM eN g : Addr} {gd : FuncData} {k : Nat} {q : Str} {Ds : List LD} {cells : List (Str × Addr)} {e : Expr} {t : TA} {p pos : Pos}
/-- evaluated in Y, the captured cells known wherever Y goes on -/
theorem word_at {Y : Cx} {σ0 : L2.St} (Fr : Free Y.mg) (Wd : WdF Y.K Y.mg CT CN CM eN g gd) (ts : ∀ d ∈ Ds, Told Y.prog Y.w Y.K Y.mg Y.base (L2.CX Y.prog Y.w) k q d.l d.fr d.te) (hr : Room (k + 2) Y.A) (hgd : Y.A.guards = some []) {pins : List (Addr × Obj)} {σ : L2.St} {H : Hp} {s : Shared} {Q : VK} {us : List Value} {v : V}
    (I : Inv Y pins σ H s) (r : Vals [v] us) (cs : ∀ d ∈ Ds, CellsAt (cloFrom cells d.l.scope.names []) d.fr (d.js.map (slotAt σ0)) s.heap H) (h : rWord CT CN Ds q cells σ0 v H Q) : wpAny (model Y.prog Y.w) Y.A (call (.ref g) us) (EP Y pins σ Q) Y.xe s := by
  obtain ⟨d, md, f, c, rfl, hf, hc, tw⟩ := h
  obtain ⟨u, rfl, ru⟩ := vals1 r
  obtain rfl : u = Value.ref f := ru
  refine wpAny_call (codeAny_mono (word_run Fr Wd (ts d md) hr hgd I.env0 hf hc (cs d md) tw) fun r s' hq => ?_)
  cases r with
  | error e => exact (show False from hq).elim
  | ok fl =>
    cases fl with
    | ret u => exact I.after hq
    | next => exact False.elim hq
    | brk => exact False.elim hq
    | cont => exact False.elim hq
theorem pe_word (Fr : Free X.mg) (Wd : WdF X.K X.mg CT CN CM eN g gd) (ts : ∀ d ∈ Ds, Told X.prog X.w X.K X.mg X.base (L2.CX X.prog X.w) k q d.l d.fr d.te) (cp : ∀ d ∈ Ds, X.Ok → Caps X (cloFrom X.env.cells d.l.scope.names []) d.fr d.js) (hr : Room (k + 2) X.A) (hgd : X.A.guards = some [])
    (ha : PA X [e] t) (hg : Gl X "_law_word" := by rfl) (he : starEach (e :: []) X.env = (false, eval e X.env) :: starEach [] X.env := by rfl) (hpl : (backTo pos (starEach [] X.env)).any (·.1) = false := by rfl) :
    PE X (.Call (.Name "_law_word" p) [e] [] pos) (fun σ H Q => t σ H fun vs H1 => ∃ v, vs = [v] ∧ rWord CT CN Ds q X.env.cells σ v H1 Q) := by
  refine ⟨fun pins s σ H Q I h => ?_⟩
  refine wpAny_Call_Name_kw (ld_glob I hg Wd.g ?_)
  refine PySem.W.callWith_K (h₀ := X.base) I.ok.mod.kin Wd.F.kp (thn (ha.run pos pins s σ H _ I h) fun us s1 ⟨vs, H1, I1, r, v, ev, q1⟩ => ⟨I1.kIn, ?_⟩) he hpl
  subst ev
  exact word_at (σ0 := σ) Fr Wd ts hr hgd I1 r (fun d md => cells_of I1 (cp d md I1.ok)) q1
/-- in a comprehension of X -/
theorem pe_wordB {s0 : Shared} {H0 : Hp} {σ0 : L2.St} {scope : Scope} {ce : Env} {fp : List Addr} (a0 : At0 X σ0 s0 H0 fp) (Fr : Free X.mg) (Wd : WdF X.K X.mg CT CN CM eN g gd) (ts : ∀ d ∈ Ds, Told X.prog X.w X.K X.mg X.base (L2.CX X.prog X.w) k q d.l d.fr d.te)
    (cp : ∀ d ∈ Ds, X.Ok → Caps X (cloFrom X.env.cells d.l.scope.names []) d.fr d.js) (hr : Room (k + 2) X.A) (hgd : X.A.guards = some []) (ha : PA (X.blk s0 H0 scope ce fp) [e] t) (hg : Gl (X.blk s0 H0 scope ce fp) "_law_word")
    (he : starEach (e :: []) ce = (false, eval e ce) :: starEach [] ce := by rfl) (hpl : (backTo pos (starEach [] ce)).any (·.1) = false := by rfl) :
    PE (X.blk s0 H0 scope ce fp) (.Call (.Name "_law_word" p) [e] [] pos) (fun σ H Q => t σ H fun vs H1 => ∃ v, vs = [v] ∧ rWord CT CN Ds q X.env.cells σ0 v H1 Q) := by
  refine ⟨fun pins s σ H Q I h => ?_⟩
  refine wpAny_Call_Name_kw (ld_glob I hg Wd.g ?_)
  refine PySem.W.callWith_K (h₀ := X.base) I.ok.mod.kin Wd.F.kp (thn (ha.run pos pins s σ H _ I h) fun us s1 ⟨vs, H1, I1, r, v, ev, q1⟩ => ⟨I1.kIn, ?_⟩) he hpl
  subst ev
  exact word_at (Y := X.blk s0 H0 scope ce fp) (σ0 := σ0) Fr Wd ts hr hgd I1 r (fun d md => a0.cells (cp d md) I1) q1
end
end Pr
namespace Pr
open PySem PySem.Spec PyProof.Rows L2 Gd
/-! ### _law_end -/
def spEndL : Sp := fun vs H Q _ => ∃ (ad t : Addr) (l : List (Str × Nat)) (zs : List Str) (p : Nat), vs = [.ref ad, .ref t, .int (p : Int)] ∧ H ad = some (.dK (dkv l)) ∧ Ws H t zs ∧ (l.map (·.1)).Nodup ∧ Fo l 1 zs ∧ p < zs.length ∧ ∀ H', Same H H' → Q (.int ((stopAt l zs p : Nat) : Int)) H'
section
variable {P : Program} {w : World} {K : PySem.W.Frag} {mg : Str → Option Value} {base : Heap}
theorem scEndL : FnScope ["arities", "tree", "place", "left", "there", "name"] ["arities", "tree", "place"] (defScope sEndL) := ⟨rfl, rfl, rfl, by decide +kernel, rfl, by decide +kernel, by decide +kernel⟩
theorem ok_endL {f : Addr} {fd : FuncData} (F : Fun K "_law_end" "_law_end" sEndL f fd) (T : Free mg) : FnOk P w K mg base CX0 1 f fd ["arities", "tree", "place"] spEndL := by
  refine F.ok scEndL (fun vs H Q E h => ?_) (fun cdv A outer s H vs Q E hr h => ?_)
  · obtain ⟨ad, t, l, zs, p, rfl, _⟩ := h
    rfl
  · obtain ⟨ad, t, l, zs, p, rfl, had, ht, nd, fo0, hp, q⟩ := h
    have hu := hr.units
    have hu1 : ∀ {u : Nat}, u + 64 < cLine → u + 1 < cLine := fun h => by omega
    refine ⟨_, pss_cons (ps_par (i := 3) (j := 4) (by rfl) scEndL.nd rfl rfl (by decide) rfl rfl (pa_cons pe_int (pa_cons (pv 2) pa_nil)) (by rfl))
      (pss_cons (ps_for PassesOwn.never rfl (pi_tup (pe_slice sl_tupA (pv 1) (po_some (pv 2)) po_none)) (pg_name (i := 5) scEndL.nd rfl (.inl rfl))
        (pss_cons (ps_par (i := 3) (j := 4) (by rfl) scEndL.nd rfl rfl (by decide) rfl rfl (pa_cons (pe_op op_add (pe_op op_sub (pv 3) pe_int) (pe_dget2 (hu1 hu) (pv 0) (pv 5) pe_int ⟨by rfl, by rfl, by rfl, by rfl⟩)) (pa_cons (pe_op op_add (pv 4) pe_int) pa_nil)) (by rfl))
        (pss_one (ps_if (pt_cmpR op_eq (pv 3) pe_int (nomark _)) (pss_one ps_break) pss_nil))))
      (pss_one (ps_ret (pv 4)))), ?_⟩
    obtain ⟨r, fo⟩ := Fo.drop fo0 hp
    have ed : (zs.drop p).length = zs.length - p := List.length_drop
    refine ⟨_, rfl, _, _, rfl, _, rfl, _, rfl, _, rfl, noPart (slFrom ht fun b1 H1 s1 w1 => ?_)⟩
    refine ⟨b1, rfl, ⟨_, .inl w1⟩, ?_⟩
    refine for_tup (K := K) (a := b1) (xs := (zs.drop p).map V.str) (fun i σ H' => ∃ (k : Nat) (v5 : Option V), σ = [some (.ref ad), some (.ref t), some (.int (p : Int)), some (.int ((k + 1 : Nat) : Int)), some (.int ((p + i : Nat) : Int)), v5] ∧ H' = H1 ∧ Fo l (k + 1 + r) (zs.drop (p + i)) ∧ p + i + ext l (zs.drop (p + i)) (k + 1) = stopAt l zs p)
      ⟨0, none, rfl, rfl, by rw [Nat.add_comm]; exact fo, rfl⟩ (fun i σ H' _ ⟨_, _, _, e, _⟩ => by rw [e]; exact .inl w1) ?_ ?_
    · rintro i x σ H' hx ⟨k, v5, rfl, rfl, f1, ej⟩
      rw [List.getElem?_map, Option.map_eq_some_iff] at hx
      obtain ⟨z, hz, rfl⟩ := hx
      have hi := (List.getElem?_eq_some_iff.mp hz).1
      rw [ed] at hi
      have jl : p + i < zs.length := by omega
      have hd : zs.drop (p + i) = zs[p + i] :: zs.drop (p + i + 1) := List.drop_eq_getElem_cons jl
      have ez : zs[p + i] = z := by
        rw [List.getElem?_drop, List.getElem?_eq_getElem jl] at hz
        exact Option.some.inj hz
      rw [hd, ez] at f1 ej
      obtain ⟨a, m, f2⟩ : ∃ a, (z, a) ∈ l ∧ Fo l (k + r + a) (zs.drop (p + i + 1)) := by
        have e : k + 1 + r = (k + r) + 1 := by omega
        rw [e] at f1
        cases f1 with
        | cons m h => exact ⟨_, m, h⟩
      have vz := val_some nd m
      have ej2 : p + i + (1 + ext l (zs.drop (p + i + 1)) (k + ar l z)) = stopAt l zs p := ej
      rw [ar_eq nd m] at ej2
      have ha1 := s1 _ _ had
      have dg : DGet H' ad (kV (.inr z : Key)) (some (.int (a : Int))) := vz ▸ DGet.k (k := .inr z) ha1
      refine ⟨_, rfl, _, _, rfl, rfl, _, rfl, ad, rfl, .inl ⟨_, .inl ha1⟩, _, rfl, _, dg, _, _, rfl, rfl, _, rfl, _, _, rfl, rfl, _, _, rfl, ?_⟩
      have e1 : ((k + 1 : Nat) : Int) - 1 + (a : Int) = ((k + a : Nat) : Int) := by omega
      have e2 : ((p + i : Nat) : Int) + 1 = ((p + (i + 1) : Nat) : Int) := by omega
      refine ⟨_, rfl, rfl, _, rfl, ?_⟩
      cases ka : k + a with
      | zero =>
        have e3 : ext l (zs.drop (p + i + 1)) (k + a) = 0 := by rw [ka, ext_zero]
        rw [e3] at ej2
        have e4 : ((p + i : Nat) : Int) + 1 = ((stopAt l zs p : Nat) : Int) := by omega
        refine if_true_of (decide_eq_true (congrArg V.int (by omega))) ⟨_, rfl, ?_⟩
        show Q (.int (((p + i : Nat) : Int) + 1)) H'
        rw [e4]
        exact q _ s1
      | succ k2 =>
        refine if_false_of (decide_eq_false fun z => by have := V.int.inj z; omega) ⟨k2, some (V.str z), ?_, rfl, ?_, ?_⟩
        · show ([some (V.ref ad), some (V.ref t), some (V.int (p : Int)), some (V.int (((k + 1 : Nat) : Int) - 1 + (a : Int))), some (V.int (((p + i : Nat) : Int) + 1)), some (V.str z)] : L2.St) = _
          rw [e1, e2, ka]
        · have e : k2 + 1 + r = k + r + a := by omega
          rw [e]
          exact f2
        · have e : p + (i + 1) = p + i + 1 := by omega
          rw [← ka, e]
          omega
    · rintro σ H' ⟨k, v5, rfl, rfl, f1, ej⟩
      rw [List.length_map, ed, show p + (zs.length - p) = zs.length by omega, List.drop_length] at f1
      have e : k + 1 + r = (k + r) + 1 := by omega
      rw [e] at f1
      cases f1
end
end Pr
namespace Pr
open PySem PySem.Spec PyProof.Rows L2 Gd
/-! ### _law_drawn_context, _law_put -/
def spDCtx : Sp := fun vs H Q _ => ∃ (d p : Addr) (cap n : Nat) (l : List (Str × Nat)), vs = [.ref d, .ref p, .int (cap : Int)] ∧ p ≠ d ∧ H p = some (.dK (dkv l)) ∧ Ars l ∧ hole ∉ l.map (·.1) ∧ 1 ≤ cap ∧ cap ≤ 400 ∧ Dice H d n ∧ n + 2 * cap + 4 < 1000000 ∧
  ∀ (q : Addr) (c : Cw) (H' : Hp), q ≠ d → Kp d H H' → Wp H' q (cxt c.1 c.2) → IsC l c.1 c.2 → (cxt c.1 c.2).length ≤ cap + 2 → Dice H' d (n + 2 * cap + 4) → Q (.ref q) H'
theorem Rd.kp {d a : Addr} {H H' : Hp} {u : HO} (h : Rd H a u) (k : Kp d H H') (n : a ≠ d) : Rd H' a u := by
  rcases h with h | ⟨o, h⟩
  · exact .inl (k _ _ n h)
  · exact .inr ⟨o, k _ _ n h⟩
theorem Wp.kp {d a : Addr} {H H' : Hp} {zs : List Str} (h : Wp H a zs) (k : Kp d H H') (n : a ≠ d) : Wp H' a zs := let ⟨o, e, x⟩ := h; ⟨o, k _ _ n e, x⟩
section
variable {P : Program} {w : World} {K : PySem.W.Frag} {mg : Str → Option Value} {base : Heap} {fR fP fM : Addr} {dR dP dM : FuncData} {fD fE : Addr} {dD dE : FuncData}
theorem scDCtx : FnScope ["dice", "arities", "cap", "tree", "at"] ["dice", "arities", "cap"] (defScope sDCtx) := ⟨rfl, rfl, rfl, by decide +kernel, rfl, by decide +kernel, by decide +kernel⟩
theorem ok_dctx {f : Addr} {fd : FuncData} (F : Fun K "_law_drawn_context" "_law_drawn_context" sDCtx f fd) (D : Draws K mg fR fP fM dR dP dM) (FD : Fun K "_law_drawn_tree" "_law_drawn_tree" sDrawn fD dD) (bD : Binds K dD ["dice", "arities", "cap"] []) (gD : mg "_law_drawn_tree" = some (.ref fD))
    (FE : Fun K "_law_end" "_law_end" sEndL fE dE) (bE : Binds K dE ["arities", "tree", "place"] []) (gE : mg "_law_end" = some (.ref fE)) (T : Free mg) : FnOk P w K mg base CX0 4 f fd ["dice", "arities", "cap"] spDCtx := by
  have GR : FnOk P w K mg base CX0 1 fR dR ["dice", "total"] spRoll := ok_roll D.FR T
  have GD : FnOk P w K mg base CX0 3 fD dD ["dice", "arities", "cap"] spDrawn := ok_drawn FD D T
  have GE : FnOk P w K mg base CX0 1 fE dE ["arities", "tree", "place"] spEndL := ok_endL FE T
  refine F.ok scDCtx (fun vs H Q E h => ?_) (fun cdv A outer s H vs Q E hr h => ?_)
  · obtain ⟨d, p, cap, n, l, rfl, _⟩ := h
    rfl
  · obtain ⟨d, p, cap, n, l, rfl, npd, hp, ars, no, c1, c4, di, hn, q⟩ := h
    refine ⟨_, pss_cons (ps_set (i := 3) scDCtx.nd rfl (.inl rfl) (pe_call GD (hr.mono (by decide)) (by rfl) gD FD.kp bD .nil pass0 (pa_cons (pv 0) (pa_cons (pv 1) (pa_cons (pv 2) pa_nil)))))
      (pss_cons (ps_set (i := 4) scDCtx.nd rfl (.inl rfl) (pe_call GR (hr.mono (by decide)) (by rfl) D.gR D.FR.kp D.bR .nil pass0 (pa_cons (pv 0) (pa_cons (pe_callB call_len_seq (by rfl) T.len PySem.boot_len (pa_cons (pv 3) pa_nil)) pa_nil))))
      (pss_one (ps_ret (pe_op Tx.op_catY (pe_op Tx.op_catY (pe_slice sl_tupA (pv 3) po_none (po_some (pv 4))) (Tx.pe_tupX (pa_cons pe_str pa_nil))) (pe_slice sl_tupA (pv 3) (po_some (pe_call GE (hr.mono (by decide)) (by rfl) gE FE.kp bE .nil pass0 (pa_cons (pv 1) (pa_cons (pv 3) (pa_cons (pv 4) pa_nil))))) po_none))))), ?_⟩
    refine ⟨_, rfl, _, rfl, _, rfl, d, p, cap, n, l, rfl, npd, hp, ars, c1, c4, di, by omega, fun t zs H1 td tn k1 ht fo lz di1 => ?_⟩
    obtain ⟨ds1, hd1⟩ := di1.there
    have lzv : (zs.map V.str).length = zs.length := List.length_map _
    have pos : 0 < zs.length := fo.len
    refine ⟨_, rfl, _, rfl, t, _, rfl, .inr ht.sq, d, _, _, rfl, di1, by omega, by rw [lzv]; omega, by rw [lzv]; omega, fun r o1 r0 r1 di2 => ?_⟩
    obtain ⟨a, rfl⟩ := Int.eq_ofNat_of_zero_le r0
    rw [lzv] at r1
    have ha : a < zs.length := by omega
    have k2 : Kp d H1 (upd H1 d o1) := Kp.upd
    have w0 : Ws (upd H1 d o1) t zs := Rd.kp (TXr ht) k2 td
    have hp2 := k2 _ _ npd (k1 _ _ npd hp)
    have k02 := k1.trans k2
    obtain ⟨ds2, hd2⟩ := di2.there
    generalize upd H1 d o1 = H2 at w0 hp2 k02 di2 hd2 ⊢
    obtain ⟨ez, ic⟩ := cut_ctx ars.nd no fo ha
    obtain ⟨le1, le2⟩ := stop_le ars.nd fo ha
    refine ⟨_, rfl, _, rfl, _, rfl, slTo w0 fun b1 H3 s3 w3 => ?_⟩
    refine ⟨by show 1 ≤ sizeLine; decide, fun b2 H4 n4 s4 w4 => ?_⟩
    refine catWpR (ys := [hole]) (w3.same s4) w4 (by simp) (by rw [List.length_take, sizeLine_eq]; simp; omega) fun b3 H5 s5 w5 => ?_
    have s25 := (s3.trans s4).trans s5
    refine ⟨_, rfl, _, rfl, _, rfl, _, rfl, p, t, l, zs, a, rfl, s25 _ _ hp2, w0.same s25, ars.nd, fo, ha, fun H6 s6 => ?_⟩
    have s26 := s25.trans s6
    refine ⟨_, rfl, noPart (slFrom (w0.same s26) fun b4 H7 s7 w7 => ?_)⟩
    refine catWpL (w5.same (s6.trans s7)) w7 (by simp) (by rw [List.length_append, List.length_take, List.length_drop, sizeLine_eq]; simp; omega) fun b5 H8 s8 w8 => ?_
    rw [List.append_assoc] at w8
    have s28 := (s26.trans s7).trans s8
    have nb5 : b5 ≠ d := fun e => by
      obtain ⟨ob, h, _⟩ := w8
      rw [e, s28 _ _ hd2] at h
      cases h
    refine q b5 (zs.take a, zs.drop (stopAt l zs a)) H8 nb5 (k02.trans (Kp.same s28)) w8 ic ?_ ((di2.same s28).more (by omega) (by omega))
    show (zs.take a ++ hole :: zs.drop (stopAt l zs a)).length ≤ cap + 2
    rw [List.length_append, List.length_cons, List.length_take, List.length_drop]
    omega
end
end Pr
namespace Pr
open PySem PySem.Spec PyProof.Rows L2 Gd LamX NdefX Clo
/-! ### lists of lambdas -/
theorem paired_snoc8 {α β : Type} {F : α → β → Prop} {xs : List α} {ys : List β} {x : α} {y : β} (p : Paired F xs ys) (h : F x y) : Paired F (xs ++ [x]) (ys ++ [y]) := by
  induction p with
  | nil => exact .cons h .nil
  | cons a r ih => exact .cons a ih
theorem paired_at8 {α β : Type} {F : α → β → Prop} : ∀ {xs : List α} {ys : List β} {i : Nat} {x : α}, Paired F xs ys → xs[i]? = some x → ∃ y, ys[i]? = some y ∧ F x y
  | _, _, i, x, .nil, h => by simp at h
  | _, _, 0, x, .cons a r, h => by
    cases h
    exact ⟨_, rfl, a⟩
  | _ :: _, _ :: _, i + 1, x, .cons a r, h => let ⟨y, hy, f⟩ := paired_at8 (i := i) r (by simpa using h); ⟨y, by simpa using hy, f⟩
structure Lams (T : List (Addr × Str)) (q : Str) (cells : List (Str × Addr)) (H : Hp) (L : Addr) (ls : List Lam) : Prop where
  tabs : Tabs T H
  fs : ∃ fs : List Addr, H L = some (.lst (fs.map V.ref)) ∧ Paired (fun f l => ∃ c, H f = some (LamO q l (cloFrom cells l.scope.names []) f c) ∧ H c = some (CodeO c q)) fs ls
/-- all but the tables, the dice and the object at L stay -/
def KN (P : Addr → Prop) (H H' : Hp) : Prop := ∀ b o, ¬ P b → H b = some o → (∀ ps, o ≠ .tbl ps) → H' b = some o
theorem KN.refl (P : Addr → Prop) (H : Hp) : KN P H H := fun _ _ _ h _ => h
theorem KN.trans {P : Addr → Prop} {H H1 H2 : Hp} (a : KN P H H1) (b : KN P H1 H2) : KN P H H2 := fun c o n h t => b c o n (a c o n h t) t
theorem KN.imp {P Q : Addr → Prop} {H H1 : Hp} (a : KN P H H1) (h : ∀ b, P b → Q b) : KN Q H H1 := fun c o n e t => a c o (fun p => n (h c p)) e t
theorem KN.same {P : Addr → Prop} {H H1 : Hp} (s : Same H H1) : KN P H H1 := fun c o _ e _ => s c o e
theorem KN.ext {P : Addr → Prop} {H H1 : Hp} (s : ExtN H H1) : KN P H H1 := fun c o _ e t => s c o e t
theorem KN.kp {d : Addr} {P : Addr → Prop} {H H1 : Hp} (k : Kp d H H1) (h : P d) : KN P H H1 := fun c o n e _ => k c o (fun z => n (z ▸ h)) e
section
variable {T : List (Addr × Str)} {q : Str} {cells : List (Str × Addr)} {H : Hp} {L : Addr} {ls : List Lam} {l : Lam}
theorem Lams.same {H' : Hp} (h : Lams T q cells H L ls) (s : Same H H') : Lams T q cells H' L ls := by
  obtain ⟨fs, e, p⟩ := h.fs
  exact ⟨h.tabs.ext s, fs, s _ _ e, paired_map (fun f l ⟨c, a, b⟩ => ⟨c, s _ _ a, s _ _ b⟩) p⟩
/-- calls = [lambda: ..] -/
theorem lams_one {R : V → Hp → Prop} (t : Tabs T H) (k : ∀ (L : Addr) (H' : Hp), ExtN H H' → H L = none → Lams T q cells H' L [l] → R (.ref L) H') :
    Tabs T H ∧ ∀ (f c : Addr) (H1 : Hp), Born T q l (cloFrom cells l.scope.names []) H H1 f c → [V.ref f].length ≤ sizeLine ∧ ∀ p, H1 p = none → R (.ref p) (upd H1 p (.lst [V.ref f])) := by
  refine ⟨t, fun f c H1 b => ⟨by show 1 ≤ sizeLine; decide, fun p np => k p _ (fun x o e n => (upd_ne (ne_of_none (b.ext x o e n) np)).trans (b.ext x o e n)) (b.old p np) ⟨b.tabs.ext fun x o e => (upd_ne (ne_of_none e np)).trans e, [f], upd_same, ?_⟩⟩⟩
  exact .cons ⟨c, (upd_ne (ne_of_none b.at_ np)).trans b.at_, (upd_ne (ne_of_none b.code np)).trans b.code⟩ .nil
/-- calls.append(lambda: ..) -/
theorem lams_add {R : V → Hp → Prop} (h : Lams T q cells H L ls) (few : ls.length < 1000) (k : ∀ H', KN (fun b => b = L) H H' → Lams T q cells H' L (ls ++ [l]) → R .non H') :
    Tabs T H ∧ ∀ (f c : Addr) (H1 : Hp), Born T q l (cloFrom cells l.scope.names []) H H1 f c → rAppend (.ref L) [V.ref f] H1 R := by
  refine ⟨h.tabs, fun f c H1 b => ?_⟩
  obtain ⟨fs, e, p⟩ := h.fs
  have e1 : H1 L = some (.lst (fs.map V.ref)) := b.ext _ _ e fun ps z => by cases z
  have lf := p.length
  refine ⟨L, _, .ref f, rfl, rfl, e1, by rw [List.length_map, lf, sizeLine_eq]; omega, k _ (fun x o n e t => (upd_ne n).trans (b.ext x o e t)) ?_⟩
  have nf : ∀ {x : Addr} {o : HO}, (∀ xs, o ≠ .lst xs) → H1 x = some o → x ≠ L := fun n e z => by
    rw [z, e1] at e
    exact n _ (Option.some.inj e).symm
  have keep : ∀ {x : Addr} {o : HO}, (∀ xs, o ≠ .lst xs) → H1 x = some o → (upd H1 L (.lst (fs.map V.ref ++ [V.ref f]))) x = some o := fun n e => (upd_ne (nf n e)).trans e
  have nl : ∀ {q : Str} {l : Lam} {cl : List (Str × Addr)} {f c : Addr} (xs : List V), LamO q l cl f c ≠ .lst xs := fun xs z => by
    unfold LamO at z
    cases z
  have nc : ∀ {c : Addr} {q : Str} (xs : List V), CodeO c q ≠ .lst xs := fun xs z => by
    unfold CodeO at z
    cases z
  refine ⟨fun p hp => ?_, fs ++ [f], by rw [upd_same, List.map_append]; rfl, paired_snoc8 (paired_map (fun f l ⟨c, a, b2⟩ => ⟨c, keep nl (b.ext _ _ a lamO_ne), keep nc (b.ext _ _ b2 codeO_ne)⟩) p) ⟨c, keep nl b.at_, keep nc b.code⟩⟩
  obtain ⟨ps, a1, a2, a3⟩ := b.tabs p hp
  refine ⟨ps, keep (fun xs z => by cases z) a1, a2, fun pos cv hc => ?_⟩
  obtain ⟨c', e1', e2⟩ := a3 pos cv hc
  exact ⟨c', e1', keep nc e2⟩
/-- what the words of a list are read with -/
abbrev teW (CT CN : Addr) (Ds : List LD) (q : Str) (cells : List (Str × Addr)) (j : Nat) (σ0 : L2.St) : TE := fun σ H Q => tCons (tVar j) tNil σ H fun vs H1 => ∃ v, vs = [v] ∧ rWord CT CN Ds q cells σ0 v H1 Q
/-- [_law_word(call) for call in calls], all the same word -/
theorem words_read {K : PySem.W.Frag} {CT CN : Addr} {Ds ds : List LD} {i j : Nat} {σ : L2.St} {Q : VK} {wd : Str} (hi : σ[i]? = some (some (.ref L))) (hj : j < σ.length) (h : Lams T q cells H L (ds.map (·.l))) (few : ds.length < 1000) (sub : ∀ d ∈ ds, d ∈ Ds)
    (tw : ∀ d ∈ ds, ∀ (H' : Hp) (Q' : VK), Same H H' → (∀ H'', Same H' H'' → Q' (.str wd) H'') → TWord CT CN d.te (d.js.map (slotAt σ)) H' Q')
    (k : ∀ (D : Addr) (H' : Hp), Same H H' → H' D = some (.lst (List.replicate ds.length (V.str wd))) → Q (.ref D) H') : tLc (iList K (tVar i)) (gName j) tYes (teW CT CN Ds q cells j σ) [j] σ H Q := by
  obtain ⟨fs, e, p⟩ := h.fs
  have lf : fs.length = ds.length := by rw [p.length, List.length_map]
  refine ⟨_, hi, L, rfl, ⟨_, SqL.of e⟩, fun D nD => ?_⟩
  refine lc_list (K := K) (a := L) (xs := fs.map V.ref) (fun n G => G D = some (.lst (List.replicate n (V.str wd))) ∧ Same H G) ⟨upd_same, Same.new nD⟩ (fun n G _ ⟨_, s⟩ => SqL.of (s _ _ e)) ?_ ?_
  · rintro n x G hx ⟨eD, sG⟩
    rw [List.getElem?_map, Option.map_eq_some_iff] at hx
    obtain ⟨f, hf, rfl⟩ := hx
    obtain ⟨l1, hl, c, a, b⟩ := paired_at8 p hf
    rw [List.getElem?_map, Option.map_eq_some_iff] at hl
    obtain ⟨d, hd, rfl⟩ := hl
    have md := List.mem_of_getElem? hd
    have hn : n < ds.length := (List.getElem?_eq_some_iff.mp hd).1
    have ew : wipe σ [j] = σ.set j none := rfl
    refine ⟨by rw [ew]; show ((σ.set j none).set j (some (V.ref f))).set j none = _; rw [List.set_set, List.set_set], ?_⟩
    refine ⟨.ref f, ?_, .ref f, rfl, d, sub d md, f, c, rfl, sG _ _ a, sG _ _ b, tw d md G _ sG fun H'' s'' => ?_⟩
    · rw [ew]
      show ((σ.set j none).set j (some (V.ref f)))[j]? = _
      rw [List.set_set, List.getElem?_set_self hj]
    · refine ⟨_, s'' _ _ eD, by rw [List.length_replicate, sizeLine_eq]; omega, by rw [upd_same, List.replicate_succ'], fun b u e => ?_⟩
      rw [upd_ne (ne_of_none e nD)]
      exact s'' _ _ (sG b u e)
  · rintro G ⟨eD, sG⟩
    rw [List.length_map, lf] at eD
    exact k D G sG eD
end
end Pr
namespace Gd
open PySem PySem.Spec PyProof.Rows L2 LamX
/-! ### a def whose code object is known -/
structure FunC (K : PySem.W.Frag) (x : Str) (st : Stmt) (f c : Addr) (fd : FuncData) : Prop where
  ex : ∃ (oc : Value) (od : Option Addr) (kV doc pm : Value) (an : Option Addr) (ct : Value) (osl : Array (Option Value)),
    fd = PySem.W.fnOf x x (defArgs st) (defBody st) (defScope st) .none kV doc pm an (.ref c) ct ∧ K.lookup f = some ⟨oc, od, .func fd, osl⟩ ∧ PySem.W.codeIn K (.ref c) x = true
  kp : PySem.W.keepIn K (.ref f) = true
theorem funC_mk {K : PySem.W.Frag} {x : Str} {st : Stmt} {f c : Addr} {oc : Value} {od an : Option Addr} {osl : Array (Option Value)} {kV doc pm ct : Value} (l : K.lookup f = some ⟨oc, od, .func (PySem.W.fnOf x x (defArgs st) (defBody st) (defScope st) .none kV doc pm an (.ref c) ct), osl⟩)
    (h : PySem.W.codeIn K (.ref c) x = true) (k : PySem.W.keepIn K (.ref f) = true) : FunC K x st f c (PySem.W.fnOf x x (defArgs st) (defBody st) (defScope st) .none kV doc pm an (.ref c) ct) := ⟨⟨oc, od, kV, doc, pm, an, ct, osl, rfl, l, h⟩, k⟩
theorem FunC.fun {K : PySem.W.Frag} {x : Str} {st : Stmt} {f c : Addr} {fd : FuncData} (F : FunC K x st f c fd) : Fun K x x st f fd :=
  let ⟨oc, od, kV, doc, pm, an, ct, osl, e, l, h⟩ := F.ex; ⟨⟨oc, od, kV, doc, pm, an, .ref c, ct, osl, e, l, h⟩, F.kp⟩
section
variable {P : Program} {w : World} {K : PySem.W.Frag} {mg : Str → Option Value} {base : Heap} {k : Nat} {f c : Addr} {fd : FuncData} {ps N : List Str} {sp : Sp} {st : Stmt} {x : Str}
theorem FunC.ok (F : FunC K x st f c fd) (S : FnScope N ps (defScope st)) (len : ∀ vs H Q E, sp vs H Q E → vs.length = ps.length)
    (hbody : ∀ (A : Around) (outer : List Env) (s : Shared) (H : Hp) (vs : List V) (Q : VK) (E : XK), Room k (A.deeper (envOfC x (defScope st) s.heap.objs.size f (.ref c))) →
      (A.deeper (envOfC x (defScope st) s.heap.objs.size f (.ref c))).guards = some [] → sp vs H Q E →
      ∃ t, PSs (cxOf CX0 P w K mg base N x (defScope st) f (.ref c) A outer s H E).nox (defBody st) t ∧ t { nx := fun _ H' => Q .non H', rt := Q } (L2.start N vs) H) : FnG P w K mg base CX0 (k + 1) f fd ps sp := by
  obtain ⟨oc, od, kV, doc, pm, an, ct, osl, rfl, lk, hcd⟩ := F.ex
  refine ⟨len, fun A outer s H args us vs Q E hr hg e0 hb r h => ?_⟩
  exact run_ofS lk hcd S hr e0 hb r (len _ _ _ _ h) fun hr' => let ⟨t, a, b⟩ := hbody A outer s H vs Q E hr' hg h; ⟨t, a.nox, b⟩
end
end Gd
namespace Pr
open PySem PySem.Spec PyProof.Rows L2 Gd LamX NdefX Clo
/-! ### the lambdas of the text -/
def lam0 : Lam := ⟨{ posonlyargs := [], args := [], vararg := none, kwonlyargs := [], kw_defaults := [], kwarg := none, defaults := [] }, .Name "" ⟨0, 0, 0, 0⟩, { kind := .function, names := [], isGenerator := false, isCoroutine := false }⟩
def lamE : Expr → Lam
  | .Lambda p b sc _ => ⟨p, b, sc⟩
  | .List [.Lambda p b sc _] _ => ⟨p, b, sc⟩
  | .Call _ [.Lambda p b sc _] _ _ => ⟨p, b, sc⟩
  | .Compare (.Call _ [.Lambda p b sc _] _ _) _ _ _ => ⟨p, b, sc⟩
  | .BoolOp _ [_, .Compare (.Call _ [.Lambda p b sc _] _ _) _ _ _] _ => ⟨p, b, sc⟩
  | .List [.Call _ [.Lambda p b sc _] _ _] _ => ⟨p, b, sc⟩
  | _ => lam0
def lamS : Stmt → Lam
  | .Assign _ e _ => lamE e
  | .Expr (.Call _ [e] _ _) _ => lamE e
  | .Return (some e) _ => lamE e
  | .If e _ _ _ => lamE e
  | _ => lam0
def lamAt (st : Stmt) (i : Nat) : Lam := lamS ((defBody st).getD i (.Pass ⟨0, 0, 0, 0⟩))
/-! ### methods by name -/
structure MtX (K : PySem.W.Frag) (C : Addr) (name qual : Str) (st : Stmt) (ps : List Str) : Prop where
  ex : ∃ f fd, MtF K C name qual st f fd ps
structure MX (K : PySem.W.Frag) (C : Addr) : Prop where
  e : MtX K C "end" "Operators.end" mEnd ["self", "tree", "place"]
  s : MtX K C "subtree" "Operators.subtree" mSub ["self", "tree", "place"]
  k : MtX K C "children" "Operators.children" mKids ["self", "tree", "place"]
  a : MtX K C "above" "Operators.above" mAbove ["self", "tree", "place"]
  c : MtX K C "cut" "Operators.cut" mCut ["self", "tree", "place"]
  l : MtX K C "levels" "Operators.levels" mLevels ["self", "tree"]
  n : MtX K C "number_of" "Operators.number_of" mNumOf ["self", "tree"]
  r : MtX K C "replaced" "Operators.replaced" mReplaced ["self", "tree", "place", "other"]
  q : MtX K C "_parents" "Operators._parents" mParents ["self", "tree"]
abbrev tM1 (C : Addr) (m : Str) (sp : Sp) : XK → TE := fun E => tMeth C m sp [] E (tVar 0) (tCons (tVar 1) tNil)
abbrev tM2 (C : Addr) (m : Str) (sp : Sp) : XK → TE := fun E => tMeth C m sp [] E (tVar 0) (tCons (tVar 1) (tCons (tVar 2) tNil))
/-- the fields of the operators -/
abbrev opF (a1 a2 a3 a4 a5 a6 : V) : List (Str × V) := [("_names", a1), ("_arities", a2), ("_lines", a3), ("_many", a4), ("_counts", a5), ("_rows", a6)]
def NoF (m : Str) : Prop := ∀ a1 a2 a3 a4 a5 a6 : V, (opF a1 a2 a3 a4 a5 a6).lookup m = none
section
variable {C CT CN o : Addr} {m : Str} {H : Hp} {Q : VK} {l : List (Str × Nat)} {x : Option (List V)} {v pl u : V} {ty : String}
/-- what a call gives whose value is no tree -/
theorem tw_bad2 (hm : NoF m) (op : OpsAt H C o l) (vw : Vw H v x) (bad : tB l x = false) (kd : Kd H pl ty) (q : ∀ H', Same H H' → Q (.str "tree") H') : TWord CT CN (tM2 C m (spBadP C CT CN)) [some (.ref o), some v, some pl] H Q := by
  intro E' hE
  obtain ⟨dx, tn, ta, tl, ho, _⟩ := op.ex
  refine ⟨_, rfl, o, dx, _, rfl, ho, hm _ _ _ _ _ _, _, rfl, _, rfl, o, v, pl, rfl, o, v, pl, l, x, ty, rfl, op, vw, kd, fun _ H' s => hE _ _ _ (.inl ⟨rfl, q H' s⟩), fun xs t _ => ?_⟩
  rw [bad] at t
  cases t
theorem tw_bad1 (hm : NoF m) (op : OpsAt H C o l) (vw : Vw H v x) (bad : tB l x = false) (q : ∀ H', Same H H' → Q (.str "tree") H') : TWord CT CN (tM1 C m (spBadT C CT)) [some (.ref o), some v] H Q := by
  intro E' hE
  obtain ⟨dx, tn, ta, tl, ho, _⟩ := op.ex
  refine ⟨_, rfl, o, dx, _, rfl, ho, hm _ _ _ _ _ _, _, rfl, o, v, rfl, o, v, l, x, rfl, op, vw, fun t => ?_, fun _ H' s => hE _ _ _ (.inl ⟨rfl, q H' s⟩)⟩
  rw [bad] at t
  cases t
/-- what a call gives whose number is no place -/
theorem bad_place {xs : List V} {n : Nat} {t : Str} {E' : XK} (op : OpsAt H C o l) (vw : Vw H v (some xs)) (fine : tB l (some xs) = true) (kd : Kd H pl ty) (np : plB pl xs.length = false) (sh : Sh H n pl t) (n50 : n ≤ 50) (tl : t.length ≤ 10000000)
    (q : ∀ H', Same H H' → Q (.str (("number " : Str) ++ t)) H') (hE : ∀ cls d H', wE CT CN Q cls d H' → E' cls d H') {R : VK} : spChP C CT CN [.ref o, v, pl] H R E' := by
  refine ⟨o, v, pl, l, some xs, ty, rfl, op, vw, kd, fun b => ?_, fun ys _ e => ?_⟩
  · rw [fine] at b
    cases b
  · cases e
    refine ⟨fun b => ?_, fun _ d H' s nd => hE _ _ _ (.inr ⟨rfl, d, pl, n, t, rfl, upd_same, Sh.keep (s.trans (Same.new nd)) _ _ _ sh, n50, tl, q _ (s.trans (Same.new nd))⟩)⟩
    rw [np] at b
    cases b
theorem tw_num2 {xs : List V} {n : Nat} {t : Str} (hm : NoF m) (op : OpsAt H C o l) (vw : Vw H v (some xs)) (fine : tB l (some xs) = true) (kd : Kd H pl ty) (np : plB pl xs.length = false) (sh : Sh H n pl t) (n50 : n ≤ 50) (tl : t.length ≤ 10000000)
    (q : ∀ H', Same H H' → Q (.str (("number " : Str) ++ t)) H') : TWord CT CN (tM2 C m (spBadP C CT CN)) [some (.ref o), some v, some pl] H Q := by
  intro E' hE
  obtain ⟨dx, tn, ta, tl', ho, _⟩ := op.ex
  exact ⟨_, rfl, o, dx, _, rfl, ho, hm _ _ _ _ _ _, _, rfl, _, rfl, o, v, pl, rfl, bad_place op vw fine kd np sh n50 tl q hE⟩
end
end Pr
namespace Pr
open PySem PySem.Spec PyProof.Rows L2 Gd LamX NdefX Clo
/-! ### the lambdas of _law_trees_right, read -/
section
variable {P : Program} {w : World} {K : PySem.W.Frag} {mg : Str → Option Value} {base : Heap} {C CT CN eN fW fT fC fP fE fI fN : Addr} {dW dT dC dP dE dI dN : FuncData} {tk tk2 : Tok}
abbrev ld_be (C CT CN : Addr) : LD := ⟨lamAt sTreesR 3, ["ops", "bad", "place"], [1, 5, 6], tM2 C "end" (spBadP C CT CN)⟩
theorem td_be (M : Ms K mg C fW fT fC fP fE fI fN dW dT dC dP dE dI dN tk) (gH : mg "HOLE" = some (.str hole tk2)) (IT : ItF K mg CT) (N : PySem.InumX.InumTxt K mg CN eN) (T : Free mg) (X : MX K C) : Told P w K mg base (L2.CX P w) 5 "_law_trees_right.<locals>.<lambda>" (lamAt sTreesR 3) ["ops", "bad", "place"] (tM2 C "end" (spBadP C CT CN)) := by
  obtain ⟨f1, d1, X1⟩ := X.e.ex
  refine ⟨nscope_by (by decide +kernel), fun _ _ _ _ => rfl, fun cl c f A outer s H E hr => pe_meth (pv 0) M.cf.cls X1.m (ok_mEndB X1.F M gH IT N T) (hr.mono (by decide)) X1.b .nil (E := E) (passes_call (takes_of rfl rfl rfl rfl) fun _ _ _ _ h => h) (pa_cons (pv 1) (pa_cons (pv 2) pa_nil))⟩
abbrev ld_bs (C CT CN : Addr) : LD := ⟨lamAt sTreesR 4, ["ops", "bad", "place"], [1, 5, 6], tM2 C "subtree" (spBadP C CT CN)⟩
theorem td_bs (M : Ms K mg C fW fT fC fP fE fI fN dW dT dC dP dE dI dN tk) (gH : mg "HOLE" = some (.str hole tk2)) (IT : ItF K mg CT) (N : PySem.InumX.InumTxt K mg CN eN) (T : Free mg) (X : MX K C) : Told P w K mg base (L2.CX P w) 5 "_law_trees_right.<locals>.<lambda>" (lamAt sTreesR 4) ["ops", "bad", "place"] (tM2 C "subtree" (spBadP C CT CN)) := by
  obtain ⟨f1, d1, X1⟩ := X.s.ex
  refine ⟨nscope_by (by decide +kernel), fun _ _ _ _ => rfl, fun cl c f A outer s H E hr => pe_meth (pv 0) M.cf.cls X1.m (ok_mSubB X1.F M gH IT N T) (hr.mono (by decide)) X1.b .nil (E := E) (passes_call (takes_of rfl rfl rfl rfl) fun _ _ _ _ h => h) (pa_cons (pv 1) (pa_cons (pv 2) pa_nil))⟩
abbrev ld_bk (C CT CN : Addr) : LD := ⟨lamAt sTreesR 5, ["ops", "bad", "place"], [1, 5, 6], tM2 C "children" (spBadP C CT CN)⟩
theorem td_bk (M : Ms K mg C fW fT fC fP fE fI fN dW dT dC dP dE dI dN tk) (gH : mg "HOLE" = some (.str hole tk2)) (IT : ItF K mg CT) (N : PySem.InumX.InumTxt K mg CN eN) (T : Free mg) (X : MX K C) : Told P w K mg base (L2.CX P w) 5 "_law_trees_right.<locals>.<lambda>" (lamAt sTreesR 5) ["ops", "bad", "place"] (tM2 C "children" (spBadP C CT CN)) := by
  obtain ⟨f1, d1, X1⟩ := X.k.ex
  refine ⟨nscope_by (by decide +kernel), fun _ _ _ _ => rfl, fun cl c f A outer s H E hr => pe_meth (pv 0) M.cf.cls X1.m (ok_mKidsB X1.F M gH IT N T) (hr.mono (by decide)) X1.b .nil (E := E) (passes_call (takes_of rfl rfl rfl rfl) fun _ _ _ _ h => h) (pa_cons (pv 1) (pa_cons (pv 2) pa_nil))⟩
abbrev ld_ba (C CT CN : Addr) : LD := ⟨lamAt sTreesR 6, ["ops", "bad", "place"], [1, 5, 6], tM2 C "above" (spBadP C CT CN)⟩
theorem td_ba (M : Ms K mg C fW fT fC fP fE fI fN dW dT dC dP dE dI dN tk) (gH : mg "HOLE" = some (.str hole tk2)) (IT : ItF K mg CT) (N : PySem.InumX.InumTxt K mg CN eN) (T : Free mg) (X : MX K C) : Told P w K mg base (L2.CX P w) 5 "_law_trees_right.<locals>.<lambda>" (lamAt sTreesR 6) ["ops", "bad", "place"] (tM2 C "above" (spBadP C CT CN)) := by
  obtain ⟨f1, d1, X1⟩ := X.a.ex
  refine ⟨nscope_by (by decide +kernel), fun _ _ _ _ => rfl, fun cl c f A outer s H E hr => pe_meth (pv 0) M.cf.cls X1.m (ok_mAboveB X1.F M gH IT N T) (hr.mono (by decide)) X1.b .nil (E := E) (passes_call (takes_of rfl rfl rfl rfl) fun _ _ _ _ h => h) (pa_cons (pv 1) (pa_cons (pv 2) pa_nil))⟩
abbrev ld_bc (C CT CN : Addr) : LD := ⟨lamAt sTreesR 7, ["ops", "bad", "place"], [1, 5, 6], tM2 C "cut" (spBadP C CT CN)⟩
theorem td_bc (M : Ms K mg C fW fT fC fP fE fI fN dW dT dC dP dE dI dN tk) (gH : mg "HOLE" = some (.str hole tk2)) (IT : ItF K mg CT) (N : PySem.InumX.InumTxt K mg CN eN) (T : Free mg) (X : MX K C) : Told P w K mg base (L2.CX P w) 5 "_law_trees_right.<locals>.<lambda>" (lamAt sTreesR 7) ["ops", "bad", "place"] (tM2 C "cut" (spBadP C CT CN)) := by
  obtain ⟨f1, d1, X1⟩ := X.c.ex
  refine ⟨nscope_by (by decide +kernel), fun _ _ _ _ => rfl, fun cl c f A outer s H E hr => pe_meth (pv 0) M.cf.cls X1.m (ok_mCutB X1.F M gH IT N T) (hr.mono (by decide)) X1.b .nil (E := E) (passes_call (takes_of rfl rfl rfl rfl) fun _ _ _ _ h => h) (pa_cons (pv 1) (pa_cons (pv 2) pa_nil))⟩
abbrev ld_te (C CT CN : Addr) : LD := ⟨lamAt sTreesR 12, ["ops", "tree", "place"], [1, 2, 6], tM2 C "end" (spBadP C CT CN)⟩
theorem td_te (M : Ms K mg C fW fT fC fP fE fI fN dW dT dC dP dE dI dN tk) (gH : mg "HOLE" = some (.str hole tk2)) (IT : ItF K mg CT) (N : PySem.InumX.InumTxt K mg CN eN) (T : Free mg) (X : MX K C) : Told P w K mg base (L2.CX P w) 5 "_law_trees_right.<locals>.<lambda>" (lamAt sTreesR 12) ["ops", "tree", "place"] (tM2 C "end" (spBadP C CT CN)) := by
  obtain ⟨f1, d1, X1⟩ := X.e.ex
  refine ⟨nscope_by (by decide +kernel), fun _ _ _ _ => rfl, fun cl c f A outer s H E hr => pe_meth (pv 0) M.cf.cls X1.m (ok_mEndB X1.F M gH IT N T) (hr.mono (by decide)) X1.b .nil (E := E) (passes_call (takes_of rfl rfl rfl rfl) fun _ _ _ _ h => h) (pa_cons (pv 1) (pa_cons (pv 2) pa_nil))⟩
abbrev ld_ts (C CT CN : Addr) : LD := ⟨lamAt sTreesR 13, ["ops", "tree", "place"], [1, 2, 6], tM2 C "subtree" (spBadP C CT CN)⟩
theorem td_ts (M : Ms K mg C fW fT fC fP fE fI fN dW dT dC dP dE dI dN tk) (gH : mg "HOLE" = some (.str hole tk2)) (IT : ItF K mg CT) (N : PySem.InumX.InumTxt K mg CN eN) (T : Free mg) (X : MX K C) : Told P w K mg base (L2.CX P w) 5 "_law_trees_right.<locals>.<lambda>" (lamAt sTreesR 13) ["ops", "tree", "place"] (tM2 C "subtree" (spBadP C CT CN)) := by
  obtain ⟨f1, d1, X1⟩ := X.s.ex
  refine ⟨nscope_by (by decide +kernel), fun _ _ _ _ => rfl, fun cl c f A outer s H E hr => pe_meth (pv 0) M.cf.cls X1.m (ok_mSubB X1.F M gH IT N T) (hr.mono (by decide)) X1.b .nil (E := E) (passes_call (takes_of rfl rfl rfl rfl) fun _ _ _ _ h => h) (pa_cons (pv 1) (pa_cons (pv 2) pa_nil))⟩
abbrev ld_tk (C CT CN : Addr) : LD := ⟨lamAt sTreesR 14, ["ops", "tree", "place"], [1, 2, 6], tM2 C "children" (spBadP C CT CN)⟩
theorem td_tk (M : Ms K mg C fW fT fC fP fE fI fN dW dT dC dP dE dI dN tk) (gH : mg "HOLE" = some (.str hole tk2)) (IT : ItF K mg CT) (N : PySem.InumX.InumTxt K mg CN eN) (T : Free mg) (X : MX K C) : Told P w K mg base (L2.CX P w) 5 "_law_trees_right.<locals>.<lambda>" (lamAt sTreesR 14) ["ops", "tree", "place"] (tM2 C "children" (spBadP C CT CN)) := by
  obtain ⟨f1, d1, X1⟩ := X.k.ex
  refine ⟨nscope_by (by decide +kernel), fun _ _ _ _ => rfl, fun cl c f A outer s H E hr => pe_meth (pv 0) M.cf.cls X1.m (ok_mKidsB X1.F M gH IT N T) (hr.mono (by decide)) X1.b .nil (E := E) (passes_call (takes_of rfl rfl rfl rfl) fun _ _ _ _ h => h) (pa_cons (pv 1) (pa_cons (pv 2) pa_nil))⟩
abbrev ld_ta (C CT CN : Addr) : LD := ⟨lamAt sTreesR 15, ["ops", "tree", "place"], [1, 2, 6], tM2 C "above" (spBadP C CT CN)⟩
theorem td_ta (M : Ms K mg C fW fT fC fP fE fI fN dW dT dC dP dE dI dN tk) (gH : mg "HOLE" = some (.str hole tk2)) (IT : ItF K mg CT) (N : PySem.InumX.InumTxt K mg CN eN) (T : Free mg) (X : MX K C) : Told P w K mg base (L2.CX P w) 5 "_law_trees_right.<locals>.<lambda>" (lamAt sTreesR 15) ["ops", "tree", "place"] (tM2 C "above" (spBadP C CT CN)) := by
  obtain ⟨f1, d1, X1⟩ := X.a.ex
  refine ⟨nscope_by (by decide +kernel), fun _ _ _ _ => rfl, fun cl c f A outer s H E hr => pe_meth (pv 0) M.cf.cls X1.m (ok_mAboveB X1.F M gH IT N T) (hr.mono (by decide)) X1.b .nil (E := E) (passes_call (takes_of rfl rfl rfl rfl) fun _ _ _ _ h => h) (pa_cons (pv 1) (pa_cons (pv 2) pa_nil))⟩
abbrev ld_tc (C CT CN : Addr) : LD := ⟨lamAt sTreesR 16, ["ops", "tree", "place"], [1, 2, 6], tM2 C "cut" (spBadP C CT CN)⟩
theorem td_tc (M : Ms K mg C fW fT fC fP fE fI fN dW dT dC dP dE dI dN tk) (gH : mg "HOLE" = some (.str hole tk2)) (IT : ItF K mg CT) (N : PySem.InumX.InumTxt K mg CN eN) (T : Free mg) (X : MX K C) : Told P w K mg base (L2.CX P w) 5 "_law_trees_right.<locals>.<lambda>" (lamAt sTreesR 16) ["ops", "tree", "place"] (tM2 C "cut" (spBadP C CT CN)) := by
  obtain ⟨f1, d1, X1⟩ := X.c.ex
  refine ⟨nscope_by (by decide +kernel), fun _ _ _ _ => rfl, fun cl c f A outer s H E hr => pe_meth (pv 0) M.cf.cls X1.m (ok_mCutB X1.F M gH IT N T) (hr.mono (by decide)) X1.b .nil (E := E) (passes_call (takes_of rfl rfl rfl rfl) fun _ _ _ _ h => h) (pa_cons (pv 1) (pa_cons (pv 2) pa_nil))⟩
abbrev ld_bl (C CT CN : Addr) : LD := ⟨lamAt sTreesR 9, ["ops", "bad"], [1, 5], tM1 C "levels" (spBadT C CT)⟩
theorem td_bl (M : Ms K mg C fW fT fC fP fE fI fN dW dT dC dP dE dI dN tk) (gH : mg "HOLE" = some (.str hole tk2)) (IT : ItF K mg CT) (N : PySem.InumX.InumTxt K mg CN eN) (T : Free mg) (X : MX K C) : Told P w K mg base (L2.CX P w) 5 "_law_trees_right.<locals>.<lambda>" (lamAt sTreesR 9) ["ops", "bad"] (tM1 C "levels" (spBadT C CT)) := by
  obtain ⟨f1, d1, X1⟩ := X.l.ex
  refine ⟨nscope_by (by decide +kernel), fun _ _ _ _ => rfl, fun cl c f A outer s H E hr => pe_meth (pv 0) M.cf.cls X1.m (ok_mLevelsB X1.F M gH IT T) (hr.mono (by decide)) X1.b .nil (E := E) (passes_call (takes_of rfl rfl rfl rfl) fun _ _ _ _ h => h) (pa_cons (pv 1) pa_nil)⟩
abbrev ld_bn (C CT CN : Addr) : LD := ⟨lamAt sTreesR 10, ["ops", "bad"], [1, 5], tM1 C "number_of" (spBadT C CT)⟩
theorem td_bn (M : Ms K mg C fW fT fC fP fE fI fN dW dT dC dP dE dI dN tk) (gH : mg "HOLE" = some (.str hole tk2)) (IT : ItF K mg CT) (N : PySem.InumX.InumTxt K mg CN eN) (T : Free mg) (X : MX K C) : Told P w K mg base (L2.CX P w) 5 "_law_trees_right.<locals>.<lambda>" (lamAt sTreesR 10) ["ops", "bad"] (tM1 C "number_of" (spBadT C CT)) := by
  obtain ⟨f1, d1, X1⟩ := X.n.ex
  refine ⟨nscope_by (by decide +kernel), fun _ _ _ _ => rfl, fun cl c f A outer s H E hr => pe_meth (pv 0) M.cf.cls X1.m (ok_mNumOfB X1.F M gH IT T) (hr.mono (by decide)) X1.b .nil (E := E) (passes_call (takes_of rfl rfl rfl rfl) fun _ _ _ _ h => h) (pa_cons (pv 1) pa_nil)⟩
abbrev ld_br (C CT CN : Addr) : LD := ⟨lamAt sTreesR 8, ["ops", "bad", "place"], [1, 5, 6], fun E => tMeth C "replaced" (spBadR C CT CN) [] E (tVar 0) (tCons (tVar 1) (tCons (tVar 2) (tCons (tVar 1) tNil)))⟩
theorem td_br (M : Ms K mg C fW fT fC fP fE fI fN dW dT dC dP dE dI dN tk) (gH : mg "HOLE" = some (.str hole tk2)) (IT : ItF K mg CT) (N : PySem.InumX.InumTxt K mg CN eN) (T : Free mg) (X : MX K C) : Told P w K mg base (L2.CX P w) 5 "_law_trees_right.<locals>.<lambda>" (lamAt sTreesR 8) ["ops", "bad", "place"] (fun E => tMeth C "replaced" (spBadR C CT CN) [] E (tVar 0) (tCons (tVar 1) (tCons (tVar 2) (tCons (tVar 1) tNil)))) := by
  obtain ⟨f1, d1, X1⟩ := X.r.ex
  refine ⟨nscope_by (by decide +kernel), fun _ _ _ _ => rfl, fun cl c f A outer s H E hr => pe_meth (pv 0) M.cf.cls X1.m (ok_mReplacedB X1.F M gH IT N T) (hr.mono (by decide)) X1.b .nil (E := E) (passes_call (takes_of rfl rfl rfl rfl) fun _ _ _ _ h => h) (pa_cons (pv 1) (pa_cons (pv 2) (pa_cons (pv 1) pa_nil)))⟩
abbrev ld_tr (C CT CN : Addr) : LD := ⟨lamAt sTreesR 17, ["ops", "tree", "place", "bad"], [1, 2, 6, 5], fun E => tMeth C "replaced" (spBadR C CT CN) [] E (tVar 0) (tCons (tVar 1) (tCons (tVar 2) (tCons (tVar 3) tNil)))⟩
theorem td_tr (M : Ms K mg C fW fT fC fP fE fI fN dW dT dC dP dE dI dN tk) (gH : mg "HOLE" = some (.str hole tk2)) (IT : ItF K mg CT) (N : PySem.InumX.InumTxt K mg CN eN) (T : Free mg) (X : MX K C) : Told P w K mg base (L2.CX P w) 5 "_law_trees_right.<locals>.<lambda>" (lamAt sTreesR 17) ["ops", "tree", "place", "bad"] (fun E => tMeth C "replaced" (spBadR C CT CN) [] E (tVar 0) (tCons (tVar 1) (tCons (tVar 2) (tCons (tVar 3) tNil)))) := by
  obtain ⟨f1, d1, X1⟩ := X.r.ex
  refine ⟨nscope_by (by decide +kernel), fun _ _ _ _ => rfl, fun cl c f A outer s H E hr => pe_meth (pv 0) M.cf.cls X1.m (ok_mReplacedB X1.F M gH IT N T) (hr.mono (by decide)) X1.b .nil (E := E) (passes_call (takes_of rfl rfl rfl rfl) fun _ _ _ _ h => h) (pa_cons (pv 1) (pa_cons (pv 2) (pa_cons (pv 3) pa_nil)))⟩
abbrev ld_t0 (C CT CN : Addr) : LD := ⟨lamAt sTreesR 19, ["ops", "tree", "bad"], [1, 2, 5], fun E => tMeth C "replaced" (spBadR C CT CN) [] E (tVar 0) (tCons (tVar 1) (tCons (tC (.int 0)) (tCons (tVar 2) tNil)))⟩
theorem td_t0 (M : Ms K mg C fW fT fC fP fE fI fN dW dT dC dP dE dI dN tk) (gH : mg "HOLE" = some (.str hole tk2)) (IT : ItF K mg CT) (N : PySem.InumX.InumTxt K mg CN eN) (T : Free mg) (X : MX K C) : Told P w K mg base (L2.CX P w) 5 "_law_trees_right.<locals>.<lambda>" (lamAt sTreesR 19) ["ops", "tree", "bad"] (fun E => tMeth C "replaced" (spBadR C CT CN) [] E (tVar 0) (tCons (tVar 1) (tCons (tC (.int 0)) (tCons (tVar 2) tNil)))) := by
  obtain ⟨f1, d1, X1⟩ := X.r.ex
  refine ⟨nscope_by (by decide +kernel), fun _ _ _ _ => rfl, fun cl c f A outer s H E hr => pe_meth (pv 0) M.cf.cls X1.m (ok_mReplacedB X1.F M gH IT N T) (hr.mono (by decide)) X1.b .nil (E := E) (passes_call (takes_of rfl rfl rfl rfl) fun _ _ _ _ h => h) (pa_cons (pv 1) (pa_cons pe_int (pa_cons (pv 2) pa_nil)))⟩
abbrev ld_tl (C CT CN : Addr) : LD := ⟨lamAt sTreesR 20, ["ops", "tree"], [1, 2], fun _ => tMeth C "levels" (spLvl C) [] E0 (tVar 0) (tCons (tVar 1) tNil)⟩
theorem td_tl (M : Ms K mg C fW fT fC fP fE fI fN dW dT dC dP dE dI dN tk) (gH : mg "HOLE" = some (.str hole tk2)) (IT : ItF K mg CT) (N : PySem.InumX.InumTxt K mg CN eN) (T : Free mg) (X : MX K C) : Told P w K mg base (L2.CX P w) 5 "_law_trees_right.<locals>.<lambda>" (lamAt sTreesR 20) ["ops", "tree"] (fun _ => tMeth C "levels" (spLvl C) [] E0 (tVar 0) (tCons (tVar 1) tNil)) := by
  obtain ⟨f1, d1, X1⟩ := X.l.ex
  obtain ⟨f2, d2, X2⟩ := X.q.ex
  refine ⟨nscope_by (by decide +kernel), fun _ _ _ _ => rfl, fun cl c f A outer s H E hr => pe_meth (pv 0) M.cf.cls X1.m (ok_lvl X1.F M T X2.F X2.b X2.m) (hr.mono (by decide)) X1.b .nil (E := E0) (fun _ _ _ _ _ _ _ h => h.elim) (pa_cons (pv 1) pa_nil)⟩
end
end Pr
namespace Pr
open PySem PySem.Spec PyProof.Rows L2 Gd LamX NdefX Clo
/-! ### what is kept where only tables of code objects grow -/
theorem TX.extN {H H' : Hp} {a : Addr} {xs : List V} (h : Tx.TX H a xs) (k : ExtN H H') : Tx.TX H' a xs := let ⟨o, e, x⟩ := h; ⟨o, k _ _ e (fun _ z => nomatch z), x⟩
theorem Kd.extN {H H' : Hp} {v : V} {t : String} (h : Kd H v t) (k : ExtN H H') : Kd H' v t := by
  cases h with
  | non => exact .non
  | bl b => exact .bl b
  | int i => exact .int i
  | str z => exact .str z
  | lst e => exact .lst (k _ _ e (fun _ z => nomatch z))
  | tup e => exact .tup (TX.extN e k)
  | dK e => exact .dK (k _ _ e (fun _ z => nomatch z))
theorem Ji.extN {H H' : Hp} {v : V} (h : Ji H v) (k : ExtN H H') : Ji H' v := let ⟨ty, q, n⟩ := h; ⟨ty, q.extN k, n⟩
theorem Vw.extN {H H' : Hp} {v : V} {o : Option (List V)} (h : Vw H v o) (k : ExtN H H') : Vw H' v o := by
  cases h with
  | not q ne => exact .not (q.extN k) ne
  | tup t j => exact .tup (TX.extN t k) fun x m => (j x m).extN k
theorem Sh.extN {H H' : Hp} (k : ExtN H H') : ∀ (n : Nat) (v : V) (t : Str), Sh H n v t → Sh H' n v t
  | 0, _, _, h => h
  | n + 1, _, _, h => by
    rcases h with h | ⟨a, xs, ts, rfl, e, p, rfl⟩ | ⟨a, xs, ts, rfl, e, p, rfl⟩ | ⟨a, xs, ts, rfl, e, p, rfl⟩
    · exact .inl h
    · exact Sh.lst (k _ _ e (fun _ z => nomatch z)) (L2.Paired.mapP p fun x t q => Sh.extN k n x t q)
    · exact Sh.tup (TX.extN e k) (L2.Paired.mapP p fun x t q => Sh.extN k n x t q)
    · exact Sh.dK (k _ _ e (fun _ z => nomatch z)) (L2.Paired.mapP p fun x t q => ⟨q.1, Sh.extN k n x.2 t q.2⟩)
theorem Rd.extN {H H' : Hp} {a : Addr} {u : HO} (h : Rd H a u) (k : ExtN H H') (n : ∀ ps, u ≠ .tbl ps) : Rd H' a u := by
  rcases h with h | ⟨o, h⟩
  · exact .inl (k _ _ h n)
  · exact .inr ⟨o, k _ _ h (fun _ z => nomatch z)⟩
theorem OpsAt.extN {H H' : Hp} {C o : Addr} {l : List (Str × Nat)} (h : OpsAt H C o l) (k : ExtN H H') : OpsAt H' C o l :=
  let ⟨dx, tn, ta, tl, a, b, c⟩ := h.ex
  ⟨dx, tn, ta, tl, k _ _ a (fun _ z => nomatch z), Rd.extN b k (fun _ z => nomatch z), k _ _ c (fun _ z => nomatch z)⟩
theorem Wp.extN {H H' : Hp} {a : Addr} {zs : List Str} (h : Wp H a zs) (k : ExtN H H') : Wp H' a zs := TX.extN h k
theorem ExtN.same {H H1 : Hp} (s : Same H H1) : ExtN H H1 := fun b o e _ => s b o e
theorem KN.extN {H H1 : Hp} (k : KN (fun _ => False) H H1) : ExtN H H1 := fun b o e t => k b o (fun z => z) e t
/-- nothing of the heap before is at L, so a change at L counts for nothing there -/
theorem ExtN.kn {H H1 H2 : Hp} {L : Addr} (a : ExtN H H1) (nL : H L = none) (k : KN (fun b => b = L) H1 H2) : ExtN H H2 := fun b o e t => k b o (ne_of_none e nL) (a b o e t) t
theorem Hm.same {d : Addr} {H : Hp} : Same (Hm d H) H := fun _ _ e => (Hm.some_of e).1
/-- a value that is no tree; a number that is no place -/
def BadV (l : List (Str × Nat)) (H : Hp) (v : V) : Prop := ∃ x, Vw H v x ∧ tB l x = false
def BadN (n : Nat) (H : Hp) (v : V) : Prop := ∃ ty m t, Kd H v ty ∧ Sh H m v t ∧ m ≤ 40 ∧ t.length ≤ 1000000 ∧ plB v n = false
theorem BadV.same {l : List (Str × Nat)} {H H' : Hp} {v : V} (h : BadV l H v) (s : Same H H') : BadV l H' v := let ⟨x, a, b⟩ := h; ⟨x, a.same s, b⟩
theorem BadN.same {n : Nat} {H H' : Hp} {v : V} (h : BadN n H v) (s : Same H H') : BadN n H' v := let ⟨ty, m, t, a, b, c, d, e⟩ := h; ⟨ty, m, t, a.same s, Sh.keep s _ _ _ b, c, d, e⟩
theorem pl_not {v : V} {n : Nat} (h : ∀ i, v ≠ .int i) : plB v n = false := by
  unfold plB
  cases v with
  | int i => exact absurd rfl (h i)
  | _ => exact Bool.and_false _
theorem pl_int {i : Int} {n : Nat} (h : isCount (.int i) = false ∨ (n : Int) ≤ i) : plB (.int i) n = false := by
  unfold plB
  rw [isCountO_eq]
  rcases h with h | h
  · rw [h]
    rfl
  · show (_ && decide (i < (n : Int))) = false
    rw [decide_eq_false (by omega), Bool.and_false]
theorem Vd.badN {H : Hp} {n : Nat} {v : V} (h : Vd H 4 100000 v) (p : plB v n = false) : BadN n H v := by
  obtain ⟨ty, k⟩ := h.kd
  obtain ⟨t, s, l⟩ := h.sm
  exact ⟨ty, 4, t, k, s, by decide, by omega, p⟩
/-- two trees, one behind the other, are no tree -/
theorem wgo_two {l : List (Str × Nat)} (nd : (l.map (·.1)).Nodup) {zs : List Str} (h : Fo l 1 zs) : wgo l 1 ((zs ++ zs).map V.str) = false := by
  cases e : wgo l 1 ((zs ++ zs).map V.str) with
  | false => rfl
  | true =>
    have f := wgo_fo (n := 1) e val_in
    have g : Fo l 2 (zs ++ zs) := h.join h
    exact absurd (Fo.uniq nd f g) (by decide)
end Pr
namespace Pr
open PySem PySem.Spec PyProof.Rows L2 Gd LamX NdefX Clo
/-! ### captured names, checked -/
def capsB (N : List Str) (sc : Scope) (l : Lam) (fr : List Str) (js : List Nat) : Bool :=
  l.scope.names.all (fun y => !decide (y.2 = .free) || decide (sc.names.lookup y.1 = some .cell) || decide (sc.names.lookup y.1 = some .free)) && fr.all (fun y => decide ((y, NameKind.free) ∈ l.scope.names)) && decide (js.map (fun j => N[j]?) = fr.map some)
theorem caps_by {X : Cx} {N : List Str} {sc : Scope} {l : Lam} {fr : List Str} {js : List Nat} (h : capsB N sc l fr js = true) (hN : X.N = N) (hs : X.env.scope = sc) (ok : X.Ok) : Caps X (cloFrom X.env.cells l.scope.names []) fr js := by
  unfold capsB at h
  simp only [Bool.and_eq_true, Bool.or_eq_true, List.all_eq_true, decide_eq_true_eq, Bool.not_eq_true', decide_eq_false_iff_not] at h
  obtain ⟨⟨h1, h2⟩, h3⟩ := h
  subst hN hs
  exact .made ok (fun y hy e => (h1 y hy).elim (fun z => z.elim (fun n => absurd e n) .inl) .inr) (fun y hy => h2 y hy) h3
/-- a promise of each of a list -/
theorem all_nil {α : Type} {p : α → Prop} : ∀ x ∈ ([] : List α), p x := fun _ m => nomatch m
theorem all_cons {α : Type} {p : α → Prop} {a : α} {l : List α} (h : p a) (t : ∀ x ∈ l, p x) : ∀ x ∈ a :: l, p x := fun x m => by
  rcases List.mem_cons.mp m with e | m
  · rw [e]
    exact h
  · exact t x m
theorem caps_all {X : Cx} {N : List Str} {sc : Scope} {Ds : List LD} (hN : X.N = N) (hs : X.env.scope = sc) (h : ∀ d ∈ Ds, capsB N sc d.l d.fr d.js = true) : ∀ d ∈ Ds, X.Ok → Caps X (cloFrom X.env.cells d.l.scope.names []) d.fr d.js := fun d m ok => caps_by (h d m) hN hs ok
def NT : List Str := ["dice", "ops", "tree", "context", "odd", "bad", "place", "calls", "told", "value", "call"]
theorem cp_be : capsB NT (defScope sTreesR) (lamAt sTreesR 3) ["ops", "bad", "place"] [1, 5, 6] = true := by decide +kernel
theorem ls_be : LamS (defScope sTreesR) (lamAt sTreesR 3).scope := lamS_by (by decide +kernel)
theorem cp_bs : capsB NT (defScope sTreesR) (lamAt sTreesR 4) ["ops", "bad", "place"] [1, 5, 6] = true := by decide +kernel
theorem ls_bs : LamS (defScope sTreesR) (lamAt sTreesR 4).scope := lamS_by (by decide +kernel)
theorem cp_bk : capsB NT (defScope sTreesR) (lamAt sTreesR 5) ["ops", "bad", "place"] [1, 5, 6] = true := by decide +kernel
theorem ls_bk : LamS (defScope sTreesR) (lamAt sTreesR 5).scope := lamS_by (by decide +kernel)
theorem cp_ba : capsB NT (defScope sTreesR) (lamAt sTreesR 6) ["ops", "bad", "place"] [1, 5, 6] = true := by decide +kernel
theorem ls_ba : LamS (defScope sTreesR) (lamAt sTreesR 6).scope := lamS_by (by decide +kernel)
theorem cp_bc : capsB NT (defScope sTreesR) (lamAt sTreesR 7) ["ops", "bad", "place"] [1, 5, 6] = true := by decide +kernel
theorem ls_bc : LamS (defScope sTreesR) (lamAt sTreesR 7).scope := lamS_by (by decide +kernel)
theorem cp_te : capsB NT (defScope sTreesR) (lamAt sTreesR 12) ["ops", "tree", "place"] [1, 2, 6] = true := by decide +kernel
theorem ls_te : LamS (defScope sTreesR) (lamAt sTreesR 12).scope := lamS_by (by decide +kernel)
theorem cp_ts : capsB NT (defScope sTreesR) (lamAt sTreesR 13) ["ops", "tree", "place"] [1, 2, 6] = true := by decide +kernel
theorem ls_ts : LamS (defScope sTreesR) (lamAt sTreesR 13).scope := lamS_by (by decide +kernel)
theorem cp_tk : capsB NT (defScope sTreesR) (lamAt sTreesR 14) ["ops", "tree", "place"] [1, 2, 6] = true := by decide +kernel
theorem ls_tk : LamS (defScope sTreesR) (lamAt sTreesR 14).scope := lamS_by (by decide +kernel)
theorem cp_ta : capsB NT (defScope sTreesR) (lamAt sTreesR 15) ["ops", "tree", "place"] [1, 2, 6] = true := by decide +kernel
theorem ls_ta : LamS (defScope sTreesR) (lamAt sTreesR 15).scope := lamS_by (by decide +kernel)
theorem cp_tc : capsB NT (defScope sTreesR) (lamAt sTreesR 16) ["ops", "tree", "place"] [1, 2, 6] = true := by decide +kernel
theorem ls_tc : LamS (defScope sTreesR) (lamAt sTreesR 16).scope := lamS_by (by decide +kernel)
theorem cp_bl : capsB NT (defScope sTreesR) (lamAt sTreesR 9) ["ops", "bad"] [1, 5] = true := by decide +kernel
theorem ls_bl : LamS (defScope sTreesR) (lamAt sTreesR 9).scope := lamS_by (by decide +kernel)
theorem cp_bn : capsB NT (defScope sTreesR) (lamAt sTreesR 10) ["ops", "bad"] [1, 5] = true := by decide +kernel
theorem ls_bn : LamS (defScope sTreesR) (lamAt sTreesR 10).scope := lamS_by (by decide +kernel)
theorem cp_br : capsB NT (defScope sTreesR) (lamAt sTreesR 8) ["ops", "bad", "place"] [1, 5, 6] = true := by decide +kernel
theorem ls_br : LamS (defScope sTreesR) (lamAt sTreesR 8).scope := lamS_by (by decide +kernel)
theorem cp_tr : capsB NT (defScope sTreesR) (lamAt sTreesR 17) ["ops", "tree", "place", "bad"] [1, 2, 6, 5] = true := by decide +kernel
theorem ls_tr : LamS (defScope sTreesR) (lamAt sTreesR 17).scope := lamS_by (by decide +kernel)
theorem cp_t0 : capsB NT (defScope sTreesR) (lamAt sTreesR 19) ["ops", "tree", "bad"] [1, 2, 5] = true := by decide +kernel
theorem ls_t0 : LamS (defScope sTreesR) (lamAt sTreesR 19).scope := lamS_by (by decide +kernel)
theorem cp_tl : capsB NT (defScope sTreesR) (lamAt sTreesR 20) ["ops", "tree"] [1, 2] = true := by decide +kernel
theorem ls_tl : LamS (defScope sTreesR) (lamAt sTreesR 20).scope := lamS_by (by decide +kernel)
end Pr
namespace Pr
open PySem PySem.Spec PyProof.Rows L2 Gd LamX NdefX Clo
/-! ### readings of lists of lambdas -/
section
variable {T : List (Addr × Str)} {q : Str} {cells : List (Str × Addr)} {H : Hp} {L : Addr} {ls : List Lam} {l : Lam} {σ : L2.St} {R : VK}
theorem lams_oneT (t : Tabs T H) (k : ∀ (L : Addr) (H' : Hp), ExtN H H' → H L = none → Lams T q cells H' L [l] → R (.ref L) H') : tLst (tCons (tLamV T q l (cloFrom cells l.scope.names [])) tNil) σ H R := lams_one t k
theorem lams_addT {K : PySem.W.Frag} {i : Nat} (hi : σ[i]? = some (some (.ref L))) (h : Lams T q cells H L ls) (few : ls.length < 1000) (k : ∀ H', KN (fun b => b = L) H H' → Lams T q cells H' L (ls ++ [l]) → R .non H') :
    tBM K "list" rAppend (tVar i) (tCons (tLamV T q l (cloFrom cells l.scope.names [])) tNil) σ H R := by
  obtain ⟨fs, e, p⟩ := h.fs
  exact ⟨_, hi, .inl ⟨rfl, _, SqL.of e⟩, lams_add h few k⟩
end
theorem Tabs.kp {T : List (Addr × Str)} {H H' : Hp} {d : Addr} {xs : List V} (t : Tabs T H) (hd : H d = some (.lst xs)) (k : Kp d H H') : Tabs T H' := fun p hp => by
  obtain ⟨ps, a1, a2, a3⟩ := t p hp
  have ne : ∀ {b : Addr} {o : HO}, (∀ xs, o ≠ .lst xs) → H b = some o → b ≠ d := fun n e z => by
    rw [z, hd] at e
    exact n _ (Option.some.inj e).symm
  refine ⟨ps, k _ _ (ne (fun xs z => by cases z) a1) a1, a2, fun pos cv hc => ?_⟩
  obtain ⟨c', e1, e2⟩ := a3 pos cv hc
  exact ⟨c', e1, k _ _ (ne (fun xs z => by unfold CodeO at z; cases z) e2) e2⟩
section
variable {C CT CN o : Addr} {H : Hp} {Q : VK} {l : List (Str × Nat)} {x : Option (List V)} {v pl u : V} {ty : String}
theorem tw_bad3 (op : OpsAt H C o l) (vw : Vw H v x) (bad : tB l x = false) (kd : Kd H pl ty) (q : ∀ H', Same H H' → Q (.str "tree") H') : TWord CT CN (fun E => tMeth C "replaced" (spBadR C CT CN) [] E (tVar 0) (tCons (tVar 1) (tCons (tVar 2) (tCons (tVar 1) tNil)))) [some (.ref o), some v, some pl] H Q := by
  intro E' hE
  obtain ⟨dx, tn, ta, tl, ho, _⟩ := op.ex
  refine ⟨_, rfl, o, dx, _, rfl, ho, rfl, _, rfl, _, rfl, _, rfl, o, v, pl, v, rfl, o, v, pl, l, x, ty, rfl, op, vw, kd, fun _ H' s => hE _ _ _ (.inl ⟨rfl, q H' s⟩), fun xs t _ => ?_⟩
  rw [bad] at t
  cases t
theorem tw_num3 {xs : List V} {n : Nat} {t : Str} (op : OpsAt H C o l) (vw : Vw H v (some xs)) (fine : tB l (some xs) = true) (kd : Kd H pl ty) (np : plB pl xs.length = false) (sh : Sh H n pl t) (n50 : n ≤ 50) (tl : t.length ≤ 10000000)
    (q : ∀ H', Same H H' → Q (.str (("number " : Str) ++ t)) H') : TWord CT CN (fun E => tMeth C "replaced" (spBadR C CT CN) [] E (tVar 0) (tCons (tVar 1) (tCons (tVar 2) (tCons (tVar 3) tNil)))) [some (.ref o), some v, some pl, some u] H Q := by
  intro E' hE
  obtain ⟨dx, tn, ta, tl', ho, _⟩ := op.ex
  exact ⟨_, rfl, o, dx, _, rfl, ho, rfl, _, rfl, _, rfl, _, rfl, o, v, pl, u, rfl, bad_place op vw fine kd np sh n50 tl q hE⟩
theorem tw_other {xs : List V} (op : OpsAt H C o l) (vw : Vw H v (some xs)) (fine : tB l (some xs) = true) (len : 0 < xs.length) (vu : Vw H u x) (bad : tB l x = false) (q : ∀ H', Same H H' → Q (.str "tree") H') :
    TWord CT CN (fun E => tMeth C "replaced" (spBadR C CT CN) [] E (tVar 0) (tCons (tVar 1) (tCons (tC (.int 0)) (tCons (tVar 2) tNil)))) [some (.ref o), some v, some u] H Q := by
  intro E' hE
  obtain ⟨dx, tn, ta, tl', ho, _⟩ := op.ex
  refine ⟨_, rfl, o, dx, _, rfl, ho, rfl, _, rfl, _, rfl, o, v, .int 0, u, rfl, o, v, .int 0, l, some xs, "int", rfl, op, vw, .int 0, fun b => ?_, fun ys _ e => ?_⟩
  · rw [fine] at b
    cases b
  · cases e
    refine ⟨fun _ => ⟨o, u, l, x, rfl, op, vu, fun t => ?_, fun _ H' s => hE _ _ _ (.inl ⟨rfl, q H' s⟩)⟩, fun b => ?_⟩
    · rw [bad] at t
      cases t
    · have z : plB (.int 0) xs.length = true := by
        unfold plB
        rw [isCountO_eq, show isCount (.int 0) = true from by decide +kernel]
        exact decide_eq_true (by omega)
      rw [z] at b
      cases b
end
end Pr
namespace Pr
open PySem PySem.Spec PyProof.Rows L2 Gd LamX NdefX Clo
/-! ### _law_trees_right -/
structure GlF (K : PySem.W.Frag) (mg : Str → Option Value) (name : Str) (st : Stmt) (f : Addr) (fd : FuncData) (ps : List Str) : Prop where
  F : Fun K name name st f fd
  b : Binds K fd ps []
  g : mg name = some (.ref f)
noncomputable def badB (l : List (Str × Nat)) (H : Hp) (v : V) : Bool := @decide (BadV l H v) (Classical.propDecidable _)
theorem Vw.det {H : Hp} {v : V} {x y : Option (List V)} (h : Vw H v x) (k : Vw H v y) : x = y := by
  have no : ∀ {a : Addr} {xs : List V} {ty : String}, Tx.TX H a xs → Kd H (.ref a) ty → ty ≠ "tuple" → False := fun t kd ne => by
    obtain ⟨o, e, _⟩ := t
    cases kd with
    | lst e2 =>
      rw [e] at e2
      cases e2
    | tup e2 => exact ne rfl
    | dK e2 =>
      rw [e] at e2
      cases e2
  cases h with
  | not kd ne =>
    cases k with
    | not _ _ => rfl
    | tup t _ => exact (no t kd ne).elim
  | tup t _ =>
    cases k with
    | not kd ne => exact (no t kd ne).elim
    | tup t2 _ => rw [TX.eq t t2]
theorem badB_eq {l : List (Str × Nat)} {H : Hp} {v : V} {x : Option (List V)} (h : Vw H v x) : badB l H v = !tB l x := by
  unfold badB
  cases e : tB l x with
  | false => exact @decide_eq_true _ (Classical.propDecidable _) ⟨x, h, e⟩
  | true =>
    refine @decide_eq_false _ (Classical.propDecidable _) fun ⟨y, k, z⟩ => ?_
    rw [← h.det k, e] at z
    cases z
theorem badB_of {l : List (Str × Nat)} {H : Hp} {v : V} (h : badB l H v = true) : BadV l H v := @of_decide_eq_true _ (Classical.propDecidable _) h
theorem scTR : FnScope NT ["dice", "ops", "tree", "context"] (defScope sTreesR) := ⟨rfl, rfl, rfl, by decide +kernel, rfl, by decide +kernel, by decide +kernel⟩
/-- a tree and a context over the operators at o -/
structure Sc8 (H : Hp) (C d o t cx : Addr) (l : List (Str × Nat)) (zs a b : List Str) : Prop where
  ops : OpsAt (Hm d H) C o l
  nd : (l.map (·.1)).Nodup
  no : hole ∉ l.map (·.1)
  few : l.length ≤ 8
  two : ∀ p ∈ l, p.2 ≤ 2
  tr : Wp (Hm d H) t zs
  fo : Fo l 1 zs
  lz : zs.length ≤ 10
  cx : Wp (Hm d H) cx (cxt a b)
  ic : IsC l a b
  lc : (cxt a b).length ≤ 10
theorem Sc8.same {H H' : Hp} {C d o t cx : Addr} {l : List (Str × Nat)} {zs a b : List Str} (h : Sc8 H C d o t cx l zs a b) (s : Same (Hm d H) (Hm d H')) : Sc8 H' C d o t cx l zs a b := ⟨h.ops.same s, h.nd, h.no, h.few, h.two, h.tr.same s, h.fo, h.lz, h.cx.same s, h.ic, h.lc⟩
def spTR (C : Addr) (T : List (Addr × Str)) : Sp := fun vs H Q _ => ∃ (d o t cx : Addr) (l : List (Str × Nat)) (zs a b : List Str) (n : Nat), vs = [.ref d, .ref o, .ref t, .ref cx] ∧ Sc8 H C d o t cx l zs a b ∧ Tabs T H ∧ Dice H d n ∧ n + 30 < 1000000 ∧
  ∀ H', KN (fun b => b = d) H H' → Tabs T H' → Dice H' d (n + 30) → Q (.bl true) H'
section
variable {P : Program} {w : World} {K : PySem.W.Frag} {mg : Str → Option Value} {base : Heap} {C CT CN CM eN fW fT fC fP fE fI fN fR fK fM fO gw c0 P0 : Addr} {dW dT dC dP dE dI dN dR dK dM dO dw : FuncData} {tk tk2 : Tok} {Tt : List (Addr × Str)}
theorem ok_treesR {f : Addr} {fd : FuncData} (F : FunC K "_law_trees_right" sTreesR f c0 fd) (TB : TabB base mg c0 P0) (hmT : (P0, ("_law_trees_right.<locals>.<lambda>" : Str)) ∈ Tt) (huT : ∀ p ∈ Tt, p.1 = P0 → p.2 = "_law_trees_right.<locals>.<lambda>")
    (M : Ms K mg C fW fT fC fP fE fI fN dW dT dC dP dE dI dN tk) (gH : mg "HOLE" = some (.str hole tk2)) (IT : ItF K mg CT) (N : PySem.InumX.InumTxt K mg CN eN) (T : Free mg) (X : MX K C) (D : Draws K mg fR fK fM dR dK dM) (Wd : WdF K mg CT CN CM eN gw dw)
    (gO : GlF K mg "_law_odd_values" sOdd fO dO ["dice"]) : FnG P w K mg base CX0 8 f fd ["dice", "ops", "tree", "context"] (spTR C Tt) := by
  have GO : FnOk P w K mg base CX0 3 fO dO ["dice"] spOdd := ok_odd gO.F D T
  have GP : FnOk P w K mg base CX0 2 fK dK ["dice", "items"] (spPick K) := ok_pick D T
  have GT : FnOk P w K mg base CX0 2 fT dT ["self", "value"] (spTreeV C) := ok_treeV M.FT ⟨M.cf, M.FW, M.bW, M.gW, M.gM, gH⟩ T
  have D1t : ∀ d ∈ [ld_be C CT CN, ld_bs C CT CN, ld_bk C CT CN, ld_ba C CT CN, ld_bc C CT CN, ld_br C CT CN, ld_bl C CT CN, ld_bn C CT CN], Told P w K mg base (L2.CX P w) 5 "_law_trees_right.<locals>.<lambda>" d.l d.fr d.te := (all_cons (td_be M gH IT N T X) (all_cons (td_bs M gH IT N T X) (all_cons (td_bk M gH IT N T X) (all_cons (td_ba M gH IT N T X) (all_cons (td_bc M gH IT N T X) (all_cons (td_br M gH IT N T X) (all_cons (td_bl M gH IT N T X) (all_cons (td_bn M gH IT N T X) all_nil))))))))
  have D1c : ∀ d ∈ [ld_be C CT CN, ld_bs C CT CN, ld_bk C CT CN, ld_ba C CT CN, ld_bc C CT CN, ld_br C CT CN, ld_bl C CT CN, ld_bn C CT CN], capsB NT (defScope sTreesR) d.l d.fr d.js = true := (all_cons cp_be (all_cons cp_bs (all_cons cp_bk (all_cons cp_ba (all_cons cp_bc (all_cons cp_br (all_cons cp_bl (all_cons cp_bn all_nil))))))))
  have D2t : ∀ d ∈ [ld_te C CT CN, ld_ts C CT CN, ld_tk C CT CN, ld_ta C CT CN, ld_tc C CT CN, ld_tr C CT CN], Told P w K mg base (L2.CX P w) 5 "_law_trees_right.<locals>.<lambda>" d.l d.fr d.te := (all_cons (td_te M gH IT N T X) (all_cons (td_ts M gH IT N T X) (all_cons (td_tk M gH IT N T X) (all_cons (td_ta M gH IT N T X) (all_cons (td_tc M gH IT N T X) (all_cons (td_tr M gH IT N T X) all_nil))))))
  have D2c : ∀ d ∈ [ld_te C CT CN, ld_ts C CT CN, ld_tk C CT CN, ld_ta C CT CN, ld_tc C CT CN, ld_tr C CT CN], capsB NT (defScope sTreesR) d.l d.fr d.js = true := (all_cons cp_te (all_cons cp_ts (all_cons cp_tk (all_cons cp_ta (all_cons cp_tc (all_cons cp_tr all_nil))))))
  refine F.ok scTR (fun vs H Q E h => ?_) (fun A outer s H vs Q E hr gd h => ?_)
  · obtain ⟨d, o, t, cx, l, zs, a, b, n, rfl, _⟩ := h
    rfl
  · obtain ⟨d, o, t, cx, l, zs, a, b, n, rfl, sc, tb, di, hn, q⟩ := h
    have hu := hr.units
    have r3 : Room 3 _ := hr.mono (by decide)
    have r2 : Room 2 _ := hr.mono (by decide)
    have hr7 : Room 7 _ := hr
    refine ⟨_, pss_cons (ps_set (i := 4) scTR.nd rfl (.inl rfl) (pe_op op_cat (pe_lc (own := [("value", 9)]) (g := gName 9) (by rfl) scTR.nd (pi_list (pe_call GO r3 (by rfl) gO.g gO.F.kp gO.b .nil pass0 (pa_cons (pv 0) pa_nil))) (blkOk_by (own := [("value", 9)]) (N := NT) (sc := defScope sTreesR) (by decide +kernel))
        (fun _ _ _ _ _ => pg_name (i := 9) scTR.nd rfl (Or.inl rfl)) (fun _ _ _ _ _ => pts_one (pt_not (pt_val (pe_meth (pv 1) M.cf.cls M.mT GT r2 M.bT .nil pass0 (pa_cons (pv 9) pa_nil))))) (fun _ _ _ _ _ => pv 9))
        (pe_lst (pa_cons (pv 3) (pa_cons (pe_callTy call_list_of (by rfl) T.list (by decide +kernel) (pa_cons (pv 2) pa_nil)) (pa_cons (pe_op Tx.op_catX (pv 2) (pv 2)) pa_nil))))))
      (pss_cons (ps_set (i := 5) scTR.nd rfl (.inr rfl) (pe_call GP r2 (by rfl) D.gP D.FP.kp D.bP .nil pass0 (pa_cons (pv 0) (pa_cons (pv 4) pa_nil))))
      (pss_cons (ps_set (i := 6) scTR.nd rfl (.inr rfl) (pe_call GP r2 (by rfl) D.gP D.FP.kp D.bP .nil pass0 (pa_cons (pv 0) (pa_cons (pe_lst (pa_cons pe_non (pa_cons (pe_un un_neg pe_int) (pa_cons (pe_callB call_len_seq (by rfl) T.len PySem.boot_len (pa_cons (pv 2) pa_nil)) (pa_cons pe_bl (pa_cons pe_bl (pa_cons pe_str (pa_cons (Tx.pe_tupX (pa_cons pe_int pa_nil)) (pa_cons (pe_op op_pow pe_int pe_int) (pa_cons (pe_lst pa_nil) (pa_cons pe_dnewK pa_nil))))))))))) pa_nil))))
      (pss_cons (ps_set (i := 7) scTR.nd rfl (.inl rfl) (pe_lst (pa_cons (pe_lam (T := Tt) (l := (ld_be C CT CN).l) TB rfl (by rfl) hmT huT ls_be) pa_nil)))
      (pss_cons (ps_expr (pe_bm PySem.F.plainAttrs_list PySem.F.slot_list_append PySem.F.type_list_append mt_append (pv 7) (pa_cons (pe_lam (T := Tt) (l := (ld_bs C CT CN).l) TB rfl (by rfl) hmT huT ls_bs) pa_nil)))
      (pss_cons (ps_expr (pe_bm PySem.F.plainAttrs_list PySem.F.slot_list_append PySem.F.type_list_append mt_append (pv 7) (pa_cons (pe_lam (T := Tt) (l := (ld_bk C CT CN).l) TB rfl (by rfl) hmT huT ls_bk) pa_nil)))
      (pss_cons (ps_expr (pe_bm PySem.F.plainAttrs_list PySem.F.slot_list_append PySem.F.type_list_append mt_append (pv 7) (pa_cons (pe_lam (T := Tt) (l := (ld_ba C CT CN).l) TB rfl (by rfl) hmT huT ls_ba) pa_nil)))
      (pss_cons (ps_expr (pe_bm PySem.F.plainAttrs_list PySem.F.slot_list_append PySem.F.type_list_append mt_append (pv 7) (pa_cons (pe_lam (T := Tt) (l := (ld_bc C CT CN).l) TB rfl (by rfl) hmT huT ls_bc) pa_nil)))
      (pss_cons (ps_expr (pe_bm PySem.F.plainAttrs_list PySem.F.slot_list_append PySem.F.type_list_append mt_append (pv 7) (pa_cons (pe_lam (T := Tt) (l := (ld_br C CT CN).l) TB rfl (by rfl) hmT huT ls_br) pa_nil)))
      (pss_cons (ps_expr (pe_bm PySem.F.plainAttrs_list PySem.F.slot_list_append PySem.F.type_list_append mt_append (pv 7) (pa_cons (pe_lam (T := Tt) (l := (ld_bl C CT CN).l) TB rfl (by rfl) hmT huT ls_bl) pa_nil)))
      (pss_cons (ps_expr (pe_bm PySem.F.plainAttrs_list PySem.F.slot_list_append PySem.F.type_list_append mt_append (pv 7) (pa_cons (pe_lam (T := Tt) (l := (ld_bn C CT CN).l) TB rfl (by rfl) hmT huT ls_bn) pa_nil)))
      (pss_cons (ps_if (pt_cmpR (op_neL hu) (pe_lcx (own := [("call", 10)]) (g := gName 10) (by rfl) scTR.nd (pi_list (pv 7)) (blkOk_by (own := [("call", 10)]) (N := NT) (sc := defScope sTreesR) (by decide +kernel)) (fun _ _ _ _ _ => pg_name (i := 10) scTR.nd rfl (Or.inl rfl))
          (fun _ _ _ _ _ _ a0 => pe_wordB a0 T Wd D1t (caps_all rfl rfl D1c) hr7 gd (pa_cons (pv 10) pa_nil) (by rfl))) (pe_op op_rep (pe_lst (pa_cons pe_str pa_nil)) pe_int) (nomark _)) (pss_one ps_never) pss_nil)
      (pss_cons (ps_set (i := 7) scTR.nd rfl (.inl rfl) (pe_lst (pa_cons (pe_lam (T := Tt) (l := (ld_te C CT CN).l) TB rfl (by rfl) hmT huT ls_te) pa_nil)))
      (pss_cons (ps_expr (pe_bm PySem.F.plainAttrs_list PySem.F.slot_list_append PySem.F.type_list_append mt_append (pv 7) (pa_cons (pe_lam (T := Tt) (l := (ld_ts C CT CN).l) TB rfl (by rfl) hmT huT ls_ts) pa_nil)))
      (pss_cons (ps_expr (pe_bm PySem.F.plainAttrs_list PySem.F.slot_list_append PySem.F.type_list_append mt_append (pv 7) (pa_cons (pe_lam (T := Tt) (l := (ld_tk C CT CN).l) TB rfl (by rfl) hmT huT ls_tk) pa_nil)))
      (pss_cons (ps_expr (pe_bm PySem.F.plainAttrs_list PySem.F.slot_list_append PySem.F.type_list_append mt_append (pv 7) (pa_cons (pe_lam (T := Tt) (l := (ld_ta C CT CN).l) TB rfl (by rfl) hmT huT ls_ta) pa_nil)))
      (pss_cons (ps_expr (pe_bm PySem.F.plainAttrs_list PySem.F.slot_list_append PySem.F.type_list_append mt_append (pv 7) (pa_cons (pe_lam (T := Tt) (l := (ld_tc C CT CN).l) TB rfl (by rfl) hmT huT ls_tc) pa_nil)))
      (pss_cons (ps_expr (pe_bm PySem.F.plainAttrs_list PySem.F.slot_list_append PySem.F.type_list_append mt_append (pv 7) (pa_cons (pe_lam (T := Tt) (l := (ld_tr C CT CN).l) TB rfl (by rfl) hmT huT ls_tr) pa_nil)))
      (pss_cons (ps_if (pt_cmpR (op_neL hu) (pe_lcx (own := [("call", 10)]) (g := gName 10) (by rfl) scTR.nd (pi_list (pv 7)) (blkOk_by (own := [("call", 10)]) (N := NT) (sc := defScope sTreesR) (by decide +kernel)) (fun _ _ _ _ _ => pg_name (i := 10) scTR.nd rfl (Or.inl rfl))
          (fun _ _ _ _ _ _ a0 => pe_wordB a0 T Wd D2t (caps_all rfl rfl D2c) hr7 gd (pa_cons (pv 10) pa_nil) (by rfl))) (pe_op op_rep (pe_lst (pa_cons (pe_op op_add_str pe_str (pe_callB (call_repr gd hu) (by rfl) T.repr (by decide +kernel) (pa_cons (pv 6) pa_nil))) pa_nil)) pe_int) (nomark _)) (pss_one ps_never) pss_nil)
      (pss_cons (ps_set (i := 8) scTR.nd rfl (.inl rfl) (pe_word T Wd (Ds := [ld_t0 C CT CN]) (all_cons (td_t0 M gH IT N T X) all_nil) (caps_all rfl rfl (all_cons cp_t0 all_nil)) hr7 gd (pa_cons (pe_lam (T := Tt) (l := (ld_t0 C CT CN).l) TB rfl (by rfl) hmT huT ls_t0) pa_nil) (by rfl)))
      (pss_one (ps_ret (pe_and (pe_cmpR op_eq (pv 8) pe_str (nomark _)) (pe_one (pe_cmpR op_eq (pe_word T Wd (Ds := [ld_tl C CT CN]) (all_cons (td_tl M gH IT N T X) all_nil) (caps_all rfl rfl (all_cons cp_tl all_nil)) hr7 gd (pa_cons (pe_lam (T := Tt) (l := (ld_tl C CT CN).l) TB rfl (by rfl) hmT huT ls_tl) pa_nil) (by rfl)) pe_str (nomark _))))))))))))))))))))))))), ?_⟩
    obtain ⟨ds0, hd0⟩ := di.there
    have few26 : ∀ {n : Nat}, n = 26 → n < sizeLine := fun e => by rw [e, sizeLine_eq]; decide
    have z : ∀ {m : Nat}, m ≤ 64 → m ≤ sizeLine := fun h => Nat.le_trans h (by decide)
    refine ⟨_, rfl, d, n, rfl, di, by omega, fun q1 ys H1 nqd nq1 k1 hq1 ly vd di1 => ?_⟩
    have sc1 := sc.same k1.hm
    refine ⟨q1, rfl, ⟨_, SqL.of hq1⟩, fun D1 nD1 => ?_⟩
    refine lc_filtL (badB l (Hm d H1)) (show 9 < 11 by decide) (fun G s => SqL.of (s _ _ hq1)) nD1 (few26 ly) (fun x m G s R r => ?_) fun G eD sG => ?_
    · obtain ⟨xv, vw, _⟩ := (vd x m).vw
      have sG1 : Same (Hm d H1) G := Hm.same.trans s
      have op := sc1.ops.same sG1
      obtain ⟨dx, tn, ta, tl, ho, _⟩ := op.ex
      refine ⟨_, rfl, o, dx, _, rfl, ho, rfl, _, rfl, o, x, l, xv, rfl, op, vw.same sG1, _, rfl, ?_⟩
      rw [badB_eq vw] at r
      exact r
    -- the odd values
    have sG : Same H1 G := sG
    have scG := sc1.same (Same.hm sG)
    have txG := (TX.un scG.tr).1
    obtain ⟨ds1, hd1⟩ := di1.there
    refine ⟨_, rfl, _, rfl, t, _, rfl, .inr txG.sq, fun lt nlt => ?_⟩
    have s2 : Same G (upd G lt (.lst (zs.map V.str))) := Same.new nlt
    have lzm : (zs.map V.str).length ≤ 10 := by rw [List.length_map]; exact sc.lz
    refine ⟨_, rfl, _, rfl, t, t, _, _, rfl, rfl, Tx.TX.same txG s2, Tx.TX.same txG s2, z (by omega), fun p2 H2 s3 tp2 => ⟨z (show 3 ≤ 64 by decide), fun q2 nq2 => ?_⟩⟩
    have s4 : Same H2 (upd H2 q2 (.lst [.ref cx, .ref lt, .ref p2])) := Same.new nq2
    have lf : ((ys.filter (badB l (Hm d H1))).length) ≤ 26 := by rw [← ly]; exact List.length_filter_le _ _
    refine ⟨D1, q2, _, _, rfl, rfl, (s2.trans (s3.trans s4)) _ _ eD, upd_same, z (by show _ + 3 ≤ 64; omega), fun q3 nq3 => ?_⟩
    have s5 : Same (upd H2 q2 (.lst [.ref cx, .ref lt, .ref p2])) (upd (upd H2 q2 (.lst [.ref cx, .ref lt, .ref p2])) q3 (.lst (ys.filter (badB l (Hm d H1)) ++ [.ref cx, .ref lt, .ref p2]))) := Same.new nq3
    have hq3 : (upd (upd H2 q2 (.lst [.ref cx, .ref lt, .ref p2])) q3 (.lst (ys.filter (badB l (Hm d H1)) ++ [.ref cx, .ref lt, .ref p2]))) q3 = some (.lst (ys.filter (badB l (Hm d H1)) ++ [.ref cx, .ref lt, .ref p2])) := upd_same
    have s25 := s3.trans (s4.trans s5)
    have hlt := s25 _ _ (upd_same (H := G) (a := lt) (o := .lst (zs.map V.str)))
    have tp := Tx.TX.same tp2 (s4.trans s5)
    have sG3 := s2.trans s25
    have nq3d : q3 ≠ d := (ne_of_none ((s2.trans (s3.trans s4)) _ _ (sG _ _ hd1)) nq3).symm
    have nltd : lt ≠ d := (ne_of_none (sG _ _ hd1) nlt).symm
    generalize upd (upd H2 q2 (.lst [.ref cx, .ref lt, .ref p2])) q3 (.lst (ys.filter (badB l (Hm d H1)) ++ [.ref cx, .ref lt, .ref p2])) = H3 at s5 hq3 s25 hlt tp sG3 ⊢
    have sc3 := scG.same (Same.hm sG3)
    have di3 := di1.same (sG.trans sG3)
    obtain ⟨ds3, hd3⟩ := di3.there
    have np2d : p2 ≠ d := fun e => by
      obtain ⟨ob, h, _⟩ := tp
      rw [e, hd3] at h
      cases h
    have strJi : ∀ {H : Hp} {ws : List Str}, ∀ x ∈ ws.map V.str, Ji H x := fun x m => by
      obtain ⟨y, _, rfl⟩ := List.mem_map.mp m
      exact Ji.str y
    have allbad : ∀ v ∈ ys.filter (badB l (Hm d H1)) ++ [.ref cx, .ref lt, .ref p2], BadV l (Hm d H3) v := fun v m => by
      rcases List.mem_append.mp m with m | m
      · exact (badB_of (List.mem_filter.mp m).2).same (Same.hm (sG.trans sG3))
      · rcases List.mem_cons.mp m with e | m
        · rw [e]
          refine ⟨_, Vw.tup sc3.cx strJi, ?_⟩
          show (decide _ && wgo l 1 _) = false
          rw [wgo_ctx sc.no, Bool.and_false]
        · rcases List.mem_cons.mp m with e | m
          · rw [e]
            exact ⟨none, .not (.lst (Hm.of hlt nltd)) (by decide), rfl⟩
          · rw [List.mem_singleton.mp m]
            refine ⟨_, Vw.tup (TX.hm tp np2d) (fun x m => by rw [← List.map_append] at m; exact strJi x m), ?_⟩
            show (decide _ && wgo l 1 _) = false
            rw [← List.map_append, wgo_two sc.nd sc.fo, Bool.and_false]
    refine ⟨_, rfl, _, rfl, d, q3, n + 26, _, rfl, nq3d, .inl (SqL.of hq3), by simp, by rw [List.length_append]; show _ + 3 ≤ 1000; omega, di3, by omega, fun bad o1 mb di4 => ?_⟩
    have k34 : Kp d H3 (upd H3 d o1) := Kp.upd
    have bd4 := (allbad bad mb).same k34.hm
    have sc4 := sc3.same k34.hm
    obtain ⟨ds4, hd4⟩ := di4.there
    have k4 : Kp d H (upd H3 d o1) := k1.trans ((Kp.same (sG.trans sG3)).trans k34)
    generalize upd H3 d o1 = H4 at k34 bd4 sc4 di4 hd4 k4 ⊢
    -- the places
    have g0 : Good d H4 H4 [] := Good.nil ⟨_, hd4⟩
    have I : ∀ {H : Hp} (i : Int), i.natAbs < 2 ^ 1900 → Vd H 0 2000 (.int i) := fun i h => Vd.int i h
    have Tz : ∀ {H : Hp} (z : Str), SOk 5 z → Vd H 0 2000 (.str z) := fun z h => (Vd.text (k := 100) (h.le (by decide)) (by decide)).le (Nat.le_refl _) (by decide)
    have Il : ∀ {H : Hp}, Vd H 0 2000 (.int ((zs.map V.str).length : Int)) := I _ (Nat.lt_of_le_of_lt (show (((zs.map V.str).length : Nat) : Int).natAbs ≤ 10 by omega) (by decide +kernel))
    refine ⟨_, rfl, _, rfl, _, rfl, t, _, rfl, .inr (TX.un sc4.tr).1.sq, ?_⟩
    have g1 := ((((((g0.put Vd.non (by decide) (by decide)).put (I (-1) (by decide +kernel)) (by decide) (by decide)).put Il (by decide) (by decide)).put (Vd.bl true) (by decide) (by decide)).put (Vd.bl false) (by decide) (by decide)).put (Tz "0" ⟨by decide, by decide +kernel⟩) (by decide) (by decide))
    refine ⟨z (by decide), fun t1 G1 m1 r1 x1 => ?_⟩
    have g2 := (g1.step r1).put (Vd.tup (n := 0) (m := 2000) (k := 1) (TX.hm x1 (g1.ne m1)) (all1 (I 0 (by decide +kernel))) (all1 (Ji.int _)) (by decide)) (by decide) (by decide)
    refine ⟨10, 60, rfl, rfl, c10 (k := 60) (by decide), ?_⟩
    have g3 := g2.put (I (10 ^ (60 : Int).toNat) (by decide +kernel)) (by decide) (by decide)
    refine ⟨z (by decide), fun t3 m3 => ?_⟩
    have g4 := (g3.new m3 (o := .lst [])).put (Vd.lst (n := 0) (m := 2000) (k := 0) (hm_fresh m3 (g3.ne m3)) all0 (by decide)) (by decide) (by decide)
    intro t4 m4
    have g5 := (g4.new m4 (o := .dK [])).put (Vd.dK0 (hm_fresh m4 (g4.ne m4))) (by decide) (by decide)
    refine ⟨z (Nat.le_of_ble_eq_true rfl), fun l1 ml1 => ?_⟩
    have g6 := g5.new ml1 (o := .lst [V.non, .int (-1), .int ((zs.map V.str).length : Int), .bl true, .bl false, .str "0", .ref t1, .int (10 ^ (60 : Int).toNat), .ref t3, .ref t4])
    have hl1 := upd_same (H := upd (upd G1 t3 (.lst [])) t4 (.dK [])) (a := l1) (o := .lst [V.non, .int (-1), .int ((zs.map V.str).length : Int), .bl true, .bl false, .str "0", .ref t1, .int (10 ^ (60 : Int).toNat), .ref t3, .ref t4])
    have nl1d : l1 ≠ d := g5.ne ml1
    have s45 := g6.same
    have vd5 := g6.all
    have lz' : (zs.map V.str).length = zs.length := List.length_map _
    have allpl : ∀ v ∈ [V.non, .int (-1), .int ((zs.map V.str).length : Int), .bl true, .bl false, .str "0", .ref t1, .int (10 ^ (60 : Int).toNat), .ref t3, .ref t4], plB v zs.length = false :=
      all_cons (pl_not fun _ z => nomatch z) (all_cons (pl_int (.inl (by decide +kernel))) (all_cons (pl_int (.inr (by rw [lz']; exact Int.le_refl _))) (all_cons (pl_not fun _ z => nomatch z) (all_cons (pl_not fun _ z => nomatch z) (all_cons (pl_not fun _ z => nomatch z)
        (all_cons (pl_not fun _ z => nomatch z) (all_cons (pl_int (.inl (by decide +kernel))) (all_cons (pl_not fun _ z => nomatch z) (all_cons (pl_not fun _ z => nomatch z) all_nil)))))))))
    have bn5 : ∀ v ∈ [V.non, .int (-1), .int ((zs.map V.str).length : Int), .bl true, .bl false, .str "0", .ref t1, .int (10 ^ (60 : Int).toNat), .ref t3, .ref t4], BadN zs.length (Hm d _) v := fun v m => (vd5 v m).badN (allpl v m)
    clear vd5 g6 g5 g4 g3 g2 g1 allpl
    generalize upd (upd (upd G1 t3 (.lst [])) t4 (.dK [])) l1 (.lst [V.non, .int (-1), .int ((zs.map V.str).length : Int), .bl true, .bl false, .str "0", .ref t1, .int (10 ^ (60 : Int).toNat), .ref t3, .ref t4]) = H5 at hl1 s45 bn5 ⊢
    have di5 := di4.same s45
    refine ⟨d, l1, n + 27, _, rfl, nl1d, .inl (SqL.of hl1), by simp, by show 10 ≤ 1000; decide, di5, by omega, fun pl o2 mp di6 => ?_⟩
    have k56 : Kp d H5 (upd H5 d o2) := Kp.upd
    have bn6 := (bn5 pl mp).same k56.hm
    have bd6 := bd4.same ((Same.hm s45).trans k56.hm)
    have sc6 := sc4.same ((Same.hm s45).trans k56.hm)
    have k6 : Kp d H (upd H5 d o2) := k4.trans ((Kp.same s45).trans k56)
    have tb6 := Tabs.kp tb hd0 k6
    obtain ⟨ds6, hd6⟩ := di6.there
    generalize upd H5 d o2 = H6 at k56 bn6 bd6 sc6 k6 tb6 di6 hd6 ⊢
    clear bn5 hl1 s45 di5 k56 k4 k34 di4 hd4 bd4 sc4 sc3 hd3 di3 allbad hq3 s25 hlt tp sG3 eD sG scG txG di1 hd1 vd hq1 sc1 k1
    have op6 := sc6.ops.same Hm.same
    have tx6 : Wp H6 t zs := (TX.un sc6.tr).1
    obtain ⟨xb, vb, tbb⟩ := bd6
    have vb6 := vb.same Hm.same
    obtain ⟨ty, m, tx, kd, sh, hm, lt_, npl⟩ := bn6.same Hm.same
    have vt6 : Vw H6 (.ref t) (some (zs.map V.str)) := .tup tx6 strJi
    have tbt : tB l (some (zs.map V.str)) = true := by
      show (decide _ && wgo l 1 _) = true
      rw [decide_eq_true (by rw [lz']; have := sc.lz; omega), Bool.true_and]
      exact fo_wgo sc.nd sc.fo
    have npl' : plB pl (zs.map V.str).length = false := by rw [lz']; exact npl
    -- calls
    dsimp only [gName, tSeq, tAsg, tDrop]
    refine lams_oneT tb6 fun L H7 e7 nL lm => ?_
    have e7 : ExtN H6 H7 := e7
    refine lams_addT rfl lm (by decide) fun H8 c7 lm => ?_
    have e7 := ExtN.kn e7 nL c7
    clear c7
    refine lams_addT rfl lm (by decide) fun H9 c7 lm => ?_
    have e7 := ExtN.kn e7 nL c7
    clear c7
    refine lams_addT rfl lm (by decide) fun H10 c7 lm => ?_
    have e7 := ExtN.kn e7 nL c7
    clear c7
    refine lams_addT rfl lm (by decide) fun H11 c7 lm => ?_
    have e7 := ExtN.kn e7 nL c7
    clear c7
    refine lams_addT rfl lm (by decide) fun H12 c7 lm => ?_
    have e7 := ExtN.kn e7 nL c7
    clear c7
    refine lams_addT rfl lm (by decide) fun H13 c7 lm => ?_
    have e7 := ExtN.kn e7 nL c7
    clear c7
    refine lams_addT rfl lm (by decide) fun H14 c7 lm => ?_
    have e7 := ExtN.kn e7 nL c7
    clear c7
    dsimp only [tIfS, tTest, tOp]
    refine words_read (ds := [ld_be C CT CN, ld_bs C CT CN, ld_bk C CT CN, ld_ba C CT CN, ld_bc C CT CN, ld_br C CT CN, ld_bl C CT CN, ld_bn C CT CN]) rfl (show 10 < 11 by decide) lm (show 8 < 1000 by decide) (fun d m => m) (all_cons (fun G Q' sG qq => tw_bad2 (fun _ _ _ _ _ _ => rfl) (op6.extN (ExtN.trans e7 (ExtN.same sG))) (vb6.extN (ExtN.trans e7 (ExtN.same sG))) tbb (kd.extN (ExtN.trans e7 (ExtN.same sG))) qq) (all_cons (fun G Q' sG qq => tw_bad2 (fun _ _ _ _ _ _ => rfl) (op6.extN (ExtN.trans e7 (ExtN.same sG))) (vb6.extN (ExtN.trans e7 (ExtN.same sG))) tbb (kd.extN (ExtN.trans e7 (ExtN.same sG))) qq) (all_cons (fun G Q' sG qq => tw_bad2 (fun _ _ _ _ _ _ => rfl) (op6.extN (ExtN.trans e7 (ExtN.same sG))) (vb6.extN (ExtN.trans e7 (ExtN.same sG))) tbb (kd.extN (ExtN.trans e7 (ExtN.same sG))) qq) (all_cons (fun G Q' sG qq => tw_bad2 (fun _ _ _ _ _ _ => rfl) (op6.extN (ExtN.trans e7 (ExtN.same sG))) (vb6.extN (ExtN.trans e7 (ExtN.same sG))) tbb (kd.extN (ExtN.trans e7 (ExtN.same sG))) qq) (all_cons (fun G Q' sG qq => tw_bad2 (fun _ _ _ _ _ _ => rfl) (op6.extN (ExtN.trans e7 (ExtN.same sG))) (vb6.extN (ExtN.trans e7 (ExtN.same sG))) tbb (kd.extN (ExtN.trans e7 (ExtN.same sG))) qq) (all_cons (fun G Q' sG qq => tw_bad3 (op6.extN (ExtN.trans e7 (ExtN.same sG))) (vb6.extN (ExtN.trans e7 (ExtN.same sG))) tbb (kd.extN (ExtN.trans e7 (ExtN.same sG))) qq) (all_cons (fun G Q' sG qq => tw_bad1 (fun _ _ _ _ _ _ => rfl) (op6.extN (ExtN.trans e7 (ExtN.same sG))) (vb6.extN (ExtN.trans e7 (ExtN.same sG))) tbb qq) (all_cons (fun G Q' sG qq => tw_bad1 (fun _ _ _ _ _ _ => rfl) (op6.extN (ExtN.trans e7 (ExtN.same sG))) (vb6.extN (ExtN.trans e7 (ExtN.same sG))) tbb qq) all_nil)))))))) fun Dw H15 s15 hDw => ?_
    refine ⟨z (show 1 ≤ 64 by decide), fun r1 nr1 => ⟨r1, 8, _, rfl, rfl, upd_same, by decide, by decide, z (show 8 ≤ 64 by decide), fun r2 nr2 => ?_⟩⟩
    have s16 := (Same.new nr1 (o := .lst [V.str "tree"])).trans (Same.new nr2 (o := .lst (List.replicate (8 : Int).toNat [V.str "tree"]).flatten))
    refine ⟨Dw, r2, _, _, rfl, rfl, SqL.of (s16 _ _ hDw), SqL.of upd_same, .inr ⟨rfl, fun v m => ⟨"str", by rw [List.eq_of_mem_replicate m]; exact .str _⟩, ?_⟩⟩
    have e16 := ExtN.trans e7 (ExtN.same (s15.trans s16))
    have tb16 := lm.tabs.ext (s15.trans s16)
    clear lm e7 hDw
    generalize upd (upd H15 r1 (.lst [V.str "tree"])) r2 (.lst (List.replicate (8 : Int).toNat [V.str "tree"]).flatten) = H16 at s16 e16 tb16 ⊢
    refine ⟨_, rfl, if_false_of rfl ?_⟩
    have op16 := op6.extN e16
    have vt16 := vt6.extN e16
    have vb16 := vb6.extN e16
    have kd16 := kd.extN e16
    have sh16 := Sh.extN e16 _ _ _ sh
    dsimp only [tNext, gName, tSeq, tAsg, tDrop]
    refine lams_oneT tb16 fun L2 H17 e7 nL6 lm => ?_
    have e7 : ExtN H16 H17 := e7
    refine lams_addT rfl lm (by decide) fun H18 c7 lm => ?_
    have e7 := ExtN.kn e7 nL6 c7
    clear c7
    refine lams_addT rfl lm (by decide) fun H19 c7 lm => ?_
    have e7 := ExtN.kn e7 nL6 c7
    clear c7
    refine lams_addT rfl lm (by decide) fun H20 c7 lm => ?_
    have e7 := ExtN.kn e7 nL6 c7
    clear c7
    refine lams_addT rfl lm (by decide) fun H21 c7 lm => ?_
    have e7 := ExtN.kn e7 nL6 c7
    clear c7
    refine lams_addT rfl lm (by decide) fun H22 c7 lm => ?_
    have e7 := ExtN.kn e7 nL6 c7
    clear c7
    dsimp only [tIfS, tTest, tOp]
    refine words_read (ds := [ld_te C CT CN, ld_ts C CT CN, ld_tk C CT CN, ld_ta C CT CN, ld_tc C CT CN, ld_tr C CT CN]) (wd := ("number " : Str) ++ tx) rfl (show 10 < 11 by decide) lm (show 6 < 1000 by decide) (fun d m => m) (all_cons (fun G Q' sG qq => tw_num2 (fun _ _ _ _ _ _ => rfl) (op16.extN (ExtN.trans e7 (ExtN.same sG))) (vt16.extN (ExtN.trans e7 (ExtN.same sG))) tbt (kd16.extN (ExtN.trans e7 (ExtN.same sG))) npl' (Sh.extN (ExtN.trans e7 (ExtN.same sG)) _ _ _ sh16) (by omega) (by omega) qq) (all_cons (fun G Q' sG qq => tw_num2 (fun _ _ _ _ _ _ => rfl) (op16.extN (ExtN.trans e7 (ExtN.same sG))) (vt16.extN (ExtN.trans e7 (ExtN.same sG))) tbt (kd16.extN (ExtN.trans e7 (ExtN.same sG))) npl' (Sh.extN (ExtN.trans e7 (ExtN.same sG)) _ _ _ sh16) (by omega) (by omega) qq) (all_cons (fun G Q' sG qq => tw_num2 (fun _ _ _ _ _ _ => rfl) (op16.extN (ExtN.trans e7 (ExtN.same sG))) (vt16.extN (ExtN.trans e7 (ExtN.same sG))) tbt (kd16.extN (ExtN.trans e7 (ExtN.same sG))) npl' (Sh.extN (ExtN.trans e7 (ExtN.same sG)) _ _ _ sh16) (by omega) (by omega) qq) (all_cons (fun G Q' sG qq => tw_num2 (fun _ _ _ _ _ _ => rfl) (op16.extN (ExtN.trans e7 (ExtN.same sG))) (vt16.extN (ExtN.trans e7 (ExtN.same sG))) tbt (kd16.extN (ExtN.trans e7 (ExtN.same sG))) npl' (Sh.extN (ExtN.trans e7 (ExtN.same sG)) _ _ _ sh16) (by omega) (by omega) qq) (all_cons (fun G Q' sG qq => tw_num2 (fun _ _ _ _ _ _ => rfl) (op16.extN (ExtN.trans e7 (ExtN.same sG))) (vt16.extN (ExtN.trans e7 (ExtN.same sG))) tbt (kd16.extN (ExtN.trans e7 (ExtN.same sG))) npl' (Sh.extN (ExtN.trans e7 (ExtN.same sG)) _ _ _ sh16) (by omega) (by omega) qq) (all_cons (fun G Q' sG qq => tw_num3 (op16.extN (ExtN.trans e7 (ExtN.same sG))) (vt16.extN (ExtN.trans e7 (ExtN.same sG))) tbt (kd16.extN (ExtN.trans e7 (ExtN.same sG))) npl' (Sh.extN (ExtN.trans e7 (ExtN.same sG)) _ _ _ sh16) (by omega) (by omega) qq) all_nil)))))) fun Dw2 H23 s23 hDw2 => ?_
    refine ⟨_, rfl, pl, m, tx, rfl, Sh.extN (ExtN.trans e7 (ExtN.same s23)) _ _ _ sh16, by omega, by rw [sizeLine_eq]; omega, _, _, rfl, rfl, by rw [sizeLine_eq]; show 7 + tx.length ≤ _; omega, ?_⟩
    refine ⟨z (show 1 ≤ 64 by decide), fun r3' nr3 => ⟨r3', 6, _, rfl, rfl, upd_same, by decide, by decide, z (show 6 ≤ 64 by decide), fun r4 nr4 => ?_⟩⟩
    have s24 := (Same.new nr3 (o := .lst [V.str (("number " : Str) ++ tx)])).trans (Same.new nr4 (o := .lst (List.replicate (6 : Int).toNat [V.str (("number " : Str) ++ tx)]).flatten))
    refine ⟨Dw2, r4, _, _, rfl, rfl, SqL.of (s24 _ _ hDw2), SqL.of upd_same, .inr ⟨rfl, fun v m => ⟨"str", by rw [List.eq_of_mem_replicate m]; exact .str _⟩, ?_⟩⟩
    have e24 := ExtN.trans e7 (ExtN.same (s23.trans s24))
    have tb24 := lm.tabs.ext (s23.trans s24)
    clear lm e7 hDw2
    generalize upd (upd H23 r3' (.lst [V.str (("number " : Str) ++ tx)])) r4 (.lst (List.replicate (6 : Int).toNat [V.str (("number " : Str) ++ tx)]).flatten) = H24 at s24 e24 tb24 ⊢
    refine ⟨_, rfl, if_false_of rfl ?_⟩
    have op24 := op16.extN e24
    have vt24 := vt16.extN e24
    have vb24 := vb16.extN e24
    -- told
    refine ⟨tb24, fun g1 h1 G1 b1 => ⟨_, rfl, _, List.mem_singleton_self _, g1, h1, rfl, b1.at_, b1.code, ?_⟩⟩
    refine tw_other (op24.extN b1.ext) (vt24.extN b1.ext) tbt (by rw [lz']; exact sc.fo.len) (vb24.extN b1.ext) tbb fun H25 s25 => ?_
    have e25 := ExtN.trans b1.ext (ExtN.same s25)
    have tb25 := b1.tabs.ext s25
    refine ⟨_, rfl, rfl, _, rfl, iteT ⟨tb25, fun g2 h2 G2 b2 => ⟨_, rfl, _, List.mem_singleton_self _, g2, h2, rfl, b2.at_, b2.code, fun E' hE => ?_⟩⟩⟩
    have e26 := ExtN.trans e25 b2.ext
    have op26 := op24.extN e26
    have tx26 : Wp G2 t zs := Wp.extN (Wp.extN (Wp.extN tx6 e16) e24) e26
    obtain ⟨dx, tn, ta, tl', ho, _⟩ := id op26.ex
    refine ⟨_, rfl, o, dx, _, rfl, ho, rfl, _, rfl, o, t, l, zs, rfl, ⟨op26, tx26.ws, sc.nd, sc.fo, by have := sc.lz; omega, sc.two⟩, fun H27 s27 => ⟨rfl, ?_⟩⟩
    rw [decide_eq_true rfl]
    have eN : ExtN H6 H27 := ExtN.trans e16 (ExtN.trans e24 (ExtN.trans e26 (ExtN.same s27)))
    have di27 : Dice H27 d (n + 28) := di6.kept fun u e => eN _ _ e fun ps y => by
      rw [hd6] at e
      cases e
      cases y
    exact q H27 ((KN.kp (P := fun b => b = d) k6 rfl).trans (KN.ext eN)) (b2.tabs.ext s27) (di27.more (by omega) (by omega))
end
end Pr
namespace Pr
open PySem PySem.Spec PyProof.Rows L2 Gd LamX NdefX Clo
/-! ### the lambdas of _law_fills_right, read -/
def NFl : List Str := ["dice", "ops", "tree", "context", "odd", "bad", "calls", "value", "call"]
/-- a method that takes any number of arguments -/
structure MtS (K : PySem.W.Frag) (C : Addr) (name qual : Str) (st : Stmt) (f : Addr) (fd : FuncData) : Prop where
  F : Fun K name qual st f fd
  m : Meth K C name f
structure MtSX (K : PySem.W.Frag) (C : Addr) (name qual : Str) (st : Stmt) : Prop where
  ex : ∃ f fd, MtS K C name qual st f fd
/-- what is known of filled -/
structure FX (K : PySem.W.Frag) (C : Addr) : Prop where
  f : MtSX K C "filled" "Operators.filled" mFilled
  x : MtX K C "is_context" "Operators.is_context" mIsCtx ["self", "value"]
  y : MtX K C "_check_filling" "Operators._check_filling" mChFill ["self", "context", "rest"]
abbrev spFB (C CM : Addr) : Sp := fun vs H Q E => ∃ ws rest, vs = ws ++ rest ∧ ws.length = 2 ∧ rest.length ≤ sizeLine ∧ ∀ p, H p = Option.none → spFillB C CM (ws ++ [V.ref p]) (upd H p (.tup rest)) Q E
section
variable {P : Program} {w : World} {K : PySem.W.Frag} {mg : Str → Option Value} {base : Heap} {C CT CM fW fT fC fP fE fI fN fL : Addr} {dW dT dC dP dE dI dN : FuncData} {tk tk2 : Tok}
abbrev lf_b0 (C CT CM : Addr) : LD := ⟨lamAt sFillsR 2, ["ops", "bad"], [1, 5], fun E => tMethR C "filled" (spFE C CT) E (tVar 0) (tCons (tVar 1) tNil)⟩
theorem tf_b0 (M : Ms K mg C fW fT fC fP fE fI fN dW dT dC dP dE dI dN tk) (gH : mg "HOLE" = some (.str hole tk2)) (IT : ItF K mg CT) (TM : PySem.TmnyX.TmnyTxt K mg CM fL) (T : Free mg) (Y : FX K C) : Told P w K mg base (L2.CX P w) 5 "_law_fills_right.<locals>.<lambda>" (lamAt sFillsR 2) ["ops", "bad"] (fun E => tMethR C "filled" (spFE C CT) E (tVar 0) (tCons (tVar 1) tNil)) := by
  obtain ⟨f1, d1, F1⟩ := Y.f.ex
  obtain ⟨f2, d2, X1⟩ := Y.x.ex
  obtain ⟨f3, d3, Y1⟩ := Y.y.ex
  refine ⟨nscope_by (by decide +kernel), fun _ _ _ _ => rfl, fun cl c f A outer s H E hr => pe_methR (pv 0) M.cf.cls F1.m (ok_fillE F1.F M X1 Y1 gH IT T) (hr.mono (by decide)) (E := E) (passes_call (takes_of rfl rfl rfl rfl) fun _ _ _ _ h => h) (pa_cons (pv 1) pa_nil)⟩
theorem cf_b0 : capsB NFl (defScope sFillsR) (lamAt sFillsR 2) ["ops", "bad"] [1, 5] = true := by decide +kernel
theorem lsf_b0 : LamS (defScope sFillsR) (lamAt sFillsR 2).scope := lamS_by (by decide +kernel)
abbrev lf_b1 (C CT CM : Addr) : LD := ⟨lamAt sFillsR 3, ["ops", "tree"], [1, 2], fun E => tMethR C "filled" (spFE C CT) E (tVar 0) (tCons (tVar 1) tNil)⟩
theorem tf_b1 (M : Ms K mg C fW fT fC fP fE fI fN dW dT dC dP dE dI dN tk) (gH : mg "HOLE" = some (.str hole tk2)) (IT : ItF K mg CT) (TM : PySem.TmnyX.TmnyTxt K mg CM fL) (T : Free mg) (Y : FX K C) : Told P w K mg base (L2.CX P w) 5 "_law_fills_right.<locals>.<lambda>" (lamAt sFillsR 3) ["ops", "tree"] (fun E => tMethR C "filled" (spFE C CT) E (tVar 0) (tCons (tVar 1) tNil)) := by
  obtain ⟨f1, d1, F1⟩ := Y.f.ex
  obtain ⟨f2, d2, X1⟩ := Y.x.ex
  obtain ⟨f3, d3, Y1⟩ := Y.y.ex
  refine ⟨nscope_by (by decide +kernel), fun _ _ _ _ => rfl, fun cl c f A outer s H E hr => pe_methR (pv 0) M.cf.cls F1.m (ok_fillE F1.F M X1 Y1 gH IT T) (hr.mono (by decide)) (E := E) (passes_call (takes_of rfl rfl rfl rfl) fun _ _ _ _ h => h) (pa_cons (pv 1) pa_nil)⟩
theorem cf_b1 : capsB NFl (defScope sFillsR) (lamAt sFillsR 3) ["ops", "tree"] [1, 2] = true := by decide +kernel
theorem lsf_b1 : LamS (defScope sFillsR) (lamAt sFillsR 3).scope := lamS_by (by decide +kernel)
abbrev lf_b2 (C CT CM : Addr) : LD := ⟨lamAt sFillsR 4, ["ops", "tree"], [1, 2], fun E => tMethR C "filled" (spFE C CT) E (tVar 0) (tCons (tVar 1) (tCons (tVar 1) tNil))⟩
theorem tf_b2 (M : Ms K mg C fW fT fC fP fE fI fN dW dT dC dP dE dI dN tk) (gH : mg "HOLE" = some (.str hole tk2)) (IT : ItF K mg CT) (TM : PySem.TmnyX.TmnyTxt K mg CM fL) (T : Free mg) (Y : FX K C) : Told P w K mg base (L2.CX P w) 5 "_law_fills_right.<locals>.<lambda>" (lamAt sFillsR 4) ["ops", "tree"] (fun E => tMethR C "filled" (spFE C CT) E (tVar 0) (tCons (tVar 1) (tCons (tVar 1) tNil))) := by
  obtain ⟨f1, d1, F1⟩ := Y.f.ex
  obtain ⟨f2, d2, X1⟩ := Y.x.ex
  obtain ⟨f3, d3, Y1⟩ := Y.y.ex
  refine ⟨nscope_by (by decide +kernel), fun _ _ _ _ => rfl, fun cl c f A outer s H E hr => pe_methR (pv 0) M.cf.cls F1.m (ok_fillE F1.F M X1 Y1 gH IT T) (hr.mono (by decide)) (E := E) (passes_call (takes_of rfl rfl rfl rfl) fun _ _ _ _ h => h) (pa_cons (pv 1) (pa_cons (pv 1) pa_nil))⟩
theorem cf_b2 : capsB NFl (defScope sFillsR) (lamAt sFillsR 4) ["ops", "tree"] [1, 2] = true := by decide +kernel
theorem lsf_b2 : LamS (defScope sFillsR) (lamAt sFillsR 4).scope := lamS_by (by decide +kernel)
abbrev lf_b3 (C CT CM : Addr) : LD := ⟨lamAt sFillsR 5, ["ops", "bad", "tree"], [1, 5, 2], fun E => tMethR C "filled" (spFE C CT) E (tVar 0) (tCons (tVar 1) (tCons (tVar 2) tNil))⟩
theorem tf_b3 (M : Ms K mg C fW fT fC fP fE fI fN dW dT dC dP dE dI dN tk) (gH : mg "HOLE" = some (.str hole tk2)) (IT : ItF K mg CT) (TM : PySem.TmnyX.TmnyTxt K mg CM fL) (T : Free mg) (Y : FX K C) : Told P w K mg base (L2.CX P w) 5 "_law_fills_right.<locals>.<lambda>" (lamAt sFillsR 5) ["ops", "bad", "tree"] (fun E => tMethR C "filled" (spFE C CT) E (tVar 0) (tCons (tVar 1) (tCons (tVar 2) tNil))) := by
  obtain ⟨f1, d1, F1⟩ := Y.f.ex
  obtain ⟨f2, d2, X1⟩ := Y.x.ex
  obtain ⟨f3, d3, Y1⟩ := Y.y.ex
  refine ⟨nscope_by (by decide +kernel), fun _ _ _ _ => rfl, fun cl c f A outer s H E hr => pe_methR (pv 0) M.cf.cls F1.m (ok_fillE F1.F M X1 Y1 gH IT T) (hr.mono (by decide)) (E := E) (passes_call (takes_of rfl rfl rfl rfl) fun _ _ _ _ h => h) (pa_cons (pv 1) (pa_cons (pv 2) pa_nil))⟩
theorem cf_b3 : capsB NFl (defScope sFillsR) (lamAt sFillsR 5) ["ops", "bad", "tree"] [1, 5, 2] = true := by decide +kernel
theorem lsf_b3 : LamS (defScope sFillsR) (lamAt sFillsR 5).scope := lamS_by (by decide +kernel)
abbrev lf_b4 (C CT CM : Addr) : LD := ⟨lamAt sFillsR 6, ["ops", "context", "bad"], [1, 3, 5], fun E => tMethR C "filled" (spFE C CT) E (tVar 0) (tCons (tVar 1) (tCons (tVar 2) tNil))⟩
theorem tf_b4 (M : Ms K mg C fW fT fC fP fE fI fN dW dT dC dP dE dI dN tk) (gH : mg "HOLE" = some (.str hole tk2)) (IT : ItF K mg CT) (TM : PySem.TmnyX.TmnyTxt K mg CM fL) (T : Free mg) (Y : FX K C) : Told P w K mg base (L2.CX P w) 5 "_law_fills_right.<locals>.<lambda>" (lamAt sFillsR 6) ["ops", "context", "bad"] (fun E => tMethR C "filled" (spFE C CT) E (tVar 0) (tCons (tVar 1) (tCons (tVar 2) tNil))) := by
  obtain ⟨f1, d1, F1⟩ := Y.f.ex
  obtain ⟨f2, d2, X1⟩ := Y.x.ex
  obtain ⟨f3, d3, Y1⟩ := Y.y.ex
  refine ⟨nscope_by (by decide +kernel), fun _ _ _ _ => rfl, fun cl c f A outer s H E hr => pe_methR (pv 0) M.cf.cls F1.m (ok_fillE F1.F M X1 Y1 gH IT T) (hr.mono (by decide)) (E := E) (passes_call (takes_of rfl rfl rfl rfl) fun _ _ _ _ h => h) (pa_cons (pv 1) (pa_cons (pv 2) pa_nil))⟩
theorem cf_b4 : capsB NFl (defScope sFillsR) (lamAt sFillsR 6) ["ops", "context", "bad"] [1, 3, 5] = true := by decide +kernel
theorem lsf_b4 : LamS (defScope sFillsR) (lamAt sFillsR 6).scope := lamS_by (by decide +kernel)
abbrev lf_b5 (C CT CM : Addr) : LD := ⟨lamAt sFillsR 7, ["ops", "context", "tree"], [1, 3, 2], fun E => tMethR C "filled" (spFE C CT) E (tVar 0) (tCons (tVar 1) (tCons (tVar 2) (tCons (tVar 2) tNil)))⟩
theorem tf_b5 (M : Ms K mg C fW fT fC fP fE fI fN dW dT dC dP dE dI dN tk) (gH : mg "HOLE" = some (.str hole tk2)) (IT : ItF K mg CT) (TM : PySem.TmnyX.TmnyTxt K mg CM fL) (T : Free mg) (Y : FX K C) : Told P w K mg base (L2.CX P w) 5 "_law_fills_right.<locals>.<lambda>" (lamAt sFillsR 7) ["ops", "context", "tree"] (fun E => tMethR C "filled" (spFE C CT) E (tVar 0) (tCons (tVar 1) (tCons (tVar 2) (tCons (tVar 2) tNil)))) := by
  obtain ⟨f1, d1, F1⟩ := Y.f.ex
  obtain ⟨f2, d2, X1⟩ := Y.x.ex
  obtain ⟨f3, d3, Y1⟩ := Y.y.ex
  refine ⟨nscope_by (by decide +kernel), fun _ _ _ _ => rfl, fun cl c f A outer s H E hr => pe_methR (pv 0) M.cf.cls F1.m (ok_fillE F1.F M X1 Y1 gH IT T) (hr.mono (by decide)) (E := E) (passes_call (takes_of rfl rfl rfl rfl) fun _ _ _ _ h => h) (pa_cons (pv 1) (pa_cons (pv 2) (pa_cons (pv 2) pa_nil)))⟩
theorem cf_b5 : capsB NFl (defScope sFillsR) (lamAt sFillsR 7) ["ops", "context", "tree"] [1, 3, 2] = true := by decide +kernel
theorem lsf_b5 : LamS (defScope sFillsR) (lamAt sFillsR 7).scope := lamS_by (by decide +kernel)
abbrev lf_b6 (C CT CM : Addr) : LD := ⟨lamAt sFillsR 8, ["ops", "context", "tree"], [1, 3, 2], fun E => tMethR C "filled" (spFE C CT) E (tVar 0) (tCons (tVar 1) (tCons (tVar 2) (tCons (tVar 1) tNil)))⟩
theorem tf_b6 (M : Ms K mg C fW fT fC fP fE fI fN dW dT dC dP dE dI dN tk) (gH : mg "HOLE" = some (.str hole tk2)) (IT : ItF K mg CT) (TM : PySem.TmnyX.TmnyTxt K mg CM fL) (T : Free mg) (Y : FX K C) : Told P w K mg base (L2.CX P w) 5 "_law_fills_right.<locals>.<lambda>" (lamAt sFillsR 8) ["ops", "context", "tree"] (fun E => tMethR C "filled" (spFE C CT) E (tVar 0) (tCons (tVar 1) (tCons (tVar 2) (tCons (tVar 1) tNil)))) := by
  obtain ⟨f1, d1, F1⟩ := Y.f.ex
  obtain ⟨f2, d2, X1⟩ := Y.x.ex
  obtain ⟨f3, d3, Y1⟩ := Y.y.ex
  refine ⟨nscope_by (by decide +kernel), fun _ _ _ _ => rfl, fun cl c f A outer s H E hr => pe_methR (pv 0) M.cf.cls F1.m (ok_fillE F1.F M X1 Y1 gH IT T) (hr.mono (by decide)) (E := E) (passes_call (takes_of rfl rfl rfl rfl) fun _ _ _ _ h => h) (pa_cons (pv 1) (pa_cons (pv 2) (pa_cons (pv 1) pa_nil)))⟩
theorem cf_b6 : capsB NFl (defScope sFillsR) (lamAt sFillsR 8) ["ops", "context", "tree"] [1, 3, 2] = true := by decide +kernel
theorem lsf_b6 : LamS (defScope sFillsR) (lamAt sFillsR 8).scope := lamS_by (by decide +kernel)
abbrev lf_b7 (C CT CM : Addr) : LD := ⟨lamAt sFillsR 9, ["ops", "context", "bad", "tree"], [1, 3, 5, 2], fun E => tMethR C "filled" (spFE C CT) E (tVar 0) (tCons (tVar 1) (tCons (tVar 2) (tCons (tVar 3) tNil)))⟩
theorem tf_b7 (M : Ms K mg C fW fT fC fP fE fI fN dW dT dC dP dE dI dN tk) (gH : mg "HOLE" = some (.str hole tk2)) (IT : ItF K mg CT) (TM : PySem.TmnyX.TmnyTxt K mg CM fL) (T : Free mg) (Y : FX K C) : Told P w K mg base (L2.CX P w) 5 "_law_fills_right.<locals>.<lambda>" (lamAt sFillsR 9) ["ops", "context", "bad", "tree"] (fun E => tMethR C "filled" (spFE C CT) E (tVar 0) (tCons (tVar 1) (tCons (tVar 2) (tCons (tVar 3) tNil)))) := by
  obtain ⟨f1, d1, F1⟩ := Y.f.ex
  obtain ⟨f2, d2, X1⟩ := Y.x.ex
  obtain ⟨f3, d3, Y1⟩ := Y.y.ex
  refine ⟨nscope_by (by decide +kernel), fun _ _ _ _ => rfl, fun cl c f A outer s H E hr => pe_methR (pv 0) M.cf.cls F1.m (ok_fillE F1.F M X1 Y1 gH IT T) (hr.mono (by decide)) (E := E) (passes_call (takes_of rfl rfl rfl rfl) fun _ _ _ _ h => h) (pa_cons (pv 1) (pa_cons (pv 2) (pa_cons (pv 3) pa_nil)))⟩
theorem cf_b7 : capsB NFl (defScope sFillsR) (lamAt sFillsR 9) ["ops", "context", "bad", "tree"] [1, 3, 5, 2] = true := by decide +kernel
theorem lsf_b7 : LamS (defScope sFillsR) (lamAt sFillsR 9).scope := lamS_by (by decide +kernel)
abbrev lf_b8 (C CT CM : Addr) : LD := ⟨lamAt sFillsR 10, ["ops", "context", "bad"], [1, 3, 5], fun E => tMethR C "filled" (spFE C CT) E (tVar 0) (tCons (tVar 1) (tCons (tVar 1) (tCons (tVar 2) tNil)))⟩
theorem tf_b8 (M : Ms K mg C fW fT fC fP fE fI fN dW dT dC dP dE dI dN tk) (gH : mg "HOLE" = some (.str hole tk2)) (IT : ItF K mg CT) (TM : PySem.TmnyX.TmnyTxt K mg CM fL) (T : Free mg) (Y : FX K C) : Told P w K mg base (L2.CX P w) 5 "_law_fills_right.<locals>.<lambda>" (lamAt sFillsR 10) ["ops", "context", "bad"] (fun E => tMethR C "filled" (spFE C CT) E (tVar 0) (tCons (tVar 1) (tCons (tVar 1) (tCons (tVar 2) tNil)))) := by
  obtain ⟨f1, d1, F1⟩ := Y.f.ex
  obtain ⟨f2, d2, X1⟩ := Y.x.ex
  obtain ⟨f3, d3, Y1⟩ := Y.y.ex
  refine ⟨nscope_by (by decide +kernel), fun _ _ _ _ => rfl, fun cl c f A outer s H E hr => pe_methR (pv 0) M.cf.cls F1.m (ok_fillE F1.F M X1 Y1 gH IT T) (hr.mono (by decide)) (E := E) (passes_call (takes_of rfl rfl rfl rfl) fun _ _ _ _ h => h) (pa_cons (pv 1) (pa_cons (pv 1) (pa_cons (pv 2) pa_nil)))⟩
theorem cf_b8 : capsB NFl (defScope sFillsR) (lamAt sFillsR 10) ["ops", "context", "bad"] [1, 3, 5] = true := by decide +kernel
theorem lsf_b8 : LamS (defScope sFillsR) (lamAt sFillsR 10).scope := lamS_by (by decide +kernel)
abbrev lf_f0 (C CT CM : Addr) : LD := ⟨lamAt sFillsR 12, ["ops", "context"], [1, 3], fun E => tMethR C "filled" (spFB C CM) E (tVar 0) (tCons (tVar 1) tNil)⟩
theorem tf_f0 (M : Ms K mg C fW fT fC fP fE fI fN dW dT dC dP dE dI dN tk) (gH : mg "HOLE" = some (.str hole tk2)) (IT : ItF K mg CT) (TM : PySem.TmnyX.TmnyTxt K mg CM fL) (T : Free mg) (Y : FX K C) : Told P w K mg base (L2.CX P w) 5 "_law_fills_right.<locals>.<lambda>" (lamAt sFillsR 12) ["ops", "context"] (fun E => tMethR C "filled" (spFB C CM) E (tVar 0) (tCons (tVar 1) tNil)) := by
  obtain ⟨f1, d1, F1⟩ := Y.f.ex
  obtain ⟨f2, d2, X1⟩ := Y.x.ex
  obtain ⟨f3, d3, Y1⟩ := Y.y.ex
  refine ⟨nscope_by (by decide +kernel), fun _ _ _ _ => rfl, fun cl c f A outer s H E hr => pe_methR (pv 0) M.cf.cls F1.m (ok_fill F1.F M X1 Y1 gH TM T) (hr.mono (by decide)) (E := E) (passes_call (takes_of rfl rfl rfl rfl) fun _ _ _ _ h => h) (pa_cons (pv 1) pa_nil)⟩
theorem cf_f0 : capsB NFl (defScope sFillsR) (lamAt sFillsR 12) ["ops", "context"] [1, 3] = true := by decide +kernel
theorem lsf_f0 : LamS (defScope sFillsR) (lamAt sFillsR 12).scope := lamS_by (by decide +kernel)
abbrev lf_f1 (C CT CM : Addr) : LD := ⟨lamAt sFillsR 13, ["ops", "context"], [1, 3], fun E => tMethR C "filled" (spFB C CM) E (tVar 0) (tCons (tVar 1) (tCons (tVar 1) tNil))⟩
theorem tf_f1 (M : Ms K mg C fW fT fC fP fE fI fN dW dT dC dP dE dI dN tk) (gH : mg "HOLE" = some (.str hole tk2)) (IT : ItF K mg CT) (TM : PySem.TmnyX.TmnyTxt K mg CM fL) (T : Free mg) (Y : FX K C) : Told P w K mg base (L2.CX P w) 5 "_law_fills_right.<locals>.<lambda>" (lamAt sFillsR 13) ["ops", "context"] (fun E => tMethR C "filled" (spFB C CM) E (tVar 0) (tCons (tVar 1) (tCons (tVar 1) tNil))) := by
  obtain ⟨f1, d1, F1⟩ := Y.f.ex
  obtain ⟨f2, d2, X1⟩ := Y.x.ex
  obtain ⟨f3, d3, Y1⟩ := Y.y.ex
  refine ⟨nscope_by (by decide +kernel), fun _ _ _ _ => rfl, fun cl c f A outer s H E hr => pe_methR (pv 0) M.cf.cls F1.m (ok_fill F1.F M X1 Y1 gH TM T) (hr.mono (by decide)) (E := E) (passes_call (takes_of rfl rfl rfl rfl) fun _ _ _ _ h => h) (pa_cons (pv 1) (pa_cons (pv 1) pa_nil))⟩
theorem cf_f1 : capsB NFl (defScope sFillsR) (lamAt sFillsR 13) ["ops", "context"] [1, 3] = true := by decide +kernel
theorem lsf_f1 : LamS (defScope sFillsR) (lamAt sFillsR 13).scope := lamS_by (by decide +kernel)
abbrev lf_f2 (C CT CM : Addr) : LD := ⟨lamAt sFillsR 14, ["ops", "context", "tree"], [1, 3, 2], fun E => tMethR C "filled" (spFB C CM) E (tVar 0) (tCons (tVar 1) (tCons (tVar 2) tNil))⟩
theorem tf_f2 (M : Ms K mg C fW fT fC fP fE fI fN dW dT dC dP dE dI dN tk) (gH : mg "HOLE" = some (.str hole tk2)) (IT : ItF K mg CT) (TM : PySem.TmnyX.TmnyTxt K mg CM fL) (T : Free mg) (Y : FX K C) : Told P w K mg base (L2.CX P w) 5 "_law_fills_right.<locals>.<lambda>" (lamAt sFillsR 14) ["ops", "context", "tree"] (fun E => tMethR C "filled" (spFB C CM) E (tVar 0) (tCons (tVar 1) (tCons (tVar 2) tNil))) := by
  obtain ⟨f1, d1, F1⟩ := Y.f.ex
  obtain ⟨f2, d2, X1⟩ := Y.x.ex
  obtain ⟨f3, d3, Y1⟩ := Y.y.ex
  refine ⟨nscope_by (by decide +kernel), fun _ _ _ _ => rfl, fun cl c f A outer s H E hr => pe_methR (pv 0) M.cf.cls F1.m (ok_fill F1.F M X1 Y1 gH TM T) (hr.mono (by decide)) (E := E) (passes_call (takes_of rfl rfl rfl rfl) fun _ _ _ _ h => h) (pa_cons (pv 1) (pa_cons (pv 2) pa_nil))⟩
theorem cf_f2 : capsB NFl (defScope sFillsR) (lamAt sFillsR 14) ["ops", "context", "tree"] [1, 3, 2] = true := by decide +kernel
theorem lsf_f2 : LamS (defScope sFillsR) (lamAt sFillsR 14).scope := lamS_by (by decide +kernel)
end
section
variable {C CT CN CM o : Addr} {H : Hp} {Q : VK} {l : List (Str × Nat)}
theorem fe_of {c : V} {x0 : Option (List V)} {prs : List Pv} {E' : XK} {R : VK} (op : OpsAt H C o l) (no : hole ∉ l.map (·.1)) (few : l.length ≤ 8) (vc : Vw H c x0) (vps : ∀ p ∈ prs, Vw H p.1 p.2) (l10 : prs.length ≤ 10) (bad : okF l x0 (prs.map (·.2)) = false)
    (q : ∀ H', Same H H' → Q (.str "tree") H') (hE : ∀ cls d H', wE CT CN Q cls d H' → E' cls d H') : spFE C CT (.ref o :: c :: prs.map (·.1)) H R E' :=
  ⟨o, c, l, x0, prs, rfl, op, no, few, vc, vps, l10, bad, fun H' s => hE _ _ _ (.inl ⟨rfl, q H' s⟩)⟩
/-- tree, context and a value that is neither -/
structure Vs8 (H : Hp) (C o : Addr) (l : List (Str × Nat)) (t cx : Addr) (zs a b : List Str) (v : V) (x : Option (List V)) : Prop where
  op : OpsAt H C o l
  no : hole ∉ l.map (·.1)
  few : l.length ≤ 8
  vt : Vw H (.ref t) (some (zs.map V.str))
  vc : Vw H (.ref cx) (some ((cxt a b).map V.str))
  vb : Vw H v x
  tt : tB l (some (zs.map V.str)) = true
  tc : cB l (some (zs.map V.str)) = false
  ct : tB l (some ((cxt a b).map V.str)) = false
  cc : cB l (some ((cxt a b).map V.str)) = true
  bt : tB l x = false
  bc : cB l x = false
theorem Vs8.extN {H H' : Hp} {C o : Addr} {l : List (Str × Nat)} {t cx : Addr} {zs a b : List Str} {v : V} {x : Option (List V)} (h : Vs8 H C o l t cx zs a b v x) (k : ExtN H H') : Vs8 H' C o l t cx zs a b v x :=
  ⟨h.op.extN k, h.no, h.few, h.vt.extN k, h.vc.extN k, h.vb.extN k, h.tt, h.tc, h.ct, h.cc, h.bt, h.bc⟩
variable {t cx : Addr} {zs a b : List Str} {v : V} {x : Option (List V)}
theorem tw_fb0 (h : Vs8 H C o l t cx zs a b v x) (q : ∀ H', Same H H' → Q (.str "tree") H') : TWord CT CN (fun E => tMethR C "filled" (spFE C CT) E (tVar 0) (tCons (tVar 1) tNil)) [some (V.ref o), some (v)] H Q := by
  intro E' hE
  obtain ⟨dx, tn, ta, tl, ho, _⟩ := h.op.ex
  exact ⟨_, rfl, o, dx, _, rfl, ho, rfl, _, rfl, fe_of (R := fun _ H' => Q (.str "fine") H') (prs := []) h.op h.no h.few h.vb all_nil (by show 0 ≤ 10; decide) (by simp [okF, h.tt, h.tc, h.ct, h.cc, h.bt, h.bc]) q hE⟩
theorem tw_fb1 (h : Vs8 H C o l t cx zs a b v x) (q : ∀ H', Same H H' → Q (.str "tree") H') : TWord CT CN (fun E => tMethR C "filled" (spFE C CT) E (tVar 0) (tCons (tVar 1) tNil)) [some (V.ref o), some (V.ref t)] H Q := by
  intro E' hE
  obtain ⟨dx, tn, ta, tl, ho, _⟩ := h.op.ex
  exact ⟨_, rfl, o, dx, _, rfl, ho, rfl, _, rfl, fe_of (R := fun _ H' => Q (.str "fine") H') (prs := []) h.op h.no h.few h.vt all_nil (by show 0 ≤ 10; decide) (by simp [okF, h.tt, h.tc, h.ct, h.cc, h.bt, h.bc]) q hE⟩
theorem tw_fb2 (h : Vs8 H C o l t cx zs a b v x) (q : ∀ H', Same H H' → Q (.str "tree") H') : TWord CT CN (fun E => tMethR C "filled" (spFE C CT) E (tVar 0) (tCons (tVar 1) (tCons (tVar 1) tNil))) [some (V.ref o), some (V.ref t)] H Q := by
  intro E' hE
  obtain ⟨dx, tn, ta, tl, ho, _⟩ := h.op.ex
  exact ⟨_, rfl, o, dx, _, rfl, ho, rfl, _, rfl, _, rfl, fe_of (R := fun _ H' => Q (.str "fine") H') (prs := [(V.ref t, some (zs.map V.str))]) h.op h.no h.few h.vt (all_cons h.vt all_nil) (by show 1 ≤ 10; decide) (by simp [okF, h.tt, h.tc, h.ct, h.cc, h.bt, h.bc]) q hE⟩
theorem tw_fb3 (h : Vs8 H C o l t cx zs a b v x) (q : ∀ H', Same H H' → Q (.str "tree") H') : TWord CT CN (fun E => tMethR C "filled" (spFE C CT) E (tVar 0) (tCons (tVar 1) (tCons (tVar 2) tNil))) [some (V.ref o), some (v), some (V.ref t)] H Q := by
  intro E' hE
  obtain ⟨dx, tn, ta, tl, ho, _⟩ := h.op.ex
  exact ⟨_, rfl, o, dx, _, rfl, ho, rfl, _, rfl, _, rfl, fe_of (R := fun _ H' => Q (.str "fine") H') (prs := [(V.ref t, some (zs.map V.str))]) h.op h.no h.few h.vb (all_cons h.vt all_nil) (by show 1 ≤ 10; decide) (by simp [okF, h.tt, h.tc, h.ct, h.cc, h.bt, h.bc]) q hE⟩
theorem tw_fb4 (h : Vs8 H C o l t cx zs a b v x) (q : ∀ H', Same H H' → Q (.str "tree") H') : TWord CT CN (fun E => tMethR C "filled" (spFE C CT) E (tVar 0) (tCons (tVar 1) (tCons (tVar 2) tNil))) [some (V.ref o), some (V.ref cx), some (v)] H Q := by
  intro E' hE
  obtain ⟨dx, tn, ta, tl, ho, _⟩ := h.op.ex
  exact ⟨_, rfl, o, dx, _, rfl, ho, rfl, _, rfl, _, rfl, fe_of (R := fun _ H' => Q (.str "fine") H') (prs := [(v, x)]) h.op h.no h.few h.vc (all_cons h.vb all_nil) (by show 1 ≤ 10; decide) (by simp [okF, h.tt, h.tc, h.ct, h.cc, h.bt, h.bc]) q hE⟩
theorem tw_fb5 (h : Vs8 H C o l t cx zs a b v x) (q : ∀ H', Same H H' → Q (.str "tree") H') : TWord CT CN (fun E => tMethR C "filled" (spFE C CT) E (tVar 0) (tCons (tVar 1) (tCons (tVar 2) (tCons (tVar 2) tNil)))) [some (V.ref o), some (V.ref cx), some (V.ref t)] H Q := by
  intro E' hE
  obtain ⟨dx, tn, ta, tl, ho, _⟩ := h.op.ex
  exact ⟨_, rfl, o, dx, _, rfl, ho, rfl, _, rfl, _, rfl, _, rfl, fe_of (R := fun _ H' => Q (.str "fine") H') (prs := [(V.ref t, some (zs.map V.str)), (V.ref t, some (zs.map V.str))]) h.op h.no h.few h.vc (all_cons h.vt (all_cons h.vt all_nil)) (by show 2 ≤ 10; decide) (by simp [okF, h.tt, h.tc, h.ct, h.cc, h.bt, h.bc]) q hE⟩
theorem tw_fb6 (h : Vs8 H C o l t cx zs a b v x) (q : ∀ H', Same H H' → Q (.str "tree") H') : TWord CT CN (fun E => tMethR C "filled" (spFE C CT) E (tVar 0) (tCons (tVar 1) (tCons (tVar 2) (tCons (tVar 1) tNil)))) [some (V.ref o), some (V.ref cx), some (V.ref t)] H Q := by
  intro E' hE
  obtain ⟨dx, tn, ta, tl, ho, _⟩ := h.op.ex
  exact ⟨_, rfl, o, dx, _, rfl, ho, rfl, _, rfl, _, rfl, _, rfl, fe_of (R := fun _ H' => Q (.str "fine") H') (prs := [(V.ref t, some (zs.map V.str)), (V.ref cx, some ((cxt a b).map V.str))]) h.op h.no h.few h.vc (all_cons h.vt (all_cons h.vc all_nil)) (by show 2 ≤ 10; decide) (by simp [okF, h.tt, h.tc, h.ct, h.cc, h.bt, h.bc]) q hE⟩
theorem tw_fb7 (h : Vs8 H C o l t cx zs a b v x) (q : ∀ H', Same H H' → Q (.str "tree") H') : TWord CT CN (fun E => tMethR C "filled" (spFE C CT) E (tVar 0) (tCons (tVar 1) (tCons (tVar 2) (tCons (tVar 3) tNil)))) [some (V.ref o), some (V.ref cx), some (v), some (V.ref t)] H Q := by
  intro E' hE
  obtain ⟨dx, tn, ta, tl, ho, _⟩ := h.op.ex
  exact ⟨_, rfl, o, dx, _, rfl, ho, rfl, _, rfl, _, rfl, _, rfl, fe_of (R := fun _ H' => Q (.str "fine") H') (prs := [(v, x), (V.ref t, some (zs.map V.str))]) h.op h.no h.few h.vc (all_cons h.vb (all_cons h.vt all_nil)) (by show 2 ≤ 10; decide) (by simp [okF, h.tt, h.tc, h.ct, h.cc, h.bt, h.bc]) q hE⟩
theorem tw_fb8 (h : Vs8 H C o l t cx zs a b v x) (q : ∀ H', Same H H' → Q (.str "tree") H') : TWord CT CN (fun E => tMethR C "filled" (spFE C CT) E (tVar 0) (tCons (tVar 1) (tCons (tVar 1) (tCons (tVar 2) tNil)))) [some (V.ref o), some (V.ref cx), some (v)] H Q := by
  intro E' hE
  obtain ⟨dx, tn, ta, tl, ho, _⟩ := h.op.ex
  exact ⟨_, rfl, o, dx, _, rfl, ho, rfl, _, rfl, _, rfl, _, rfl, fe_of (R := fun _ H' => Q (.str "fine") H') (prs := [(V.ref cx, some ((cxt a b).map V.str)), (v, x)]) h.op h.no h.few h.vc (all_cons h.vc (all_cons h.vb all_nil)) (by show 2 ≤ 10; decide) (by simp [okF, h.tt, h.tc, h.ct, h.cc, h.bt, h.bc]) q hE⟩
theorem ff_of {k : Cw} {z : Option (Addr × List Str)} {c : Addr} {rest : List V} {E' : XK} {R : VK} (fa : ∀ p, H p = none → FillAt (upd H p (.tup rest)) C o c p l k [] z) (lr : rest.length ≤ 10) (small : (resF k [] z).length ≤ 5000) (q : ∀ v H', Same H H' → R v H') : spFB C CM ([.ref o, .ref c] ++ rest) H R E' := by
  refine ⟨[.ref o, .ref c], rest, rfl, rfl, Nat.le_trans lr (by decide), fun p np => ⟨o, c, p, l, k, [], z, rfl, fa p np, fun _ r H' s _ _ => q _ _ ((Same.new np).trans s), fun big => absurd small (by omega)⟩⟩
theorem tw_fine {te : XK → TE} {ws : List (Option V)} (h : ∀ (E' : XK) (Q' : VK), (∀ v H', Same H H' → Q' v H') → te E' ws H Q') (q : ∀ H', Same H H' → Q (.str "fine") H') : TWord CT CN te ws H Q := fun E' _ => h E' _ fun _ H' s => q H' s
end
end Pr
namespace Pr
open PySem PySem.Spec PyProof.Rows L2 Gd LamX NdefX Clo
/-! ### _law_fills_right -/
section
variable {K : PySem.W.Frag} {a D : Addr} {xs : List V} {tt : TT} {i : Nat} {σ : L2.St} {H1 : Hp} {Qd : Hp → Prop}
/-- a comprehension that chooses, where the test lays new objects -/
theorem lc_filtLS (p : V → Bool) (hi : i < σ.length) (ht : ∀ G, Same H1 G → SqL K G a xs) (nD : H1 D = none) (few : xs.length < sizeLine)
    (hs : ∀ x ∈ xs, ∀ G, Same H1 G → ∀ R : Bool → Hp → Prop, (∀ G', Same G G' → R (p x) G') → tt ((σ.set i none).set i (some x)) G R) (hd : ∀ G, G D = some (.lst (xs.filter p)) → Same H1 G → Qd G) :
    ∃ W : Nat → Nat → Hp → Prop, (∃ m, W 0 m (upd H1 D (.lst []))) ∧ ∀ k m H, W k m H →
      ((Itl K a).stop k H ∧ Qd H) ∨ ((Itl K a).go k H ∧ ∃ Nx : Hp → Prop, (∀ H', Nx H' → ∃ m', m' < m ∧ W (k + 1) m' H') ∧ ∀ x H', (Itl K a).yld k H x H' → gName i x (wipe σ [i]) H' fun σ2 H2 => wipe σ2 [i] = wipe σ [i] ∧ tt σ2 H2 fun b H3 =>
        if b = true then tVar i σ2 H3 fun y H4 => ∃ acc, H4 D = some (.lst acc) ∧ acc.length < sizeLine ∧ Nx (upd H4 D (.lst (acc ++ [y]))) else Nx H3) := by
  refine lc_list (K := K) (a := a) (xs := xs) (fun k G => G D = some (.lst ((xs.take k).filter p)) ∧ Same H1 G) ⟨upd_same, Same.new nD⟩ (fun k G _ ⟨_, s⟩ => ht G s) ?_ ?_
  · intro k x G hx h
    obtain ⟨eD, s⟩ := h
    refine ⟨?_, ?_⟩
    · show (((σ.set i none).set i (some x)).set i none) = σ.set i none
      rw [List.set_set, List.set_set]
    · refine hs x (List.mem_of_getElem? hx) G s _ fun G' s' => ?_
      have e := filt_step (xs := xs) p hx
      by_cases c : p x = true
      · rw [if_pos c] at e ⊢
        refine ⟨x, ?_, _, s' _ _ eD, Nat.lt_of_le_of_lt (filt_len p) few, ?_, ?_⟩
        · show ((σ.set i none).set i (some x))[i]? = some (some x)
          rw [List.getElem?_set_self (by rw [List.length_set]; exact hi)]
        · rw [upd_same, e]
        · exact fun b u q => by
            rw [upd_ne (ne_of_none q nD)]
            exact s' _ _ (s b u q)
      · rw [if_neg c] at e ⊢
        rw [e, List.append_nil]
        exact ⟨s' _ _ eD, fun b u q => s' _ _ (s b u q)⟩
  · rintro G ⟨eD, s⟩
    rw [List.take_length] at eD
    exact hd G eD s
end
/-- neither a tree nor a context -/
def BadC (l : List (Str × Nat)) (H : Hp) (v : V) : Prop := ∃ x, Vw H v x ∧ tB l x = false ∧ cB l x = false
theorem BadC.same {l : List (Str × Nat)} {H H' : Hp} {v : V} (h : BadC l H v) (s : Same H H') : BadC l H' v := let ⟨x, a, b, c⟩ := h; ⟨x, a.same s, b, c⟩
noncomputable def badC (l : List (Str × Nat)) (H : Hp) (v : V) : Bool := @decide (BadC l H v) (Classical.propDecidable _)
theorem badC_eq {l : List (Str × Nat)} {H : Hp} {v : V} {x : Option (List V)} (h : Vw H v x) : badC l H v = (!tB l x && !cB l x) := by
  unfold badC
  cases e : (!tB l x && !cB l x) with
  | true =>
    rw [Bool.and_eq_true, Bool.not_eq_true', Bool.not_eq_true'] at e
    exact @decide_eq_true _ (Classical.propDecidable _) ⟨x, h, e.1, e.2⟩
  | false =>
    refine @decide_eq_false _ (Classical.propDecidable _) fun ⟨y, k, z1, z2⟩ => ?_
    rw [← h.det k] at z1 z2
    rw [z1, z2] at e
    cases e
theorem badC_of {l : List (Str × Nat)} {H : Hp} {v : V} (h : badC l H v = true) : BadC l H v := @of_decide_eq_true _ (Classical.propDecidable _) h
theorem isH_count {zs : List Str} : (zs.map V.str).countP isH = zs.countP isHole := by
  rw [List.countP_map]
  rfl
theorem cB_tree {l : List (Str × Nat)} (no : hole ∉ l.map (·.1)) {zs : List Str} (f : Fo l 1 zs) : cB l (some (zs.map V.str)) = false := by
  show (decide _ && (decide _ && _)) = false
  rw [isH_count, count_no (f.noH no)]
  exact Bool.and_false _
theorem cB_ctx {l : List (Str × Nat)} (nd : (l.map (·.1)).Nodup) (no : hole ∉ l.map (·.1)) {a b : List Str} (c : IsC l a b) (few : (cxt a b).length ≤ 5000) : cB l (some ((cxt a b).map V.str)) = true := by
  have e := fo_wgo (n := 1) (lH_nd nd no) c.fo
  have e : wgo (lH l) 1 ((cxt a b).map V.str) = true := e
  show (decide _ && (decide _ && _)) = true
  rw [isH_count, count_ctx c.na c.nb, List.length_map, decide_eq_true few, e]
  rfl
theorem tB_ctx {l : List (Str × Nat)} (no : hole ∉ l.map (·.1)) {zs : List Str} (m : hole ∈ zs) : tB l (some (zs.map V.str)) = false := by
  show (decide _ && wgo l 1 _) = false
  cases e : wgo l 1 (zs.map V.str) with
  | false => exact Bool.and_false _
  | true => exact absurd m ((wgo_fo (n := 1) e val_in).noH no)
theorem cB_two {l : List (Str × Nat)} {a b : List Str} (na : hole ∉ a) (nb : hole ∉ b) : cB l (some ((cxt a b ++ cxt a b).map V.str)) = false := by
  show (decide _ && (decide _ && _)) = false
  rw [isH_count, List.countP_append, count_ctx na nb]
  exact Bool.and_false _
theorem tB_tree {l : List (Str × Nat)} (nd : (l.map (·.1)).Nodup) {zs : List Str} (f : Fo l 1 zs) (few : zs.length ≤ 5000) : tB l (some (zs.map V.str)) = true := by
  show (decide _ && wgo l 1 _) = true
  rw [decide_eq_true (by rw [List.length_map]; exact few), Bool.true_and]
  exact fo_wgo nd f
theorem fill_one {a b v : List Str} : fill [(a, b)] v = a ++ (v ++ b) := by simp [fill, fillA, revB]
theorem scFR : FnScope NFl ["dice", "ops", "tree", "context"] (defScope sFillsR) := ⟨rfl, rfl, rfl, by decide +kernel, rfl, by decide +kernel, by decide +kernel⟩
section
variable {P : Program} {w : World} {K : PySem.W.Frag} {mg : Str → Option Value} {base : Heap} {C CT CN CM eN fW fT fC fP fE fI fN fR fK fM fO gw fL c0 P0 : Addr} {dW dT dC dP dE dI dN dR dK dM dO dw : FuncData} {tk tk2 : Tok} {Tt : List (Addr × Str)}
theorem ok_fillsR {f : Addr} {fd : FuncData} (F : FunC K "_law_fills_right" sFillsR f c0 fd) (TB : TabB base mg c0 P0) (hmT : (P0, ("_law_fills_right.<locals>.<lambda>" : Str)) ∈ Tt) (huT : ∀ p ∈ Tt, p.1 = P0 → p.2 = "_law_fills_right.<locals>.<lambda>")
    (M : Ms K mg C fW fT fC fP fE fI fN dW dT dC dP dE dI dN tk) (gH : mg "HOLE" = some (.str hole tk2)) (IT : ItF K mg CT) (TM : PySem.TmnyX.TmnyTxt K mg CM fL) (T : Free mg) (Y : FX K C) (D : Draws K mg fR fK fM dR dK dM) (Wd : WdF K mg CT CN CM eN gw dw)
    (gO : GlF K mg "_law_odd_values" sOdd fO dO ["dice"]) : FnG P w K mg base CX0 8 f fd ["dice", "ops", "tree", "context"] (spTR C Tt) := by
  obtain ⟨f2, d2, X1⟩ := id Y.x.ex
  have GO : FnOk P w K mg base CX0 3 fO dO ["dice"] spOdd := ok_odd gO.F D T
  have GP : FnOk P w K mg base CX0 2 fK dK ["dice", "items"] (spPick K) := ok_pick D T
  have GT : FnOk P w K mg base CX0 2 fT dT ["self", "value"] (spTreeV C) := ok_treeV M.FT ⟨M.cf, M.FW, M.bW, M.gW, M.gM, gH⟩ T
  have GX : FnOk P w K mg base CX0 2 f2 d2 ["self", "value"] (spCtxV C) := ok_ctxV X1.F ⟨M.cf, M.FW, M.bW, M.gW, M.gM, gH⟩ T
  have D1t : ∀ d ∈ [lf_b0 C CT CM, lf_b1 C CT CM, lf_b2 C CT CM, lf_b3 C CT CM, lf_b4 C CT CM, lf_b5 C CT CM, lf_b6 C CT CM, lf_b7 C CT CM, lf_b8 C CT CM], Told P w K mg base (L2.CX P w) 5 "_law_fills_right.<locals>.<lambda>" d.l d.fr d.te := (all_cons (tf_b0 M gH IT TM T Y) (all_cons (tf_b1 M gH IT TM T Y) (all_cons (tf_b2 M gH IT TM T Y) (all_cons (tf_b3 M gH IT TM T Y) (all_cons (tf_b4 M gH IT TM T Y) (all_cons (tf_b5 M gH IT TM T Y) (all_cons (tf_b6 M gH IT TM T Y) (all_cons (tf_b7 M gH IT TM T Y) (all_cons (tf_b8 M gH IT TM T Y) all_nil)))))))))
  have D1c : ∀ d ∈ [lf_b0 C CT CM, lf_b1 C CT CM, lf_b2 C CT CM, lf_b3 C CT CM, lf_b4 C CT CM, lf_b5 C CT CM, lf_b6 C CT CM, lf_b7 C CT CM, lf_b8 C CT CM], capsB NFl (defScope sFillsR) d.l d.fr d.js = true := (all_cons cf_b0 (all_cons cf_b1 (all_cons cf_b2 (all_cons cf_b3 (all_cons cf_b4 (all_cons cf_b5 (all_cons cf_b6 (all_cons cf_b7 (all_cons cf_b8 all_nil)))))))))
  have D2t : ∀ d ∈ [lf_f0 C CT CM, lf_f1 C CT CM, lf_f2 C CT CM], Told P w K mg base (L2.CX P w) 5 "_law_fills_right.<locals>.<lambda>" d.l d.fr d.te := (all_cons (tf_f0 M gH IT TM T Y) (all_cons (tf_f1 M gH IT TM T Y) (all_cons (tf_f2 M gH IT TM T Y) all_nil)))
  have D2c : ∀ d ∈ [lf_f0 C CT CM, lf_f1 C CT CM, lf_f2 C CT CM], capsB NFl (defScope sFillsR) d.l d.fr d.js = true := (all_cons cf_f0 (all_cons cf_f1 (all_cons cf_f2 all_nil)))
  refine F.ok scFR (fun vs H Q E h => ?_) (fun A outer s H vs Q E hr gd h => ?_)
  · obtain ⟨d, o, t, cx, l, zs, a, b, n, rfl, _⟩ := h
    rfl
  · obtain ⟨d, o, t, cx, l, zs, a, b, n, rfl, sc, tb, di, hn, q⟩ := h
    have hu := hr.units
    have r3 : Room 3 _ := hr.mono (by decide)
    have r2 : Room 2 _ := hr.mono (by decide)
    have hr7 : Room 7 _ := hr
    refine ⟨_, pss_cons (ps_setLc (i := 4) (own := [("value", 7)]) (g := gName 7) (by rfl) scFR.nd rfl rfl (sw_true rfl rfl rfl (by decide +kernel)) (pi_list (pe_call GO r3 (by rfl) gO.g gO.F.kp gO.b .nil pass0 (pa_cons (pv 0) pa_nil))) (blkOk_by (own := [("value", 7)]) (N := NFl) (sc := defScope sFillsR) (by decide +kernel))
        (fun _ _ _ _ _ => pg_name (i := 7) scFR.nd rfl (Or.inl rfl)) (fun _ _ _ _ _ => pts_one (PW.pt (pw_and (pt_not (pt_val (pe_meth (pv 1) M.cf.cls M.mT GT r2 M.bT .nil pass0 (pa_cons (pv 7) pa_nil)))) (pw_and1 (pt_not (pt_val (pe_meth (pv 1) M.cf.cls X1.m GX r2 X1.b .nil pass0 (pa_cons (pv 7) pa_nil)))))))) (fun _ _ _ _ _ => pv 7))
      (pss_cons (ps_set (i := 5) scFR.nd rfl (.inr rfl) (pe_call GP r2 (by rfl) D.gP D.FP.kp D.bP .nil pass0 (pa_cons (pv 0) (pa_cons (pe_op op_cat (pv 4) (pe_lst (pa_cons (pe_callTy call_list_of (by rfl) T.list (by decide +kernel) (pa_cons (pv 3) pa_nil)) (pa_cons (pe_op Tb.op_repX (pv 3) pe_int) pa_nil)))) pa_nil))))
      (pss_cons (ps_set (i := 6) scFR.nd rfl (.inl rfl) (pe_lst (pa_cons (pe_lam (T := Tt) (l := (lf_b0 C CT CM).l) TB rfl (by rfl) hmT huT lsf_b0) pa_nil)))
      (pss_cons (ps_expr (pe_bm PySem.F.plainAttrs_list PySem.F.slot_list_append PySem.F.type_list_append mt_append (pv 6) (pa_cons (pe_lam (T := Tt) (l := (lf_b1 C CT CM).l) TB rfl (by rfl) hmT huT lsf_b1) pa_nil)))
      (pss_cons (ps_expr (pe_bm PySem.F.plainAttrs_list PySem.F.slot_list_append PySem.F.type_list_append mt_append (pv 6) (pa_cons (pe_lam (T := Tt) (l := (lf_b2 C CT CM).l) TB rfl (by rfl) hmT huT lsf_b2) pa_nil)))
      (pss_cons (ps_expr (pe_bm PySem.F.plainAttrs_list PySem.F.slot_list_append PySem.F.type_list_append mt_append (pv 6) (pa_cons (pe_lam (T := Tt) (l := (lf_b3 C CT CM).l) TB rfl (by rfl) hmT huT lsf_b3) pa_nil)))
      (pss_cons (ps_expr (pe_bm PySem.F.plainAttrs_list PySem.F.slot_list_append PySem.F.type_list_append mt_append (pv 6) (pa_cons (pe_lam (T := Tt) (l := (lf_b4 C CT CM).l) TB rfl (by rfl) hmT huT lsf_b4) pa_nil)))
      (pss_cons (ps_expr (pe_bm PySem.F.plainAttrs_list PySem.F.slot_list_append PySem.F.type_list_append mt_append (pv 6) (pa_cons (pe_lam (T := Tt) (l := (lf_b5 C CT CM).l) TB rfl (by rfl) hmT huT lsf_b5) pa_nil)))
      (pss_cons (ps_expr (pe_bm PySem.F.plainAttrs_list PySem.F.slot_list_append PySem.F.type_list_append mt_append (pv 6) (pa_cons (pe_lam (T := Tt) (l := (lf_b6 C CT CM).l) TB rfl (by rfl) hmT huT lsf_b6) pa_nil)))
      (pss_cons (ps_expr (pe_bm PySem.F.plainAttrs_list PySem.F.slot_list_append PySem.F.type_list_append mt_append (pv 6) (pa_cons (pe_lam (T := Tt) (l := (lf_b7 C CT CM).l) TB rfl (by rfl) hmT huT lsf_b7) pa_nil)))
      (pss_cons (ps_expr (pe_bm PySem.F.plainAttrs_list PySem.F.slot_list_append PySem.F.type_list_append mt_append (pv 6) (pa_cons (pe_lam (T := Tt) (l := (lf_b8 C CT CM).l) TB rfl (by rfl) hmT huT lsf_b8) pa_nil)))
      (pss_cons (ps_if (pt_cmpR (op_neL hu) (pe_lcx (own := [("call", 8)]) (g := gName 8) (by rfl) scFR.nd (pi_list (pv 6)) (blkOk_by (own := [("call", 8)]) (N := NFl) (sc := defScope sFillsR) (by decide +kernel)) (fun _ _ _ _ _ => pg_name (i := 8) scFR.nd rfl (Or.inl rfl))
          (fun _ _ _ _ _ _ a0 => pe_wordB a0 T Wd D1t (caps_all rfl rfl D1c) hr7 gd (pa_cons (pv 8) pa_nil) (by rfl))) (pe_op op_rep (pe_lst (pa_cons pe_str pa_nil)) pe_int) (nomark _)) (pss_one ps_never) pss_nil)
      (pss_cons (ps_set (i := 6) scFR.nd rfl (.inl rfl) (pe_lst (pa_cons (pe_lam (T := Tt) (l := (lf_f0 C CT CM).l) TB rfl (by rfl) hmT huT lsf_f0) pa_nil)))
      (pss_cons (ps_expr (pe_bm PySem.F.plainAttrs_list PySem.F.slot_list_append PySem.F.type_list_append mt_append (pv 6) (pa_cons (pe_lam (T := Tt) (l := (lf_f1 C CT CM).l) TB rfl (by rfl) hmT huT lsf_f1) pa_nil)))
      (pss_cons (ps_expr (pe_bm PySem.F.plainAttrs_list PySem.F.slot_list_append PySem.F.type_list_append mt_append (pv 6) (pa_cons (pe_lam (T := Tt) (l := (lf_f2 C CT CM).l) TB rfl (by rfl) hmT huT lsf_f2) pa_nil)))
      (pss_one (ps_ret (pe_cmpR (op_eqL hu) (pe_lcx (own := [("call", 8)]) (g := gName 8) (by rfl) scFR.nd (pi_list (pv 6)) (blkOk_by (own := [("call", 8)]) (N := NFl) (sc := defScope sFillsR) (by decide +kernel)) (fun _ _ _ _ _ => pg_name (i := 8) scFR.nd rfl (Or.inl rfl))
          (fun _ _ _ _ _ _ a0 => pe_wordB a0 T Wd D2t (caps_all rfl rfl D2c) hr7 gd (pa_cons (pv 8) pa_nil) (by rfl))) (pe_op op_rep (pe_lst (pa_cons pe_str pa_nil)) pe_int) (nomark _)))))))))))))))))), ?_⟩
    obtain ⟨ds0, hd0⟩ := di.there
    have few26 : ∀ {n : Nat}, n = 26 → n < sizeLine := fun e => by rw [e, sizeLine_eq]; decide
    have z : ∀ {m : Nat}, m ≤ 64 → m ≤ sizeLine := fun h => Nat.le_trans h (by decide)
    refine ⟨_, rfl, d, n, rfl, di, by omega, fun q1 ys H1 nqd nq1 k1 hq1 ly vd di1 => ?_⟩
    have sc1 := sc.same k1.hm
    refine ⟨q1, rfl, ⟨_, SqL.of hq1⟩, fun D1 nD1 => ?_⟩
    refine lc_filtLS (badC l (Hm d H1)) (show 7 < 9 by decide) (fun G s => SqL.of (s _ _ hq1)) nD1 (few26 ly) (fun x m G s R r => ?_) fun G eD sG => ?_
    · obtain ⟨xv, vw, _⟩ := (vd x m).vw
      have sG1 : Same (Hm d H1) G := Hm.same.trans s
      have op := sc1.ops.same sG1
      obtain ⟨dx, tn, ta, tl, ho, _⟩ := op.ex
      refine ⟨_, rfl, o, dx, _, rfl, ho, rfl, _, rfl, o, x, l, xv, rfl, op, vw.same sG1, _, rfl, ?_⟩
      cases et : tB l xv with
      | true =>
        have r' := r G (Same.refl G)
        rw [badC_eq vw, et] at r'
        exact if_false_of rfl r'
      | false =>
        refine if_true_of rfl ⟨_, rfl, o, dx, _, rfl, ho, rfl, _, rfl, o, x, l, xv, rfl, op, sc.no, sc.few, vw.same sG1, fun G2 s2 => ⟨_, rfl, ?_⟩⟩
        have r' := r G2 s2
        rw [badC_eq vw, et] at r'
        exact r'
    have sG : Same H1 G := sG
    have scG := sc1.same (Same.hm sG)
    have txG := (TX.un scG.cx).1
    obtain ⟨ds1, hd1⟩ := di1.there
    have lcm : ((cxt a b).map V.str).length ≤ 10 := by rw [List.length_map]; exact sc.lc
    refine ⟨_, rfl, _, rfl, _, rfl, cx, _, rfl, .inr txG.sq, fun lt nlt => ?_⟩
    have s2 : Same G (upd G lt (.lst ((cxt a b).map V.str))) := Same.new nlt
    refine ⟨_, rfl, cx, 2, _, rfl, rfl, Tx.TX.same txG s2, by decide, by decide, by omega, (fun e => by simp [cxt] at e), fun p2 H2 n2 s3 tp2 => ⟨z (show 2 ≤ 64 by decide), fun q2 nq2 => ?_⟩⟩
    have e2 : (List.replicate 2 ((cxt a b).map V.str)).flatten = (cxt a b ++ cxt a b).map V.str := by simp [List.replicate]
    rw [e2] at tp2
    have s4 : Same H2 (upd H2 q2 (.lst [.ref lt, .ref p2])) := Same.new nq2
    have lf : ((ys.filter (badC l (Hm d H1))).length) ≤ 26 := by rw [← ly]; exact List.length_filter_le _ _
    refine ⟨D1, q2, _, _, rfl, rfl, (s2.trans (s3.trans s4)) _ _ eD, upd_same, z (by show _ + 2 ≤ 64; omega), fun q3 nq3 => ?_⟩
    have s5 : Same (upd H2 q2 (.lst [.ref lt, .ref p2])) (upd (upd H2 q2 (.lst [.ref lt, .ref p2])) q3 (.lst (ys.filter (badC l (Hm d H1)) ++ [.ref lt, .ref p2]))) := Same.new nq3
    have hq3 : (upd (upd H2 q2 (.lst [.ref lt, .ref p2])) q3 (.lst (ys.filter (badC l (Hm d H1)) ++ [.ref lt, .ref p2]))) q3 = some (.lst (ys.filter (badC l (Hm d H1)) ++ [.ref lt, .ref p2])) := upd_same
    have s25 := s3.trans (s4.trans s5)
    have hlt := s25 _ _ (upd_same (H := G) (a := lt) (o := .lst ((cxt a b).map V.str)))
    have tp := Tx.TX.same tp2 (s4.trans s5)
    have sG3 := s2.trans s25
    have nq3d : q3 ≠ d := (ne_of_none ((s2.trans (s3.trans s4)) _ _ (sG _ _ hd1)) nq3).symm
    have nltd : lt ≠ d := (ne_of_none (sG _ _ hd1) nlt).symm
    generalize upd (upd H2 q2 (.lst [.ref lt, .ref p2])) q3 (.lst (ys.filter (badC l (Hm d H1)) ++ [.ref lt, .ref p2])) = H3 at s5 hq3 s25 hlt tp sG3 ⊢
    have sc3 := scG.same (Same.hm sG3)
    have di3 := di1.same (sG.trans sG3)
    obtain ⟨ds3, hd3⟩ := di3.there
    have np2d : p2 ≠ d := fun e => by
      obtain ⟨ob, h, _⟩ := tp
      rw [e, hd3] at h
      cases h
    have strJi : ∀ {H : Hp} {ws : List Str}, ∀ x ∈ ws.map V.str, Ji H x := fun x m => by
      obtain ⟨y, _, rfl⟩ := List.mem_map.mp m
      exact Ji.str y
    have hin : hole ∈ cxt a b := List.mem_append_right _ List.mem_cons_self
    have allbad : ∀ v ∈ ys.filter (badC l (Hm d H1)) ++ [.ref lt, .ref p2], BadC l (Hm d H3) v := fun v m => by
      rcases List.mem_append.mp m with m | m
      · exact (badC_of (List.mem_filter.mp m).2).same (Same.hm (sG.trans sG3))
      · rcases List.mem_cons.mp m with e | m
        · rw [e]
          exact ⟨none, .not (.lst (Hm.of hlt nltd)) (by decide), rfl, rfl⟩
        · rw [List.mem_singleton.mp m]
          exact ⟨_, Vw.tup (TX.hm tp np2d) strJi, tB_ctx sc.no (List.mem_append_left _ hin), cB_two sc.ic.na sc.ic.nb⟩
    refine ⟨d, q3, n + 26, _, rfl, nq3d, .inl (SqL.of hq3), by simp, by rw [List.length_append]; show _ + 2 ≤ 1000; omega, di3, by omega, fun bad o1 mb di4 => ?_⟩
    have k34 : Kp d H3 (upd H3 d o1) := Kp.upd
    have bd4 := (allbad bad mb).same k34.hm
    have sc4 := sc3.same k34.hm
    obtain ⟨ds4, hd4⟩ := di4.there
    have k4 : Kp d H (upd H3 d o1) := k1.trans ((Kp.same (sG.trans sG3)).trans k34)
    have tb4 := Tabs.kp tb hd0 k4
    generalize upd H3 d o1 = H4 at k34 bd4 sc4 di4 hd4 k4 tb4 ⊢
    obtain ⟨xb, vb, tbb, cbb⟩ := bd4
    have lz' : (zs.map V.str).length = zs.length := List.length_map _
    have tbt : tB l (some (zs.map V.str)) = true := tB_tree sc.nd sc.fo (by have := sc.lz; omega)
    have v4 : Vs8 H4 C o l t cx zs a b bad xb := ⟨sc4.ops.same Hm.same, sc.no, sc.few, .tup (TX.un sc4.tr).1 strJi, .tup (TX.un sc4.cx).1 strJi, vb.same Hm.same, tbt, cB_tree sc.no sc.fo, tB_ctx sc.no hin, cB_ctx sc.nd sc.no sc.ic (by have := sc.lc; omega), tbb, cbb⟩
    have tx4 : Wp H4 t zs := (TX.un sc4.tr).1
    have cx4 : Wp H4 cx (cxt a b) := (TX.un sc4.cx).1
    clear hq1 hq3 s25 hlt tp sG3 eD sG scG txG di1 hd1 vd sc1 k1 sc3 di3 hd3 allbad k34 vb sc4
    -- calls
    dsimp only [tNext, gName, tSeq, tAsg, tDrop]
    refine lams_oneT tb4 fun L H7 e7 nL lm => ?_
    have e7 : ExtN H4 H7 := e7
    refine lams_addT rfl lm (by decide) fun H8 c7 lm => ?_
    have e7 := ExtN.kn e7 nL c7
    clear c7
    refine lams_addT rfl lm (by decide) fun H9 c7 lm => ?_
    have e7 := ExtN.kn e7 nL c7
    clear c7
    refine lams_addT rfl lm (by decide) fun H10 c7 lm => ?_
    have e7 := ExtN.kn e7 nL c7
    clear c7
    refine lams_addT rfl lm (by decide) fun H11 c7 lm => ?_
    have e7 := ExtN.kn e7 nL c7
    clear c7
    refine lams_addT rfl lm (by decide) fun H12 c7 lm => ?_
    have e7 := ExtN.kn e7 nL c7
    clear c7
    refine lams_addT rfl lm (by decide) fun H13 c7 lm => ?_
    have e7 := ExtN.kn e7 nL c7
    clear c7
    refine lams_addT rfl lm (by decide) fun H14 c7 lm => ?_
    have e7 := ExtN.kn e7 nL c7
    clear c7
    refine lams_addT rfl lm (by decide) fun H15 c7 lm => ?_
    have e7 := ExtN.kn e7 nL c7
    clear c7
    dsimp only [tIfS, tTest, tOp]
    refine words_read (ds := [lf_b0 C CT CM, lf_b1 C CT CM, lf_b2 C CT CM, lf_b3 C CT CM, lf_b4 C CT CM, lf_b5 C CT CM, lf_b6 C CT CM, lf_b7 C CT CM, lf_b8 C CT CM]) rfl (show 8 < 9 by decide) lm (show 9 < 1000 by decide) (fun d m => m) (all_cons (fun G Q' sG qq => tw_fb0 (v4.extN (ExtN.trans e7 (ExtN.same sG))) qq) (all_cons (fun G Q' sG qq => tw_fb1 (v4.extN (ExtN.trans e7 (ExtN.same sG))) qq) (all_cons (fun G Q' sG qq => tw_fb2 (v4.extN (ExtN.trans e7 (ExtN.same sG))) qq) (all_cons (fun G Q' sG qq => tw_fb3 (v4.extN (ExtN.trans e7 (ExtN.same sG))) qq) (all_cons (fun G Q' sG qq => tw_fb4 (v4.extN (ExtN.trans e7 (ExtN.same sG))) qq) (all_cons (fun G Q' sG qq => tw_fb5 (v4.extN (ExtN.trans e7 (ExtN.same sG))) qq) (all_cons (fun G Q' sG qq => tw_fb6 (v4.extN (ExtN.trans e7 (ExtN.same sG))) qq) (all_cons (fun G Q' sG qq => tw_fb7 (v4.extN (ExtN.trans e7 (ExtN.same sG))) qq) (all_cons (fun G Q' sG qq => tw_fb8 (v4.extN (ExtN.trans e7 (ExtN.same sG))) qq) all_nil))))))))) fun Dw H17 s15 hDw => ?_
    refine ⟨z (show 1 ≤ 64 by decide), fun r1 nr1 => ⟨r1, 9, _, rfl, rfl, upd_same, by decide, by decide, z (show 9 ≤ 64 by decide), fun r2 nr2 => ?_⟩⟩
    have s16 := (Same.new nr1 (o := .lst [V.str "tree"])).trans (Same.new nr2 (o := .lst (List.replicate (9 : Int).toNat [V.str "tree"]).flatten))
    refine ⟨Dw, r2, _, _, rfl, rfl, SqL.of (s16 _ _ hDw), SqL.of upd_same, .inr ⟨rfl, fun v m => ⟨"str", by rw [List.eq_of_mem_replicate m]; exact .str _⟩, ?_⟩⟩
    have e16 := ExtN.trans e7 (ExtN.same (s15.trans s16))
    have tb16 := lm.tabs.ext (s15.trans s16)
    clear lm e7 hDw
    generalize upd (upd H17 r1 (.lst [V.str "tree"])) r2 (.lst (List.replicate (9 : Int).toNat [V.str "tree"]).flatten) = H18 at s16 e16 tb16 ⊢
    refine ⟨_, rfl, if_false_of rfl ?_⟩
    have v16 := v4.extN e16
    have tx16 := Wp.extN tx4 e16
    have cx16 := Wp.extN cx4 e16
    dsimp only [tNext, gName, tSeq, tAsg, tDrop]
    refine lams_oneT tb16 fun L2 H19 e7 nL6 lm => ?_
    have e7 : ExtN H18 H19 := e7
    refine lams_addT rfl lm (by decide) fun H20 c7 lm => ?_
    have e7 := ExtN.kn e7 nL6 c7
    clear c7
    refine lams_addT rfl lm (by decide) fun H21 c7 lm => ?_
    have e7 := ExtN.kn e7 nL6 c7
    clear c7
    dsimp only [tRet, tOp]
    refine words_read (ds := [lf_f0 C CT CM, lf_f1 C CT CM, lf_f2 C CT CM]) rfl (show 8 < 9 by decide) lm (show 3 < 1000 by decide) (fun d m => m) (all_cons (fun G Q' sG qq => tw_fine (fun E2 Q2 q2 => by
      have eN := ExtN.trans e7 (ExtN.same sG)
      have v := v16.extN eN
      have tx := Wp.extN tx16 eN
      have cx_ := Wp.extN cx16 eN
      obtain ⟨dx, tn, ta, tl, ho, _⟩ := id v.op.ex
      exact ⟨_, rfl, o, dx, _, rfl, ho, rfl, _, rfl, ff_of (k := (a, b)) (z := none) (c := cx) (rest := []) (fun p np => ⟨v.op.same (Same.new np), sc.no, sc.nd, sc.few, ⟨cx_.same (Same.new np), sc.ic, by have := sc.lc; show (cxt a b).length ≤ 5000; omega⟩, (fun _ m => nomatch m), .inl upd_same, (fun _ => rfl), (fun u e => nomatch e), by decide⟩) (Nat.le_of_ble_eq_true rfl) (by have := sc.lc; show (cxt a b).length ≤ 5000; omega) q2⟩) qq) (all_cons (fun G Q' sG qq => tw_fine (fun E2 Q2 q2 => by
      have eN := ExtN.trans e7 (ExtN.same sG)
      have v := v16.extN eN
      have tx := Wp.extN tx16 eN
      have cx_ := Wp.extN cx16 eN
      obtain ⟨dx, tn, ta, tl, ho, _⟩ := id v.op.ex
      exact ⟨_, rfl, o, dx, _, rfl, ho, rfl, _, rfl, _, rfl, ff_of (k := (a, b)) (z := some (cx, cxt a b)) (c := cx) (rest := [.ref cx]) (fun p np => ⟨v.op.same (Same.new np), sc.no, sc.nd, sc.few, ⟨cx_.same (Same.new np), sc.ic, by have := sc.lc; show (cxt a b).length ≤ 5000; omega⟩, (fun _ m => nomatch m), .inl upd_same, (fun e => nomatch e), (fun u e => by cases e; exact ⟨(cx_.same (Same.new np)).ws, (by have := sc.lc; show (cxt a b).length ≤ 5000; omega), .inr ⟨a, b, rfl, cx_.same (Same.new np), sc.ic, by have := sc.lc; show (cxt a b).length ≤ 5000; omega⟩⟩), by decide⟩) (Nat.le_of_ble_eq_true rfl) (by have := sc.lc; show (fill [(a, b)] (cxt a b)).length ≤ 5000; rw [fill_one]; simp only [cxt, List.length_append, List.length_cons] at this ⊢; omega) q2⟩) qq) (all_cons (fun G Q' sG qq => tw_fine (fun E2 Q2 q2 => by
      have eN := ExtN.trans e7 (ExtN.same sG)
      have v := v16.extN eN
      have tx := Wp.extN tx16 eN
      have cx_ := Wp.extN cx16 eN
      obtain ⟨dx, tn, ta, tl, ho, _⟩ := id v.op.ex
      exact ⟨_, rfl, o, dx, _, rfl, ho, rfl, _, rfl, _, rfl, ff_of (k := (a, b)) (z := some (t, zs)) (c := cx) (rest := [.ref t]) (fun p np => ⟨v.op.same (Same.new np), sc.no, sc.nd, sc.few, ⟨cx_.same (Same.new np), sc.ic, by have := sc.lc; show (cxt a b).length ≤ 5000; omega⟩, (fun _ m => nomatch m), .inl upd_same, (fun e => nomatch e), (fun u e => by cases e; exact ⟨(tx.same (Same.new np)).ws, (by have := sc.lz; show zs.length ≤ 5000; omega), .inl sc.fo⟩), by decide⟩) (Nat.le_of_ble_eq_true rfl) (by have := sc.lc; have := sc.lz; show (fill [(a, b)] zs).length ≤ 5000; rw [fill_one]; simp only [cxt, List.length_append, List.length_cons] at *; omega) q2⟩) qq) all_nil))) fun Dw2 H22 s23 hDw2 => ?_
    refine ⟨z (show 1 ≤ 64 by decide), fun r3' nr3 => ⟨r3', 3, _, rfl, rfl, upd_same, by decide, by decide, z (show 3 ≤ 64 by decide), fun r4 nr4 => ?_⟩⟩
    have s24 := (Same.new nr3 (o := .lst [V.str "fine"])).trans (Same.new nr4 (o := .lst (List.replicate (3 : Int).toNat [V.str "fine"]).flatten))
    refine ⟨Dw2, r4, _, _, rfl, rfl, SqL.of (s24 _ _ hDw2), SqL.of upd_same, .inr ⟨rfl, fun v m => ⟨"str", by rw [List.eq_of_mem_replicate m]; exact .str _⟩, ?_⟩⟩
    have eN : ExtN H4 _ := ExtN.trans e16 (ExtN.trans e7 (ExtN.same (s23.trans s24)))
    have tbN := lm.tabs.ext (s23.trans s24)
    have diN : Dice _ d (n + 27) := di4.kept fun u e => eN _ _ e fun ps y => by
      rw [hd4] at e
      cases e
      cases y
    exact q _ ((KN.kp (P := fun b => b = d) k4 rfl).trans (KN.ext eN)) tbN (diN.more (by omega) (by omega))
end
end Pr
/-! list(zip(range(0), g)), g a generator that has not begun: it does not begin -/
namespace RZ8
open PySem
open PySem.Sem (wp)
theorem zip_no_len : typeLookup (.type "zip") "__len__" = pure none := by rw [typeLookup_type, builtinLookup_eq_fast]; kernel_rfl
theorem zip_no_hint : typeLookup (.type "zip") "__length_hint__" = pure none := by rw [typeLookup_type, builtinLookup_eq_fast]; kernel_rfl
section
variable {prog : Program} {w : World} {A : Around} {E : Value → Shared → Prop} {s : Shared}
theorem nextOf_range_end {it : Addr} {x left step : Int} {Q : Value → Shared → Prop} (hh : A.handled = none) (hit : IsRangeIter s.heap it x left step) (hleft : left ≤ 0)
    (hE : ∀ h' e, Heap.ExtBut it s.heap h' → (∃ o, h'.get? e = some o ∧ o.cls = .type "StopIteration") → E (.ref e) { s with heap := h' }) :
    wpAny (model prog w) A (Builtin.SmallTypes.nextOf (.ref it)) Q E s := by
  have hT : s.TypeIs (.ref it) "range_iterator" := ⟨_, hit, rfl⟩
  unfold Builtin.SmallTypes.nextOf
  refine wpAny_bind (wpAny_callSpecial?_slot (name := Str.ofString "__next__") hT F.slot_range_iterator_next
    (wpAny_call_entry F.slot_range_iterator_next hT F.entry_range_iterator_next ?_ (F.args_range_iterator_next_1 _)))
  show wpAny _ _ (field (.ref it) 0 >>= _) _ _ s
  refine wpAny_bind (wpAny_field hit rfl (x := rawInt x) rfl ?_)
  show wpAny _ _ (field (.ref it) 1 >>= _) _ _ s
  refine wpAny_bind (wpAny_field hit rfl (x := rawInt left) rfl ?_)
  show wpAny _ _ (field (.ref it) 2 >>= _) _ _ s
  refine wpAny_bind (wpAny_field hit rfl (x := rawInt step) rfl ?_)
  show wpAny _ _ (if left ≤ 0 then _ else _) _ _ s
  rw [if_pos hleft]
  refine wpAny_bind (wpAny_rule ?_)
  refine wpAny_bind ?_
  show wpAny _ _ (newExc (.type "StopIteration") [] >>= _) _ _ _
  refine wpAny_bind ?_
  simp only [newExc, newTuple]
  refine wpAny_bind (wpAny_newObj_type ?_ (by size_fits))
  refine wpAny_bind (m := firstArgMember _ _) (wpAny_of_eq (a := Value.none) (by first | rfl | (simp only [firstArgMember]; rfl)) ?_)
  refine wpAny_newObj_type ?_ (by size_fits)
  simp only [raiseNew]
  refine wpAny_bind (wpAny_handled ?_)
  first | rw [show A.in1.handled = none from hh] | rw [hh]
  refine wpAny_bind (wpAny_pure (wpAny_throw ?_))
  exact hE _ _ (((Heap.ExtBut.refl it s.heap).push _).push _) ⟨_, Heap.get?_push_size _ rfl, rfl⟩
theorem zip_next_end {z TI TO i1 i2 : Addr} {x step : Int} {a b : Value} {Q : Fin → Shared → Prop} (hh : A.handled = none) (n1 : i1 ≠ z)
    (hz : IsZip s.heap z TI TO .none) (hTI : IsPair s.heap TI (.ref i1) (.ref i2)) (hTO : IsPair s.heap TO a b) (h1 : IsRangeIter s.heap i1 x 0 step)
    (hE : ∀ h' e, (∀ c o, c ≠ z → c ≠ i1 → s.heap.get? c = some o → h'.get? c = some o) → (∃ o, h'.get? e = some o ∧ o.cls = .type "StopIteration") → E (.ref e) { s with heap := h' }) :
    wpAny (model prog w) A (Builtin.«zip.__next__» ⟨[.ref z], []⟩) Q E s := by
  show wpAny _ _ (field (.ref z) 2 >>= _) _ _ _
  refine wpAny_bind (wpAny_field hz rfl (x := .bool false) rfl ?_)
  show wpAny _ _ (field (.ref z) 3 >>= _) _ _ _
  refine wpAny_bind (wpAny_field hz rfl (x := .ref TI) rfl ?_)
  refine wpAny_bind (wpAny_seqItems hTI rfl ?_)
  show wpAny _ _ (Builtin.SmallTypes.ownedTupleIsFree (.ref z) >>= _) _ _ _
  refine wpAny_bind ?_
  unfold Builtin.SmallTypes.ownedTupleIsFree
  refine wpAny_bind (wpAny_field hz rfl (x := .none) rfl (wpAny_pure ?_))
  simp only [if_true]
  refine wpAny_bind (wpAny_rule ?_)
  refine wpAny_bind (wpAny_field hz rfl (x := .ref TO) rfl ?_)
  refine wpAny_bind (wpAny_setField_rec hz (by simp) fun h₁ hz₁ hs₁ => ?_)
  replace hz₁ : IsZip h₁ z TI TO .ellipsis := hz₁
  refine wpAny_bind ?_
  simp only [List.zipIdx_cons, List.zipIdx_nil, List.forIn_cons, List.forIn_nil]
  refine wpAny_bind (wpAny_bind (wpAny_onRaise ?_))
  show wpAny _ _ (Builtin.SmallTypes.nextOf (.ref i1) >>= _) _ _ _
  refine wpAny_bind (nextOf_range_end hh (hs₁.extBut _ _ n1 h1) (Int.le_refl 0) fun h₂ e hs₂ he => ?_)
  obtain ⟨oe, hoe, hce⟩ := he
  have hz₂ : IsZip h₂ z TI TO .ellipsis := hs₂ _ _ n1.symm hz₁
  have hez : e ≠ z := fun x => by subst x; rw [hz₂] at hoe; cases hoe; simp at hce
  refine wpAny_setField_rec hz₂ (by simp) fun h₃ _ hs₃ => hE h₃ e (fun c o c1 c3 x => hs₃.extBut _ _ c1 (hs₂ _ _ c3 (hs₁.extBut _ _ c1 x))) ⟨oe, hs₃.extBut _ _ hez hoe, hce⟩
theorem pyNext_zip_end {z TI TO i1 i2 : Addr} {x step : Int} {a b : Value} {Q : Option Value → Shared → Prop} (hh : A.handled = none) (n1 : i1 ≠ z)
    (hz : IsZip s.heap z TI TO .none) (hTI : IsPair s.heap TI (.ref i1) (.ref i2)) (hTO : IsPair s.heap TO a b) (h1 : IsRangeIter s.heap i1 x 0 step)
    (hQ : ∀ h', (∀ c o, c ≠ z → c ≠ i1 → s.heap.get? c = some o → h'.get? c = some o) → Q none { s with heap := h' }) : wpAny (model prog w) A (pyNext (.ref z)) Q E s := by
  have hT : s.TypeIs (.ref z) "zip" := ⟨_, hz, rfl⟩
  unfold pyNext
  refine wpAny_bind (wpAny_attempt (wpAny_callSpecial?_slot (name := Str.ofString "__next__") hT F.slot_zip_next
    (wpAny_call_entry F.slot_zip_next hT F.entry_zip_next (zip_next_end hh n1 hz hTI hTO h1 fun h' e hk he => ?_) (F.args_zip_next_1 _))))
  obtain ⟨o, ho, hc⟩ := he
  refine wpAny_bind (wpAny_isInstance (T := "StopIteration") (b := true) ⟨o, ho, hc⟩ isSubtype_stop ?_)
  exact wpAny_pure (hQ _ hk)
end
abbrev zh1 (h : Heap) : Heap := h.push { cls := .type "range_iterator", data := .fields #[rawInt 0, rawInt (Builtin.Range.rangeSize 0 0 1), rawInt 1] }
abbrev zh3 (h : Heap) (g : Addr) : Heap := (zh1 h).push { cls := .type "tuple", data := .seq #[.ref h.objs.size, .ref g] }
abbrev zh4 (h : Heap) (g : Addr) : Heap := (zh3 h g).push { cls := .type "tuple", data := .seq #[.none, .none] }
abbrev zh5 (h : Heap) (g : Addr) : Heap := (zh4 h g).push { cls := .type "zip", data := .fields #[.none, .bool false, .bool false, .ref (zh1 h).objs.size, .ref (zh3 h g).objs.size] }
theorem meets_zip_new (r g : Addr) (n : Nat) (t u v : Tok) :
    Meets (Builtin.«zip.__new__» ⟨[.type "zip", .ref r, .ref g], []⟩) (fun _ R s => IsRange s.heap r 0 0 1 t u v ∧ s.heap.IsGen g n ∧
      R (.ok (.ret (.ref (zh4 s.heap g).objs.size))) { s with heap := zh5 s.heap g }) :=
  .of_wp fun prog w A R s h => by
    obtain ⟨hp, gs, d, tk, os⟩ := s; obtain ⟨hr, hg, h⟩ := h
    have hsub := sub_zip
    have sm : Builtin.Range.small 0 0 1 = true := by decide +kernel
    have hr1 : IsRange (Shared.heap ⟨hp, gs, d, tk, os⟩) r 0 0 1 t u v := hr
    have hg1 : Heap.IsGen (Shared.heap ⟨zh1 hp, gs, d, tk, os⟩) g n := Heap.IsGen.keeps hg fun b o e => Heap.get?_push_of_some _ e
    wp_walk using wpAny_pyIter_range hr1 sm, wpAny_pyIter_gen hg1
    exact ⟨_, rfl, h⟩
section
variable {prog : Program} {w : World} {A : Around} {E : Value → Shared → Prop} {s : Shared}
theorem call_zip {r g : Addr} {n : Nat} {t u v : Tok} {Q : Value → Shared → Prop} (hr : IsRange s.heap r 0 0 1 t u v) (hg : s.heap.IsGen g n)
    (h : ∀ h', IsZip h' (s.heap.objs.size + 3) (s.heap.objs.size + 1) (s.heap.objs.size + 2) .none → IsPair h' (s.heap.objs.size + 1) (.ref s.heap.objs.size) (.ref g) →
      IsPair h' (s.heap.objs.size + 2) .none .none → IsRangeIter h' s.heap.objs.size 0 0 1 →
      (∀ c o, s.heap.get? c = some o → h'.get? c = some o) → Q (.ref (s.heap.objs.size + 3)) { s with heap := h' }) :
    wpAny (model prog w) A (call (.type "zip") [.ref r, .ref g]) Q E s := by
  refine callType_new F.called_zip (by decide) (F.typeCall_zip_2 _ _) (F.newCall_zip_2 _ _) (fun obj => F.args_object_init_3 obj _ _) F.entry_zip_new
    (meets_zip_new r g n t u v) ⟨hr, hg, ?_⟩
  have z1 : (zh1 s.heap).objs.size = s.heap.objs.size + 1 := Heap.size_push ..
  have z3 : (zh3 s.heap g).objs.size = s.heap.objs.size + 2 := by rw [Heap.size_push, z1]
  have z4 : (zh4 s.heap g).objs.size = s.heap.objs.size + 3 := by rw [Heap.size_push, z3]
  have g5 : (zh5 s.heap g).get? (zh4 s.heap g).objs.size = some _ := Heap.get?_push_size _ rfl
  have g4 : (zh5 s.heap g).get? (zh3 s.heap g).objs.size = some _ := Heap.get?_push_of_some _ (Heap.get?_push_size _ rfl)
  have g3 : (zh5 s.heap g).get? (zh1 s.heap).objs.size = some _ := Heap.get?_push_of_some _ (Heap.get?_push_of_some _ (Heap.get?_push_size _ rfl))
  have g1 : (zh5 s.heap g).get? s.heap.objs.size = some _ := Heap.get?_push_of_some _ (Heap.get?_push_of_some _ (Heap.get?_push_of_some _ (Heap.get?_push_size _ rfl)))
  show _ ∧ _
  rw [z1, z3, z4] at g5
  rw [z1] at g3
  rw [z3] at g4
  rw [z4]
  exact ⟨⟨_, g5, rfl⟩, h _ g5 g3 g4 g1 fun c o x => Heap.get?_push_of_some _ (Heap.get?_push_of_some _ (Heap.get?_push_of_some _ (Heap.get?_push_of_some _ x)))⟩
/-- list(z) -/
theorem call_list_zip {z TI TO i1 i2 : Addr} {Q : Value → Shared → Prop} (hh : A.handled = none) (n1 : i1 ≠ z) (hz : IsZip s.heap z TI TO .none) (hTI : IsPair s.heap TI (.ref i1) (.ref i2)) (hTO : IsPair s.heap TO .none .none) (h1 : IsRangeIter s.heap i1 0 0 1)
    (hQ : ∀ h' c, (∀ b o, b ≠ z → b ≠ i1 → s.heap.get? b = some o → h'.get? b = some o) → h'.get? s.heap.objs.size = some { cls := .type "list", dict := none, data := .seq #[] c, slots := #[] } → Q (.ref s.heap.objs.size) { s with heap := h' }) :
    wpAny (model prog w) A (call (.type "list") [.ref z]) Q E s := by
  have hzl : z < s.heap.objs.size := Heap.lt_size hz
  have hSz : s.heap.objs.size ≠ z := Nat.ne_of_gt hzl
  have hSi : s.heap.objs.size ≠ i1 := Nat.ne_of_gt (Heap.lt_size h1)
  refine callType_codes (Q₁ := fun obj s₁ => obj = .ref s.heap.objs.size ∧ s₁ = { s with heap := s.heap.push { cls := .type "list", data := .seq #[] } }) F.called_list (F.typeCall_list_1 _) F.entry_list_init
    (code_list_new _ ⟨rfl, rfl⟩) fun obj s₁ h₁ => ?_
  obtain ⟨rfl, rfl⟩ := h₁
  have hS : (s.heap.push { cls := .type "list", data := .seq #[] }).get? s.heap.objs.size = some { cls := .type "list", data := .seq #[] } := Heap.get?_push_size _ rfl
  refine ⟨⟨_, hS, rfl⟩, F.args_list_init_2 _ _, ?_⟩
  show wpAny _ A.in1.in1 (do let old ← Builtin.List.listItems (.ref s.heap.objs.size); Builtin.List.listUpdate (.ref s.heap.objs.size) (fun _ => #[]); letGo old.toList.reverse; Builtin.List.listExtendWith (.ref s.heap.objs.size) (.ref z) .none) _ _ _
  refine wpAny_bind ?_
  unfold Builtin.List.listItems
  refine wpAny_bind (wpAny_seqItems hS rfl (wpAny_pure ?_))
  show wpAny _ A.in1.in1 (updateSeq s.heap.objs.size (fun _ => #[]) >>= fun _ => letGo (#[] : Array Value).toList.reverse >>= fun _ => Builtin.List.listExtendWith (.ref s.heap.objs.size) (.ref z) .none) _ _ _
  refine wpAny_bind (wpAny_updateSeq hS rfl ?_)
  have hS2 := Heap.get?_update_self (Obj.mapSeq (fun _ => (#[] : Array Value))) hS rfl
  refine wpAny_bind (wpAny_letGo ?_)
  unfold Builtin.List.listExtendWith
  have up : ∀ (h : Heap) (f : Obj → Obj), (∀ b o, s.heap.get? b = some o → h.get? b = some o) → ∀ b o, s.heap.get? b = some o → (h.update s.heap.objs.size f).get? b = some o := fun h f q b o e =>
    (Heap.get?_update_other _ _ (Ne.symm (Nat.ne_of_lt (Heap.lt_size e)))).trans (q b o e)
  have k1 : ∀ b o, s.heap.get? b = some o → (s.heap.push { cls := .type "list", data := .seq #[] }).get? b = some o := fun b o e => Heap.get?_push_of_some _ e
  have k2 := up _ (Obj.mapSeq (fun _ => (#[] : Array Value))) k1
  have tyz : ∀ {h : Heap}, (∀ b o, s.heap.get? b = some o → h.get? b = some o) → Shared.TypeIs { s with heap := h } (.ref z) "zip" := fun {h} q => ⟨_, q _ _ hz, rfl⟩
  refine wpAny_bind (wpAny_typeOf (tyz k2) ?_)
  have h1' : Builtin.List.listSameRef (.ref s.heap.objs.size) (.ref z) = false := by simp [Builtin.List.listSameRef, hSz]
  have h2 : (Value.type "zip" == Value.type "list") = false := by decide
  have h3 : (Value.type "zip" == Value.type "tuple") = false := by decide
  simp only [h1', h2, h3, Bool.or_false, Bool.false_eq_true, if_false]
  refine wpAny_bind (wpAny_pyIter_zip (s := { s with heap := _ }) (k2 _ _ hz) ?_)
  refine wpAny_bind (wpAny_holding ?_)
  unfold Builtin.List.listLengthHint
  refine wpAny_bind (wpAny_specialOf (tyz k2) zip_no_len ?_)
  show wpAny _ A.in1.in1 (specialOf (Value.ref z) (Str.ofString "__length_hint__") >>= _) _ _ _
  refine wpAny_bind (wpAny_specialOf (tyz k2) zip_no_hint ?_)
  refine wpAny_pure ?_
  show wpAny _ A.in1.in1 (rule "list.extend.makes-room" >>= fun _ => Builtin.List.listTouch (.ref s.heap.objs.size) >>= fun _ =>
    again (.builtin "list.extend.loop" ⟨[.ref s.heap.objs.size, .ref z, .none], []⟩)) _ _ _
  refine wpAny_bind (wpAny_rule ?_)
  refine wpAny_bind ?_
  show wpAny _ A.in1.in1 (updateSeq s.heap.objs.size (·.push .none) >>= fun _ => updateSeq s.heap.objs.size (·.pop)) _ _ _
  refine wpAny_bind (wpAny_updateSeq hS2 rfl ?_)
  have hS3 := Heap.get?_update_self (Obj.mapSeq (·.push Value.none)) hS2 rfl
  refine wpAny_updateSeq (hz := by seq_fits) hS3 rfl ?_
  have hS4 := Heap.get?_update_self (Obj.mapSeq (·.pop)) hS3 rfl
  have k4 := up _ (Obj.mapSeq (·.pop)) (up _ (Obj.mapSeq (·.push Value.none)) k2)
  refine wpAny_pure ⟨plainId_quiet F.plain_extend_loop _, ?_⟩
  refine codeAny_builtin F.entry_extend_loop ?_
  rw [Around.under_plainId F.plain_extend_loop _]
  show wpAny _ A.in1.in1 (pyNext (.ref z) >>= _) _ _ _
  refine wpAny_bind (pyNext_zip_end (s := { s with heap := _ }) hh n1 (k4 _ _ hz) (k4 _ _ hTI) (k4 _ _ hTO) (k4 _ _ h1) fun h' hk => ?_)
  refine wpAny_pure ⟨rfl, hQ h' _ (fun b o b1 b2 e => hk b o b1 b2 (k4 b o e)) (hk _ _ hSz hSi hS4)⟩
end
end RZ8
namespace Clo
open PySem PySem.Spec PyProof.Rows L2 LamX NdefX
section
variable {X : Cx} {k : Nat} {f C : Addr} {fd : FuncData} {ps : List Str} {sp : SpG} {dvs : List V} {ds : List Value} {m : Str} {o e : Expr} {es : List Expr} {ta : TE} {t : TA} {p1 p2 p3 p4 q1 q2 q3 q4 apos : Pos} {x0 : Nat}
/-- list(zip(range(0), o.m(..))), o.m a generator method -/
def tListZ (C : Addr) (m : Str) (sp : SpG) (dvs : List V) (ta : TE) (t : TA) : TE := fun σ H Q => ta σ H fun x H2 => ∃ a dx fs, x = .ref a ∧ H2 a = some (.ins C dx fs) ∧ fs.lookup m = none ∧
  t σ H2 fun vs H3 => (∃ cont E, sp (x :: (vs ++ dvs)) H3 cont E) ∧ ∀ q, H3 q = none → Q (.ref q) (upd H3 q (.lst []))
theorem pe_listZ {pl : Sem Bool} (gl : Gl X "list") (ml : X.mg "list" = none) (gz : Gl X "zip") (mz : X.mg "zip" = none) (gr : Gl X "range") (mr : X.mg "range" = none) (he : PE X o ta) (c : Cls X.K C) (hm : Meth X.K C m f) (F : GFn X.prog X.w X.K X.mg X.base k f fd ps sp) (hr : Room k X.A)
    (hb : Binds X.K fd ps ds) (hd : Vals dvs ds) (ha : PA X (e :: es) t)
    (hst : starEach (e :: es) X.env = (false, eval e X.env) :: starEach es X.env := by rfl) (hpl : (backTo q4 (starEach es X.env)).any (·.1) = false := by rfl)
    (ht : eval (.Call (.Attribute o m apos) (e :: es) [] q4) X.env = (do
      let ov ← eval o X.env
      standAt apos.atName
      let (f, first) ← holding [ov] (getMethod ov m pl)
      callWith q4 f first (backTo q4 (starEach (e :: es) X.env)) (backToKw q4 (keywordEach [] X.env))) := by rfl) :
    PE X (.Call (.Name "list" p1) [.Call (.Name "zip" p2) [.Call (.Name "range" p3) [.Constant (.int 0) x0 p4] [] q3, .Call (.Attribute o m apos) (e :: es) [] q4] [] q2] [] q1) (tListZ C m sp dvs ta t) := by
  refine ⟨fun pins s σ H Q I h => ?_⟩
  refine Call_ (ld_blt I gl ml boot_list (PyProof.Rows.callWith_type1 (args_cons ?_ rfl) rfl rfl))
  refine Call_ (ld_blt I gz mz PyProof.Rows.boot_zip (PyProof.Rows.callWith_type1 (args_cons ?_ rfl) rfl rfl))
  refine Call_ (ld_blt I gr mr boot_range (PyProof.Rows.callWith_type1 (args_cons (thn (pe_int.run pins s σ H (fun x H1 => x = .int 0 ∧ H1 = H) I ⟨rfl, rfl⟩) fun v s1 ⟨x, H1, I1, r1, ex, eH⟩ => args_nil ?_) rfl) rfl rfl))
  subst ex
  rw [eH] at I1
  obtain ⟨t0, rfl⟩ := r1
  refine call_range_1 ?_
  -- the range is laid
  have fr : FpOk X pins H s1.heap.objs.size := I1.fpOk (Nat.le_refl _) (I1.hok.fresh (Nat.le_refl _))
  have I2 : Inv X pins σ H { s1 with heap := s1.heap.push { cls := .type "range", data := .fields #[.int 0 s1.toks, .int 0 t0, .int 1 (s1.toks + 1)] }, toks := s1.toks + 1 + 1 } := I1.kept fun b u e => Heap.get?_push_of_some _ e
  have hr2 : IsRange (s1.heap.push { cls := .type "range", data := .fields #[.int 0 s1.toks, .int 0 t0, .int 1 (s1.toks + 1)] }) s1.heap.objs.size 0 0 1 s1.toks t0 (s1.toks + 1) := IsRange.new _ _ _ _ _ _ _
  generalize s1.heap.objs.size = r at fr hr2 ⊢
  generalize hs2 : ({ s1 with heap := s1.heap.push { cls := .type "range", data := .fields #[.int 0 s1.toks, .int 0 t0, .int 1 (s1.toks + 1)] }, toks := s1.toks + 1 + 1 } : Shared) = s2 at I2 ⊢
  have hr2' : IsRange s2.heap r 0 0 1 s1.toks t0 (s1.toks + 1) := by
    rw [← hs2]
    exact hr2
  have I2p := I2.pinned (fp := [r]) (fun b hb => by rw [List.mem_singleton.mp hb]; exact fr) (fun b hb => by
    rw [List.mem_singleton.mp hb]
    exact ⟨_, hr2', fun v z => by cases z⟩)
  refine args_cons ?_ rfl
  refine PySem.W.methodCall_KW (pl := pl) (thn (he.run _ s2 σ H _ I2p h) fun u s3 ⟨x, H2, I3, rx, a, dx, fs, ex, ea, l, q⟩ => ?_) ht
  subst ex
  obtain rfl : u = Value.ref a := rx
  refine getmeth_ok I3 ea c hm l ?_
  refine PySem.W.callWith_K (first := [.ref a]) (h₀ := X.base) I3.ok.mod.kin hm.kp (thn (ha.run q4 _ s3 σ H2 _ I3 q) fun us s4 ⟨vs, H3, I4, r, ⟨cont, E, q2⟩, q5⟩ => ⟨I4.kIn, ?_⟩) hst hpl
  have r2 : Vals ((.ref a :: vs) ++ dvs) ((.ref a :: us) ++ ds) := Vals.append (.cons rfl r) hd
  have hl2 : ((Value.ref a :: us) ++ ds).length = ps.length := by rw [← r2.length]; exact F.len _ _ _ _ q2
  have hr4 : IsRange s4.heap _ 0 0 1 s1.toks t0 (s1.toks + 1) := (I4.pin (_, _) (List.mem_append_right _ (List.mem_append_right _ (mem_pinsAt (List.mem_singleton_self _) hr2')))).1
  have I4u : Inv X pins σ H3 s4 := I4.unpinned
  refine wpAny_call (codeAny_mono (F.run X.A X.stack s4 H3 ⟨.ref a :: us, []⟩ ((.ref a :: us) ++ ds) ((.ref a :: vs) ++ dvs) cont E hr I4.env0 (hb s4 (.ref a :: us) I4.kIn hl2) r2 q2) fun r s5 hq => ?_)
  cases r with
  | error e => exact False.elim hq
  | ok fl =>
    cases fl with
    | next => exact False.elim hq
    | brk => exact False.elim hq
    | cont => exact False.elim hq
    | ret u =>
      obtain ⟨g, n, c5, rfl, _, _, hg, _, hos, hbare, _, hkp, _⟩ := hq
      obtain ⟨h5, g5, d5, t5, os5⟩ := s5
      obtain rfl : os5 = s4.os := hos
      have I5 : Inv X pins σ H3 ⟨h5, g5, d5, t5, s4.os⟩ := I4u.call (ch := []) (Un.kept hkp) (I4u.hok.kept hkp) hbare fun b z => absurd z (by simp)
      refine args_nil ?_
      refine RZ8.call_zip (hkp _ _ hr4) hg fun h6 hz hTI hTO hi hk6 => ?_
      have I6 : Inv X pins σ H3 ⟨h6, g5, d5, t5, s4.os⟩ := I5.kept (t' := t5) hk6
      refine args_nil ?_
      have n1 : h5.objs.size ≠ h5.objs.size + 3 := by omega
      have sz56 : h5.objs.size ≤ h6.objs.size := by
        obtain ⟨o1, h1⟩ : ∃ o, h6.get? h5.objs.size = some o := ⟨_, hi⟩
        exact Nat.le_of_lt (Heap.lt_size h1)
      refine RZ8.call_list_zip (hr.hd) n1 hz hTI hTO hi fun h7 c7 hk7 hS => ?_
      refine ⟨.ref h6.objs.size, upd H3 h6.objs.size (.lst []), I5.laid (t' := t5) (fun b u e => hk7 b u (fun z => ?_) (fun z => ?_) (hk6 b u e)) sz56 ⟨Nat.zero_le _, [], c7, .nil, hS⟩, rfl, q5 _ (I6.hok.fresh (Nat.le_refl _))⟩
      · have q : b < h5.objs.size := Heap.lt_size e
        exact Nat.lt_irrefl _ (Nat.lt_of_lt_of_le q (by rw [show b = h5.objs.size + 3 from z]; exact Nat.le_add_right _ _))
      · have q : b < h5.objs.size := Heap.lt_size e
        exact Nat.lt_irrefl _ (Nat.lt_of_lt_of_le q (Nat.le_of_eq (show b = h5.objs.size from z).symm))
end
end Clo
namespace Pr
open PySem PySem.Spec PyProof.Rows L2 Gd LamX NdefX Clo
/-! ### the lambdas of _law_sizes_right, read -/
def NSz : List Str := ["dice", "ops", "size", "number", "calls", "told", "far", "call"]
structure SX (K : PySem.W.Frag) (C : Addr) : Prop where
  c : MtX K C "count_trees" "Operators.count_trees" mCountT ["self", "size"]
  e : MtX K C "each_tree" "Operators.each_tree" mEach ["self", "size"]
  t : MtX K C "tree_at" "Operators.tree_at" mTreeAt ["self", "size", "number"]
section
variable {P : Program} {w : World} {K : PySem.W.Frag} {mg : Str → Option Value} {base : Heap} {C CN eN fI fN fZ fCn : Addr} {dI dN dZ dCn : FuncData} {tk : Tok}
abbrev lz_c (C CN : Addr) : LD := ⟨lamAt sSizesR 2, ["ops", "size"], [1, 2], fun E => tMeth C "count_trees" (spCT C CN) [] E (tVar 0) (tCons (tVar 1) tNil)⟩
theorem tz_c (S : Sz K mg C CN eN fI fN fZ fCn dI dN dZ dCn tk) (T : Free mg) (X : SX K C) (ns : PySem.W.subIn K (.ref CN) (.type "StopIteration") = some false) : Told P w K mg base (L2.CX P w) 7 "_law_sizes_right.<locals>.<lambda>" (lamAt sSizesR 2) ["ops", "size"] (fun E => tMeth C "count_trees" (spCT C CN) [] E (tVar 0) (tCons (tVar 1) tNil)) := by
  obtain ⟨f1, d1, X1⟩ := X.c.ex
  obtain ⟨f2, d2, X2⟩ := X.e.ex
  obtain ⟨f3, d3, X3⟩ := X.t.ex
  refine ⟨nscope_by (by decide +kernel), fun _ _ _ _ => rfl, fun cl c f A outer s H E hr => ?_⟩
  exact pe_meth (pv 0) S.cf.cls X1.m (ok_countT X1.F S T) (hr.mono (by decide)) X1.b .nil (E := E) (passes_call (takes_of rfl rfl rfl rfl) fun _ _ _ _ h => h) (pa_cons (pv 1) pa_nil)
theorem cz_c : capsB NSz (defScope sSizesR) (lamAt sSizesR 2) ["ops", "size"] [1, 2] = true := by decide +kernel
theorem lsz_c : LamS (defScope sSizesR) (lamAt sSizesR 2).scope := lamS_by (by decide +kernel)
abbrev lz_g (C CN : Addr) : LD := ⟨lamAt sSizesR 3, ["ops", "size"], [1, 2], fun E => tListG (tMethG C "each_tree" (spEach CN) [] (fun cls d H => cls = .ref CN ∧ E cls d H) (tVar 0) (tCons (tVar 1) tNil))⟩
theorem tz_g (S : Sz K mg C CN eN fI fN fZ fCn dI dN dZ dCn tk) (T : Free mg) (X : SX K C) (ns : PySem.W.subIn K (.ref CN) (.type "StopIteration") = some false) : Told P w K mg base (L2.CX P w) 7 "_law_sizes_right.<locals>.<lambda>" (lamAt sSizesR 3) ["ops", "size"] (fun E => tListG (tMethG C "each_tree" (spEach CN) [] (fun cls d H => cls = .ref CN ∧ E cls d H) (tVar 0) (tCons (tVar 1) tNil))) := by
  obtain ⟨f1, d1, X1⟩ := X.c.ex
  obtain ⟨f2, d2, X2⟩ := X.e.ex
  obtain ⟨f3, d3, X3⟩ := X.t.ex
  refine ⟨nscope_by (by decide +kernel), fun _ _ _ _ => rfl, fun cl c f A outer s H E hr => ?_⟩
  exact pe_listG (E := (fun cls d H => cls = .ref CN ∧ E cls d H)) (pgen_meth (pv 0) S.cf.cls X2.m (gfn_each X2.F S T) (hr.mono (by decide)) X2.b .nil (pa_cons (pv 1) pa_nil)) (passes_call (takes_of rfl rfl rfl rfl) fun _ _ _ _ h => h.2) (fun cls d H h => by rw [h.1]; exact ns) hr (by rfl) T.list (by decide +kernel)
theorem cz_g : capsB NSz (defScope sSizesR) (lamAt sSizesR 3) ["ops", "size"] [1, 2] = true := by decide +kernel
theorem lsz_g : LamS (defScope sSizesR) (lamAt sSizesR 3).scope := lamS_by (by decide +kernel)
abbrev lz_t (C CN : Addr) : LD := ⟨lamAt sSizesR 4, ["ops", "size", "number"], [1, 2, 3], fun E => tMeth C "tree_at" (spTA C CN) [] E (tVar 0) (tCons (tVar 1) (tCons (tVar 2) tNil))⟩
theorem tz_t (S : Sz K mg C CN eN fI fN fZ fCn dI dN dZ dCn tk) (T : Free mg) (X : SX K C) (ns : PySem.W.subIn K (.ref CN) (.type "StopIteration") = some false) : Told P w K mg base (L2.CX P w) 7 "_law_sizes_right.<locals>.<lambda>" (lamAt sSizesR 4) ["ops", "size", "number"] (fun E => tMeth C "tree_at" (spTA C CN) [] E (tVar 0) (tCons (tVar 1) (tCons (tVar 2) tNil))) := by
  obtain ⟨f1, d1, X1⟩ := X.c.ex
  obtain ⟨f2, d2, X2⟩ := X.e.ex
  obtain ⟨f3, d3, X3⟩ := X.t.ex
  refine ⟨nscope_by (by decide +kernel), fun _ _ _ _ => rfl, fun cl c f A outer s H E hr => ?_⟩
  exact pe_meth (pv 0) S.cf.cls X3.m (ok_treeAt X3.F S T) (hr.mono (by decide)) X3.b .nil (E := E) (passes_call (takes_of rfl rfl rfl rfl) fun _ _ _ _ h => h) (pa_cons (pv 1) (pa_cons (pv 2) pa_nil))
theorem cz_t : capsB NSz (defScope sSizesR) (lamAt sSizesR 4) ["ops", "size", "number"] [1, 2, 3] = true := by decide +kernel
theorem lsz_t : LamS (defScope sSizesR) (lamAt sSizesR 4).scope := lamS_by (by decide +kernel)
abbrev lz_z (C CN : Addr) : LD := ⟨lamAt sSizesR 6, ["ops", "size"], [1, 2], fun _ => tListZ C "each_tree" (spEach CN) [] (tVar 0) (tCons (tVar 1) tNil)⟩
theorem tz_z (S : Sz K mg C CN eN fI fN fZ fCn dI dN dZ dCn tk) (T : Free mg) (X : SX K C) (ns : PySem.W.subIn K (.ref CN) (.type "StopIteration") = some false) : Told P w K mg base (L2.CX P w) 7 "_law_sizes_right.<locals>.<lambda>" (lamAt sSizesR 6) ["ops", "size"] (fun _ => tListZ C "each_tree" (spEach CN) [] (tVar 0) (tCons (tVar 1) tNil)) := by
  obtain ⟨f1, d1, X1⟩ := X.c.ex
  obtain ⟨f2, d2, X2⟩ := X.e.ex
  obtain ⟨f3, d3, X3⟩ := X.t.ex
  refine ⟨nscope_by (by decide +kernel), fun _ _ _ _ => rfl, fun cl c f A outer s H E hr => ?_⟩
  exact pe_listZ (by rfl) T.list (by rfl) T.zip (by rfl) T.range (pv 0) S.cf.cls X2.m (gfn_each X2.F S T) (hr.mono (by decide)) X2.b .nil (pa_cons (pv 1) pa_nil)
theorem cz_z : capsB NSz (defScope sSizesR) (lamAt sSizesR 6) ["ops", "size"] [1, 2] = true := by decide +kernel
theorem lsz_z : LamS (defScope sSizesR) (lamAt sSizesR 6).scope := lamS_by (by decide +kernel)
abbrev lz_n (C CN : Addr) : LD := ⟨lamAt sSizesR 7, ["ops", "number"], [1, 3], fun E => tMeth C "tree_at" (spTA C CN) [] E (tVar 0) (tCons (tC (.int 1)) (tCons (tVar 1) tNil))⟩
theorem tz_n (S : Sz K mg C CN eN fI fN fZ fCn dI dN dZ dCn tk) (T : Free mg) (X : SX K C) (ns : PySem.W.subIn K (.ref CN) (.type "StopIteration") = some false) : Told P w K mg base (L2.CX P w) 7 "_law_sizes_right.<locals>.<lambda>" (lamAt sSizesR 7) ["ops", "number"] (fun E => tMeth C "tree_at" (spTA C CN) [] E (tVar 0) (tCons (tC (.int 1)) (tCons (tVar 1) tNil))) := by
  obtain ⟨f1, d1, X1⟩ := X.c.ex
  obtain ⟨f2, d2, X2⟩ := X.e.ex
  obtain ⟨f3, d3, X3⟩ := X.t.ex
  refine ⟨nscope_by (by decide +kernel), fun _ _ _ _ => rfl, fun cl c f A outer s H E hr => ?_⟩
  exact pe_meth (pv 0) S.cf.cls X3.m (ok_treeAt X3.F S T) (hr.mono (by decide)) X3.b .nil (E := E) (passes_call (takes_of rfl rfl rfl rfl) fun _ _ _ _ h => h) (pa_cons pe_int (pa_cons (pv 1) pa_nil))
theorem cz_n : capsB NSz (defScope sSizesR) (lamAt sSizesR 7) ["ops", "number"] [1, 3] = true := by decide +kernel
theorem lsz_n : LamS (defScope sSizesR) (lamAt sSizesR 7).scope := lamS_by (by decide +kernel)
abbrev lz_f (C CN : Addr) : LD := ⟨lamAt sSizesR 9, ["ops", "far"], [1, 6], fun E => tMeth C "tree_at" (spTA C CN) [] E (tVar 0) (tCons (tC (.int 3)) (tCons (tVar 1) tNil))⟩
theorem tz_f (S : Sz K mg C CN eN fI fN fZ fCn dI dN dZ dCn tk) (T : Free mg) (X : SX K C) (ns : PySem.W.subIn K (.ref CN) (.type "StopIteration") = some false) : Told P w K mg base (L2.CX P w) 7 "_law_sizes_right.<locals>.<lambda>" (lamAt sSizesR 9) ["ops", "far"] (fun E => tMeth C "tree_at" (spTA C CN) [] E (tVar 0) (tCons (tC (.int 3)) (tCons (tVar 1) tNil))) := by
  obtain ⟨f1, d1, X1⟩ := X.c.ex
  obtain ⟨f2, d2, X2⟩ := X.e.ex
  obtain ⟨f3, d3, X3⟩ := X.t.ex
  refine ⟨nscope_by (by decide +kernel), fun _ _ _ _ => rfl, fun cl c f A outer s H E hr => ?_⟩
  exact pe_meth (pv 0) S.cf.cls X3.m (ok_treeAt X3.F S T) (hr.mono (by decide)) X3.b .nil (E := E) (passes_call (takes_of rfl rfl rfl rfl) fun _ _ _ _ h => h) (pa_cons pe_int (pa_cons (pv 1) pa_nil))
theorem cz_f : capsB NSz (defScope sSizesR) (lamAt sSizesR 9) ["ops", "far"] [1, 6] = true := by decide +kernel
theorem lsz_f : LamS (defScope sSizesR) (lamAt sSizesR 9).scope := lamS_by (by decide +kernel)
abbrev lz_h (C CN : Addr) : LD := ⟨lamAt sSizesR 10, ["ops"], [1], fun E => tMeth C "count_trees" (spCT C CN) [] E (tVar 0) (tCons (tC (.int 200)) tNil)⟩
theorem tz_h (S : Sz K mg C CN eN fI fN fZ fCn dI dN dZ dCn tk) (T : Free mg) (X : SX K C) (ns : PySem.W.subIn K (.ref CN) (.type "StopIteration") = some false) : Told P w K mg base (L2.CX P w) 7 "_law_sizes_right.<locals>.<lambda>" (lamAt sSizesR 10) ["ops"] (fun E => tMeth C "count_trees" (spCT C CN) [] E (tVar 0) (tCons (tC (.int 200)) tNil)) := by
  obtain ⟨f1, d1, X1⟩ := X.c.ex
  obtain ⟨f2, d2, X2⟩ := X.e.ex
  obtain ⟨f3, d3, X3⟩ := X.t.ex
  refine ⟨nscope_by (by decide +kernel), fun _ _ _ _ => rfl, fun cl c f A outer s H E hr => ?_⟩
  exact pe_meth (pv 0) S.cf.cls X1.m (ok_countT X1.F S T) (hr.mono (by decide)) X1.b .nil (E := E) (passes_call (takes_of rfl rfl rfl rfl) fun _ _ _ _ h => h) (pa_cons pe_int pa_nil)
theorem cz_h : capsB NSz (defScope sSizesR) (lamAt sSizesR 10) ["ops"] [1] = true := by decide +kernel
theorem lsz_h : LamS (defScope sSizesR) (lamAt sSizesR 10).scope := lamS_by (by decide +kernel)
end
end Pr
namespace Pr
open PySem PySem.Spec PyProof.Rows L2 Gd LamX NdefX Clo
/-! ### what the calls of _law_sizes_right give -/
section
variable {C CT CN o tc : Addr} {n0 n1 n2 : Nat} {cs : List Int} {H : Hp} {Q : VK} {v m : V} {ty : String} {n : Nat} {t : Str}
theorem sz_bad {E' : XK} {R : VK} (kd : Kd H v ty) (bad : szB v = false) (sh : Sh H n v t) (n50 : n ≤ 50) (tl : t.length ≤ 10000000) (q : ∀ H', Same H H' → Q (.str (("number " : Str) ++ t)) H')
    (hE : ∀ d H', wE CT CN Q (.ref CN) d H' → E' (.ref CN) d H') : spSz CN [v] H R E' := by
  refine ⟨v, ty, rfl, kd, fun z => ?_, fun _ d H' s nd => hE _ _ (.inr ⟨rfl, d, v, n, t, rfl, upd_same, Sh.keep (s.trans (Same.new nd)) _ _ _ sh, n50, tl, q _ (s.trans (Same.new nd))⟩)⟩
  rw [bad] at z
  cases z
variable (ca : CntAt H C o tc n0 n1 n2 cs) (kd : Kd H v ty) (bad : szB v = false) (sh : Sh H n v t) (n50 : n ≤ 50) (tl : t.length ≤ 10000000) (q : ∀ H', Same H H' → Q (.str (("number " : Str) ++ t)) H')
include ca kd bad
include sh n50 tl q in
theorem tw_zc : TWord CT CN (fun E => tMeth C "count_trees" (spCT C CN) [] E (tVar 0) (tCons (tVar 1) tNil)) [some (.ref o), some v] H Q := by
  intro E' hE
  obtain ⟨dx, tn, ta, tl', tm, tr, ho, _⟩ := ca.ex
  exact ⟨_, rfl, o, dx, _, rfl, ho, rfl, _, rfl, o, dx, _, v, rfl, ho, rfl, sz_bad kd bad sh n50 tl q fun d H' w => hE _ d H' w⟩
include sh n50 tl q in
theorem tw_zg : TWord CT CN (fun E => tListG (tMethG C "each_tree" (spEach CN) [] (fun cls d H => cls = .ref CN ∧ E cls d H) (tVar 0) (tCons (tVar 1) tNil))) [some (.ref o), some v] H Q := by
  intro E' hE
  obtain ⟨dx, tn, ta, tl', tm, tr, ho, _⟩ := ca.ex
  exact ⟨_, rfl, o, dx, _, rfl, ho, rfl, _, rfl, o, v, rfl, sz_bad kd bad sh n50 tl q fun d H' w => ⟨rfl, hE _ d H' w⟩⟩
include sh n50 tl q in
theorem tw_zt {k : String} (km : Kd H m k) : TWord CT CN (fun E => tMeth C "tree_at" (spTA C CN) [] E (tVar 0) (tCons (tVar 1) (tCons (tVar 2) tNil))) [some (.ref o), some v, some m] H Q := by
  intro E' hE
  obtain ⟨dx, tn, ta, tl', tm, tr, ho, _⟩ := ca.ex
  exact ⟨_, rfl, o, dx, _, rfl, ho, rfl, _, rfl, _, rfl, o, dx, _, v, m, k, rfl, ho, rfl, km, sz_bad kd bad sh n50 tl q fun d H' w => hE _ d H' w⟩
theorem tw_zz (qz : ∀ H', Same H H' → Q (.str "fine") H') : TWord CT CN (fun _ => tListZ C "each_tree" (spEach CN) [] (tVar 0) (tCons (tVar 1) tNil)) [some (.ref o), some v] H Q := by
  intro E' hE
  obtain ⟨dx, tn, ta, tl', tm, tr, ho, _⟩ := ca.ex
  refine ⟨_, rfl, o, dx, _, rfl, ho, rfl, _, rfl, ⟨fun _ _ => True, fun _ _ _ => True, o, v, rfl, v, ty, rfl, kd, fun z => ?_, fun _ _ _ _ _ => trivial⟩, fun p np => qz _ (Same.new np)⟩
  rw [bad] at z
  cases z
end
section
variable {C CT CN o tc : Addr} {n0 n1 n2 : Nat} {cs : List Int} {H : Hp} {Q : VK} {m : V} {ty : String} {n : Nat} {t : Str} (ca : CntAt H C o tc n0 n1 n2 cs)
include ca
theorem tw_zn (km : Kd H m ty) (bad : isCountO m = false) (sh : Sh H n m t) (n50 : n ≤ 50) (tl : t.length ≤ 10000000) (q : ∀ H', Same H H' → Q (.str (("number " : Str) ++ t)) H') :
    TWord CT CN (fun E => tMeth C "tree_at" (spTA C CN) [] E (tVar 0) (tCons (tC (.int 1)) (tCons (tVar 1) tNil))) [some (.ref o), some m] H Q := by
  intro E' hE
  obtain ⟨dx, tn, ta, tl', tm, tr, ho, _⟩ := ca.ex
  have one : szB (.int 1) = true := szB_nat (n := 1) (by decide)
  refine ⟨_, rfl, o, dx, _, rfl, ho, rfl, _, rfl, o, dx, _, .int 1, m, ty, rfl, ho, rfl, km, .int 1, "int", rfl, .int 1, fun _ => ⟨rfl, fun _ d nd => hE _ _ _ (.inr ⟨rfl, d, m, n, t, rfl, upd_same, Sh.keep (Same.new nd) _ _ _ sh, n50, tl, q _ (Same.new nd)⟩), fun b => ?_⟩, fun b => ?_⟩
  · rw [bad] at b
    cases b
  · rw [one] at b
    cases b
theorem tw_zf {c : Int} (hc : cs[3]? = some c) (sh : ∀ H', Sh H' n (.int c) t) (n50 : n ≤ 50) (tl : t.length ≤ 10000000) (q : ∀ H' cs', Kp tc H H' → CntAt H' C o tc n0 n1 n2 cs' → Q (.str (("number " : Str) ++ t)) H') :
    TWord CT CN (fun E => tMeth C "tree_at" (spTA C CN) [] E (tVar 0) (tCons (tC (.int 3)) (tCons (tVar 1) tNil))) [some (.ref o), some (.int c)] H Q := by
  intro E' hE
  obtain ⟨dx, tn, ta, tl', tm, tr, ho, _⟩ := ca.ex
  have one : szB (.int 3) = true := szB_nat (n := 3) (by decide)
  refine ⟨_, rfl, o, dx, _, rfl, ho, rfl, _, rfl, o, dx, _, .int 3, .int c, "int", rfl, ho, rfl, .int c, .int 3, "int", rfl, .int 3, fun _ => ⟨rfl, fun _ d nd => ?_, fun _ => ?_⟩, fun b => ?_⟩
  · exact hE _ _ _ (.inr ⟨rfl, d, .int c, n, t, rfl, upd_same, sh _, n50, tl, q _ cs (Kp.same (Same.new nd)) (ca.same (Same.new nd))⟩)
  · refine ⟨o, tc, n0, n1, n2, cs, 3, rfl, ca, by decide, fun cs' c' px ca' hc' => ⟨c, c', rfl, rfl, ?_, fun d nd => ?_⟩⟩
    · obtain ⟨more, rfl⟩ := px
      have l3 : 3 < cs.length := (List.getElem?_eq_some_iff.mp hc).1
      rw [List.getElem?_append_left l3, hc] at hc'
      cases hc'
      exact Int.le_refl _
    · exact hE _ _ _ (.inr ⟨rfl, d, .int c, n, t, rfl, upd_same, sh _, n50, tl, q _ cs' (Kp.upd.trans (Kp.same (Same.new nd))) (ca'.same (Same.new nd))⟩)
  · rw [one] at b
    cases b
theorem tw_zh (q : ∀ H' cs', Kp tc H H' → CntAt H' C o tc n0 n1 n2 cs' → Q (.str "fine") H') : TWord CT CN (fun E => tMeth C "count_trees" (spCT C CN) [] E (tVar 0) (tCons (tC (.int 200)) tNil)) [some (.ref o)] H Q := by
  intro E' hE
  obtain ⟨dx, tn, ta, tl', tm, tr, ho, _⟩ := ca.ex
  have one : szB (.int 200) = true := szB_nat (n := 200) (by decide)
  refine ⟨_, rfl, o, dx, _, rfl, ho, rfl, o, dx, _, .int 200, rfl, ho, rfl, .int 200, "int", rfl, .int 200, fun _ => ⟨rfl, o, tc, n0, n1, n2, cs, 200, rfl, ca, by decide, fun cs' c px ca' hc => q _ cs' Kp.upd ca'⟩, fun b => ?_⟩
  rw [one] at b
  cases b
end
end Pr
namespace Pr
open PySem PySem.Spec PyProof.Rows L2 Gd LamX NdefX Clo
/-! ### small values and their texts, where the dice and the counts change -/
def Sh1 (H : Hp) (d tc : Addr) (v : V) (t : Str) : Prop := Sc v t ∨ (∃ a, v = .ref a ∧ a ≠ d ∧ a ≠ tc ∧ H a = some (.lst []) ∧ t = listText []) ∨ (∃ a x s, v = .ref a ∧ Tx.TX H a [x] ∧ Sc x s ∧ t = tupleText [s]) ∨ (∃ a, v = .ref a ∧ H a = some (.dK []) ∧ t = dictText [])
abbrev P2 (d tc : Addr) : Addr → Prop := fun b => b = d ∨ b = tc
section
variable {H H' : Hp} {d tc : Addr} {v : V} {t : Str}
theorem Sh1.sh (h : Sh1 H d tc v t) : Sh H 1 v t := by
  rcases h with h | ⟨a, rfl, _, _, e, rfl⟩ | ⟨a, x, s, rfl, e, c, rfl⟩ | ⟨a, rfl, e, rfl⟩
  · exact .inl h
  · exact Sh.lst e .nil
  · exact Sh.tup e (.cons c .nil)
  · exact Sh.dK e .nil
theorem Sh1.kn {ds ys : List V} (h : Sh1 H d tc v t) (hd : H d = some (.lst ds)) (ht : H tc = some (.lst ys)) (k : KN (P2 d tc) H H') : Sh1 H' d tc v t := by
  have ne : ∀ {a : Addr} {u : HO}, H a = some u → (∀ xs, u ≠ .lst xs) → ¬ P2 d tc a := fun e n z => by
    rcases z with z | z
    · rw [z, hd] at e
      exact n _ (Option.some.inj e).symm
    · rw [z, ht] at e
      exact n _ (Option.some.inj e).symm
  rcases h with h | ⟨a, rfl, n1, n2, e, rfl⟩ | ⟨a, x, s, rfl, ⟨ob, e, od⟩, c, rfl⟩ | ⟨a, rfl, e, rfl⟩
  · exact .inl h
  · exact .inr (.inl ⟨a, rfl, n1, n2, k _ _ (fun z => z.elim n1 n2) e (fun _ z => nomatch z), rfl⟩)
  · exact .inr (.inr (.inl ⟨a, x, s, rfl, ⟨ob, k _ _ (ne e (fun _ z => nomatch z)) e (fun _ z => nomatch z), od⟩, c, rfl⟩))
  · exact .inr (.inr (.inr ⟨a, rfl, k _ _ (ne e (fun _ z => nomatch z)) e (fun _ z => nomatch z), rfl⟩))
/-- a value that can be shown, and is wrong by p -/
def Nv (p : V → Bool) (H : Hp) (d tc : Addr) (v : V) : Prop := (∃ t, Sh1 H d tc v t ∧ t.length ≤ 100000) ∧ p v = false
theorem Nv.kn {p : V → Bool} {ds ys : List V} (h : Nv p H d tc v) (hd : H d = some (.lst ds)) (ht : H tc = some (.lst ys)) (k : KN (P2 d tc) H H') : Nv p H' d tc v := let ⟨⟨t, s, l⟩, b⟩ := h; ⟨⟨t, s.kn hd ht k, l⟩, b⟩
theorem nv_plain {p : V → Bool} {m : Nat} (h : Vd H 0 m v) (hm : m ≤ 100000) (b : p v = false) : Nv p H d tc v := let ⟨t, s, l⟩ := h.sm; ⟨⟨t, .inl s, by omega⟩, b⟩
theorem nv_lst {p : V → Bool} {a : Addr} (e : H a = some (.lst [])) (n1 : a ≠ d) (n2 : a ≠ tc) (b : p (.ref a) = false) : Nv p H d tc (.ref a) := ⟨⟨_, .inr (.inl ⟨a, rfl, n1, n2, e, rfl⟩), by decide +kernel⟩, b⟩
theorem nv_tup {p : V → Bool} {a : Addr} {i : Int} (e : Tx.TX H a [.int i]) (hi : i = 0 ∨ i = 1) (b : p (.ref a) = false) : Nv p H d tc (.ref a) := by
  rcases hi with rfl | rfl
  · exact ⟨⟨_, .inr (.inr (.inl ⟨a, _, _, rfl, e, Sc.int 0 (by decide), rfl⟩)), by decide +kernel⟩, b⟩
  · exact ⟨⟨_, .inr (.inr (.inl ⟨a, _, _, rfl, e, Sc.int 1 (by decide), rfl⟩)), by decide +kernel⟩, b⟩
theorem nv_dK {p : V → Bool} {a : Addr} (e : H a = some (.dK [])) (b : p (.ref a) = false) : Nv p H d tc (.ref a) := ⟨⟨_, .inr (.inr (.inr ⟨a, rfl, e, rfl⟩)), by decide +kernel⟩, b⟩
end
theorem sz_not {v : V} (h : ∀ i, v ≠ .int i) : szB v = false := by
  unfold szB
  cases v with
  | int i => exact absurd rfl (h i)
  | _ => exact Bool.and_false _
theorem sz_int {i : Int} (h : i < 1 ∨ 200 < i) : szB (.int i) = false := by
  unfold szB
  show (_ && (decide (1 ≤ i) && decide (i ≤ 200))) = false
  rcases h with h | h
  · rw [decide_eq_false (show ¬ 1 ≤ i by omega), Bool.false_and, Bool.and_false]
  · rw [decide_eq_false (show ¬ i ≤ 200 by omega), Bool.and_false, Bool.and_false]
theorem cnt_not {v : V} (h : ∀ i, v ≠ .int i) : isCountO v = false := by
  rw [isCountO_eq]
  cases v with
  | int i => exact absurd rfl (h i)
  | _ => rfl
theorem CntAt.hm {H : Hp} {C o tc d : Addr} {n0 n1 n2 : Nat} {cs : List Int} {ds : List V} (h : CntAt H C o tc n0 n1 n2 cs) (hd : H d = some (.lst ds)) (nt : tc ≠ d) : CntAt (Hm d H) C o tc n0 n1 n2 cs := by
  obtain ⟨dx, tn, ta, tl, tm, tr, e1, e2⟩ := h.ex
  have n1 : o ≠ d := fun z => by
    rw [z, hd] at e1
    cases e1
  have n2 : tm ≠ d := fun z => by
    rw [z, hd] at e2
    cases e2
  exact ⟨⟨dx, tn, ta, tl, tm, tr, Hm.of e1 n1, Hm.of e2 n2⟩, Hm.of h.li nt, h.n8, h.len, h.bd⟩
theorem CntAt.extN {H H' : Hp} {C o tc : Addr} {n0 n1 n2 : Nat} {cs : List Int} (h : CntAt H C o tc n0 n1 n2 cs) (k : ExtN H H') : CntAt H' C o tc n0 n1 n2 cs := by
  obtain ⟨dx, tn, ta, tl, tm, tr, e1, e2⟩ := h.ex
  exact ⟨⟨dx, tn, ta, tl, tm, tr, k _ _ e1 (fun _ z => nomatch z), k _ _ e2 (fun _ z => nomatch z)⟩, k _ _ h.li (fun _ z => nomatch z), h.n8, h.len, h.bd⟩
end Pr
namespace Pr
open PySem PySem.Spec PyProof.Rows L2 Gd LamX NdefX Clo
/-! ### _law_sizes_right -/
theorem pass00 {X : Cx} : Passes (L2.CX X.prog X.w) X E0 := fun pins σ H s e s' I h => by
  obtain ⟨a, B, H', cls, d, _, _, _, _, _, _, _, w⟩ := h
  exact w.elim
theorem scZR : FnScope NSz ["dice", "ops"] (defScope sSizesR) := ⟨rfl, rfl, rfl, by decide +kernel, rfl, by decide +kernel, by decide +kernel⟩
def spZR (C : Addr) (T : List (Addr × Str)) : Sp := fun vs H Q _ => ∃ (d o tc : Addr) (n0 n1 n2 : Nat) (cs : List Int) (n : Nat), vs = [.ref d, .ref o] ∧ tc ≠ d ∧ CntAt (Hm d H) C o tc n0 n1 n2 cs ∧ Tabs T H ∧ Dice H d n ∧ n + 30 < 1000000 ∧
  ∀ H' cs', KN (fun b => b = d ∨ b = tc) H H' → CntAt (Hm d H') C o tc n0 n1 n2 cs' → Tabs T H' → Dice H' d (n + 30) → Q (.bl true) H'
section
variable {P : Program} {w : World} {K : PySem.W.Frag} {mg : Str → Option Value} {base : Heap} {C CT CN CM eN fI fN fZ fCn fR fK fM gw c0 P0 : Addr} {dI dN dZ dCn dR dK dM dw : FuncData} {tk : Tok} {Tt : List (Addr × Str)}
theorem ok_sizesR {f : Addr} {fd : FuncData} (F : FunC K "_law_sizes_right" sSizesR f c0 fd) (TB : TabB base mg c0 P0) (hmT : (P0, ("_law_sizes_right.<locals>.<lambda>" : Str)) ∈ Tt) (huT : ∀ p ∈ Tt, p.1 = P0 → p.2 = "_law_sizes_right.<locals>.<lambda>")
    (S : Sz K mg C CN eN fI fN fZ fCn dI dN dZ dCn tk) (T : Free mg) (X : SX K C) (ns : PySem.W.subIn K (.ref CN) (.type "StopIteration") = some false) (D : Draws K mg fR fK fM dR dK dM) (Wd : WdF K mg CT CN CM eN gw dw) : FnG P w K mg base CX0 10 f fd ["dice", "ops"] (spZR C Tt) := by
  obtain ⟨f1, d1, X1⟩ := id X.c.ex
  have GP : FnOk P w K mg base CX0 2 fK dK ["dice", "items"] (spPick K) := ok_pick D T
  have GCT : FnOk P w K mg base (L2.CX P w) 4 f1 d1 ["self", "size"] (spCT C CN) := ok_countT X1.F S T
  have D1t : ∀ d ∈ [lz_c C CN, lz_g C CN, lz_t C CN], Told P w K mg base (L2.CX P w) 7 "_law_sizes_right.<locals>.<lambda>" d.l d.fr d.te := (all_cons (tz_c S T X ns) (all_cons (tz_g S T X ns) (all_cons (tz_t S T X ns) all_nil)))
  have D1c : ∀ d ∈ [lz_c C CN, lz_g C CN, lz_t C CN], capsB NSz (defScope sSizesR) d.l d.fr d.js = true := (all_cons cz_c (all_cons cz_g (all_cons cz_t all_nil)))
  refine F.ok scZR (fun vs H Q E h => ?_) (fun A outer s H vs Q E hr gd h => ?_)
  · obtain ⟨d, o, tc, n0, n1, n2, cs, n, rfl, _⟩ := h
    rfl
  · obtain ⟨d, o, tc, n0, n1, n2, cs, n, rfl, ntd, ca, tb, di, hn, q⟩ := h
    have hu := hr.units
    have r4 : Room 4 _ := hr.mono (by decide)
    have r2 : Room 2 _ := hr.mono (by decide)
    have hr9 : Room 9 _ := hr
    refine ⟨_, pss_cons (ps_set (i := 2) scZR.nd rfl (.inr rfl) (pe_call GP r2 (by rfl) D.gP D.FP.kp D.bP .nil pass0 (pa_cons (pv 0) (pa_cons (pe_lst (pa_cons pe_non (pa_cons pe_int (pa_cons (pe_un un_neg pe_int) (pa_cons pe_int (pa_cons pe_bl (pa_cons pe_bl (pa_cons pe_str (pa_cons (Tx.pe_tupX (pa_cons pe_int pa_nil)) (pa_cons (pe_op op_pow pe_int pe_int) (pa_cons (pe_lst pa_nil) (pa_cons pe_dnewK pa_nil)))))))))))) pa_nil))))
      (pss_cons (ps_set (i := 3) scZR.nd rfl (.inr rfl) (pe_call GP r2 (by rfl) D.gP D.FP.kp D.bP .nil pass0 (pa_cons (pv 0) (pa_cons (pe_lst (pa_cons pe_non (pa_cons (pe_un un_neg pe_int) (pa_cons pe_bl (pa_cons pe_str (pa_cons (Tx.pe_tupX (pa_cons pe_int pa_nil)) (pa_cons (pe_op op_pow pe_int pe_int) (pa_cons (pe_lst pa_nil) (pa_cons pe_dnewK (pa_cons pe_bl pa_nil)))))))))) pa_nil))))
      (pss_cons (ps_set (i := 4) scZR.nd rfl (.inl rfl) (pe_lst (pa_cons (pe_lam (T := Tt) (l := (lz_c C CN).l) TB rfl (by rfl) hmT huT lsz_c) pa_nil)))
      (pss_cons (ps_expr (pe_bm PySem.F.plainAttrs_list PySem.F.slot_list_append PySem.F.type_list_append mt_append (pv 4) (pa_cons (pe_lam (T := Tt) (l := (lz_g C CN).l) TB rfl (by rfl) hmT huT lsz_g) pa_nil)))
      (pss_cons (ps_expr (pe_bm PySem.F.plainAttrs_list PySem.F.slot_list_append PySem.F.type_list_append mt_append (pv 4) (pa_cons (pe_lam (T := Tt) (l := (lz_t C CN).l) TB rfl (by rfl) hmT huT lsz_t) pa_nil)))
      (pss_cons (ps_if (pt_cmpR (op_neL hu) (pe_lcx (own := [("call", 7)]) (g := gName 7) (by rfl) scZR.nd (pi_list (pv 4)) (blkOk_by (own := [("call", 7)]) (N := NSz) (sc := defScope sSizesR) (by decide +kernel)) (fun _ _ _ _ _ => pg_name (i := 7) scZR.nd rfl (Or.inl rfl))
          (fun _ _ _ _ _ _ a0 => pe_wordB a0 T Wd D1t (caps_all rfl rfl D1c) hr9 gd (pa_cons (pv 7) pa_nil) (by rfl))) (pe_op op_rep (pe_lst (pa_cons (pe_op op_add_str pe_str (pe_callB (call_repr gd hu) (by rfl) T.repr (by decide +kernel) (pa_cons (pv 2) pa_nil))) pa_nil)) pe_int) (nomark _)) (pss_one ps_never) pss_nil)
      (pss_cons (ps_if (pt_cmpR op_ne (pe_word T Wd (Ds := [lz_z C CN]) (all_cons (tz_z S T X ns) all_nil) (caps_all rfl rfl (all_cons cz_z all_nil)) hr9 gd (pa_cons (pe_lam (T := Tt) (l := (lz_z C CN).l) TB rfl (by rfl) hmT huT lsz_z) pa_nil) (by rfl)) pe_str (nomark _)) (pss_one ps_never) pss_nil)
      (pss_cons (ps_set (i := 5) scZR.nd rfl (.inl rfl) (pe_word T Wd (Ds := [lz_n C CN]) (all_cons (tz_n S T X ns) all_nil) (caps_all rfl rfl (all_cons cz_n all_nil)) hr9 gd (pa_cons (pe_lam (T := Tt) (l := (lz_n C CN).l) TB rfl (by rfl) hmT huT lsz_n) pa_nil) (by rfl)))
      (pss_cons (ps_set (i := 6) scZR.nd rfl (.inr rfl) (pe_meth (pv 1) S.cf.cls X1.m GCT r4 X1.b .nil (E := E0) pass00 (pa_cons pe_int pa_nil)))
      (pss_cons (ps_if (PW.pt (pw_or (pt_cmpR op_ne (pv 5) (pe_op op_add_str pe_str (pe_callB (call_repr gd hu) (by rfl) T.repr (by decide +kernel) (pa_cons (pv 3) pa_nil))) (nomark _)) (pw_or1 (pt_cmpR op_ne (pe_word T Wd (Ds := [lz_f C CN]) (all_cons (tz_f S T X ns) all_nil) (caps_all rfl rfl (all_cons cz_f all_nil)) hr9 gd (pa_cons (pe_lam (T := Tt) (l := (lz_f C CN).l) TB rfl (by rfl) hmT huT lsz_f) pa_nil) (by rfl)) (pe_op op_add_str pe_str (pe_callTy call_str_int (by rfl) T.str (by decide +kernel) (pa_cons (pv 6) pa_nil))) (nomark _))))) (pss_one ps_never) pss_nil)
      (pss_one (ps_ret (pe_cmpR op_eq (pe_word T Wd (Ds := [lz_h C CN]) (all_cons (tz_h S T X ns) all_nil) (caps_all rfl rfl (all_cons cz_h all_nil)) hr9 gd (pa_cons (pe_lam (T := Tt) (l := (lz_h C CN).l) TB rfl (by rfl) hmT huT lsz_h) pa_nil) (by rfl)) pe_str (nomark _))))))))))))), ?_⟩
    have z : ∀ {m : Nat}, m ≤ 64 → m ≤ sizeLine := fun h => Nat.le_trans h (by decide)
    obtain ⟨ds0, hd0⟩ := di.there
    have ht0 : H tc = some (.lst (cs.map V.int)) := (Hm.some_of ca.li).1
    have I : ∀ {H : Hp} (i : Int), i.natAbs < 2 ^ 1900 → Vd H 0 2000 (.int i) := fun i h => Vd.int i h
    have Tz : ∀ {H : Hp} (z : Str), SOk 5 z → Vd H 0 2000 (.str z) := fun z h => (Vd.text (k := 100) (h.le (by decide)) (by decide)).le (Nat.le_refl _) (by decide)
    -- the sizes
    refine ⟨_, rfl, _, rfl, ?_⟩
    refine ⟨z (show 1 ≤ 64 by decide), fun t1 G1 m1 r1 x1 => ?_⟩
    refine ⟨10, 60, rfl, rfl, c10 (k := 60) (by decide), ?_⟩
    refine ⟨z (by decide), fun t3 m3 => ?_⟩
    intro t4 m4
    refine ⟨z (Nat.le_of_ble_eq_true rfl), fun l1 ml1 => ?_⟩
    have s3 : Same G1 (upd G1 t3 (.lst [])) := Same.new m3
    have s4 : Same (upd G1 t3 (.lst [])) (upd (upd G1 t3 (.lst [])) t4 (.dK [])) := Same.new m4
    have s5 : Same (upd (upd G1 t3 (.lst [])) t4 (.dK [])) (upd (upd (upd G1 t3 (.lst [])) t4 (.dK [])) l1 (.lst [V.non, .int 0, .int (-1), .int 201, .bl true, .bl false, .str "1", .ref t1, .int (10 ^ (60 : Int).toNat), .ref t3, .ref t4])) := Same.new ml1
    have hl1 : (upd (upd (upd G1 t3 (.lst [])) t4 (.dK [])) l1 (.lst [V.non, .int 0, .int (-1), .int 201, .bl true, .bl false, .str "1", .ref t1, .int (10 ^ (60 : Int).toNat), .ref t3, .ref t4])) l1 = some (.lst [V.non, .int 0, .int (-1), .int 201, .bl true, .bl false, .str "1", .ref t1, .int (10 ^ (60 : Int).toNat), .ref t3, .ref t4]) := upd_same
    have e3 := (s4.trans s5) _ _ (upd_same (H := G1) (a := t3) (o := .lst []))
    have e4 := s5 _ _ (upd_same (H := upd G1 t3 (.lst [])) (a := t4) (o := .dK []))
    have x1' := Tx.TX.same x1 (s3.trans (s4.trans s5))
    have sH := r1.trans (s3.trans (s4.trans s5))
    have n3d : t3 ≠ d := (ne_of_none (r1 _ _ hd0) m3).symm
    have n3t : t3 ≠ tc := (ne_of_none (r1 _ _ ht0) m3).symm
    have nl1d : l1 ≠ d := (ne_of_none ((r1.trans (s3.trans s4)) _ _ hd0) ml1).symm
    clear s3 s4 s5 m3 m4 ml1 x1
    generalize upd (upd (upd G1 t3 (.lst [])) t4 (.dK [])) l1 (.lst [V.non, .int 0, .int (-1), .int 201, .bl true, .bl false, .str "1", .ref t1, .int (10 ^ (60 : Int).toNat), .ref t3, .ref t4]) = H1 at hl1 e3 e4 x1' sH ⊢
    have allsz : ∀ v ∈ [V.non, .int 0, .int (-1), .int 201, .bl true, .bl false, .str "1", .ref t1, .int (10 ^ (60 : Int).toNat), .ref t3, .ref t4], Nv szB H1 d tc v :=
      all_cons (nv_plain Vd.non (by decide) (sz_not fun _ z => nomatch z)) (all_cons (nv_plain (I 0 (by decide +kernel)) (by decide) (sz_int (by decide))) (all_cons (nv_plain (I (-1) (by decide +kernel)) (by decide) (sz_int (by decide))) (all_cons (nv_plain (I 201 (by decide +kernel)) (by decide) (sz_int (by decide)))
        (all_cons (nv_plain (Vd.bl true) (by decide) (sz_not fun _ z => nomatch z)) (all_cons (nv_plain (Vd.bl false) (by decide) (sz_not fun _ z => nomatch z)) (all_cons (nv_plain (Tz "1" ⟨by decide, by decide +kernel⟩) (by decide) (sz_not fun _ z => nomatch z))
        (all_cons (nv_tup x1' (.inr rfl) (sz_not fun _ z => nomatch z)) (all_cons (nv_plain (I (10 ^ (60 : Int).toNat) (by decide +kernel)) (by decide) (sz_int (by decide +kernel))) (all_cons (nv_lst e3 n3d n3t (sz_not fun _ z => nomatch z)) (all_cons (nv_dK e4 (sz_not fun _ z => nomatch z)) all_nil))))))))))
    have di1 := di.same sH
    refine ⟨d, l1, n, _, rfl, nl1d, .inl (SqL.of hl1), by simp, by show 11 ≤ 1000; decide, di1, by omega, fun sz o1 ms di2 => ?_⟩
    have k2 : Kp d H (upd H1 d o1) := (Kp.same sH).trans Kp.upd
    have nvS := (allsz sz ms).kn (sH _ _ hd0) (sH _ _ ht0) (KN.kp (d := d) (P := P2 d tc) (H1 := upd H1 d o1) Kp.upd (.inl rfl))
    clear allsz hl1 e3 e4 x1' di1 sH
    generalize upd H1 d o1 = H2 at k2 nvS di2 ⊢
    obtain ⟨ds2, hd2⟩ := di2.there
    have ht2 := k2 _ _ ntd ht0
    -- the numbers
    refine ⟨_, rfl, _, rfl, ?_⟩
    refine ⟨z (show 1 ≤ 64 by decide), fun t5 G5 m5 r5 x5 => ?_⟩
    refine ⟨10, 60, rfl, rfl, c10 (k := 60) (by decide), ?_⟩
    refine ⟨z (by decide), fun t7 m7 => ?_⟩
    intro t8 m8
    refine ⟨z (Nat.le_of_ble_eq_true rfl), fun l2 ml2 => ?_⟩
    have s3 : Same G5 (upd G5 t7 (.lst [])) := Same.new m7
    have s4 : Same (upd G5 t7 (.lst [])) (upd (upd G5 t7 (.lst [])) t8 (.dK [])) := Same.new m8
    have s5 : Same (upd (upd G5 t7 (.lst [])) t8 (.dK [])) (upd (upd (upd G5 t7 (.lst [])) t8 (.dK [])) l2 (.lst [V.non, .int (-1), .bl true, .str "0", .ref t5, .int (10 ^ (60 : Int).toNat), .ref t7, .ref t8, .bl false])) := Same.new ml2
    have hl2 : (upd (upd (upd G5 t7 (.lst [])) t8 (.dK [])) l2 (.lst [V.non, .int (-1), .bl true, .str "0", .ref t5, .int (10 ^ (60 : Int).toNat), .ref t7, .ref t8, .bl false])) l2 = some (.lst [V.non, .int (-1), .bl true, .str "0", .ref t5, .int (10 ^ (60 : Int).toNat), .ref t7, .ref t8, .bl false]) := upd_same
    have e3 := (s4.trans s5) _ _ (upd_same (H := G5) (a := t7) (o := .lst []))
    have e4 := s5 _ _ (upd_same (H := upd G5 t7 (.lst [])) (a := t8) (o := .dK []))
    have x5' := Tx.TX.same x5 (s3.trans (s4.trans s5))
    have sH := r5.trans (s3.trans (s4.trans s5))
    have n3d : t7 ≠ d := (ne_of_none (r5 _ _ hd2) m7).symm
    have n3t : t7 ≠ tc := (ne_of_none (r5 _ _ ht2) m7).symm
    have nl2d : l2 ≠ d := (ne_of_none ((r5.trans (s3.trans s4)) _ _ hd2) ml2).symm
    clear s3 s4 s5 m7 m8 ml2 x5
    generalize upd (upd (upd G5 t7 (.lst [])) t8 (.dK [])) l2 (.lst [V.non, .int (-1), .bl true, .str "0", .ref t5, .int (10 ^ (60 : Int).toNat), .ref t7, .ref t8, .bl false]) = H3 at hl2 e3 e4 x5' sH ⊢
    have allnm : ∀ v ∈ [V.non, .int (-1), .bl true, .str "0", .ref t5, .int (10 ^ (60 : Int).toNat), .ref t7, .ref t8, .bl false], Nv isCountO H3 d tc v :=
      all_cons (nv_plain Vd.non (by decide) (cnt_not fun _ z => nomatch z)) (all_cons (nv_plain (I (-1) (by decide +kernel)) (by decide) (by rw [isCountO_eq]; decide +kernel)) (all_cons (nv_plain (Vd.bl true) (by decide) (cnt_not fun _ z => nomatch z)) (all_cons (nv_plain (Tz "0" ⟨by decide, by decide +kernel⟩) (by decide) (cnt_not fun _ z => nomatch z))
        (all_cons (nv_tup x5' (.inl rfl) (cnt_not fun _ z => nomatch z)) (all_cons (nv_plain (I (10 ^ (60 : Int).toNat) (by decide +kernel)) (by decide) (by rw [isCountO_eq]; decide +kernel)) (all_cons (nv_lst e3 n3d n3t (cnt_not fun _ z => nomatch z)) (all_cons (nv_dK e4 (cnt_not fun _ z => nomatch z)) (all_cons (nv_plain (Vd.bl false) (by decide) (cnt_not fun _ z => nomatch z)) all_nil))))))))
    have di3 := di2.same sH
    refine ⟨d, l2, n + 1, _, rfl, nl2d, .inl (SqL.of hl2), by simp, by show 9 ≤ 1000; decide, di3, by omega, fun nm o2 mn di4 => ?_⟩
    have k23 : Kp d H2 (upd H3 d o2) := (Kp.same sH).trans Kp.upd
    have nvN := (allnm nm mn).kn (sH _ _ hd2) (sH _ _ ht2) (KN.kp (d := d) (P := P2 d tc) (H1 := upd H3 d o2) Kp.upd (.inl rfl))
    have nvS4 := nvS.kn hd2 ht2 (KN.kp (P := P2 d tc) k23 (.inl rfl))
    have k4 := k2.trans k23
    clear allnm hl2 e3 e4 x5' di3 sH nvS
    generalize upd H3 d o2 = H4 at k4 k23 nvN nvS4 di4 ⊢
    obtain ⟨ds4, hd4⟩ := di4.there
    have ca4 : CntAt H4 C o tc n0 n1 n2 cs := (ca.same k4.hm).same Hm.same
    have tb4 := Tabs.kp tb hd0 k4
    have ht4 := ca4.li
    obtain ⟨⟨tS, shS, lS⟩, bS⟩ := nvS4
    obtain ⟨⟨tN, shN, lN⟩, bN⟩ := nvN
    obtain ⟨tyS, kdS⟩ := Sh.kd shS.sh
    obtain ⟨tyN, kdN⟩ := Sh.kd shN.sh
    -- the calls
    dsimp only [tNext, gName, tSeq, tAsg, tDrop]
    refine lams_oneT tb4 fun L H7 e7 nL lm => ?_
    have e7 : ExtN H4 H7 := e7
    refine lams_addT rfl lm (by decide) fun H8 c7 lm => ?_
    have e7 := ExtN.kn e7 nL c7
    clear c7
    refine lams_addT rfl lm (by decide) fun H9 c7 lm => ?_
    have e7 := ExtN.kn e7 nL c7
    clear c7
    dsimp only [tIfS, tTest, tOp]
    refine words_read (ds := [lz_c C CN, lz_g C CN, lz_t C CN]) (wd := ("number " : Str) ++ tS) rfl (show 7 < 8 by decide) lm (show 3 < 1000 by decide) (fun d m => m)
      (all_cons (fun G Q' sG qq => tw_zc (ca4.extN (ExtN.trans e7 (ExtN.same sG))) (kdS.extN (ExtN.trans e7 (ExtN.same sG))) bS (Sh.extN (ExtN.trans e7 (ExtN.same sG)) _ _ _ shS.sh) (by decide) (by omega) qq)
      (all_cons (fun G Q' sG qq => tw_zg (ca4.extN (ExtN.trans e7 (ExtN.same sG))) (kdS.extN (ExtN.trans e7 (ExtN.same sG))) bS (Sh.extN (ExtN.trans e7 (ExtN.same sG)) _ _ _ shS.sh) (by decide) (by omega) qq)
      (all_cons (fun G Q' sG qq => tw_zt (ca4.extN (ExtN.trans e7 (ExtN.same sG))) (kdS.extN (ExtN.trans e7 (ExtN.same sG))) bS (Sh.extN (ExtN.trans e7 (ExtN.same sG)) _ _ _ shS.sh) (by decide) (by omega) qq (kdN.extN (ExtN.trans e7 (ExtN.same sG)))) all_nil))) fun Dw H10 s10 hDw => ?_
    refine ⟨_, rfl, sz, 1, tS, rfl, Sh.extN (ExtN.trans e7 (ExtN.same s10)) _ _ _ shS.sh, by omega, by rw [sizeLine_eq]; omega, _, _, rfl, rfl, by rw [sizeLine_eq]; show 7 + tS.length ≤ _; omega, ?_⟩
    refine ⟨z (show 1 ≤ 64 by decide), fun r3' nr3 => ⟨r3', 3, _, rfl, rfl, upd_same, by decide, by decide, z (show 3 ≤ 64 by decide), fun r4' nr4 => ?_⟩⟩
    have s11 := (Same.new nr3 (o := .lst [V.str (("number " : Str) ++ tS)])).trans (Same.new nr4 (o := .lst (List.replicate (3 : Int).toNat [V.str (("number " : Str) ++ tS)]).flatten))
    refine ⟨Dw, r4', _, _, rfl, rfl, SqL.of (s11 _ _ hDw), SqL.of upd_same, .inr ⟨rfl, fun v m => ⟨"str", by rw [List.eq_of_mem_replicate m]; exact .str _⟩, ?_⟩⟩
    have e12 := ExtN.trans e7 (ExtN.same (s10.trans s11))
    have tb12 := lm.tabs.ext (s10.trans s11)
    clear lm e7 hDw
    generalize upd (upd H10 r3' (.lst [V.str (("number " : Str) ++ tS)])) r4' (.lst (List.replicate (3 : Int).toNat [V.str (("number " : Str) ++ tS)]).flatten) = H12 at s11 e12 tb12 ⊢
    refine ⟨_, rfl, if_false_of rfl ?_⟩
    -- a generator that doesn't begin
    refine ⟨tb12, fun g1 h1 G1' b1 => ⟨_, rfl, _, List.mem_singleton_self _, g1, h1, rfl, b1.at_, b1.code, ?_⟩⟩
    have e13 := ExtN.trans e12 b1.ext
    refine tw_zz (ca4.extN e13) (kdS.extN e13) bS fun H14 s14 => ⟨rfl, ⟨_, rfl, if_false_of neSelf ?_⟩⟩
    have e14 := ExtN.trans e13 (ExtN.same s14)
    have tb14 := b1.tabs.ext s14
    clear b1 e13 s14
    -- told
    refine ⟨tb14, fun g2 h2 G2 b2 => ⟨_, rfl, _, List.mem_singleton_self _, g2, h2, rfl, b2.at_, b2.code, ?_⟩⟩
    have e15 := ExtN.trans e14 b2.ext
    refine tw_zn (ca4.extN e15) (kdN.extN e15) bN (Sh.extN e15 _ _ _ shN.sh) (by decide) (by omega) fun H16 s16 => ?_
    have e16 := ExtN.trans e15 (ExtN.same s16)
    have tb16 := b2.tabs.ext s16
    clear b2 e15 s16 e14 tb14 e12 tb12
    have ca16 := ca4.extN e16
    have ht16 := ca16.li
    obtain ⟨dx, tn, ta, tl, tm, tr, ho, _⟩ := id ca16.ex
    -- far
    have three : szB (.int 3) = true := szB_nat (n := 3) (by decide)
    refine ⟨_, rfl, o, dx, _, rfl, ho, rfl, o, dx, _, .int 3, rfl, ho, rfl, .int 3, "int", rfl, .int 3, fun _ => ⟨rfl, o, tc, n0, n1, n2, cs, 3, rfl, ca16, by decide, fun cs2 c px ca17 hc => ?_⟩, fun b => ?_⟩
    case refine_2 =>
      rw [three] at b
      cases b
    have kt17 : Kp tc H16 (upd H16 tc (.lst (cs2.map V.int))) := Kp.upd
    have tb17 := Tabs.kp tb16 ht16 kt17
    have kn17 : KN (P2 d tc) H4 (upd H16 tc (.lst (cs2.map V.int))) := (KN.ext e16).trans (KN.kp kt17 (.inr rfl))
    have di17 : Dice (upd H16 tc (.lst (cs2.map V.int))) d (n + 2) := di4.kept fun u e => (upd_ne (Ne.symm ntd)).trans (e16 _ _ e fun ps y => by
      rw [hd4] at e
      cases e
      cases y)
    generalize upd H16 tc (.lst (cs2.map V.int)) = H17 at ca17 kt17 tb17 kn17 di17 ⊢
    clear ca16 ht16 tb16 ho
    have shN17 := (shN.kn hd4 ht4 kn17).sh
    have hlog : c.natAbs.log2 < 1920 := Nat.lt_of_lt_of_le (PySem.Flt.log2_lt_of (k := 100) (by decide) (Nat.lt_of_le_of_lt (ca17.bd 3 c hc) (by decide +kernel))) (by decide)
    have ltx : ((toString c : String) : Str).length ≤ 100000 := Nat.le_trans (PyProof.Rows.int_text_len_1921 hlog) (by decide)
    refine ⟨_, rfl, _, rfl, nm, 1, tN, rfl, shN17, by omega, by rw [sizeLine_eq]; omega, _, _, rfl, rfl, by rw [sizeLine_eq]; show 7 + tN.length ≤ _; omega, rfl, _, rfl, if_false_of neSelf ?_⟩
    refine ⟨tb17, fun g3 h3 G3 b3 => ⟨_, rfl, _, List.mem_singleton_self _, g3, h3, rfl, b3.at_, b3.code, ?_⟩⟩
    have ca18 := ca17.extN b3.ext
    refine tw_zf (n := 0) ca18 hc (fun H' => Sc.int c hlog) (by decide) (by omega) fun H19 cs3 k19 ca19 => ?_
    refine ⟨_, rfl, c, rfl, hlog, _, _, rfl, rfl, by rw [sizeLine_eq]; show 7 + ((toString c : String) : Str).length ≤ _; omega, rfl, _, rfl, if_false_of neSelf ?_⟩
    have tb19 := Tabs.kp b3.tabs ca18.li k19
    refine ⟨tb19, fun g4 h4 G4 b4 => ⟨_, rfl, _, List.mem_singleton_self _, g4, h4, rfl, b4.at_, b4.code, ?_⟩⟩
    have ca20 := ca19.extN b4.ext
    refine tw_zh ca20 fun H21 cs4 k21 ca21 => ⟨rfl, ?_⟩
    rw [decide_eq_true rfl]
    obtain ⟨ds17, hd17⟩ := di17.there
    have hd18 := b3.ext _ _ hd17 (fun _ z => nomatch z)
    have hd19 := k19 _ _ (Ne.symm ntd) hd18
    have hd20 := b4.ext _ _ hd19 (fun _ z => nomatch z)
    have hd21 := k21 _ _ (Ne.symm ntd) hd20
    have di21 : Dice H21 d (n + 2) := di17.kept fun u e => by
      rw [hd17] at e
      cases e
      exact hd21
    exact q H21 cs4 ((KN.kp (P := P2 d tc) k4 (.inl rfl)).trans (kn17.trans ((KN.ext b3.ext).trans ((KN.kp (P := P2 d tc) k19 (.inr rfl)).trans ((KN.ext b4.ext).trans (KN.kp (P := P2 d tc) k21 (.inr rfl))))))) (ca21.hm hd21 ntd) (Tabs.kp b4.tabs ca20.li k21) (di21.more (by omega) (by omega))
end
end Pr
namespace L2
open PySem PySem.Spec PyProof.Rows
/-! ### zip of three lists -/
/-- the lists at a, b, c as they stand at each turn, the items in new triples -/
def Itz3 (K : PySem.W.Frag) (a b c : Addr) : It :=
  ⟨fun i H => ∃ (xs ys zs : List V) (x y z : V), SqL K H a xs ∧ SqL K H b ys ∧ SqL K H c zs ∧ xs[i]? = some x ∧ ys[i]? = some y ∧ zs[i]? = some z,
    fun i H v H' => ∃ T x y z, v = .ref T ∧ H T = none ∧ H' = upd H T (.tup [x, y, z]) ∧ (∀ xs, SqL K H a xs → xs[i]? = some x) ∧ (∀ ys, SqL K H b ys → ys[i]? = some y) ∧ ∀ zs, SqL K H c zs → zs[i]? = some z,
    fun i H => ∃ xs ys zs : List V, SqL K H a xs ∧ SqL K H b ys ∧ SqL K H c zs ∧ i ≤ xs.length ∧ i ≤ ys.length ∧ i ≤ zs.length ∧ (i = xs.length ∨ i = ys.length ∨ i = zs.length)⟩
theorem turn_zip3 {P : Program} {w : World} {K : PySem.W.Frag} {elts : List Expr} {kk : Nat} {tpos : Pos} {a b c N : Addr} (ha : a < N) (hb : b < N) (hc : c < N) :
    Turn P w K (.Tuple elts kk tpos) (Itz3 K a b c) [N + 5, N + 3, N + 4, N, N + 1, N + 2] (N + 5) (fun i h => IsZip h (N + 5) (N + 3) (N + 4) .none ∧ IsTupOf3 h (N + 3) (.ref N) (.ref (N + 1)) (.ref (N + 2)) ∧ (∃ x y z, IsTupOf3 h (N + 4) x y z) ∧ h.IsListIter N a i ∧ h.IsListIter (N + 1) b i ∧ h.IsListIter (N + 2) c i) where
  mem := by simp
  obj := fun i h st d hd => by
    obtain ⟨hz, hTI, ⟨x, y, z, hTO⟩, ⟨o1, e1, _, d1⟩, ⟨o2, e2, _, d2⟩, ⟨o3, e3, _, d3⟩⟩ := st
    have e' : d = N + 5 ∨ d = N + 3 ∨ d = N + 4 ∨ d = N ∨ d = N + 1 ∨ d = N + 2 := by simpa using hd
    rcases e' with q | q | q | q | q | q
    · rw [q]; exact ⟨_, hz, fun v q => nomatch q⟩
    · rw [q]; exact ⟨_, hTI, fun v q => nomatch q⟩
    · rw [q]; exact ⟨_, hTO, fun v q => nomatch q⟩
    · rw [q]; exact ⟨o1, e1, fun v q => by rw [d1] at q; cases q⟩
    · rw [q]; exact ⟨o2, e2, fun v q => by rw [d2] at q; cases q⟩
    · rw [q]; exact ⟨o3, e3, fun v q => by rw [d3] at q; cases q⟩
  keep := fun i h h' st k => by
    obtain ⟨hz, hTI, ⟨x, y, z, hTO⟩, h1, h2, h3⟩ := st
    exact ⟨k _ (by simp) _ hz, k _ (by simp) _ hTI, ⟨x, y, z, k _ (by simp) _ hTO⟩, h1.at fun o q => k N (by simp) o q, h2.at fun o q => k (N + 1) (by simp) o q, h3.at fun o q => k (N + 2) (by simp) o q⟩
  item := by
    intro X hP hw hK hc' i pins s σ H E I hf st hg
    subst hP hw hK
    obtain ⟨hz, hTI, ⟨x0, y0, z0, hTO⟩, h1, h2, h3⟩ := st
    obtain ⟨xs, ys, zs, x, y, z, hqx, hqy, hqz, hx, hy, hzz⟩ := hg
    obtain ⟨its, rv, p, _⟩ := I.list hqx
    obtain ⟨its2, rv2, p2, _⟩ := I.list hqy
    obtain ⟨its3, rv3, p3, _⟩ := I.list hqz
    obtain ⟨u, hu, ru⟩ := rv.get hx
    obtain ⟨u2, hu2, ru2⟩ := rv2.get hy
    obtain ⟨u3, hu3, ru3⟩ := rv3.get hzz
    have hzl : N + 5 < s.heap.objs.size := Heap.lt_size hz
    have hd : X.A.in1.handled = none := I.ok.hd hc'
    have lt : ∀ {d : Nat}, d < N → ∀ e ∈ [d], e < N := fun h e m => by rw [List.mem_singleton.mp m]; exact h
    have S := zip_sep3 (N := N) (fp1 := [a]) (fp2 := [b]) (fp3 := [c]) (lt ha) (lt hb) (lt hc)
    have i1 : i < its.toArray.size := by have := (List.getElem?_eq_some_iff.mp hu).1; simpa using this
    have i2 : i < its2.toArray.size := by have := (List.getElem?_eq_some_iff.mp hu2).1; simpa using this
    have i3 : i < its3.toArray.size := by have := (List.getElem?_eq_some_iff.mp hu3).1; simpa using this
    refine wpAny_pyNext_zipD3_item S (Draws.list hd N a (Nat.ne_of_lt ha) its.toArray) (Draws.list hd (N + 1) b (Nat.ne_of_lt (Nat.lt_succ_of_lt hb)) its2.toArray) (Draws.list hd (N + 2) c (Nat.ne_of_lt (Nat.lt_succ_of_lt (Nat.lt_succ_of_lt hc))) its3.toArray)
      hz hTI hTO ⟨h1, p.isList⟩ ⟨h2, p2.isList⟩ ⟨h3, p3.isList⟩ i1 i2 i3 fun v1 v2 v3 h' tk q1 q2 q3 z' TO' st1 st2 st3 hT hsz hk => ?_
    have ev1 : v1 = u := by
      have q : its[i]? = some v1 := by simpa using q1
      rw [hu] at q
      exact (Option.some.inj q).symm
    have ev2 : v2 = u2 := by
      have q : its2[i]? = some v2 := by simpa using q2
      rw [hu2] at q
      exact (Option.some.inj q).symm
    have ev3 : v3 = u3 := by
      have q : its3[i]? = some v3 := by simpa using q3
      rw [hu3] at q
      exact (Option.some.inj q).symm
    subst ev1 ev2 ev3
    refine ⟨_, rfl, wpAny_letOwnedTupleGo_zip (s := { s with heap := h', toks := tk }) z' fun h'' z'' sb => ?_⟩
    have hT2 : h''.get? s.heap.objs.size = some { cls := .type "tuple", data := .seq #[v1, v2, v3] } := (sb.2 _ (Nat.ne_of_gt hzl)).trans hT
    have new : ObjOk X.prog X.w (upd H s.heap.objs.size (.tup [x, y, z])) h'' s.heap.objs.size (.tup [x, y, z]) :=
      ⟨by show 3 ≤ sizeLine; decide, [v1, v2, v3], .cons ru (.cons ru2 (.cons ru3 .nil)), ⟨_, hT2, rfl, _, rfl⟩⟩
    have I1 : Inv X pins σ (upd H s.heap.objs.size (.tup [x, y, z])) { s with heap := h'', toks := tk } :=
      I.turnedNew (t' := tk) (ch := [N + 5, N + 3, N + 4, N, N + 1, N + 2]) (fun d o hb q => (sb.2 d (fun q' => hb (by simp [q']))).trans (hk d o (fun q' => hb (by simp [q'])) (fun q' => hb (by simp [q'])) (fun q' => hb (by simp [q'])) (fun q' => hb (by simp [q'])) (fun q' => hb (by simp [q'])) q)) hf (Nat.le_refl _) new
    have ne : ∀ {j k : Nat}, j ≠ k → N + j ≠ N + k := fun h e => h (Nat.add_left_cancel e)
    have n3 : N + 3 ≠ N + 5 := ne (by decide)
    have n4 : N + 4 ≠ N + 5 := ne (by decide)
    have n0 : N ≠ N + 5 := ne (j := 0) (by decide)
    have n1 : N + 1 ≠ N + 5 := ne (by decide)
    have n2 : N + 2 ≠ N + 5 := ne (by decide)
    refine ⟨.ref s.heap.objs.size, _, I1, rfl, ⟨_, x, y, z, rfl, I.hok.fresh (Nat.le_refl _), rfl, fun l hl => by rw [I.list_inj hl hqx]; exact hx, fun l hl => by rw [I.list_inj hl hqy]; exact hy, fun l hl => by rw [I.list_inj hl hqz]; exact hzz⟩, ⟨z'', ?_, ⟨v1, v2, v3, ?_⟩, ?_, ?_, ?_⟩, fun d hdm => ?_⟩
    · exact (sb.2 _ n3).trans (hk _ _ n3 (ne (by decide)) (ne (k := 0) (by decide)) (ne (by decide)) (ne (by decide)) hTI)
    · exact (sb.2 _ n4).trans TO'
    · exact st1.1.at fun o q => (sb.2 _ n0).trans q
    · exact st2.1.at fun o q => (sb.2 _ n1).trans q
    · exact st3.1.at fun o q => (sb.2 _ n2).trans q
    · have hlt : d < s.heap.objs.size := by
        have e' : d = N + 5 ∨ d = N + 3 ∨ d = N + 4 ∨ d = N ∨ d = N + 1 ∨ d = N + 2 := by simpa using hdm
        have le : ∀ {j : Nat}, j ≤ 5 → N + j < s.heap.objs.size := fun h => Nat.lt_of_le_of_lt (Nat.add_le_add_left h N) hzl
        rcases e' with q | q | q | q | q | q <;> rw [q]
        · exact le (by decide)
        · exact le (by decide)
        · exact le (by decide)
        · exact le (j := 0) (by decide)
        · exact le (by decide)
        · exact le (by decide)
      rw [upd_ne (Nat.ne_of_lt hlt)]
      exact (hf d hdm).1
  done := by
    intro X hP hw hK hc' i pins s σ H E I hf st hg
    subst hP hw hK
    obtain ⟨hz, hTI, ⟨x0, y0, z0, hTO⟩, h1, h2, h3⟩ := st
    obtain ⟨xs, ys, zs, hqx, hqy, hqz, l1, l2, l3, hend⟩ := hg
    obtain ⟨its, rv, p, _⟩ := I.list hqx
    obtain ⟨its2, rv2, p2, _⟩ := I.list hqy
    obtain ⟨its3, rv3, p3, _⟩ := I.list hqz
    have m1 := rv.length
    have m2 := rv2.length
    have m3 := rv3.length
    have hd : X.A.in1.handled = none := I.ok.hd hc'
    have lt : ∀ {d : Nat}, d < N → ∀ e ∈ [d], e < N := fun h e m => by rw [List.mem_singleton.mp m]; exact h
    have S := zip_sep3 (N := N) (fp1 := [a]) (fp2 := [b]) (fp3 := [c]) (lt ha) (lt hb) (lt hc)
    exact wpAny_pyNext_zipD3_end S (Draws.list hd N a (Nat.ne_of_lt ha) its.toArray) (Draws.list hd (N + 1) b (Nat.ne_of_lt (Nat.lt_succ_of_lt hb)) its2.toArray) (Draws.list hd (N + 2) c (Nat.ne_of_lt (Nat.lt_succ_of_lt (Nat.lt_succ_of_lt hc))) its3.toArray)
      hz hTI hTO ⟨h1, p.isList⟩ ⟨h2, p2.isList⟩ ⟨h3, p3.isList⟩ (by simp; omega) (by simp; omega) (by simp; omega) (by simp; omega) fun h' tk hk => ⟨rfl, I.turnedL (t' := tk) (ch := [N + 5, N + 3, N + 4, N, N + 1, N + 2]) (fun d o hb q =>
        hk d o (fun q' => hb (by simp [q'])) (fun q' => hb (by simp [q'])) (fun q' => hb (by simp [q'])) (fun q' => hb (by simp [q'])) (fun q' => hb (by simp [q'])) q) hf⟩
  self := fun A i s Q E st h => wpAny_pyIter_zip st.1 h
def iZip3 (K : PySem.W.Frag) (ta : TA) : TI := fun σ H R => ta σ H fun vs H1 => ∃ a b c xs ys zs, vs = [.ref a, .ref b, .ref c] ∧ SqL K H1 a xs ∧ SqL K H1 b ys ∧ SqL K H1 c zs ∧ R (Itz3 K a b c) H1
theorem pi_zip3 {X : Cx} {e e2 e3 : Expr} {ta : TA} {p pos tpos : Pos} {elts : List Expr} {kk : Nat} (hg : Gl X "zip") (hm : X.mg "zip" = none) (ha : PA X [e, e2, e3] ta)
    (hs : starEach [e, e2, e3] X.env = (false, eval e X.env) :: starEach [e2, e3] X.env := by rfl) (hpl : (backTo pos (starEach [e2, e3] X.env)).any (·.1) = false := by rfl) :
    PI X (.Tuple elts kk tpos) (.Call (.Name "zip" p) [e, e2, e3] [] pos) (iZip3 X.K ta) := by
  refine ⟨fun pins s σ H R I h => ?_⟩
  refine Call_ (ld_blt I hg hm PyProof.Rows.boot_zip (PyProof.Rows.callWith_type1 (thn (ha.run pos pins s σ H _ I h) fun us s1 ⟨vs, H1, I1, r1, q1⟩ => ?_) hs hpl))
  obtain ⟨a, b, c, xs, ys, zs, ex, hqx, hqy, hqz, q⟩ := q1
  subst ex
  cases r1 with
  | cons r rr =>
    cases rr with
    | cons r' rr =>
      cases rr with
      | cons r'' rr =>
        cases rr
        cases r
        cases r'
        cases r''
        obtain ⟨its, rv, p1, _⟩ := I1.list hqx
        obtain ⟨its2, rv2, p2, _⟩ := I1.list hqy
        obtain ⟨its3, rv3, p3, _⟩ := I1.list hqz
        refine zip_begins3 (begins_list a its.toArray) (begins_list b its2.toArray) (begins_list c its3.toArray) p1.isList p2.isList p3.isList fun h' hz hTI hTO g1 g2 g3 hsz hk => wpAny_pyIter_zip hz ?_
        have I2 : Inv X pins σ H1 { s1 with heap := h' } := I1.kept (t' := s1.toks) hk
        refine ⟨s1.heap.objs.size + 5, [s1.heap.objs.size + 5, s1.heap.objs.size + 3, s1.heap.objs.size + 4, s1.heap.objs.size, s1.heap.objs.size + 1, s1.heap.objs.size + 2], _, _, H1, rfl, I2, turn_zip3 p1.lt p2.lt p3.lt, ⟨hz, hTI, ⟨_, _, _, hTO⟩, ⟨_, g1, rfl, rfl⟩, ⟨_, g2, rfl, rfl⟩, ⟨_, g3, rfl, rfl⟩⟩, fun d hdm => ?_, q⟩
        have e' : d = s1.heap.objs.size + 5 ∨ d = s1.heap.objs.size + 3 ∨ d = s1.heap.objs.size + 4 ∨ d = s1.heap.objs.size ∨ d = s1.heap.objs.size + 1 ∨ d = s1.heap.objs.size + 2 := by simpa using hdm
        have hle : s1.heap.objs.size ≤ d := by
          rcases e' with z | z | z | z | z | z <;> rw [z] <;> first | exact Nat.le_add_right _ _ | exact Nat.le_refl _
        exact I1.fpOk hle (I1.hok.fresh hle)
end L2
namespace L2
open PySem PySem.Spec PyProof.Rows
/-- a new triple of the i-th of xs, of ys and of zs -/
def YTri (xs ys zs : List V) : Nat → Hp → V → Hp → Prop := fun i H v H' => ∃ T x y z, v = .ref T ∧ H T = none ∧ H' = upd H T (.tup [x, y, z]) ∧ xs[i]? = some x ∧ ys[i]? = some y ∧ zs[i]? = some z
theorem walk_zip3 {K : PySem.W.Frag} {a b c : Addr} {xs ys zs : List V} {n : Nat} (h1 : n ≤ xs.length) (h2 : n ≤ ys.length) (h3 : n ≤ zs.length) (h : n = xs.length ∨ n = ys.length ∨ n = zs.length) :
    Walk (Itz3 K a b c) n (fun H => SqL K H a xs ∧ SqL K H b ys ∧ SqL K H c zs) (YTri xs ys zs) := by
  refine ⟨fun i H hi q => ?_, fun _ q => ⟨xs, ys, zs, q.1, q.2.1, q.2.2, h1, h2, h3, h⟩, fun i H v H' _ q y => ?_⟩
  · exact ⟨xs, ys, zs, xs[i], ys[i], zs[i], q.1, q.2.1, q.2.2, List.getElem?_eq_getElem _, List.getElem?_eq_getElem _, List.getElem?_eq_getElem _⟩
  · obtain ⟨T, x, y, z, e1, e2, e3, a1, a2, a3⟩ := y
    exact ⟨T, x, y, z, e1, e2, e3, a1 xs q.1, a2 ys q.2.1, a3 zs q.2.2⟩
end L2
namespace Pr
open PySem PySem.Spec PyProof.Rows L2 Gd
/-! ### the rows of counted forests -/
/-- a row: at least three numbers -/
def RowOk (xs : List V) : Prop := 3 ≤ xs.length ∧ xs.length ≤ 300 ∧ ∀ v ∈ xs, ∃ i : Int, v = .int i
/-- n rows at r -/
structure RowsAt (H : Hp) (r : Addr) (n : Nat) : Prop where
  ex : ∃ fs : List Addr, H r = some (.lst (fs.map V.ref)) ∧ fs.length = n ∧ ∀ f ∈ fs, f ≠ r ∧ ∃ xs, H f = some (.lst xs) ∧ RowOk xs
theorem RowsAt.same {H H' : Hp} {r : Addr} {n : Nat} (h : RowsAt H r n) (s : Same H H') : RowsAt H' r n :=
  let ⟨fs, a, b, c⟩ := h.ex
  ⟨fs, s _ _ a, b, fun f m => let ⟨n, xs, e, k⟩ := c f m; ⟨n, xs, s _ _ e, k⟩⟩
/-- operators with the numbers of their names by arity -/
def ManyAt (H : Hp) (C o : Addr) (n0 n1 n2 : Nat) (tr : Addr) : Prop := ∃ (dx tn ta tl tm tc : Addr), H o = some (.ins C dx [("_names", .ref tn), ("_arities", .ref ta), ("_lines", .ref tl), ("_many", .ref tm), ("_counts", .ref tc), ("_rows", .ref tr)]) ∧ H tm = some (.tup [.int (n0 : Int), .int (n1 : Int), .int (n2 : Int)])
theorem ManyAt.same {H H' : Hp} {C o tr : Addr} {n0 n1 n2 : Nat} (h : ManyAt H C o n0 n1 n2 tr) (s : Same H H') : ManyAt H' C o n0 n1 n2 tr := let ⟨dx, tn, ta, tl, tm, tc, a, b⟩ := h; ⟨dx, tn, ta, tl, tm, tc, s _ _ a, s _ _ b⟩
def spRows (C : Addr) : Sp := fun vs H Q _ => ∃ (o : Addr) (n0 n1 n2 n : Nat) (tr : Addr), vs = [.ref o, .int (n : Int)] ∧ ManyAt H C o n0 n1 n2 tr ∧ n0 ≤ 8 ∧ n1 ≤ 8 ∧ n2 ≤ 8 ∧ n ≤ 200 ∧ ∀ r H', Same H H' → RowsAt H' r (n + 1) → Q (.ref r) H'
theorem cutI_to {xs : List V} {p : Nat} : cutV xs none (some (p : Int)) = xs.take p := by
  have i1 : HT.sIx xs.length 0 none = 0 := rfl
  have i2 : HT.sIx xs.length xs.length (some (p : Int)) = min p xs.length := by rw [HT.sIx_nat]
  unfold cutV
  rw [i1, i2, List.drop_zero, Nat.sub_zero]
  by_cases h : p ≤ xs.length
  · rw [Nat.min_eq_left h]
  · rw [Nat.min_eq_right (by omega), List.take_length, List.take_of_length_le (by omega)]
theorem cutI_from {xs : List V} {p : Nat} : cutV xs (some (p : Int)) none = xs.drop p := by
  have i1 : HT.sIx xs.length 0 (some (p : Int)) = min p xs.length := by rw [HT.sIx_nat]
  have i2 : HT.sIx xs.length xs.length none = xs.length := rfl
  unfold cutV
  rw [i1, i2]
  by_cases h : p ≤ xs.length
  · rw [Nat.min_eq_left h, List.take_of_length_le (by rw [List.length_drop]; omega)]
  · rw [Nat.min_eq_right (by omega), List.drop_of_length_le (Nat.le_refl _), List.drop_of_length_le (by omega), List.take_nil]
section
variable {P : Program} {w : World} {K : PySem.W.Frag} {mg : Str → Option Value} {base : Heap} {C : Addr}
def NRo : List Str := ["self", "size", "none", "one", "two", "rows", "places", "below", "most", "lows", "same", "row", "low", "mid", "high"]
theorem scRows : FnScope NRo ["self", "size"] (defScope mRows) := ⟨rfl, rfl, rfl, by decide +kernel, rfl, by decide +kernel, by decide +kernel⟩
theorem ok_rows {f : Addr} {fd : FuncData} (F : Fun K "_counted_rows" "Operators._counted_rows" mRows f fd) (cf : OpF K C) (T : Free mg) : FnOk P w K mg base CX0 1 f fd ["self", "size"] (spRows C) := by
  refine F.ok scRows (fun vs H Q E h => ?_) (fun cdv A outer s H vs Q E hr h => ?_)
  · obtain ⟨o, n0, n1, n2, n, tr, rfl, _⟩ := h
    rfl
  · obtain ⟨o, n0, n1, n2, n, tr, rfl, ma, l0, l1, l2, ln, q⟩ := h
    refine ⟨_, pss_cons (ps_asg (pe_fld (pv 0) rfl) (pg_tup rfl (pgs_cons (pg_name (i := 2) scRows.nd rfl (.inr rfl)) (pgs_cons (pg_name (i := 3) scRows.nd rfl (.inr rfl)) (pgs_cons (pg_name (i := 4) scRows.nd rfl (.inr rfl)) pgs_nil)))))
      (pss_cons (ps_set (i := 5) scRows.nd rfl (.inl rfl) (pe_lst (pa_cons (pe_lst (pa_cons pe_int (pa_cons pe_int (pa_cons pe_int pa_nil)))) pa_nil)))
      (pss_cons (ps_for PassesOwn.never rfl (pi_range2 (by rfl) T.range (pa_cons pe_int (pa_cons (pe_op op_add (pv 1) pe_int) pa_nil))) (pg_name (i := 6) scRows.nd rfl (.inl rfl))
        (pss_cons (ps_set (i := 7) scRows.nd rfl (.inl rfl) (pe_ix ix_list (pv 5) (pe_un un_neg pe_int) (fun _ _ => rfl)))
        (pss_cons (ps_set (i := 8) scRows.nd rfl (.inl rfl) (pe_callB (call_min2 rfl) (by rfl) T.min (by decide +kernel) (pa_cons (pv 6) (pa_cons (pe_op op_add (pe_op op_sub (pv 1) (pv 6)) pe_int) pa_nil))))
        (pss_cons (ps_par (i := 9) (j := 10) (by rfl) scRows.nd rfl rfl (by decide) rfl rfl (pa_cons (pe_slice sl_list (pv 7) po_none (po_some (pv 8))) (pa_cons (pe_slice sl_list (pv 7) (po_some pe_int) po_none) pa_nil)) (by rfl))
        (pss_cons (ps_setLc (i := 11) (own := [("low", 12), ("mid", 13), ("high", 14)]) (g := gTup K 3 (gCons (gName 12) (gCons (gName 13) (gCons (gName 14) gNil)))) (by rfl) scRows.nd rfl rfl (sw_true rfl rfl rfl (by decide +kernel)) (pi_zip3 (by rfl) T.zip (pa_cons (pv 9) (pa_cons (pv 10) (pa_cons (pe_slice sl_list (pv 7) (po_some pe_int) po_none) pa_nil))))
            (blkOk_by (own := [("low", 12), ("mid", 13), ("high", 14)]) (N := NRo) (sc := defScope mRows) (by decide +kernel)) (fun _ _ _ _ _ => pg_tup rfl (pgs_cons (pg_name (i := 12) scRows.nd rfl (.inl rfl)) (pgs_cons (pg_name (i := 13) scRows.nd rfl (.inl rfl)) (pgs_cons (pg_name (i := 14) scRows.nd rfl (.inl rfl)) pgs_nil)))) (fun _ _ _ _ _ => pts_nil)
            (fun _ _ _ _ _ => pe_op op_add (pe_op op_add (pe_op op_mul (pv 2) (pv 12)) (pe_op op_mul (pv 3) (pv 13))) (pe_op op_mul (pv 4) (pv 14))))
        (pss_one (ps_expr (pe_bm PySem.F.plainAttrs_list PySem.F.slot_list_append PySem.F.type_list_append mt_append (pv 5) (pa_cons (pe_lst (pa_cons pe_int (StX.pa_star (pv 11) (pa_cons pe_int (pa_cons pe_int pa_nil))))) pa_nil)))))))))
      (pss_one (ps_ret (pv 5))))), ?_⟩
    obtain ⟨dx, tn, ta, tl, tm, tc, ho, hm⟩ := id ma
    refine ⟨_, rfl, o, C, dx, _, _, rfl, ho, cf.cls, cf.n4, rfl, tm, _, rfl, SqT.of hm, rfl, _, _, rfl, _, _, rfl, _, _, rfl, rfl, ?_⟩
    refine ⟨by show 3 ≤ sizeLine; decide, fun p1 np1 => ⟨by show 1 ≤ sizeLine; decide, fun R nR => ?_⟩⟩
    have s1 := (Same.new np1 (o := .lst [V.int 1, .int 0, .int 0])).trans (Same.new nR (o := .lst [V.ref p1]))
    have nR0 : H R = none := (Same.new np1 (o := .lst [V.int 1, .int 0, .int 0])).free nR
    have p1R : p1 ≠ R := ne_of_none upd_same nR
    refine ⟨_, rfl, _, _, rfl, rfl, _, _, rfl, ⟨by decide, by decide, by omega, by omega⟩, ?_⟩
    have en : ((n : Int) + 1 - 1).toNat = n := by omega
    rw [en]
    refine for_range (fun i σ G => ∃ v6 v7 v8 v9 v10 v11 v12 v13 v14 : Option V, σ = [some (.ref o), some (.int (n : Int)), some (.int (n0 : Int)), some (.int (n1 : Int)), some (.int (n2 : Int)), some (.ref R), v6, v7, v8, v9, v10, v11, v12, v13, v14] ∧ Same H G ∧ RowsAt G R (i + 1))
      ⟨none, none, none, none, none, none, none, none, none, rfl, s1, ⟨[p1], upd_same, rfl, fun f m => ?_⟩⟩ ?_ ?_
    · rw [List.mem_singleton.mp m]
      exact ⟨p1R, _, by rw [upd_ne p1R]; exact upd_same, by decide, by decide, fun v mv => by
        rcases List.mem_cons.mp mv with z | z
        · exact ⟨_, z⟩
        · rcases List.mem_cons.mp z with z | z
          · exact ⟨_, z⟩
          · exact ⟨_, List.mem_singleton.mp z⟩⟩
    · rintro i σ G hi ⟨v6, v7, v8, v9, v10, v11, v12, v13, v14, rfl, sm, ra⟩
      obtain ⟨fs, hR, lf, each⟩ := ra.ex
      obtain ⟨fs0, f, rfl⟩ : ∃ fs0 f, fs = fs0 ++ [f] := by
        rcases List.eq_nil_or_concat fs with e | ⟨a, b, e⟩
        · rw [e] at lf
          cases lf
        · exact ⟨a, b, by rw [e, List.concat_eq_append]⟩
      rw [List.map_append] at hR
      obtain ⟨fR, xs, hf, x3, x300, xi⟩ := each f (List.mem_append_right _ (List.mem_singleton_self _))
      refine ⟨_, rfl, _, rfl, R, _, _, _, rfl, rfl, SqL.of hR, atI_last, ?_⟩
      refine ⟨_, rfl, _, rfl, _, rfl, _, _, rfl, rfl, _, _, rfl, rfl, _, _, rfl, ?_⟩
      obtain ⟨m, em, m1, m2⟩ : ∃ m : Nat, (if (n : Int) - (1 + (i : Int)) + 1 < 1 + (i : Int) then (n : Int) - (1 + (i : Int)) + 1 else 1 + (i : Int)) = (m : Int) ∧ 1 ≤ m ∧ m ≤ 200 := by
        by_cases c : (n : Int) - (1 + (i : Int)) + 1 < 1 + (i : Int)
        · rw [if_pos c]
          exact ⟨n - i, by omega, by omega, by omega⟩
        · rw [if_neg c]
          exact ⟨1 + i, by omega, by omega, by omega⟩
      rw [em]
      -- lows, same
      refine ⟨_, rfl, _, rfl, _, rfl, f, xs, rfl, SqL.of hf, fun t1 nt1 => ?_⟩
      rw [cutI_to]
      have g1 := Same.new nt1 (o := .lst (xs.take m))
      refine ⟨_, rfl, _, rfl, noPart ⟨f, xs, rfl, SqL.of (g1 _ _ hf), fun t2 nt2 => ?_⟩⟩
      have c1 : cutV xs (some (1 : Int)) none = xs.drop 1 := cutI_from (p := 1)
      rw [c1]
      have g2 := g1.trans (Same.new nt2 (o := .lst (xs.drop 1)))
      have ht1 : (upd (upd G t1 (.lst (xs.take m))) t2 (.lst (xs.drop 1))) t1 = some (.lst (xs.take m)) := (Same.new nt2) _ _ upd_same
      have ht2 : (upd (upd G t1 (.lst (xs.take m))) t2 (.lst (xs.drop 1))) t2 = some (.lst (xs.drop 1)) := upd_same
      generalize upd (upd G t1 (.lst (xs.take m))) t2 (.lst (xs.drop 1)) = G2 at g2 ht1 ht2 ⊢
      refine ⟨_, _, rfl, ?_⟩
      -- the row
      refine ⟨_, rfl, _, rfl, _, rfl, _, rfl, noPart ⟨f, xs, rfl, SqL.of (g2 _ _ hf), fun t3 nt3 => ?_⟩⟩
      have c2 : cutV xs (some (2 : Int)) none = xs.drop 2 := cutI_from (p := 2)
      rw [c2]
      have g3 := g2.trans (Same.new nt3 (o := .lst (xs.drop 2)))
      have kt1 := (Same.new nt3 (o := .lst (xs.drop 2))) _ _ ht1
      have kt2 := (Same.new nt3 (o := .lst (xs.drop 2))) _ _ ht2
      have kt3 : (upd G2 t3 (.lst (xs.drop 2))) t3 = some (.lst (xs.drop 2)) := upd_same
      generalize upd G2 t3 (.lst (xs.drop 2)) = G3 at g3 kt1 kt2 kt3 ⊢
      clear ht1 ht2 g2 nt3 g1 nt1 nt2
      refine ⟨t1, t2, t3, _, _, _, rfl, SqL.of kt1, SqL.of kt2, SqL.of kt3, fun D nD => ?_⟩
      have lt : (xs.take m).length = min m xs.length := List.length_take
      have ld1 : (xs.drop 1).length = xs.length - 1 := List.length_drop
      have ld2 : (xs.drop 2).length = xs.length - 2 := List.length_drop
      refine lc_it (walk_zip3 (K := K) (a := t1) (b := t2) (c := t3) (xs := xs.take m) (ys := xs.drop 1) (zs := xs.drop 2) (n := min m (xs.length - 2)) (by omega) (by omega) (by omega) (by omega))
        (fun k G' => Same G3 G' ∧ ∃ acc, G' D = some (.lst acc) ∧ acc.length = k ∧ ∀ v ∈ acc, ∃ i : Int, v = .int i)
        ⟨Same.new nD, [], upd_same, rfl, fun v z => nomatch z⟩ (fun k G' _ ⟨s', _⟩ => ⟨SqL.of (s' _ _ kt1), SqL.of (s' _ _ kt2), SqL.of (s' _ _ kt3)⟩) ?_ ?_
      · rintro k x G' H' hk ⟨s', acc, hD, la, ai⟩ ⟨U, y1, y2, y3, rfl, nU, rfl, z1, z2, z3⟩
        obtain ⟨i1, rfl⟩ := xi _ (List.mem_of_mem_take (List.mem_of_getElem? z1))
        obtain ⟨i2, rfl⟩ := xi _ (List.mem_of_mem_drop (List.mem_of_getElem? z2))
        obtain ⟨i3, rfl⟩ := xi _ (List.mem_of_mem_drop (List.mem_of_getElem? z3))
        refine ⟨U, _, rfl, SqT.of upd_same, rfl, _, _, rfl, _, _, rfl, _, _, rfl, rfl, rfl, ?_⟩
        refine ⟨_, rfl, _, rfl, _, _, rfl, rfl, .inl ⟨by omega, by omega⟩, _, rfl, _, rfl, _, _, rfl, rfl, .inl ⟨by omega, by omega⟩, _, _, rfl, rfl, _, rfl, _, rfl, _, _, rfl, rfl, .inl ⟨by omega, by omega⟩, _, _, rfl, rfl, acc, (Same.new nU) _ _ hD, by rw [la, sizeLine_eq]; omega, fun b u e => ?_, _, upd_same, by rw [List.length_append, la]; rfl, fun v mv => ?_⟩
        · rw [upd_ne (ne_of_none e nD)]
          exact (Same.new nU) _ _ (s' _ _ e)
        · rcases List.mem_append.mp mv with z | z
          · exact ai v z
          · exact ⟨_, List.mem_singleton.mp z⟩
      · rintro G' ⟨s', acc, hD, la, ai⟩
        refine ⟨_, rfl, .inl ⟨rfl, _, SqL.of (s' _ _ (g3 _ _ hR))⟩, _, rfl, D, acc, rfl, .inr (SqL.of hD), ?_⟩
        have e : (V.int 0) :: (acc ++ [V.int 0, V.int 0]) = V.int 0 :: acc ++ [V.int 0, V.int 0] := rfl
        refine ⟨by simp only [List.length_cons, List.length_append, List.length_nil]; rw [la, sizeLine_eq]; omega, fun p np => ?_⟩
        have gs := (g3.trans s').trans (Same.new np (o := .lst (V.int 0 :: (acc ++ [V.int 0, V.int 0]))))
        have hR2 := gs _ _ hR
        have Rp : R ≠ p := ne_of_none ((g3.trans s') _ _ hR) np
        refine ⟨R, _, .ref p, rfl, rfl, hR2, by rw [← List.map_append, List.length_map, lf, sizeLine_eq]; omega, _, _, _, _, _, _, _, _, _, rfl, fun b u e => ?_, ⟨(fs0 ++ [f]) ++ [p], ?_, by rw [List.length_append, lf]; rfl, fun f' mf => ?_⟩⟩
        · rw [upd_ne (ne_of_none e nR0)]
          exact gs _ _ (sm b u e)
        · rw [upd_same, List.map_append, List.map_append]
          rfl
        · rcases List.mem_append.mp mf with z | z
          · obtain ⟨nf, ys, hy, oky⟩ := each f' z
            exact ⟨nf, ys, by rw [upd_ne nf]; exact gs _ _ hy, oky⟩
          · rw [List.mem_singleton.mp z]
            refine ⟨Rp.symm, _, by rw [upd_ne Rp.symm]; exact upd_same, ?_, ?_, fun v mv => ?_⟩
            · simp only [List.length_cons, List.length_append, List.length_nil]
              omega
            · simp only [List.length_cons, List.length_append, List.length_nil]
              omega
            · rcases List.mem_cons.mp mv with z | z
              · exact ⟨_, z⟩
              · rcases List.mem_append.mp z with z | z
                · exact ai v z
                · rcases List.mem_cons.mp z with z | z
                  · exact ⟨_, z⟩
                  · exact ⟨_, List.mem_singleton.mp z⟩
    · rintro σ G ⟨v6, v7, v8, v9, v10, v11, v12, v13, v14, rfl, sm, ra⟩
      exact ⟨_, rfl, q R G sm ra⟩
end
end Pr
namespace Pr
open PySem PySem.Spec PyProof.Rows L2 Gd
/-! ### _forests, number_of -/
abbrev insR (C dx tn ta tl tm tc tr : Addr) : HO := .ins C dx [("_names", .ref tn), ("_arities", .ref ta), ("_lines", .ref tl), ("_many", .ref tm), ("_counts", .ref tc), ("_rows", .ref tr)]
def spFor (C : Addr) : Sp := fun vs H Q _ => ∃ (o dx tn ta tl tm tc tr : Addr) (n0 n1 n2 n : Nat), vs = [.ref o, .int (n : Int)] ∧ H o = some (insR C dx tn ta tl tm tc tr) ∧ H tm = some (.tup [.int (n0 : Int), .int (n1 : Int), .int (n2 : Int)]) ∧ H tr = some (.lst []) ∧ n0 ≤ 8 ∧ n1 ≤ 8 ∧ n2 ≤ 8 ∧ n ≤ 200 ∧
  ∀ r H', Kp o H H' → H' o = some (insR C dx tn ta tl tm tc r) → RowsAt H' r (n + 1) → Q (.ref r) H'
theorem first_at {z : Str} : ∀ {ys : List Str}, z ∈ ys → ∃ j : Nat, ys[j]? = some z ∧ ∀ m, m < j → ys[m]? ≠ some z
  | [], h => nomatch h
  | y :: ys, h => by
    by_cases e : y = z
    · exact ⟨0, by rw [e]; rfl, fun m hm => absurd hm (Nat.not_lt_zero _)⟩
    · have h2 : z ∈ ys := (List.mem_cons.mp h).resolve_left fun q => e q.symm
      obtain ⟨j, hj, hm⟩ := first_at h2
      refine ⟨j + 1, hj, fun m lm => ?_⟩
      cases m with
      | zero => exact fun q => e (Option.some.inj q)
      | succ m => exact hm m (by omega)
def spNum (C CT : Addr) : Sp := fun vs H Q E => ∃ (o t : Addr) (l : List (Str × Nat)) (zs : List Str), vs = [.ref o, .ref t] ∧ TreeAt H C o t l zs ∧
  ((200 < zs.length ∧ ∀ H', Same H H' → E (.ref CT) none H') ∨
   (∃ (dx tn ta tl tm tc tr : Addr) (n0 n1 n2 k : Nat) (u v : Str), zs = List.replicate k u ++ [v] ∧ (u, 1) ∈ l ∧ (v, 0) ∈ l ∧ k + 1 ≤ 200 ∧ H o = some (insR C dx tn ta tl tm tc tr) ∧ Tx.TX H tn (l.map fun p => V.str p.1) ∧ H ta = some (.dK (dkv l)) ∧ H tm = some (.tup [.int (n0 : Int), .int (n1 : Int), .int (n2 : Int)]) ∧ H tr = some (.lst []) ∧ n0 ≤ 8 ∧ n1 ≤ 8 ∧ n2 ≤ 8 ∧
    ∀ c H', Kp o H H' → OpsAt H' C o l → Q (.int c) H'))
section
variable {P : Program} {w : World} {K : PySem.W.Frag} {mg : Str → Option Value} {base : Heap} {C CT fW fT fC fP fE fI fN : Addr} {dW dT dC dP dE dI dN : FuncData} {tk tk2 tk3 : Tok} {fR fF : Addr} {dR dF : FuncData}
theorem scFor : FnScope ["self", "size"] ["self", "size"] (defScope mForests) := ⟨rfl, rfl, rfl, by decide +kernel, rfl, by decide +kernel, by decide +kernel⟩
theorem ok_for {f : Addr} {fd : FuncData} (F : Fun K "_forests" "Operators._forests" mForests f fd) (cf : OpF K C) (XR : MtF K C "_counted_rows" "Operators._counted_rows" mRows fR dR ["self", "size"]) (gS : mg "MAX_SIZE" = some (.int 200 tk)) (T : Free mg) : FnOk P w K mg base CX0 2 f fd ["self", "size"] (spFor C) := by
  have GR : FnOk P w K mg base CX0 1 fR dR ["self", "size"] (spRows C) := ok_rows XR.F cf T
  refine F.ok scFor (fun vs H Q E h => ?_) (fun cdv A outer s H vs Q E hr h => ?_)
  · obtain ⟨o, dx, tn, ta, tl, tm, tc, tr, n0, n1, n2, n, rfl, _⟩ := h
    rfl
  · obtain ⟨o, dx, tn, ta, tl, tm, tc, tr, n0, n1, n2, n, rfl, ho, hm, ht, l0, l1, l2, ln, q⟩ := h
    refine ⟨_, pss_cons (ps_if (pt_cmpR op_le (pe_callB call_len_seq (by rfl) T.len PySem.boot_len (pa_cons (pe_fld (pv 0) rfl) pa_nil)) (pv 1) (nomark _))
        (pss_one (ps_fld (pv 0) (pe_meth (pv 0) cf.cls XR.m GR hr XR.b .nil pass0 (pa_cons (pe_callB (call_max2 rfl) (by rfl) T.max (by decide +kernel) (pa_cons (pv 1) (pa_cons (pe_callB (call_min2 rfl) (by rfl) T.min (by decide +kernel) (pa_cons (pe_glob (v := .int 200) (by rfl) gS ⟨_, rfl⟩) (pa_cons (pe_op op_sub (pe_op op_mul pe_int (pe_callB call_len_seq (by rfl) T.len PySem.boot_len (pa_cons (pe_fld (pv 0) rfl) pa_nil))) pe_int) pa_nil))) pa_nil))) pa_nil)) rfl)) pss_nil)
      (pss_one (ps_ret (pe_fld (pv 0) rfl))), ?_⟩
    refine ⟨_, rfl, o, C, dx, _, _, rfl, ho, cf.cls, cf.n6, rfl, tr, _, rfl, .inl (SqL.of ht), _, rfl, _, _, rfl, rfl, _, rfl, ?_⟩
    have z0 : ((([] : List V).length : Nat) : Int) = 0 := rfl
    refine if_true_of (decide_eq_true (by rw [z0]; omega)) ?_
    have em : (if (if 2 * ((([] : List V).length : Nat) : Int) - 2 < 200 then 2 * ((([] : List V).length : Nat) : Int) - 2 else 200) > (n : Int) then (if 2 * ((([] : List V).length : Nat) : Int) - 2 < 200 then 2 * ((([] : List V).length : Nat) : Int) - 2 else 200) else (n : Int)) = (n : Int) := by
      rw [if_pos (show (2 * ((([] : List V).length : Nat) : Int) - 2 < 200) by decide)]
      exact if_neg (by rw [z0]; omega)
    refine ⟨_, rfl, o, dx, _, rfl, ho, rfl, _, rfl, _, rfl, o, C, dx, _, _, rfl, ho, cf.cls, cf.n6, rfl, tr, _, rfl, .inl (SqL.of ht), _, _, rfl, rfl, .inl ⟨by decide, by decide⟩, _, _, rfl, rfl, _, _, rfl, _, _, rfl, ?_⟩
    refine ⟨o, n0, n1, n2, n, tr, ?_, ⟨dx, tn, ta, tl, tm, tc, ho, hm⟩, l0, l1, l2, ln, fun r H' s' ra => ?_⟩
    · exact congrArg (fun z => [V.ref o, V.int z]) em
    have ho' := s' _ _ ho
    refine ⟨_, rfl, o, C, dx, _, rfl, ho', cf.cls, cf.n6, Nat.le_of_ble_eq_true rfl, ?_⟩
    refine ⟨_, rfl, o, C, dx, _, _, rfl, upd_same, cf.cls, cf.n6, rfl, ?_⟩
    obtain ⟨fs, hR, lf, each⟩ := ra.ex
    have ne : ∀ {b : Addr} {xs : List V}, H' b = some (.lst xs) → b ≠ o := fun e z => by
      rw [z, ho'] at e
      cases e
    refine q r _ ((Kp.same s').trans Kp.upd) upd_same ⟨fs, by rw [upd_ne (ne hR)]; exact hR, lf, fun f m => ?_⟩
    obtain ⟨nf, xs, hx, ok⟩ := each f m
    exact ⟨nf, xs, by rw [upd_ne (ne hx)]; exact hx, ok⟩
def NNum : List Str := ["self", "tree", "size", "forests", "number", "awaited", "at", "word", "row", "name"]
theorem scNum : FnScope NNum ["self", "tree"] (defScope mNumOf) := ⟨rfl, rfl, rfl, by decide +kernel, rfl, by decide +kernel, by decide +kernel⟩
theorem ok_num {f : Addr} {fd : FuncData} (F : Fun K "number_of" "Operators.number_of" mNumOf f fd) (M : Ms K mg C fW fT fC fP fE fI fN dW dT dC dP dE dI dN tk2) (XR : MtF K C "_counted_rows" "Operators._counted_rows" mRows fR dR ["self", "size"]) (XF : MtF K C "_forests" "Operators._forests" mForests fF dF ["self", "size"])
    (gS : mg "MAX_SIZE" = some (.int 200 tk)) (IT : ItF K mg CT) (T : Free mg) : FnOk P w K mg base (L2.CX P w) 4 f fd ["self", "tree"] (spNum C CT) := by
  have GC : FnOk P w K mg base CX0 3 fC dC ["self", "tree"] (spChTree C) := ok_chTree M T
  have GF : FnOk P w K mg base CX0 2 fF dF ["self", "size"] (spFor C) := ok_for XF.F M.cf XR gS T
  refine F.okX scNum (fun vs H Q E h => ?_) (fun cdv A outer s H vs Q E hr h => ?_)
  · obtain ⟨o, t, l, zs, rfl, _⟩ := h
    rfl
  · obtain ⟨o, t, l, zs, rfl, ta, h⟩ := h
    have hu := hr.units
    have hu1 : ∀ {u : Nat}, u + 64 < cLine → u + 1 < cLine := fun h => by omega
    have r3 : Room 3 _ := hr.mono (by decide)
    have r2 : Room 2 _ := hr.mono (by decide)
    refine ⟨_, pss_cons (ps_expr (pe_meth (pv 0) M.cf.cls M.mC GC r3 M.bC .nil pass0 (pa_cons (pv 1) pa_nil)))
      (pss_cons (ps_set (i := 2) scNum.nd rfl (.inl rfl) (pe_callB call_len_seq (by rfl) T.len PySem.boot_len (pa_cons (pv 1) pa_nil)))
      (pss_cons (ps_if (pt_cmpR op_gt (pv 2) (pe_glob (v := .int 200) (by rfl) gS ⟨_, rfl⟩) (nomark _)) (pss_one (ps_raise rfl (takes_of rfl rfl rfl rfl) (pmk_own PySem.F.excBase_ValueError IT.x IT.g IT.k (raises_own IT.b IT.t) rfl))) pss_nil)
      (PSs.nox (pss_cons (ps_set (i := 3) scNum.nd rfl (.inl rfl) (pe_meth (pv 0) M.cf.cls XF.m GF r2 XF.b .nil pass0 (pa_cons (pv 2) pa_nil)))
      (pss_cons (ps_set (i := 4) scNum.nd rfl (.inl rfl) pe_int)
      (pss_cons (ps_set (i := 5) scNum.nd rfl (.inl rfl) pe_int)
      (pss_cons (ps_for PassesOwn.never rfl (pi_enumT (by rfl) T.enum (pa_cons (pv 1) pa_nil)) (pg_tup rfl (pgs_cons (pg_name (i := 6) scNum.nd rfl (.inl rfl)) (pgs_cons (pg_name (i := 7) scNum.nd rfl (.inl rfl)) pgs_nil)))
        (pss_cons (ps_set (i := 8) scNum.nd rfl (.inl rfl) (pe_ix ix_list (pv 3) (pe_op op_sub (pe_op op_sub (pv 2) (pv 6)) pe_int) (fun _ _ => rfl)))
        (pss_cons (ps_for PassesOwn.never rfl (pi_tup (pe_slice sl_tupA (pe_fld (pv 0) rfl) po_none (po_some (Tx.pe_tm PySem.F.slot_tuple_index PySem.F.type_tuple_index mt_tup_index (pe_fld (pv 0) rfl) (pa_cons (pv 7) pa_nil))))) (pg_name (i := 9) scNum.nd rfl (.inl rfl))
          (pss_one (ps_aug (i := 4) scNum.nd rfl (.inl rfl) (pe_ix ix_list (pv 8) (pe_op op_add (pe_op op_sub (pv 5) pe_int) (pe_dget (hu1 hu) (pe_fld (pv 0) rfl) (pv 9) (fun _ _ => rfl))) (fun _ _ => rfl)) ip_add)))
        (pss_one (ps_aug (i := 5) scNum.nd rfl (.inl rfl) (pe_op op_sub (pe_dget (hu1 hu) (pe_fld (pv 0) rfl) (pv 7) (fun _ _ => rfl)) pe_int) ip_add)))))
      (pss_one (ps_ret (pv 4)))))))))), ?_⟩
    obtain ⟨dx0, tn0, ta0, tl0, ho0, _⟩ := id ta.ops.ex
    refine ⟨_, rfl, o, dx0, _, rfl, ho0, rfl, _, rfl, o, t, l, zs, rfl, ta, _, rfl, t, _, rfl, .inr (rdT ta.tup), _, rfl, _, _, rfl, rfl, _, rfl, ?_⟩
    have lz : (zs.map V.str).length = zs.length := List.length_map _
    rcases h with ⟨big, qe⟩ | ⟨dx, tn, tA, tl, tm, tc, tr, n0, n1, n2, k, u, v, rfl, mu, mv, kl, ho, hn, ha, hm, ht, l0, l1, l2, q⟩
    · refine if_true_of (decide_eq_true (by rw [lz]; omega)) ?_
      exact qe H (Same.refl H)
    · have lk : (List.replicate k u ++ [v]).length = k + 1 := by rw [List.length_append, List.length_replicate]; rfl
      refine if_false_of (decide_eq_false (by rw [lz, lk]; omega)) ?_
      refine ⟨_, rfl, o, dx, _, rfl, ho, rfl, _, rfl, o, dx, tn, tA, tl, tm, tc, tr, n0, n1, n2, k + 1, by rw [lz, lk]; rfl, ho, hm, ht, l0, l1, l2, kl, fun r H1 k1 ho1 ra => ?_⟩
      have nd := ta.nd
      have two := ta.two
      have to : t ≠ o := fun e => by
        rcases ta.tup with h | ⟨ob, h⟩ <;>
        · rw [e, ho] at h
          cases h
      have ao : tA ≠ o := fun e => by
        rw [e, ho] at ha
        cases ha
      have no : tn ≠ o := fun e => by
        obtain ⟨ob, h, _⟩ := hn
        rw [e, ho] at h
        cases h
      have tup1 : Rd H1 t (.tup ((List.replicate k u ++ [v]).map V.str)) := by
        rcases ta.tup with h | ⟨ob, h⟩
        · exact .inl (k1 _ _ to h)
        · exact .inr ⟨ob, k1 _ _ to h⟩
      have hn1 : Tx.TX H1 tn ((l.map (·.1)).map V.str) := by
        obtain ⟨ob, h, d⟩ := hn
        rw [List.map_map]
        exact ⟨ob, k1 _ _ no h, d⟩
      have ha1 := k1 _ _ ao ha
      obtain ⟨fs, hR, lf, each⟩ := ra.ex
      have uk : ∀ i, i < k → (List.replicate k u ++ [v])[i]? = some u := fun i hi => by
        rw [List.getElem?_append_left (by rw [List.length_replicate]; exact hi), List.getElem?_replicate, if_pos hi]
      have vk : (List.replicate k u ++ [v])[k]? = some v := by
        rw [List.getElem?_append_right (by rw [List.length_replicate]; exact Nat.le_refl _), List.length_replicate, Nat.sub_self]
        rfl
      refine ⟨_, rfl, t, _, rfl, rdT tup1, ?_⟩
      refine for_it (walk_enumT (xs := (List.replicate k u ++ [v]).map V.str)) (fun i σ G => ∃ (c aw : Int) (v6 v7 v8 v9 : Option V), σ = [some (.ref o), some (.ref t), some (.int ((k + 1 : Nat) : Int)), some (.ref r), some (.int c), some (.int aw), v6, v7, v8, v9] ∧ (i ≤ k → aw = 1) ∧ Same H1 G)
        ⟨0, 1, none, none, none, none, ?_, fun _ => rfl, Same.refl H1⟩ (fun i σ G _ ⟨_, _, _, _, _, _, _, _, s⟩ => rdT (Rd.same tup1 s)) ?_ ?_
      · rw [lz, lk]
        rfl
      · rintro i x σ G G' hi ⟨c, aw, v6, v7, v8, v9, rfl, eaw, sm⟩ ⟨U, x1, x2, rfl, nU, rfl, e1, e2⟩
        rw [lz, lk] at hi
        obtain rfl := eaw (by omega)
        cases e1
        obtain ⟨wd, a, hw, mw, aw1⟩ : ∃ (wd : Str) (a : Nat), (List.replicate k u ++ [v])[i]? = some wd ∧ (wd, a) ∈ l ∧ (i < k → a = 1) := by
          by_cases c : i < k
          · exact ⟨u, 1, uk i c, mu, fun _ => rfl⟩
          · have e : i = k := by omega
            exact ⟨v, 0, by rw [e]; exact vk, mv, fun z => absurd z c⟩
        have e3 : x2 = V.str wd := by
          have e4 : ((List.replicate k u ++ [v]).map V.str)[i]? = some x2 := e2
          rw [List.getElem?_map, hw] at e4
          exact (Option.some.inj e4).symm
        subst e3
        have sU := sm.trans (Same.new nU (o := .tup [.int (i : Nat), .str wd]))
        refine ⟨U, _, rfl, SqT.of upd_same, rfl, _, _, rfl, _, _, rfl, rfl, ?_⟩
        generalize upd G U (.tup [.int (i : Nat), .str wd]) = G1 at sU ⊢
        -- the row
        obtain ⟨f, hf⟩ : ∃ f, fs[k + 1 - i - 1]? = some f := ⟨_, List.getElem?_eq_getElem (by omega)⟩
        obtain ⟨nf, xs, hx, x3, x300, xi⟩ := each f (List.mem_of_getElem? hf)
        have ie : ((k + 1 : Nat) : Int) - (i : Int) - 1 = ((k + 1 - i - 1 : Nat) : Int) := by omega
        have ia : atI (fs.map V.ref) (((k + 1 : Nat) : Int) - (i : Int) - 1) = some (.ref f) := by
          rw [ie]
          exact atI_nat (by rw [List.getElem?_map, hf]; rfl)
        refine ⟨_, rfl, _, rfl, _, rfl, _, _, rfl, rfl, _, _, rfl, rfl, r, _, _, _, rfl, rfl, SqL.of (sU _ _ hR), ia, ?_⟩
        -- the names before
        obtain ⟨j, hj, jm⟩ := first_at (ys := l.map (·.1)) (List.mem_map.mpr ⟨_, mw, rfl⟩ : wd ∈ l.map (·.1))
        have hnU := hn1.same sU
        refine ⟨_, rfl, o, C, dx, _, _, rfl, sU _ _ ho1, M.cf.cls, M.cf.n1, rfl, _, rfl, o, C, dx, _, _, rfl, sU _ _ ho1, M.cf.cls, M.cf.n1, rfl, ⟨tn, _, rfl, hnU⟩, _, rfl, tn, l.map (·.1), wd, j, rfl, rfl, hnU.sq, hj, jm, _, rfl, slTo (TXr hnU) fun b G2 s2 w2 => ?_⟩
        have s2' := sU.trans s2
        refine ⟨b, rfl, ⟨_, rdT w2⟩, ?_⟩
        refine for_tup (xs := ((l.map (fun p : Str × Nat => p.1)).take j).map V.str) (fun _ σ G => ∃ (c : Int) (v9 : Option V), σ = [some (.ref o), some (.ref t), some (.int ((k + 1 : Nat) : Int)), some (.ref r), some (.int c), some (.int 1), some (.int (i : Int)), some (.str wd), some (.ref f), v9] ∧ Same H1 G ∧ Ws G b ((l.map (fun p : Str × Nat => p.1)).take j))
          ⟨c, v9, rfl, s2', w2⟩ (fun _ σ G _ ⟨_, _, _, _, w⟩ => rdT w) ?_ ?_
        · rintro m x σ G hm' ⟨c, v9, rfl, sm, wb⟩
          rw [List.getElem?_map, Option.map_eq_some_iff] at hm'
          obtain ⟨nm, hnm, rfl⟩ := hm'
          obtain ⟨p, mp, rfl⟩ := List.mem_map.mp (List.mem_of_mem_take (List.mem_of_getElem? hnm))
          have p2 := two p mp
          obtain ⟨y, hy⟩ : ∃ y, xs[p.2]? = some y := ⟨_, List.getElem?_eq_getElem (by omega)⟩
          obtain ⟨iy, rfl⟩ := xi y (List.mem_of_getElem? hy)
          have at_ : atI xs ((1 : Int) - 1 + (p.2 : Int)) = some (.int iy) := by
            rw [show ((1 : Int) - 1 + (p.2 : Int)) = ((p.2 : Nat) : Int) by omega]
            exact atI_nat hy
          refine ⟨_, rfl, _, rfl, _, rfl, _, _, rfl, rfl, _, rfl, o, C, dx, _, _, rfl, sm _ _ ho1, M.cf.cls, M.cf.n2, rfl, _, rfl, tA, _, rfl, val_some nd mp ▸ DGet.k (k := .inr p.1) (sm _ _ ha1), _, _, rfl, rfl, f, _, _, _, rfl, rfl, SqL.of (sm _ _ hx), at_, _, _, rfl, rfl, ?_⟩
          exact ⟨_, _, rfl, sm, wb⟩
        · rintro σ G ⟨c, v9, rfl, sm, wb⟩
          refine ⟨_, rfl, _, rfl, o, C, dx, _, _, rfl, sm _ _ ho1, M.cf.cls, M.cf.n2, rfl, _, rfl, tA, _, rfl, val_some nd mw ▸ DGet.k (k := .inr wd) (sm _ _ ha1), _, _, rfl, rfl, _, _, rfl, rfl, ?_⟩
          exact ⟨_, _, _, _, _, _, rfl, fun z => by rw [aw1 (by omega)]; rfl, sm⟩
      · rintro σ G ⟨c, aw, v6, v7, v8, v9, rfl, _, sm⟩
        refine ⟨_, rfl, q c G (k1.trans (Kp.same sm)) ⟨dx, tn, tA, (tl, tm, tc, r), sm _ _ ho1, .inr ?_, sm _ _ ha1⟩⟩
        obtain ⟨ob, h, _⟩ := hn1.same sm
        rw [List.map_map] at h
        exact ⟨ob, h⟩
end
end Pr
namespace Pr
open PySem PySem.Spec PyProof.Rows L2 Gd
/-! ### a short tuple times a number -/
def rRepB (K : PySem.W.Frag) : R2 := fun x y H Q => ∃ (a : Addr) (m : Nat) (xs : List V), x = .ref a ∧ y = .int (m : Int) ∧ SqT K H a xs ∧ 1 ≤ xs.length ∧ xs.length ≤ 8 ∧ 2 ≤ m ∧ m ≤ 5000 ∧
  ∀ p, H p = none → Q (.ref p) (upd H p (.tup (List.replicate m xs).flatten))
theorem op_repB {X : Cx} : OpR X (binaryOp .Mult) (rRepB X.K) := by
  intro pins s σ H x y v u Q I rx ry h
  obtain ⟨a, m, xs, rfl, rfl, ht, x1, x8, m2, m5, q⟩ := h
  cases rx
  obtain ⟨tk, rfl⟩ := ry
  obtain ⟨us, rel, ⟨⟨ocl, odi, oda, osl⟩, hat, hcl, cnt, hda⟩, _⟩ := I.tuple ht
  dsimp only at hcl hda
  subst hcl hda
  have eu : us.length = xs.length := rel.length.symm
  have full : us.toArray.isEmpty = false := by
    cases us with
    | nil => exact absurd eu (by rw [List.length_nil]; omega)
    | cons _ _ => rfl
  have eus : us.toArray.size = xs.length := by rw [List.size_toArray, eu]
  have prod : xs.length * m ≤ 8 * 5000 := Nat.mul_le_mul x8 m5
  have prodI : ((us.toArray.size : Nat) : Int) * (m : Int) ≤ 40000 := by
    rw [eus]
    have e : ((xs.length : Nat) : Int) * (m : Int) = ((xs.length * m : Nat) : Int) := (Int.natCast_mul _ _).symm
    rw [e]
    omega
  have lenR : ∀ {α : Type} (ys : List α), ys.length = xs.length → (List.replicate m ys).flatten.length ≤ sizeLine := fun ys hy => by
    rw [PyProof.Rows.lm_len_rep_flat, hy, sizeLine_eq, Nat.mul_comm]
    omega
  have g0 : (decide ((m : Int) < -(2 ^ 63)) || decide ((m : Int) ≥ 2 ^ 63)) = false := by
    have h1 : decide ((m : Int) < -(2 ^ 63)) = false := decide_eq_false (by omega)
    have h2 : decide ((m : Int) ≥ 2 ^ 63) = false := decide_eq_false (by omega)
    rw [h1, h2]
    rfl
  have g1 : (us.toArray.isEmpty || (m : Int) == 1) = false := by
    have h1 : ((m : Int) == 1) = false := beq_eq_false_iff_ne.mpr (by omega)
    rw [full, h1]
    rfl
  have g2 : (decide ((m : Int) ≤ 0) || us.toArray.isEmpty) = false := by
    have h1 : decide ((m : Int) ≤ 0) = false := decide_eq_false (by omega)
    rw [full, h1]
    rfl
  have g4 : Builtin.Tuple.tupleTooMany (((us.toArray.size : Nat) : Int) * (m : Int)) = false := by
    unfold Builtin.Tuple.tupleTooMany
    exact decide_eq_false (by rw [sizeLine_eq]; omega)
  have times := tuple_mulW a us.toArray cnt odi osl (m : Int) tk g0 g1 g2 (by omega) g4 (by rw [size_rep, List.size_toArray, Int.toNat_natCast]; exact lenR us eu)
  have other := int_rmul_tuple (m : Int) tk a us.toArray cnt odi osl
  refine wpAny_binaryOp_repeat_ref (T := "tuple")
    (U := "int") (by decide) ⟨_, hat, rfl⟩
    (fun st => typeIs_int st (m : Int) tk)
    noFill_tuple_mul
    F.fills_int_mul F.slot_int_rmul
    repeat_tuple
    F.slot_int_index.lookup ?_
  refine call_meets F.slot_int_rmul (typeIs_int s (m : Int) tk)
    F.entry_int_rmul (F.args_int_rmul_2 _ _) other ⟨hat, rfl, ⟨_, hat, rfl⟩, ?_⟩
  refine call_meets F.slot_tuple_mul ⟨_, hat, rfl⟩
    F.entry_tuple_mul (F.args_tuple_mul_2 _ _) times ⟨hat, ?_⟩
  rw [size_rep, Int.toNat_natCast]
  have ok : ObjOk X.prog X.w (upd H s.heap.objs.size (.tup (List.replicate m xs).flatten)) (s.heap.push { cls := Value.type "tuple", data := Data.seq (List.replicate m us).flatten.toArray }) s.heap.objs.size (.tup (List.replicate m xs).flatten) :=
    ⟨lenR xs rfl, _, rel.rep m, IsTup.new _ _⟩
  exact ⟨.ref s.heap.objs.size, _, I.laid (t' := s.toks) (fun b ob e => Heap.get?_push_of_some _ e) (Nat.le_refl _) ok, rfl, q _ (I.hok.fresh (Nat.le_refl _))⟩
end Pr
namespace Pr
open PySem PySem.Spec PyProof.Rows L2 Gd LamX NdefX Clo
/-! ### the lambdas of the law, read -/
def NLw : List Str := ["script", "spot", "dice", "arities", "turn", "tree", "context", "told", "long", "ops"]
/-- what number_of leans on -/
structure NX (K : PySem.W.Frag) (C : Addr) : Prop where
  n : MtX K C "number_of" "Operators.number_of" mNumOf ["self", "tree"]
  f : MtX K C "_forests" "Operators._forests" mForests ["self", "size"]
  r : MtX K C "_counted_rows" "Operators._counted_rows" mRows ["self", "size"]
abbrev t_end (K : PySem.W.Frag) (n : Int) : TE := tOp (Tx.rCatY K) (tOp (rRepB K) (tTup (tCons (tC (.str "s")) tNil)) (tC (.int n))) (Tx.tTupX (tCons (tC (.str "_")) tNil))
section
variable {P : Program} {w : World} {K : PySem.W.Frag} {mg : Str → Option Value} {base : Heap} {C CT CM fW fT fC fP fE fI fN fL : Addr} {dW dT dC dP dE dI dN : FuncData} {tk tk2 tk3 : Tok}
abbrev ll_1 (C CT : Addr) : LD := ⟨lamAt sLaw 2, ["ops", "long"], [9, 8], fun E => tMeth C "number_of" (spNum C CT) [] E (tVar 0) (tCons (tVar 1) tNil)⟩
theorem tl_1 (M : Ms K mg C fW fT fC fP fE fI fN dW dT dC dP dE dI dN tk) (gS : mg "MAX_SIZE" = some (.int 200 tk3)) (IT : ItF K mg CT) (T : Free mg) (Y : NX K C) : Told P w K mg base (L2.CX P w) 5 "law.<locals>.<lambda>" (lamAt sLaw 2) ["ops", "long"] (fun E => tMeth C "number_of" (spNum C CT) [] E (tVar 0) (tCons (tVar 1) tNil)) := by
  obtain ⟨f1, d1, N1⟩ := Y.n.ex
  obtain ⟨f2, d2, X2⟩ := Y.f.ex
  obtain ⟨f3, d3, X3⟩ := Y.r.ex
  refine ⟨nscope_by (by decide +kernel), fun _ _ _ _ => rfl, fun cl c f A outer s H E hr => ?_⟩
  exact pe_meth (pv 0) M.cf.cls N1.m (ok_num N1.F M X3 X2 gS IT T) (hr.mono (by decide)) N1.b .nil (E := E) (passes_call (takes_of rfl rfl rfl rfl) fun _ _ _ _ h => h) (pa_cons (pv 1) pa_nil)
theorem cl_1 : capsB NLw (defScope sLaw) (lamAt sLaw 2) ["ops", "long"] [9, 8] = true := by decide +kernel
theorem lsl_1 : LamS (defScope sLaw) (lamAt sLaw 2).scope := lamS_by (by decide +kernel)
abbrev ll_2 (K : PySem.W.Frag) (C CT : Addr) : LD := ⟨lamAt sLaw 3, ["ops", "long"], [9, 8], fun E => tMeth C "number_of" (spNum C CT) [] E (tVar 0) (tCons (tSl (rSlA K) (tVar 1) (tPart (tC (.int 1))) tNoPart) tNil)⟩
theorem tl_2 (M : Ms K mg C fW fT fC fP fE fI fN dW dT dC dP dE dI dN tk) (gS : mg "MAX_SIZE" = some (.int 200 tk3)) (IT : ItF K mg CT) (T : Free mg) (Y : NX K C) : Told P w K mg base (L2.CX P w) 5 "law.<locals>.<lambda>" (lamAt sLaw 3) ["ops", "long"] (fun E => tMeth C "number_of" (spNum C CT) [] E (tVar 0) (tCons (tSl (rSlA K) (tVar 1) (tPart (tC (.int 1))) tNoPart) tNil)) := by
  obtain ⟨f1, d1, N1⟩ := Y.n.ex
  obtain ⟨f2, d2, X2⟩ := Y.f.ex
  obtain ⟨f3, d3, X3⟩ := Y.r.ex
  refine ⟨nscope_by (by decide +kernel), fun _ _ _ _ => rfl, fun cl c f A outer s H E hr => ?_⟩
  exact pe_meth (pv 0) M.cf.cls N1.m (ok_num N1.F M X3 X2 gS IT T) (hr.mono (by decide)) N1.b .nil (E := E) (passes_call (takes_of rfl rfl rfl rfl) fun _ _ _ _ h => h) (pa_cons (pe_slice sl_tupA (pv 1) (po_some pe_int) po_none) pa_nil)
theorem cl_2 : capsB NLw (defScope sLaw) (lamAt sLaw 3) ["ops", "long"] [9, 8] = true := by decide +kernel
theorem lsl_2 : LamS (defScope sLaw) (lamAt sLaw 3).scope := lamS_by (by decide +kernel)
abbrev ll_3 (K : PySem.W.Frag) (C CT : Addr) : LD := ⟨lamAt sLaw 4, ["ops"], [9], fun E => tMethR C "filled" (spFE C CT) E (tVar 0) (tCons (t_end K 3000) (tCons (t_end K 3000) (tCons (tC (.str "c")) tNil)))⟩
theorem tl_3 (M : Ms K mg C fW fT fC fP fE fI fN dW dT dC dP dE dI dN tk) (gH : mg "HOLE" = some (.str hole tk2)) (IT : ItF K mg CT) (T : Free mg) (Y : FX K C) : Told P w K mg base (L2.CX P w) 5 "law.<locals>.<lambda>" (lamAt sLaw 4) ["ops"] (fun E => tMethR C "filled" (spFE C CT) E (tVar 0) (tCons (t_end K 3000) (tCons (t_end K 3000) (tCons (tC (.str "c")) tNil)))) := by
  obtain ⟨f1, d1, F1⟩ := Y.f.ex
  obtain ⟨f2, d2, X1⟩ := Y.x.ex
  obtain ⟨f3, d3, Y1⟩ := Y.y.ex
  refine ⟨nscope_by (by decide +kernel), fun _ _ _ _ => rfl, fun cl c f A outer s H E hr => ?_⟩
  exact pe_methR (pv 0) M.cf.cls F1.m (ok_fillE F1.F M X1 Y1 gH IT T) (hr.mono (by decide)) (E := E) (passes_call (takes_of rfl rfl rfl rfl) fun _ _ _ _ h => h) (pa_cons (pe_op Tx.op_catY (pe_op op_repB (pe_tup (pa_cons pe_str pa_nil)) pe_int) (Tx.pe_tupX (pa_cons pe_str pa_nil))) (pa_cons (pe_op Tx.op_catY (pe_op op_repB (pe_tup (pa_cons pe_str pa_nil)) pe_int) (Tx.pe_tupX (pa_cons pe_str pa_nil))) (pa_cons pe_str pa_nil)))
theorem cl_3 : capsB NLw (defScope sLaw) (lamAt sLaw 4) ["ops"] [9] = true := by decide +kernel
theorem lsl_3 : LamS (defScope sLaw) (lamAt sLaw 4).scope := lamS_by (by decide +kernel)
end
end Pr
namespace Pr
open PySem PySem.Spec PyProof.Rows L2 Gd LamX NdefX Clo
/-! ### what the law leans on -/
theorem SqL.extN {K : PySem.W.Frag} {H H' : Hp} {a : Addr} {xs : List V} (h : SqL K H a xs) (k : ExtN H H') : SqL K H' a xs := by
  rcases h with (h | ⟨o, h⟩) | h
  · exact .inl (.inl (k _ _ h (fun _ z => nomatch z)))
  · exact .inl (.inr ⟨o, k _ _ h (fun _ z => nomatch z)⟩)
  · exact .inr h
theorem KN.hm {d : Addr} {H H' : Hp} (k : KN (fun b => b = d) H H') : ExtN (Hm d H) (Hm d H') := fun b o e t => Hm.of (k b o (Hm.some_of e).2 (Hm.some_of e).1 t) (Hm.some_of e).2
/-- what is new is not there before -/
theorem KN.over {P : Addr → Prop} {H H1 H2 : Hp} (a : ExtN H H1) (n : ∀ b, P b → H b = none) (k : KN P H1 H2) : ExtN H H2 := fun b o e t => k b o (fun p => by
  have := n b p
  rw [e] at this
  cases this) (a b o e t) t
theorem OpsAt.kn {H H' : Hp} {C o d tc : Addr} {l : List (Str × Nat)} {ys : List V} (h : OpsAt (Hm d H) C o l) (ht : H tc = some (.lst ys)) (k : KN (P2 d tc) H H') : OpsAt (Hm d H') C o l := by
  obtain ⟨dx, tn, ta, tl, a, b, c⟩ := h.ex
  have up : ∀ {x : Addr} {u : HO}, Hm d H x = some u → (∀ xs, u ≠ .lst xs) → (∀ ps, u ≠ .tbl ps) → Hm d H' x = some u := fun {x u} e n t => by
    obtain ⟨e1, e2⟩ := Hm.some_of e
    refine Hm.of (k x u (fun z => ?_) e1 t) e2
    rcases z with z | z
    · exact e2 z
    · rw [z, ht] at e1
      exact n _ (Option.some.inj e1).symm
  refine ⟨dx, tn, ta, tl, up a (fun _ z => nomatch z) (fun _ z => nomatch z), ?_, up c (fun _ z => nomatch z) (fun _ z => nomatch z)⟩
  rcases b with b | ⟨ob, b⟩
  · exact .inl (up b (fun _ z => nomatch z) (fun _ z => nomatch z))
  · exact .inr ⟨ob, up b (fun _ z => nomatch z) (fun _ z => nomatch z)⟩
def NoTb (H : Hp) (b : Addr) : Prop := ∀ o, H b = some o → (∀ ps, o ≠ .tbl ps) → False
theorem NoTb.of {H G : Hp} {b : Addr} (e : ExtN H G) (h : G b = none) : NoTb H b := fun o q t => by
  have z := e b o q t
  rw [h] at z
  cases z
theorem KN.overT {P : Addr → Prop} {H H1 H2 : Hp} (a : ExtN H H1) (n : ∀ b, P b → NoTb H b) (k : KN P H1 H2) : ExtN H H2 := fun b o e t => k b o (fun p => n b p o e t) (a b o e t) t
theorem Sc8.extN {H H' : Hp} {C d o t cx : Addr} {l : List (Str × Nat)} {zs a b : List Str} (h : Sc8 H C d o t cx l zs a b) (s : ExtN (Hm d H) (Hm d H')) : Sc8 H' C d o t cx l zs a b := ⟨h.ops.extN s, h.nd, h.no, h.few, h.two, h.tr.extN s, h.fo, h.lz, h.cx.extN s, h.ic, h.lc⟩
theorem Tabs.kpI {T : List (Addr × Str)} {H H' : Hp} {o C dx : Addr} {fs : List (Str × V)} (t : Tabs T H) (ho : H o = some (.ins C dx fs)) (k : Kp o H H') : Tabs T H' := fun p hp => by
  obtain ⟨ps, a1, a2, a3⟩ := t p hp
  have ne : ∀ {b : Addr} {u : HO}, (∀ C dx fs, u ≠ .ins C dx fs) → H b = some u → b ≠ o := fun n e z => by
    rw [z, ho] at e
    exact n _ _ _ (Option.some.inj e).symm
  refine ⟨ps, k _ _ (ne (fun _ _ _ z => by cases z) a1) a1, a2, fun pos cv hc => ?_⟩
  obtain ⟨c', e1, e2⟩ := a3 pos cv hc
  exact ⟨c', e1, k _ _ (ne (fun _ _ _ z => by unfold CodeO at z; cases z) e2) e2⟩
theorem fo_run {l : List (Str × Nat)} {u v : Str} (mu : (u, 1) ∈ l) (mv : (v, 0) ∈ l) : ∀ n : Nat, Fo l 1 (List.replicate n u ++ [v])
  | 0 => .cons (n := 0) mv .nil
  | n + 1 => .cons (n := 0) mu (fo_run mu mv n)
/-- what number_of wants of operators -/
def NumAt (H : Hp) (C o : Addr) (l : List (Str × Nat)) : Prop := ∃ (dx tn ta tl tm tc tr : Addr) (n0 n1 n2 : Nat), H o = some (insR C dx tn ta tl tm tc tr) ∧ Tx.TX H tn (l.map fun p => V.str p.1) ∧ H ta = some (.dK (dkv l)) ∧ H tm = some (.tup [.int (n0 : Int), .int (n1 : Int), .int (n2 : Int)]) ∧ H tr = some (.lst []) ∧ n0 ≤ 8 ∧ n1 ≤ 8 ∧ n2 ≤ 8
theorem NumAt.extN {H H' : Hp} {C o : Addr} {l : List (Str × Nat)} (h : NumAt H C o l) (k : ExtN H H') : NumAt H' C o l := by
  obtain ⟨dx, tn, ta, tl, tm, tc, tr, n0, n1, n2, a, b, c, d, e, r⟩ := h
  exact ⟨dx, tn, ta, tl, tm, tc, tr, n0, n1, n2, k _ _ a (fun _ z => nomatch z), TX.extN b k, k _ _ c (fun _ z => nomatch z), k _ _ d (fun _ z => nomatch z), k _ _ e (fun _ z => nomatch z), r⟩
theorem NumAt.ops {H : Hp} {C o : Addr} {l : List (Str × Nat)} (h : NumAt H C o l) : OpsAt H C o l := by
  obtain ⟨dx, tn, ta, tl, tm, tc, tr, n0, n1, n2, a, b, c, _⟩ := h
  exact ⟨dx, tn, ta, (tl, tm, tc, tr), a, .inr (Tx.TX.there b), c⟩
theorem lH_perm {l l' : List (Str × Nat)} (p : l'.Perm l) : (lH l').Perm (lH l) := by
  unfold lH
  exact p.append_right _
theorem IsC.perm {l l' : List (Str × Nat)} {a b : List Str} (p : l'.Perm l) (h : IsC l a b) : IsC l' a b := ⟨h.na, h.nb, h.fo.perm (lH_perm p)⟩
/-- Operators(..) of a dict that is let -/
theorem mkOpsX {C : Addr} {H1 : Hp} {a x dx : Addr} {l : List (Str × Nat)} {R : Hp → Prop} {E : XK} (nx : H1 x = none) (ndx : H1 dx = none) (ne : dx ≠ x) (ha : H1 a = some (.dK (dkv l))) (ok : OpsOk l)
    (q : ∀ (l' : List (Str × Nat)) (H' : Hp), Same H1 H' → l'.Perm l → OpsX H1 H' C x l l' → R H') :
    spInit C (.ref x :: ([.ref a] ++ [])) (upd (upd H1 dx (.own x)) x (.ins C dx [])) (fun v H2 => v = .non ∧ R H2) E := by
  have s1 : Same H1 (upd (upd H1 dx (.own x)) x (.ins C dx [])) := fun b u e => by
    rw [upd_ne (ne_of_none e nx), upd_ne (ne_of_none e ndx)]
    exact e
  refine ⟨x, dx, a, l, rfl, upd_same, s1 _ _ ha, ok, fun l' H' pm srt kp op => ⟨rfl, q l' H' (Kp.over nx s1 kp) pm ?_⟩⟩
  obtain ⟨ex, t, D, t2, m, c, r, e1, e2, e3, e4, e5, e6, n1, n2, n3⟩ := op.ex
  exact ⟨ex, t, D, t2, m, c, r, e1, e2, e3, e4, e5, e6, s1.free n1, s1.free n2, n3⟩
theorem count_le8 {l : List (Str × Nat)} (h : l.length ≤ 8) (i : Int) : (l.map fun p => (p.2 : Int)).count i ≤ 8 := by
  have := List.count_le_length (a := i) (l := l.map fun p => (p.2 : Int))
  rw [List.length_map] at this
  omega
theorem OpsX.cnt {H0 H : Hp} {C o : Addr} {l l' : List (Str × Nat)} (h : OpsX H0 H C o l l') (few : l.length ≤ 8) : ∃ (tc : Addr) (n0 n1 n2 : Nat) (cs : List Int), H0 tc = none ∧ CntAt H C o tc n0 n1 n2 cs := by
  obtain ⟨dx, t, D, t2, m, c, r, e1, e2, e3, e4, e5, e6, n1, n2, n3⟩ := h.ex
  refine ⟨c, _, _, _, [0, (((l.map fun p : Str × Nat => (p.2 : Int)).count 0 : Nat) : Int)], n1, ⟨dx, t, D, t2, m, r, e1, e4⟩, e5, ⟨count_le8 few _, count_le8 few _, count_le8 few _⟩, ⟨Nat.le_refl 2, by show 2 ≤ 201; decide⟩, fun i z hz => ?_⟩
  match i, hz with
  | 0, hz =>
    cases hz
    decide
  | 1, hz =>
    cases hz
    have := count_le8 few 0
    rw [Int.natAbs_natCast]
    omega
  | i + 2, hz => cases hz
theorem OpsX.num {H0 H : Hp} {C o : Addr} {l l' : List (Str × Nat)} (h : OpsX H0 H C o l l') (few : l.length ≤ 8) : NumAt H C o l' := by
  obtain ⟨dx, t, D, t2, m, c, r, e1, e2, e3, e4, e5, e6, n1, n2, n3⟩ := h.ex
  exact ⟨dx, t, D, t2, m, c, r, _, _, _, e1, e2, e3, e4, e6, count_le8 few _, count_le8 few _, count_le8 few _⟩
section
variable {K : PySem.W.Frag} {C CT CN o t : Addr} {H : Hp} {Q : VK} {l : List (Str × Nat)} {zs : List Str} {σ : L2.St}
/-- ("s",) * n + (z,) -/
abbrev t_run (K : PySem.W.Frag) (u : Str) (n : Int) (z : Str) : TE := tOp (Tx.rCatY K) (tOp (rRepB K) (tTup (tCons (tC (.str u)) tNil)) (tC (.int n))) (Tx.tTupX (tCons (tC (.str z)) tNil))
theorem run_read {u z : Str} {n : Nat} (n2 : 2 ≤ n) (n5 : n ≤ 4000) (q : ∀ b H', Same H H' → Wp H' b (List.replicate n u ++ [z]) → Q (.ref b) H') : t_run K u (n : Int) z σ H Q := by
  refine ⟨by show 1 ≤ sizeLine; decide, fun p np => ⟨p, n, [V.str u], rfl, rfl, SqT.of upd_same, Nat.le_refl 1, by show 1 ≤ 8; decide, n2, by omega, fun p2 np2 => ?_⟩⟩
  have s2 := (Same.new np (o := .tup [V.str u])).trans (Same.new np2 (o := .tup (List.replicate n [V.str u]).flatten))
  have h2 : (upd (upd H p (.tup [V.str u])) p2 (.tup (List.replicate n [V.str u]).flatten)) p2 = some (.tup ((List.replicate n u).map V.str)) := by
    rw [upd_same, List.flatten_replicate_singleton, List.map_replicate]
  generalize upd (upd H p (.tup [V.str u])) p2 (.tup (List.replicate n [V.str u]).flatten) = G at s2 h2 ⊢
  refine ⟨by show 1 ≤ sizeLine; decide, fun b2 H4 n4 s4 w4 => ?_⟩
  have w : Ws H4 p2 (List.replicate n u) := Rd.of (s4 _ _ h2)
  exact catWpR (ys := [z]) w w4 (by simp) (by rw [List.length_replicate, sizeLine_eq]; simp; omega) fun b3 H5 s5 w5 => q b3 H5 ((s2.trans s4).trans s5) w5
theorem strJi8 {ws : List Str} : ∀ x ∈ ws.map V.str, Ji H x := fun x m => by
  obtain ⟨z, _, rfl⟩ := List.mem_map.mp m
  exact ⟨"str", .str z, by decide⟩
theorem Wp.vw8 {b : Addr} (h : Wp H b zs) : Vw H (.ref b) (some (zs.map V.str)) := .tup h strJi8
theorem tw_l1 (tr : TreeAt H C o t l zs) (big : 200 < zs.length) (q : ∀ H', Same H H' → Q (.str "tree") H') : TWord CT CN (fun E => tMeth C "number_of" (spNum C CT) [] E (tVar 0) (tCons (tVar 1) tNil)) [some (.ref o), some (.ref t)] H Q := by
  intro E' hE
  obtain ⟨dx, tn, ta, tl, ho, _⟩ := tr.ops.ex
  exact ⟨_, rfl, o, dx, _, rfl, ho, rfl, _, rfl, o, t, l, zs, rfl, tr, .inl ⟨big, fun H' s => hE _ _ _ (.inl ⟨rfl, q H' s⟩)⟩⟩
theorem tw_l2 {u v : Str} {n : Nat} (nm : NumAt H C o l) (nd : (l.map (·.1)).Nodup) (two : ∀ p ∈ l, p.2 ≤ 2) (mu : (u, 1) ∈ l) (mv : (v, 0) ∈ l) (n200 : n + 1 ≤ 200) (ht : Wp H t (List.replicate (n + 1) u ++ [v])) (q : ∀ H1 H', Same H H1 → Kp o H1 H' → OpsAt H' C o l → Q (.str "fine") H') :
    TWord CT CN (fun E => tMeth C "number_of" (spNum C CT) [] E (tVar 0) (tCons (tSl (rSlA K) (tVar 1) (tPart (tC (.int 1))) tNoPart) tNil)) [some (.ref o), some (.ref t)] H Q := by
  intro E' hE
  obtain ⟨dx, tn, ta, tl, tm, tc, tr, n0, n1, n2, a, b, c, d, e, l0, l1, l2⟩ := id nm
  refine ⟨_, rfl, o, dx, _, rfl, a, rfl, _, rfl, _, rfl, noPart (slFrom (p := 1) ht.ws fun b2 H2 s2 w2 => ?_)⟩
  have ed : (List.replicate (n + 1) u ++ [v]).drop 1 = List.replicate n u ++ [v] := rfl
  rw [ed] at w2
  have lz : (List.replicate n u ++ [v]).length = n + 1 := by rw [List.length_append, List.length_replicate]; rfl
  exact ⟨o, b2, l, _, rfl, ⟨nm.ops.same s2, w2, nd, fo_run mu mv n, by rw [lz]; omega, two⟩, .inr ⟨dx, tn, ta, tl, tm, tc, tr, n0, n1, n2, n, u, v, rfl, mu, mv, n200, s2 _ _ a, b.same s2, s2 _ _ c, s2 _ _ d, s2 _ _ e, l0, l1, l2, fun z H' k op => q H2 H' s2 k op⟩⟩
theorem tw_l3 (op : OpsAt H C o l) (no : hole ∉ l.map (·.1)) (few : l.length ≤ 8) (q : ∀ H', Same H H' → Q (.str "tree") H') : TWord CT CN (fun E => tMethR C "filled" (spFE C CT) E (tVar 0) (tCons (t_end K 3000) (tCons (t_end K 3000) (tCons (tC (.str "c")) tNil)))) [some (.ref o)] H Q := by
  intro E' hE
  obtain ⟨dx, tn, ta, tl, ho, _⟩ := op.ex
  refine ⟨_, rfl, o, dx, _, rfl, ho, rfl, run_read (u := "s") (z := "_") (n := 3000) (by decide) (by decide) fun b1 H1 s1 w1 => run_read (u := "s") (z := "_") (n := 3000) (by decide) (by decide) fun b2 H2 s2 w2 => ?_⟩
  refine fe_of (R := fun _ H' => Q (.str "fine") H') (prs := [(.ref b2, some ((List.replicate 3000 ("s" : Str) ++ [("_" : Str)]).map V.str)), (.str "c", none)]) (op.same (s1.trans s2)) no few (w1.same s2).vw8 (all_cons w2.vw8 (all_cons (.not (.str "c") (by decide)) all_nil)) (by show 2 ≤ 10; decide) ?_ (fun H' s => q H' ((s1.trans s2).trans s)) hE
  exact Bool.and_false _
end
end Pr
namespace Pr
open PySem PySem.Spec PyProof.Rows L2 Gd LamX NdefX Clo
/-! ### law -/
def spLaw (K : PySem.W.Frag) (T : List (Addr × Str)) : Sp := fun vs H Q _ => ∃ (a : Addr) (ns : List Int), vs = [.ref a] ∧ SqL K H a (ns.map V.int) ∧ ns.length ≤ 63 ∧ Tabs T H ∧ ∀ H', Q (.bl true) H'
/-- a def of the law, called where nothing is being shown -/
structure GlG (P : Program) (w : World) (K : PySem.W.Frag) (mg : Str → Option Value) (base : Heap) (k : Nat) (name : Str) (f : Addr) (fd : FuncData) (ps : List Str) (sp : Sp) : Prop where
  ok : FnG P w K mg base CX0 k f fd ps sp
  kp : PySem.W.keepIn K (.ref f) = true
  b : Binds K fd ps []
  g : mg name = some (.ref f)
structure Own (K : PySem.W.Frag) (mg : Str → Option Value) (h1 h2 h3 h4 h5 h6 h7 h8 : Addr) (x1 x2 x3 x4 x5 x6 x7 x8 : FuncData) (t1 t2 : Tok) : Prop where
  dice : GlF K mg "_law_dice" sDice h1 x1 ["script", "spot"]
  ars : GlF K mg "_law_arities" sArs h2 x2 ["dice"]
  tree : GlF K mg "_law_drawn_tree" sDrawn h3 x3 ["dice", "arities", "cap"]
  ctx : GlF K mg "_law_drawn_context" sDCtx h4 x4 ["dice", "arities", "cap"]
  end_ : GlF K mg "_law_end" sEndL h5 x5 ["arities", "tree", "place"]
  are : GlF K mg "are_arities" sAre h6 x6 ["value"]
  name : GlF K mg "is_name" sName h7 x7 ["value"]
  int : GlF K mg "is_integer" sInteger h8 x8 ["value"]
  gm : mg "MAX_LETTERS" = some (.int 8 t1)
  gm2 : mg "MAX_OPERATORS" = some (.int 8 t2)
structure Mak (K : PySem.W.Frag) (mg : Str → Option Value) (C f : Addr) (fd : FuncData) : Prop where
  mkC : Mk K C f
  g : mg "Operators" = some (.ref C)
  F : Fun K "__init__" "Operators.__init__" mInit f fd
  b : Binds K fd ["self", "arities"] []
def spots (n : Int) : Int := if (if n < 5 then n else 5) > 1 then (if n < 5 then n else 5) else 1
theorem spots_le (n : Int) : 1 ≤ spots n ∧ spots n ≤ 5 := by
  unfold spots
  split <;> split <;> omega
theorem Ars.noH {l : List (Str × Nat)} (h : Ars l) : hole ∉ l.map (·.1) := fun m => by
  obtain ⟨p, hp, e⟩ := List.mem_map.mp m
  have t : hole ∉ Pr.pool := by decide +kernel
  exact t (e ▸ h.pool p hp)
def l3 : List (Str × Nat) := [("c", 0), ("s", 1), ("p", 2)]
theorem l3_nd : (l3.map (·.1)).Nodup := by decide +kernel
theorem l3_no : hole ∉ l3.map (·.1) := by decide +kernel
theorem l3_ok : OpsOk l3 := ⟨by decide, l3_nd, by decide +kernel, by decide +kernel⟩
theorem scLaw : FnScope NLw ["script"] (defScope sLaw) := ⟨rfl, rfl, rfl, by decide +kernel, rfl, by decide +kernel, by decide +kernel⟩
section
variable {P : Program} {w : World} {K : PySem.W.Frag} {mg : Str → Option Value} {base : Heap} {C CT CN CM eN fW fT fC fP fE fI fN fR fK fM gw c0 P0 mI k1 k2 k3 : Addr} {dW dT dC dP dE dI dN dR dK dM dw dmI y1 y2 y3 : FuncData} {tk tk2 tk3 t1 t2 : Tok} {Tt : List (Addr × Str)} {h1 h2 h3 h4 h5 h6 h7 h8 : Addr} {x1 x2 x3 x4 x5 x6 x7 x8 : FuncData}
theorem ok_law {f : Addr} {fd : FuncData} (F : FunC K "law" sLaw f c0 fd) (TB : TabB base mg c0 P0) (hmT : (P0, ("law.<locals>.<lambda>" : Str)) ∈ Tt) (huT : ∀ p ∈ Tt, p.1 = P0 → p.2 = "law.<locals>.<lambda>")
    (M : Ms K mg C fW fT fC fP fE fI fN dW dT dC dP dE dI dN tk) (gH : mg "HOLE" = some (.str hole tk2)) (gS : mg "MAX_SIZE" = some (.int 200 tk3)) (IT : ItF K mg CT) (T : Free mg) (Y : FX K C) (NXh : NX K C) (D : Draws K mg fR fK fM dR dK dM) (Wd : WdF K mg CT CN CM eN gw dw)
    (O : Own K mg h1 h2 h3 h4 h5 h6 h7 h8 x1 x2 x3 x4 x5 x6 x7 x8 t1 t2) (I : Mak K mg C mI dmI)
    (G1 : GlG P w K mg base 8 "_law_trees_right" k1 y1 ["dice", "ops", "tree", "context"] (spTR C Tt)) (G2 : GlG P w K mg base 8 "_law_fills_right" k2 y2 ["dice", "ops", "tree", "context"] (spTR C Tt)) (G3 : GlG P w K mg base 10 "_law_sizes_right" k3 y3 ["dice", "ops"] (spZR C Tt)) :
    FnG P w K mg base CX0 11 f fd ["script"] (spLaw K Tt) := by
  have GD : FnOk P w K mg base CX0 1 h1 x1 ["script", "spot"] (spDice K) := ok_dice O.dice.F T
  have GA : FnOk P w K mg base CX0 3 h2 x2 ["dice"] spArs := ok_ars O.ars.F D T
  have GW : FnOk P w K mg base CX0 3 h3 x3 ["dice", "arities", "cap"] spDrawn := ok_drawn O.tree.F D T
  have GX : FnOk P w K mg base CX0 4 h4 x4 ["dice", "arities", "cap"] spDCtx := ok_dctx O.ctx.F D O.tree.F O.tree.b O.tree.g O.end_.F O.end_.b O.end_.g T
  have GE : FnOk P w K mg base CX0 2 h6 x6 ["value"] spAre := ok_are O.are.F T O.gm O.gm2 O.name.F O.name.b O.name.g O.int.F O.int.b O.int.g
  have GI : FnOk P w K mg base CX0 3 mI dmI ["self", "arities"] (spInit C) := ok_init I.F T M.cf GE O.are.F O.are.b O.are.g
  refine F.ok scLaw (fun vs H Q E h => ?_) (fun A0 outer s H vs Q E hr gd h => ?_)
  · obtain ⟨a, ns, rfl, _⟩ := h
    rfl
  · obtain ⟨a, ns, rfl, hS, hlen, tb0, q⟩ := h
    have hu := hr.units
    have r1 : Room 1 _ := hr.mono (by decide)
    have r3 : Room 3 _ := hr.mono (by decide)
    have r4 : Room 4 _ := hr.mono (by decide)
    have r7 : Room 7 _ := hr.mono (by decide)
    have r8 : Room 8 _ := hr.mono (by decide)
    have r10 : Room 10 _ := hr
    refine ⟨_, pss_cons (ps_for PassesOwn.never rfl (pi_range1 rfl T.range (pa_cons (pe_callB (call_max2 rfl) (by rfl) T.max (by decide +kernel) (pa_cons pe_int (pa_cons (pe_callB (call_min2 rfl) (by rfl) T.min (by decide +kernel) (pa_cons pe_int (pa_cons (pe_callB call_len_seq (by rfl) T.len PySem.boot_len (pa_cons (pv 0) pa_nil)) pa_nil))) pa_nil))) pa_nil)) (pg_name (i := 1) scLaw.nd rfl (.inl rfl))
        (pss_cons (ps_set (i := 2) scLaw.nd rfl (.inl rfl) (pe_call GD r1 (by rfl) O.dice.g O.dice.F.kp O.dice.b .nil pass0 (pa_cons (pv 0) (pa_cons (pv 1) pa_nil))))
        (pss_cons (ps_set (i := 3) scLaw.nd rfl (.inl rfl) (pe_call GA r3 (by rfl) O.ars.g O.ars.F.kp O.ars.b .nil pass0 (pa_cons (pv 2) pa_nil)))
        (pss_cons (ps_set (i := 9) scLaw.nd rfl (.inr rfl) (pe_make I.mkC GI r4 (by rfl) I.g I.b .nil pass0 (pa_cons (pv 3) pa_nil)))
        (pss_one (ps_for PassesOwn.never rfl (pi_range1 rfl T.range (pa_cons pe_int pa_nil)) (pg_name (i := 4) scLaw.nd rfl (.inl rfl))
          (pss_cons (ps_par (i := 5) (j := 6) (by rfl) scLaw.nd rfl rfl (by decide) rfl rfl (pa_cons (pe_call GW r3 (by rfl) O.tree.g O.tree.F.kp O.tree.b .nil pass0 (pa_cons (pv 2) (pa_cons (pv 3) (pa_cons pe_int pa_nil)))) (pa_cons (pe_call GX r4 (by rfl) O.ctx.g O.ctx.F.kp O.ctx.b .nil pass0 (pa_cons (pv 2) (pa_cons (pv 3) (pa_cons pe_int pa_nil)))) pa_nil)) (by rfl))
          (pss_cons (ps_if (PW.pt (pw_or (pt_not (pt_val (pe_callG G1.ok r8 gd (by rfl) G1.g G1.kp G1.b pass0 (pa_cons (pv 2) (pa_cons (pv 9) (pa_cons (pv 5) (pa_cons (pv 6) pa_nil))))))) (pw_or1 (pt_not (pt_val (pe_callG G2.ok r8 gd (by rfl) G2.g G2.kp G2.b pass0 (pa_cons (pv 2) (pa_cons (pv 9) (pa_cons (pv 5) (pa_cons (pv 6) pa_nil)))))))))) (pss_one ps_never) pss_nil)
          (pss_one (ps_if (pt_not (pt_val (pe_callG G3.ok r10 gd (by rfl) G3.g G3.kp G3.b pass0 (pa_cons (pv 2) (pa_cons (pv 9) pa_nil))))) (pss_one ps_never) pss_nil))))))))))
      (pss_cons (ps_asg (pe_tup (pa_cons (pe_make I.mkC GI r4 (by rfl) I.g I.b .nil pass0 (pa_cons (pe_disp (pps_cons pe_str pe_int (pps_cons pe_str pe_int (pps_cons pe_str pe_int pps_nil))) (by rfl) (by rfl) (fun z => by cases z) (by decide)) pa_nil)) (pa_cons (pe_op Tx.op_catY (pe_op op_repB (pe_tup (pa_cons pe_str pa_nil)) pe_int) (Tx.pe_tupX (pa_cons pe_str pa_nil))) pa_nil)))
          (pg_tup rfl (pgs_cons (pg_name (i := 9) scLaw.nd rfl (.inr rfl)) (pgs_cons (pg_name (i := 8) scLaw.nd rfl (.inr rfl)) pgs_nil))))
      (pss_cons (ps_set (i := 7) scLaw.nd rfl (.inl rfl) (pe_lst (pa_cons (pe_word T Wd (Ds := [ll_1 C CT]) (all_cons (tl_1 M gS IT T NXh) all_nil) (caps_all rfl rfl (all_cons cl_1 all_nil)) r7 gd (pa_cons (pe_lam (T := Tt) (l := (ll_1 C CT).l) TB rfl (by rfl) hmT huT lsl_1) pa_nil) (by rfl)) pa_nil)))
      (pss_cons (ps_expr (pe_bm PySem.F.plainAttrs_list PySem.F.slot_list_append PySem.F.type_list_append mt_append (pv 7) (pa_cons (pe_word T Wd (Ds := [ll_2 K C CT]) (all_cons (tl_2 M gS IT T NXh) all_nil) (caps_all rfl rfl (all_cons cl_2 all_nil)) r7 gd (pa_cons (pe_lam (T := Tt) (l := (ll_2 K C CT).l) TB rfl (by rfl) hmT huT lsl_2) pa_nil) (by rfl)) pa_nil)))
      (pss_cons (ps_expr (pe_bm PySem.F.plainAttrs_list PySem.F.slot_list_append PySem.F.type_list_append mt_append (pv 7) (pa_cons (pe_word T Wd (Ds := [ll_3 K C CT]) (all_cons (tl_3 M gH IT T Y) all_nil) (caps_all rfl rfl (all_cons cl_3 all_nil)) r7 gd (pa_cons (pe_lam (T := Tt) (l := (ll_3 K C CT).l) TB rfl (by rfl) hmT huT lsl_3) pa_nil) (by rfl)) pa_nil)))
      (pss_one (ps_ret (pe_cmpR (op_eqL hu) (pv 7) (pe_lst (pa_cons pe_str (pa_cons pe_str (pa_cons pe_str pa_nil)))) (nomark _)))))))), ?_⟩
    have sl := spots_le (ns.map V.int).length
    refine ⟨_, rfl, a, _, rfl, .inl hS, _, _, rfl, _, _, rfl, _, rfl, by show -(2 ^ 62) ≤ spots _; omega, by show spots _ < 2 ^ 62; omega, ?_⟩
    refine for_range (lo := 0) (n := (spots (ns.map V.int).length).toNat) (fun i σ G => ∃ v1 v2 v3 v4 v5 v6 v9 : Option V, σ = [some (.ref a), v1, v2, v3, v4, v5, v6, none, none, v9] ∧ ExtN H G ∧ Tabs Tt G)
      ⟨none, none, none, none, none, none, none, rfl, ExtN.refl H, tb0⟩ ?_ ?_
    · rintro i σ G0 hi ⟨v1, v2, v3, v4, v5, v6, v9, rfl, s0, tb⟩
      have hi' : i < 64 := by omega
      refine ⟨_, rfl, _, rfl, a, ns, i, by simp, SqL.extN hS s0, hi', fun d H1 nd s1 di => ?_⟩
      refine ⟨_, rfl, d, 0, rfl, di, by decide, fun ad l0 H2 nad nad0 kk2 had ars di2 => ?_⟩
      refine ⟨_, rfl, fun o dx no ndx ne => ?_⟩
      refine mkOpsX no ndx ne had ars.ok fun l H3 s3 pm ox => ?_
      have arf := ars.few
      have few0 : l0.length ≤ 8 := by omega
      have few : l.length ≤ 8 := by rw [pm.length_eq]; exact few0
      have nol : hole ∉ l.map (·.1) := fun m => ars.noH ((pm.map _).mem_iff.mp m)
      have ndl : (l.map (·.1)).Nodup := (pm.map _).nodup_iff.mpr ars.nd
      have twol : ∀ p ∈ l, p.2 ≤ 2 := fun p m => ars.two p (pm.mem_iff.mp m)
      obtain ⟨tc, n0, n1, n2, cs0, ntc, ca0⟩ := ox.cnt few0
      obtain ⟨ds2, hd2⟩ := di2.there
      have ntd : tc ≠ d := (ne_of_none hd2 ntc).symm
      have s02 : Same G0 H2 := Kp.over nd s1 kk2
      have s03 := s02.trans s3
      have e3 : ExtN H H3 := ExtN.trans s0 (ExtN.same s03)
      have nbd : NoTb H d := NoTb.of s0 nd
      have nbt : NoTb H tc := NoTb.of (ExtN.trans s0 (ExtN.same s02)) ntc
      have di3 := di2.same s3
      have had3 := s3 _ _ had
      have tb3 : Tabs Tt H3 := tb.ext s03
      obtain ⟨ds3, hd3⟩ := di3.there
      have op3 : OpsAt (Hm d H3) C o l := by
        obtain ⟨dx, tn, ta, tl, e1, e2, e4⟩ := ox.ops.ex
        have ne2 : ∀ {x : Addr} {u : HO}, H3 x = some u → (∀ xs, u ≠ .lst xs) → Hm d H3 x = some u := fun e n => Hm.of e (fun z => by
          rw [z, hd3] at e
          exact n _ (Option.some.inj e).symm)
        refine ⟨dx, tn, ta, tl, ne2 e1 (fun _ z => nomatch z), ?_, ne2 e4 (fun _ z => nomatch z)⟩
        rcases e2 with e2 | ⟨ob, e2⟩
        · exact .inl (ne2 e2 (fun _ z => nomatch z))
        · exact .inr ⟨ob, ne2 e2 (fun _ z => nomatch z)⟩
      have ca3 := ca0.hm hd3 ntd
      clear ox ca0
      refine ⟨4, rfl, by decide, by decide, for_range (lo := 0) (n := (4 : Int).toNat) (fun j σ G => ∃ w4 w5 w6 : Option V, σ = [some (.ref a), some (.int (0 + (i : Int))), some (.ref d), some (.ref ad), w4, w5, w6, none, none, some (.ref o)] ∧ ExtN H G ∧ Tabs Tt G ∧ OpsAt (Hm d G) C o l ∧ G ad = some (.dK (dkv l0)) ∧ Dice G d (40 + 150 * j) ∧ ∃ cs, CntAt (Hm d G) C o tc n0 n1 n2 cs)
        ⟨v4, v5, v6, rfl, e3, tb3, op3, had3, di3, cs0, ca3⟩ ?_ ?_⟩
      · rintro j σ G hj ⟨w4, w5, w6, rfl, eG, tbG, opG, hadG, diG, cs, caG⟩
        have hj' : j < 4 := hj
        obtain ⟨dsG, hdG⟩ := diG.there
        refine ⟨_, rfl, _, rfl, d, ad, 6, _, l0, rfl, nad, hadG, ars, by decide, by decide, diG, by omega, fun t zs G1 ntd1 nt1 k1 ht fo lz di1 => ?_⟩
        obtain ⟨dsA, hdA⟩ := di1.there
        refine ⟨_, rfl, _, rfl, d, ad, 6, _, l0, rfl, nad, k1 _ _ nad hadG, ars, ars.noH, by decide, by decide, di1, by omega, fun c cx G2 ncd k2 wp ic lc di2 => ?_⟩
        have k12 := k1.trans k2
        have tb2 := Tabs.kp tbG hdG k12
        have had2 := k12 _ _ nad hadG
        have op2 := opG.same k12.hm
        have ca2 := caG.same k12.hm
        have sc2 : Sc8 G2 C d o t c l zs cx.1 cx.2 := ⟨op2, ndl, nol, few, twol, TX.hm (Wp.kp ht k2 ntd1) ntd1, fo.perm pm, by omega, TX.hm wp ncd, ic.perm pm, by omega⟩
        obtain ⟨dsB, hdB⟩ := di2.there
        refine ⟨_, _, rfl, ?_⟩
        refine ⟨_, rfl, _, rfl, _, rfl, _, rfl, d, o, t, c, l, zs, cx.1, cx.2, _, rfl, sc2, tb2, di2, by omega, fun G3 k3 tb3 di3 => ⟨_, rfl, if_false_of rfl ?_⟩⟩
        refine ⟨_, rfl, _, rfl, _, rfl, _, rfl, d, o, t, c, l, zs, cx.1, cx.2, _, rfl, sc2.extN k3.hm, tb3, di3, by omega, fun G4 k4 tb4 di4 => ⟨_, rfl, if_false_of rfl ?_⟩⟩
        have k24 := k3.trans k4
        have op4 := op2.extN k24.hm
        have ca4 := ca2.extN k24.hm
        have had4 := k24 _ _ nad had2 (fun _ z => nomatch z)
        refine ⟨_, rfl, _, rfl, d, o, tc, n0, n1, n2, cs, _, rfl, ntd, ca4, tb4, di4, by omega, fun G5 cs5 k5 ca5 tb5 di5 => ⟨_, rfl, if_false_of rfl ?_⟩⟩
        have ht4 := (Hm.some_of ca4.li).1
        refine ⟨_, _, _, rfl, KN.overT (P := P2 d tc) eG (fun b z => by rcases z with z | z <;> rw [z] <;> assumption) (((KN.kp k12 (.inl rfl)).trans (k24.imp fun b z => .inl z)).trans k5), tb5, op4.kn ht4 k5, k5 _ _ (fun z => ?_) had4 (fun _ z => nomatch z), di5.more (by omega) (by omega), cs5, ca5⟩
        rcases z with z | z
        · exact nad z
        · rw [z, ht4] at had4
          cases had4
      · rintro σ G ⟨w4, w5, w6, rfl, eG, tbG, _⟩
        exact ⟨_, _, _, _, _, _, _, rfl, eG, tbG⟩
    · rintro σ G ⟨v1, v2, v3, v4, v5, v6, v9, rfl, eG, tb⟩
      refine fun p np => ⟨upd_same, dkv l3, rfl, by decide, fun o dx no ndx ne => ?_⟩
      refine mkOpsX no ndx ne (by rw [upd_same]; exact congrArg (fun z => some (HO.dK z)) (merge_all l3_nd)) l3_ok fun l H2 s2 pm ox => ?_
      have few : l.length ≤ 8 := by rw [pm.length_eq]; decide
      have nol : hole ∉ l.map (·.1) := fun m => l3_no ((pm.map _).mem_iff.mp m)
      have ndl : (l.map (·.1)).Nodup := (pm.map _).nodup_iff.mpr l3_nd
      have twol : ∀ p ∈ l, p.2 ≤ 2 := fun p m => l3_ok.two p (pm.mem_iff.mp m)
      have mu : (("s" : Str), 1) ∈ l := pm.mem_iff.mpr (by decide +kernel)
      have mv : (("c" : Str), 0) ∈ l := pm.mem_iff.mpr (by decide +kernel)
      have nm2 : NumAt H2 C o l := ox.num (by decide)
      have sG2 : Same G H2 := fun b u e => s2 b u (by rw [upd_ne (ne_of_none e np), upd_ne (ne_of_none e np)]; exact e)
      clear ox
      refine run_read (u := "s") (z := "c") (n := 200) (by decide) (by decide) fun t H3 s3 wt => ?_
      refine ⟨by show 2 ≤ sizeLine; decide, fun p2 np2 => ?_⟩
      refine ⟨p2, _, rfl, SqT.of upd_same, rfl, _, _, rfl, _, _, rfl, rfl, ?_⟩
      have s4 := s3.trans (Same.new np2 (o := .tup [.ref o, .ref t]))
      have wt4 := wt.same (Same.new np2 (o := .tup [.ref o, .ref t]))
      have tb4 := tb.ext (sG2.trans s4)
      have nm4 := nm2.extN (ExtN.same s4)
      generalize upd H3 p2 (.tup [.ref o, .ref t]) = H4 at s4 wt4 tb4 nm4 ⊢
      clear s4 nm2 sG2 wt
      have lz : (List.replicate 200 ("s" : Str) ++ [("c" : Str)]).length = 201 := by rw [List.length_append, List.length_replicate]; rfl
      -- too long
      refine ⟨tb4, fun g1 c1 H5 b1 => ⟨_, rfl, _, List.mem_singleton_self _, g1, c1, rfl, b1.at_, b1.code, ?_⟩⟩
      have nm5 := nm4.extN b1.ext
      have wt5 := wt4.extN b1.ext
      refine tw_l1 (l := l) ⟨nm5.ops, wt5.ws, ndl, fo_run mu mv 200, by rw [lz]; decide, twol⟩ (by rw [lz]; decide) fun H6 s6 => ?_
      refine ⟨by show 1 ≤ sizeLine; decide, fun L nL => ?_⟩
      have s7 := s6.trans (Same.new nL (o := .lst [V.str "tree"]))
      have hL7 : (upd H6 L (.lst [V.str "tree"])) L = some (.lst [V.str "tree"]) := upd_same
      have nm7 := nm5.extN (ExtN.same s7)
      have wt7 := wt5.same s7
      have tb7 := b1.tabs.ext s7
      generalize upd H6 L (.lst [V.str "tree"]) = H7 at s7 hL7 nm7 wt7 tb7 ⊢
      clear nm5 wt5 b1 s7 nL s6 nm4 wt4 tb4
      -- just short enough
      refine ⟨_, rfl, .inl ⟨rfl, _, SqL.of hL7⟩, tb7, fun g2 c2 H8 b2 => ⟨_, rfl, _, List.mem_singleton_self _, g2, c2, rfl, b2.at_, b2.code, ?_⟩⟩
      have nm8 := nm7.extN b2.ext
      have hL8 := b2.ext _ _ hL7 (fun _ z => nomatch z)
      refine tw_l2 (l := l) (u := "s") (v := "c") (n := 199) nm8 ndl twol mu mv (by decide) (wt7.extN b2.ext) fun H9 H10 s9 k10 op10 => ?_
      obtain ⟨dx8, tn8, ta8, tl8, ho8, _⟩ := nm8.ops.ex
      have Lo : L ≠ o := fun e => by
        rw [e, ho8] at hL8
        cases hL8
      have hL10 := k10 _ _ Lo (s9 _ _ hL8)
      have tb10 := Tabs.kpI (b2.tabs.ext s9) (s9 _ _ ho8) k10
      refine ⟨L, _, _, rfl, rfl, hL10, by show 1 < sizeLine; decide, ?_⟩
      have k11 : Kp L H10 (upd H10 L (.lst ([V.str "tree"] ++ [V.str "fine"]))) := Kp.upd
      have hL11 : (upd H10 L (.lst ([V.str "tree"] ++ [V.str "fine"]))) L = some (.lst ([V.str "tree"] ++ [V.str "fine"])) := upd_same
      have tb11 := Tabs.kp tb10 hL10 k11
      have op11 : OpsAt (upd H10 L (.lst ([V.str "tree"] ++ [V.str "fine"]))) C o l := by
        obtain ⟨dx, tn, ta, tl, e1, e2, e3⟩ := op10.ex
        have up : ∀ {x : Addr} {u : HO}, H10 x = some u → (∀ xs, u ≠ .lst xs) → (upd H10 L (.lst ([V.str "tree"] ++ [V.str "fine"]))) x = some u := fun {x u} e n => k11 x u (fun z => by
          rw [z, hL10] at e
          exact n _ (Option.some.inj e).symm) e
        refine ⟨dx, tn, ta, tl, up e1 (fun _ z => nomatch z), ?_, up e3 (fun _ z => nomatch z)⟩
        rcases e2 with e2 | ⟨ob, e2⟩
        · exact .inl (up e2 (fun _ z => nomatch z))
        · exact .inr ⟨ob, up e2 (fun _ z => nomatch z)⟩
      generalize upd H10 L (.lst ([V.str "tree"] ++ [V.str "fine"])) = H11 at hL11 tb11 op11 ⊢
      clear k11 tb10 hL10 k10 s9 b2 hL8 op10
      -- a filling that ends in no tree
      refine ⟨_, rfl, .inl ⟨rfl, _, SqL.of hL11⟩, tb11, fun g3 c3 H12 b3 => ⟨_, rfl, _, List.mem_singleton_self _, g3, c3, rfl, b3.at_, b3.code, ?_⟩⟩
      refine tw_l3 (op11.extN b3.ext) nol few fun H13 s13 => ?_
      have hL13 := s13 _ _ (b3.ext _ _ hL11 (fun _ z => nomatch z))
      refine ⟨L, _, _, rfl, rfl, hL13, by show 2 < sizeLine; decide, ?_⟩
      refine ⟨_, rfl, by show 3 ≤ sizeLine; decide, fun r nr => ⟨L, r, _, _, rfl, rfl, SqL.of ((Same.new nr) _ _ upd_same), SqL.of upd_same, .inr ⟨rfl, fun v m => ?_, q _⟩⟩⟩
      rcases List.mem_cons.mp m with z | m
      · rw [z]
        exact ⟨"str", .str _⟩
      · rcases List.mem_cons.mp m with z | m
        · rw [z]
          exact ⟨"str", .str _⟩
        · rw [List.mem_singleton.mp m]
          exact ⟨"str", .str _⟩
end
end Pr
/-! ### the law's call where it makes lambdas: tables of code objects beside the script, and no repr under way -/
namespace Gd
open PySem PySem.Spec PyProof.Rows L2 LamX
/-- empty tables at ts, and the script -/
def mixH (K : PySem.W.Frag) (a : Addr) (o : Obj) (xs : List V) (ts : List Addr) : Hp := fun b => if b ∈ ts then some (.tbl #[]) else scriptH K a o xs b
theorem mixH_some {K : PySem.W.Frag} {a b : Addr} {o : Obj} {xs : List V} {ts : List Addr} {u : HO} (h : mixH K a o xs ts b = some u) : (b ∈ ts ∧ u = .tbl #[]) ∨ (b ∉ ts ∧ b = a ∧ K.lookup a = none ∧ u = .frz o (.lst xs)) := by
  unfold mixH at h
  by_cases m : b ∈ ts
  · rw [if_pos m] at h
    exact .inl ⟨m, (Option.some.inj h).symm⟩
  · rw [if_neg m] at h
    exact .inr ⟨m, scriptH_some h⟩
abbrev tabO : Obj := { cls := .none, data := .fields #[] }
/-- the end of it: what the promise left is what is asked -/
theorem back_of {w : World} {P : Program} {K : PySem.W.Frag} {a : Addr} {O : Obj} {xs : List V} {ts : List Addr} {s s' : Shared} {H' : Hp} (isT : ∀ b ∈ ts, s.heap.get? b = some tabO) (cod : ∀ b ∈ ts, isCodeTable s.heap b)
    (hok : HOk P w (mixH K a O xs ts) s.heap) (hok' : HOk P w H' s'.heap) (un : Un [] [] (mixH K a O xs ts) H' s.heap s'.heap) : OldK s.heap s'.heap := by
  have key : ∀ b o, b ∉ ts → s.heap.get? b = some o → s'.heap.get? b = some o := fun b o nb e => by
    cases q : mixH K a O xs ts b with
    | none => exact un.keep b o e q (fun z => absurd z (by simp)) (by simp)
    | some u =>
      rcases mixH_some q with ⟨z, _⟩ | ⟨_, _, _, eu⟩
      · exact absurd z nb
      · rw [eu] at q
        have e1 := (hok b _ q).1
        have e2 := (hok' b _ (un.frzs b O _ q)).1
        rw [e] at e1
        cases e1
        exact e2
  have grown : ∀ b ∈ ts, ∃ more : Array Value, s'.heap.get? b = some { cls := .none, data := .fields more } := fun b hb => by
    obtain ⟨more, z⟩ := un.tbls b #[] (if_pos hb)
    exact ⟨_, hok' b _ z⟩
  refine ⟨fun b o e => ?_, fun b o e => ?_⟩
  · by_cases hb : b ∈ ts
    · obtain ⟨more, hm⟩ := grown b hb
      rw [isT b hb] at e
      cases e
      exact .inr (.inl ⟨cod b hb, rfl, #[], more, rfl, by rw [Array.empty_append]; exact hm⟩)
    · exact .inl (key b o hb e)
  · by_cases hb : b ∈ ts
    · exact ⟨_, (grown b hb).choose_spec⟩
    · exact ⟨o, key b o hb e⟩
/-- the law's own call, from a promise that is kept where nothing is being shown and the tables are empty -/
theorem law_callTG {P : Program} {w : World} {K : PySem.W.Frag} {mg mb : Str → Option Value} {CX : CXT} {k : Nat} {fa a : Addr} {cs : List (Addr × Addr)} {fd : FuncData} {x : Str} {sp : Sp} {s : Shared} {vs : List Value} {ns : List Int}
    (KX : K.In s.heap) (hns : s.heap.Ns mainGlobals mg) (hb : s.heap.Ns builtinsNs mb) (hbb : ∀ x : Str, x ≠ "__name__" → mb x = bootBuiltins x) (hlim : s.heap.NoLimit) (hg : s.gens = #[])
    (hT : ∀ p ∈ cs, s.heap.get? p.2 = some tabO) (nT : ∀ p ∈ cs, K.lookup p.2 = none) (hC : ∀ p ∈ cs, PySem.W.CodeHd s.heap p.1 p.2)
    (hbm : ∃ (bm : Addr) (ob : Obj), mg "__builtins__" = some (.ref bm) ∧ bm ≠ builtinsNs ∧ s.heap.get? bm = some ob ∧ ob.cls = .type "module" ∧ ob.dict = some builtinsNs ∧ ob.data = .plain)
    (ha : s.heap.get? a = some { cls := .type "list", data := .seq vs.toArray }) (hi : IntsAre vs ns) (hl : ns.length ≤ sizeLine) (hr : Room k callerA)
    (F : ∀ base : Heap, K.In base → base.Ns mainGlobals mg → (∀ p ∈ cs, TabB base mg p.1 p.2) → FnG P w K mg base CX k fa fd [x] sp) (hbind : ∀ (s : Shared) (u : Value), BindsTo s fd ⟨[u], []⟩ [(x, u)])
    (hsp : ∀ H : Hp, (∀ p ∈ cs, H p.2 = some (.tbl #[])) → SqL K H a (ns.map V.int) → sp [.ref a] H (fun v _ => v = .bl true) fun _ _ _ => False)
    (hCX : ∀ H e s', CX [] H s (fun _ _ _ => False) e s' → False) :
    codeAny (model P w) callerA (.call (.ref fa) ⟨[.ref a], []⟩) (fun r s' => r = .ok (.ret (.bool true)) ∧ OldK s.heap s'.heap ∧ s'.os = s.os ∧ AllBare s'.gens) s := by
  have rv := vals_ints hi
  have lenV := hi.length
  let O : Obj := { cls := .type "list", data := .seq vs.toArray }
  let ts := cs.map (·.2)
  let H : Hp := mixH K a O (ns.map V.int) ts
  have isT : ∀ b ∈ ts, s.heap.get? b = some tabO := fun b m => by
    obtain ⟨p, hp, rfl⟩ := List.mem_map.mp m
    exact hT p hp
  have aT : a ∉ ts := fun m => by
    have z := isT a m
    rw [ha] at z
    cases (congrArg Obj.data (Option.some.inj z) : Data.seq vs.toArray _ = Data.fields #[])
  have hS : SqL K H a (ns.map V.int) := by
    cases hk : K.lookup a with
    | none => exact .inl (.inr ⟨O, (if_neg aT).trans (if_pos ⟨rfl, hk⟩)⟩)
    | some o =>
      have e := KX a o hk
      rw [ha] at e
      cases e
      exact .inr ⟨_, vs.toArray, _, hk, rfl, rfl, rfl, by rw [List.size_toArray, lenV]; exact hl, by simpa using rv⟩
  have hok : HOk P w H s.heap := fun b u q => by
    rcases mixH_some q with ⟨m, rfl⟩ | ⟨_, rfl, _, rfl⟩
    · exact isT b m
    · exact ⟨ha, by rw [List.length_map]; exact hl, vs, _, rv, ha⟩
  -- what is neither a list nor a table is not tracked
  have free : ∀ {b : Addr} {o : Obj}, s.heap.get? b = some o → (∀ vs n, o.data ≠ .seq vs n) → o.data ≠ .fields #[] → H b = none := fun {b o} e h1 h2 => by
    cases q : H b with
    | none => rfl
    | some u =>
      rcases mixH_some q with ⟨m, _⟩ | ⟨_, rfl, _⟩
      · rw [isT b m] at e
        cases e
        exact (h2 rfl).elim
      · rw [ha] at e
        cases e
        exact (h1 _ _ rfl).elim
  have nsK : ∀ {b : Addr} {m : Str → Option Value}, s.heap.Ns b m → (hidT s.heap H).Ns b m := fun {b m} ⟨o, es, ep, e, d, r⟩ => ⟨o, es, ep, hidT_get e (free e (fun _ _ z => by rw [d] at z; cases z) (fun z => by rw [d] at z; cases z)), d, r⟩
  have inK : K.In (hidT s.heap H) := fun b o e => hidT_get (KX b o e) (by
    cases q : H b with
    | none => rfl
    | some u =>
      rcases mixH_some q with ⟨m, _⟩ | ⟨_, rfl, n, _⟩
      · obtain ⟨p, hp, rfl⟩ := List.mem_map.mp m
        rw [nT p hp] at e
        cases e
      · rw [n] at e
        cases e)
  have tabB : ∀ p ∈ cs, TabB (hidT s.heap H) mg p.1 p.2 := fun p hp => by
    have hTp := hT p hp
    refine ⟨?_, ?_, fun z => ?_⟩
    · obtain ⟨o, us, file, tf, flags, tg, inF, text, tt, e1, r1, r2, r3, r⟩ := hC p hp
      exact ⟨o, us, file, tf, flags, tg, inF, text, tt, hidT_get e1 (free e1 (fun _ _ z => by rw [r2] at z; cases z) (fun z => by rw [r2] at z; cases z; simp at r3)), r1, r2, r3, r⟩
    · obtain ⟨bm, ob, b1, b2, b3, b4, b5, b6⟩ := hbm
      refine ⟨bm, ob, b1, b2, fun z => ?_, fun z => ?_, hidT_get b3 (free b3 (fun _ _ z => by rw [b6] at z; cases z) (fun z => by rw [b6] at z; cases z)), b4, b5, b6⟩
      · obtain ⟨o, es, ep, e, d, _⟩ := hns
        rw [z, e] at b3
        cases b3
        rw [d] at b6
        cases b6
      · rw [z, hTp] at b3
        cases b3
        cases b6
    · obtain ⟨o, es, ep, e, d, _⟩ := hns
      rw [z, hTp] at e
      cases e
      cases d
  obtain ⟨mc, l1, l2⟩ := hlim
  have env : Env0 P w K mg (hidT s.heap H) callerA [] s H :=
    ⟨rfl, ⟨inK, nsK hns, ⟨mb, nsK hb, hbb⟩, ⟨mc, nsK l1, l2⟩⟩, fun b o e => of_hidT e, Nat.le_of_eq (hidT_size _ _), trivial, fun b m => absurd (show b ∈ ([] : List Addr) from m) (by simp), hok, .of_eq hg⟩
  refine codeAny_mono ((F _ inK (nsK hns) tabB).run callerA [] s H ⟨[.ref a], []⟩ [.ref a] [.ref a] _ _ hr rfl env (hbind s (.ref a)) (.cons rfl .nil) (hsp H (fun p hp => if_pos (List.mem_map.mpr ⟨p, hp, rfl⟩)) hS)) fun r s' h => ?_
  match r, h with
  | .error e, h => exact (hCX H e s' h).elim
  | .ok .next, h => exact False.elim h
  | .ok .brk, h => exact False.elim h
  | .ok .cont, h => exact False.elim h
  | .ok (.ret u), h =>
    obtain ⟨v, H', os, bare, un, hok', r', q⟩ := h
    obtain rfl : v = .bl true := q
    obtain rfl : u = Value.bool true := r'
    refine ⟨rfl, back_of isT (fun b m => ?_) hok hok' un, os, bare⟩
    obtain ⟨p, hp, rfl⟩ := List.mem_map.mp m
    exact ((hC p hp).tab (hT p hp)).isCodeTable
/-- what is known of the law at the head's heap -/
def LawTG (l : PySem.W.OpenLaw) (w : World) (K : PySem.W.Frag) (CX : CXT) (k n : Nat) (x : Str) (mg : Str → Option Value) (fa : Addr) (h : Heap) : Prop :=
  ∃ (fd : FuncData) (cs : List (Addr × Addr)) (sp : Sp), (∀ p ∈ cs, h.get? p.2 = some tabO ∧ K.lookup p.2 = none ∧ PySem.W.CodeHd h p.1 p.2) ∧ (∀ (s : Shared) (u : Value), BindsTo s fd ⟨[u], []⟩ [(x, u)]) ∧
    (∀ (H : Hp) (a : Addr) (ns : List Int), ns.length ≤ n → (∀ p ∈ cs, H p.2 = some (.tbl #[])) → SqL K H a (ns.map V.int) → sp [.ref a] H (fun v _ => v = .bl true) fun _ _ _ => False) ∧
    ∀ base : Heap, K.In base → base.Ns mainGlobals mg → (∀ p ∈ cs, TabB base mg p.1 p.2) → FnG l.prog w K mg base CX k fa fd [x] sp
theorem walk_ofTG {l : PySem.W.OpenLaw} {n k : Nat} {q : Program} {loose : List Str} {XP : (Str → Option Value) → Heap → Prop} {YP : World → Heap → Prop} {d : DefRec} {K : Params → PySem.W.Frag} {CX : World → CXT} {x : Str}
    (hn : l.most = some n) (hn2 : n ≤ sizeLine) (hdf : d.params.defaults = []) (hr : Room k callerA) (hY : ∀ (w : World) (h : Heap), YP w h → (K w.params).In h)
    (F : ∀ (w : World) (mg : Str → Option Value) (fa : Addr) (h : Heap), YP w h → (K w.params).In h → h.Ns mainGlobals mg → mg d.name = some (.ref fa) → LawTG l w (K w.params) (CX w) k n x mg fa h)
    (hCX : ∀ (w : World) (H : Hp) (s : Shared) (e : Value) (s' : Shared), CX w [] H s (fun _ _ _ => False) e s' → False) :
    PySem.W.WalkO q loose XP YP l.row.toRowW d [] (fun f vs => PySem.call f vs) := by
  refine Att.attach_call hn hdf fun w s₀ s₁ mg mb fa o pm cd doc a vs ns G Y ho hd hcd hmg hobj hints hlen hg => ?_
  obtain ⟨fd, cs, sp, hT, hb, hsp, hF⟩ := F w mg fa _ Y (hY w _ Y) G.T.g hmg
  exact law_callTG (hY w _ Y) G.T.g G.T.b G.T.builtins G.T.nolimit hg (fun p m => (hT p m).1) (fun p m => (hT p m).2.1) (fun p m => (hT p m).2.2) G.T.bmain hobj hints (Nat.le_trans hlen hn2) hr hF hb (fun H hH hS => hsp H a ns hlen hH hS) fun H e s' => hCX w H s₁ e s'
end Gd
namespace Pr
open PySem PySem.Spec PyProof.Rows L2 Gd LamX NdefX Clo
/-- the table that a code object names -/
def tabV (K : PySem.W.Frag) (c : Addr) : Option Value := match K.lookup c with
  | some ⟨_, _, .fields vs, _⟩ => vs[11]?
  | _ => none
theorem tab_one {Tt : List (Addr × Str)} {ts : List Addr} {k : Nat} {t : Addr} {q : Str} (nd : ts.Nodup) (e : Tt[k]? = some (t, q)) (m : Tt.map (·.1) = ts := by rfl) : ∀ p ∈ Tt, p.1 = t → p.2 = q := fun p hp z => by
  obtain ⟨j, hj⟩ := List.mem_iff_getElem?.mp hp
  have e1 : ts[j]? = some t := by rw [← m, List.getElem?_map, hj, ← z]; rfl
  have e2 : ts[k]? = some t := by rw [← m, List.getElem?_map, e]; rfl
  obtain ⟨h1, f1⟩ := List.getElem?_eq_some_iff.mp e1
  obtain ⟨h2, f2⟩ := List.getElem?_eq_some_iff.mp e2
  have jk : j = k := (List.getElem_inj nd).mp (f1.trans f2.symm)
  rw [jk, e] at hj
  rw [← Option.some.inj hj]
theorem exm_self {K : PySem.W.Frag} {S : Addr} (h1 : PySem.W.subIn K (.ref S) (.type "BaseException") = some true) (h2 : PySem.W.isClsIn K S = true) (h3 : PySem.W.typeIn K (.ref S) = some (.type "type")) (h4 : PySem.W.subIn K (.ref S) (.ref S) = some true) :
    PySem.W.exmOne K (.ref S) (.ref S) = some true := by
  have e1 : (PySem.W.subIn K (.ref S) (.type "BaseException") == some true) = true := by rw [h1] <;> rfl
  have e2 : ((PySem.W.clsIn K S).isSome && PySem.W.typeIn K (.ref S) == some (.type "type")) = true := by
    have h2' : (PySem.W.clsIn K S).isSome = true := h2
    rw [h2', h3] <;> rfl
  show (if (PySem.W.subIn K (.ref S) (.type "BaseException") == some true) = true then (if ((PySem.W.clsIn K S).isSome && PySem.W.typeIn K (.ref S) == some (.type "type")) = true then PySem.W.subIn K (.ref S) (.ref S) else none) else none) = some true
  rw [if_pos e1, if_pos e2]
  exact h4
theorem all_mk {l : PySem.W.OpenLaw} {w : World} {K : PySem.W.Frag} {h : Heap} {mg : Str → Option Value} {fa : Addr} (X : K.In h) (G : h.Ns mainGlobals mg) (hfa : mg "law" = some (.ref fa))
    {f1 : Addr} {od1 an1 : Option Addr} {sl1 : Array (Option Value)} {oc1 kV1 dc1 pm1 cd1 ct1 : Value}
    {f2 : Addr} {od2 an2 : Option Addr} {sl2 : Array (Option Value)} {oc2 kV2 dc2 pm2 cd2 ct2 : Value}
    {f3 : Addr} {od3 an3 : Option Addr} {sl3 : Array (Option Value)} {oc3 kV3 dc3 pm3 cd3 ct3 : Value}
    {f4 : Addr} {od4 an4 : Option Addr} {sl4 : Array (Option Value)} {oc4 kV4 dc4 pm4 cd4 ct4 : Value}
    {f5 : Addr} {od5 an5 : Option Addr} {sl5 : Array (Option Value)} {oc5 kV5 dc5 pm5 cd5 ct5 : Value}
    {f6 : Addr} {od6 an6 : Option Addr} {sl6 : Array (Option Value)} {oc6 kV6 dc6 pm6 cd6 ct6 : Value}
    {f7 : Addr} {od7 an7 : Option Addr} {sl7 : Array (Option Value)} {oc7 kV7 dc7 pm7 cd7 ct7 : Value}
    {f8 : Addr} {od8 an8 : Option Addr} {sl8 : Array (Option Value)} {oc8 kV8 dc8 pm8 cd8 ct8 : Value}
    {f9 : Addr} {od9 an9 : Option Addr} {sl9 : Array (Option Value)} {oc9 kV9 dc9 pm9 cd9 ct9 : Value}
    {f10 : Addr} {od10 an10 : Option Addr} {sl10 : Array (Option Value)} {oc10 kV10 dc10 pm10 cd10 ct10 : Value}
    {f11 : Addr} {od11 an11 : Option Addr} {sl11 : Array (Option Value)} {oc11 kV11 dc11 pm11 cd11 ct11 : Value}
    {f12 : Addr} {od12 an12 : Option Addr} {sl12 : Array (Option Value)} {oc12 kV12 dc12 pm12 cd12 ct12 : Value}
    {f13 : Addr} {od13 an13 : Option Addr} {sl13 : Array (Option Value)} {oc13 kV13 dc13 pm13 cd13 ct13 : Value}
    {f14 : Addr} {od14 an14 : Option Addr} {sl14 : Array (Option Value)} {oc14 kV14 dc14 pm14 cd14 ct14 : Value}
    {f15 : Addr} {od15 an15 : Option Addr} {sl15 : Array (Option Value)} {oc15 kV15 dc15 pm15 cd15 ct15 : Value}
    {f16 : Addr} {od16 an16 : Option Addr} {sl16 : Array (Option Value)} {oc16 kV16 dc16 pm16 cd16 ct16 : Value}
    {f17 q17 t17 : Addr} {od17 an17 : Option Addr} {sl17 : Array (Option Value)} {oc17 kV17 dc17 pm17 ct17 : Value}
    {f18 q18 t18 : Addr} {od18 an18 : Option Addr} {sl18 : Array (Option Value)} {oc18 kV18 dc18 pm18 ct18 : Value}
    {f19 q19 t19 : Addr} {od19 an19 : Option Addr} {sl19 : Array (Option Value)} {oc19 kV19 dc19 pm19 ct19 : Value}
    {f20 q20 t20 : Addr} {od20 an20 : Option Addr} {sl20 : Array (Option Value)} {oc20 kV20 dc20 pm20 ct20 : Value}
    {C : Addr}
    {f21 : Addr} {od21 an21 : Option Addr} {sl21 : Array (Option Value)} {oc21 kV21 dc21 pm21 cd21 ct21 : Value}
    {f22 : Addr} {od22 an22 : Option Addr} {sl22 : Array (Option Value)} {oc22 kV22 dc22 pm22 cd22 ct22 : Value}
    {f23 : Addr} {od23 an23 : Option Addr} {sl23 : Array (Option Value)} {oc23 kV23 dc23 pm23 cd23 ct23 : Value}
    {f24 : Addr} {od24 an24 : Option Addr} {sl24 : Array (Option Value)} {oc24 kV24 dc24 pm24 cd24 ct24 : Value}
    {f25 : Addr} {od25 an25 : Option Addr} {sl25 : Array (Option Value)} {oc25 kV25 dc25 pm25 cd25 ct25 : Value}
    {f26 : Addr} {od26 an26 : Option Addr} {sl26 : Array (Option Value)} {oc26 kV26 dc26 pm26 cd26 ct26 : Value}
    {f27 : Addr} {od27 an27 : Option Addr} {sl27 : Array (Option Value)} {oc27 kV27 dc27 pm27 cd27 ct27 : Value}
    {f28 : Addr} {od28 an28 : Option Addr} {sl28 : Array (Option Value)} {oc28 kV28 dc28 pm28 cd28 ct28 : Value}
    {f29 : Addr} {od29 an29 : Option Addr} {sl29 : Array (Option Value)} {oc29 kV29 dc29 pm29 cd29 ct29 : Value}
    {f30 : Addr} {od30 an30 : Option Addr} {sl30 : Array (Option Value)} {oc30 kV30 dc30 pm30 cd30 ct30 : Value}
    {f31 : Addr} {od31 an31 : Option Addr} {sl31 : Array (Option Value)} {oc31 kV31 dc31 pm31 cd31 ct31 : Value}
    {f32 : Addr} {od32 an32 : Option Addr} {sl32 : Array (Option Value)} {oc32 kV32 dc32 pm32 cd32 ct32 : Value}
    {f33 : Addr} {od33 an33 : Option Addr} {sl33 : Array (Option Value)} {oc33 kV33 dc33 pm33 cd33 ct33 : Value}
    {f34 : Addr} {od34 an34 : Option Addr} {sl34 : Array (Option Value)} {oc34 kV34 dc34 pm34 cd34 ct34 : Value}
    {f35 : Addr} {od35 an35 : Option Addr} {sl35 : Array (Option Value)} {oc35 kV35 dc35 pm35 cd35 ct35 : Value}
    {f36 : Addr} {od36 an36 : Option Addr} {sl36 : Array (Option Value)} {oc36 kV36 dc36 pm36 cd36 ct36 : Value}
    {f37 : Addr} {od37 an37 : Option Addr} {sl37 : Array (Option Value)} {oc37 kV37 dc37 pm37 cd37 ct37 : Value}
    {f38 : Addr} {od38 an38 : Option Addr} {sl38 : Array (Option Value)} {oc38 kV38 dc38 pm38 cd38 ct38 : Value}
    {f39 : Addr} {od39 an39 : Option Addr} {sl39 : Array (Option Value)} {oc39 kV39 dc39 pm39 cd39 ct39 : Value}
    {f40 : Addr} {od40 an40 : Option Addr} {sl40 : Array (Option Value)} {oc40 kV40 dc40 pm40 cd40 ct40 : Value}
    {f41 : Addr} {od41 an41 : Option Addr} {sl41 : Array (Option Value)} {oc41 kV41 dc41 pm41 cd41 ct41 : Value}
    {f42 : Addr} {od42 an42 : Option Addr} {sl42 : Array (Option Value)} {oc42 kV42 dc42 pm42 cd42 ct42 : Value}
    {f43 : Addr} {od43 an43 : Option Addr} {sl43 : Array (Option Value)} {oc43 kV43 dc43 pm43 cd43 ct43 : Value}
    {tk_MAX_TREE : Tok}
    {tk_MAX_OPERATORS : Tok}
    {tk_MAX_LETTERS : Tok}
    {tk_MAX_SIZE : Tok}
    {tk_HOLE : Tok}
    {CT : Addr}
    {C1 e1 : Addr} {xn1 xq1 : Str} {xN1 : Addr} {xb1 : List Value} {xs1 : List Str} {xu1 : List Value} {xa1 : Bool} {xc1 : Option Bool} {xd1 : Option Addr} {mq10 mq11 mq12 mq13 mq15 : Option Value} {xod1 xan1 : Option Addr} {xsl1 : Array (Option Value)} {xoc1 xdc1 xpm1 xcd1 xct1 : Value}
    {C2 e2 : Addr} {xn2 xq2 : Str} {xN2 : Addr} {xb2 : List Value} {xs2 : List Str} {xu2 : List Value} {xa2 : Bool} {xc2 : Option Bool} {xd2 : Option Addr} {mq20 mq21 mq22 mq23 mq25 : Option Value} {xod2 xan2 : Option Addr} {xsl2 : Array (Option Value)} {xoc2 xdc2 xpm2 xcd2 xct2 : Value}
    (a1 : PySem.W.nsIn K mainGlobals "is_integer" = some (some (.ref f1)))
    (l1 : K.lookup f1 = some ⟨oc1, od1, .func (PySem.W.fnOf "is_integer" "is_integer" (defArgs sInteger) (defBody sInteger) (defScope sInteger) .none kV1 dc1 pm1 an1 cd1 ct1), sl1⟩)
    (c1 : PySem.W.codeIn K cd1 "is_integer" = true)
    (k1 : PySem.W.keepIn K (.ref f1) = true)
    (a2 : PySem.W.nsIn K mainGlobals "is_count" = some (some (.ref f2)))
    (l2 : K.lookup f2 = some ⟨oc2, od2, .func (PySem.W.fnOf "is_count" "is_count" (defArgs sCount) (defBody sCount) (defScope sCount) .none kV2 dc2 pm2 an2 cd2 ct2), sl2⟩)
    (c2 : PySem.W.codeIn K cd2 "is_count" = true)
    (k2 : PySem.W.keepIn K (.ref f2) = true)
    (a3 : PySem.W.nsIn K mainGlobals "is_name" = some (some (.ref f3)))
    (l3 : K.lookup f3 = some ⟨oc3, od3, .func (PySem.W.fnOf "is_name" "is_name" (defArgs sName) (defBody sName) (defScope sName) .none kV3 dc3 pm3 an3 cd3 ct3), sl3⟩)
    (c3 : PySem.W.codeIn K cd3 "is_name" = true)
    (k3 : PySem.W.keepIn K (.ref f3) = true)
    (a4 : PySem.W.nsIn K mainGlobals "are_arities" = some (some (.ref f4)))
    (l4 : K.lookup f4 = some ⟨oc4, od4, .func (PySem.W.fnOf "are_arities" "are_arities" (defArgs sAre) (defBody sAre) (defScope sAre) .none kV4 dc4 pm4 an4 cd4 ct4), sl4⟩)
    (c4 : PySem.W.codeIn K cd4 "are_arities" = true)
    (k4 : PySem.W.keepIn K (.ref f4) = true)
    (a5 : PySem.W.nsIn K mainGlobals "is_whole" = some (some (.ref f5)))
    (l5 : K.lookup f5 = some ⟨oc5, od5, .func (PySem.W.fnOf "is_whole" "is_whole" (defArgs sWhole) (defBody sWhole) (defScope sWhole) .none kV5 dc5 pm5 an5 cd5 ct5), sl5⟩)
    (c5 : PySem.W.codeIn K cd5 "is_whole" = true)
    (k5 : PySem.W.keepIn K (.ref f5) = true)
    (a6 : PySem.W.nsIn K mainGlobals "check_size" = some (some (.ref f6)))
    (l6 : K.lookup f6 = some ⟨oc6, od6, .func (PySem.W.fnOf "check_size" "check_size" (defArgs sSize) (defBody sSize) (defScope sSize) .none kV6 dc6 pm6 an6 cd6 ct6), sl6⟩)
    (c6 : PySem.W.codeIn K cd6 "check_size" = true)
    (k6 : PySem.W.keepIn K (.ref f6) = true)
    (a7 : PySem.W.nsIn K mainGlobals "_law_dice" = some (some (.ref f7)))
    (l7 : K.lookup f7 = some ⟨oc7, od7, .func (PySem.W.fnOf "_law_dice" "_law_dice" (defArgs sDice) (defBody sDice) (defScope sDice) .none kV7 dc7 pm7 an7 cd7 ct7), sl7⟩)
    (c7 : PySem.W.codeIn K cd7 "_law_dice" = true)
    (k7 : PySem.W.keepIn K (.ref f7) = true)
    (a8 : PySem.W.nsIn K mainGlobals "_law_roll" = some (some (.ref f8)))
    (l8 : K.lookup f8 = some ⟨oc8, od8, .func (PySem.W.fnOf "_law_roll" "_law_roll" (defArgs sRoll) (defBody sRoll) (defScope sRoll) .none kV8 dc8 pm8 an8 cd8 ct8), sl8⟩)
    (c8 : PySem.W.codeIn K cd8 "_law_roll" = true)
    (k8 : PySem.W.keepIn K (.ref f8) = true)
    (a9 : PySem.W.nsIn K mainGlobals "_law_pick" = some (some (.ref f9)))
    (l9 : K.lookup f9 = some ⟨oc9, od9, .func (PySem.W.fnOf "_law_pick" "_law_pick" (defArgs sPick) (defBody sPick) (defScope sPick) .none kV9 dc9 pm9 an9 cd9 ct9), sl9⟩)
    (c9 : PySem.W.codeIn K cd9 "_law_pick" = true)
    (k9 : PySem.W.keepIn K (.ref f9) = true)
    (a10 : PySem.W.nsIn K mainGlobals "_law_mixed" = some (some (.ref f10)))
    (l10 : K.lookup f10 = some ⟨oc10, od10, .func (PySem.W.fnOf "_law_mixed" "_law_mixed" (defArgs sMixed) (defBody sMixed) (defScope sMixed) .none kV10 dc10 pm10 an10 cd10 ct10), sl10⟩)
    (c10 : PySem.W.codeIn K cd10 "_law_mixed" = true)
    (k10 : PySem.W.keepIn K (.ref f10) = true)
    (a11 : PySem.W.nsIn K mainGlobals "_law_end" = some (some (.ref f11)))
    (l11 : K.lookup f11 = some ⟨oc11, od11, .func (PySem.W.fnOf "_law_end" "_law_end" (defArgs sEndL) (defBody sEndL) (defScope sEndL) .none kV11 dc11 pm11 an11 cd11 ct11), sl11⟩)
    (c11 : PySem.W.codeIn K cd11 "_law_end" = true)
    (k11 : PySem.W.keepIn K (.ref f11) = true)
    (a12 : PySem.W.nsIn K mainGlobals "_law_drawn_tree" = some (some (.ref f12)))
    (l12 : K.lookup f12 = some ⟨oc12, od12, .func (PySem.W.fnOf "_law_drawn_tree" "_law_drawn_tree" (defArgs sDrawn) (defBody sDrawn) (defScope sDrawn) .none kV12 dc12 pm12 an12 cd12 ct12), sl12⟩)
    (c12 : PySem.W.codeIn K cd12 "_law_drawn_tree" = true)
    (k12 : PySem.W.keepIn K (.ref f12) = true)
    (a13 : PySem.W.nsIn K mainGlobals "_law_odd_values" = some (some (.ref f13)))
    (l13 : K.lookup f13 = some ⟨oc13, od13, .func (PySem.W.fnOf "_law_odd_values" "_law_odd_values" (defArgs sOdd) (defBody sOdd) (defScope sOdd) .none kV13 dc13 pm13 an13 cd13 ct13), sl13⟩)
    (c13 : PySem.W.codeIn K cd13 "_law_odd_values" = true)
    (k13 : PySem.W.keepIn K (.ref f13) = true)
    (a14 : PySem.W.nsIn K mainGlobals "_law_arities" = some (some (.ref f14)))
    (l14 : K.lookup f14 = some ⟨oc14, od14, .func (PySem.W.fnOf "_law_arities" "_law_arities" (defArgs sArs) (defBody sArs) (defScope sArs) .none kV14 dc14 pm14 an14 cd14 ct14), sl14⟩)
    (c14 : PySem.W.codeIn K cd14 "_law_arities" = true)
    (k14 : PySem.W.keepIn K (.ref f14) = true)
    (a15 : PySem.W.nsIn K mainGlobals "_law_drawn_context" = some (some (.ref f15)))
    (l15 : K.lookup f15 = some ⟨oc15, od15, .func (PySem.W.fnOf "_law_drawn_context" "_law_drawn_context" (defArgs sDCtx) (defBody sDCtx) (defScope sDCtx) .none kV15 dc15 pm15 an15 cd15 ct15), sl15⟩)
    (c15 : PySem.W.codeIn K cd15 "_law_drawn_context" = true)
    (k15 : PySem.W.keepIn K (.ref f15) = true)
    (a16 : PySem.W.nsIn K mainGlobals "_law_word" = some (some (.ref f16)))
    (l16 : K.lookup f16 = some ⟨oc16, od16, .func (PySem.W.fnOf "_law_word" "_law_word" (defArgs sWord) (defBody sWord) (defScope sWord) .none kV16 dc16 pm16 an16 cd16 ct16), sl16⟩)
    (c16 : PySem.W.codeIn K cd16 "_law_word" = true)
    (k16 : PySem.W.keepIn K (.ref f16) = true)
    (a17 : PySem.W.nsIn K mainGlobals "law" = some (some (.ref f17)))
    (l17 : K.lookup f17 = some ⟨oc17, od17, .func (PySem.W.fnOf "law" "law" (defArgs sLaw) (defBody sLaw) (defScope sLaw) .none kV17 dc17 pm17 an17 (.ref q17) ct17), sl17⟩)
    (c17 : PySem.W.codeIn K (.ref q17) "law" = true)
    (k17 : PySem.W.keepIn K (.ref f17) = true)
    (u17 : tabV K q17 = some (.ref t17))
    (v17 : PySem.W.codeHdIn K q17 t17 = true)
    (w17 : K.lookup t17 = none)
    (y17 : h.get? t17 = some tabO)
    (a18 : PySem.W.nsIn K mainGlobals "_law_trees_right" = some (some (.ref f18)))
    (l18 : K.lookup f18 = some ⟨oc18, od18, .func (PySem.W.fnOf "_law_trees_right" "_law_trees_right" (defArgs sTreesR) (defBody sTreesR) (defScope sTreesR) .none kV18 dc18 pm18 an18 (.ref q18) ct18), sl18⟩)
    (c18 : PySem.W.codeIn K (.ref q18) "_law_trees_right" = true)
    (k18 : PySem.W.keepIn K (.ref f18) = true)
    (u18 : tabV K q18 = some (.ref t18))
    (v18 : PySem.W.codeHdIn K q18 t18 = true)
    (w18 : K.lookup t18 = none)
    (y18 : h.get? t18 = some tabO)
    (a19 : PySem.W.nsIn K mainGlobals "_law_fills_right" = some (some (.ref f19)))
    (l19 : K.lookup f19 = some ⟨oc19, od19, .func (PySem.W.fnOf "_law_fills_right" "_law_fills_right" (defArgs sFillsR) (defBody sFillsR) (defScope sFillsR) .none kV19 dc19 pm19 an19 (.ref q19) ct19), sl19⟩)
    (c19 : PySem.W.codeIn K (.ref q19) "_law_fills_right" = true)
    (k19 : PySem.W.keepIn K (.ref f19) = true)
    (u19 : tabV K q19 = some (.ref t19))
    (v19 : PySem.W.codeHdIn K q19 t19 = true)
    (w19 : K.lookup t19 = none)
    (y19 : h.get? t19 = some tabO)
    (a20 : PySem.W.nsIn K mainGlobals "_law_sizes_right" = some (some (.ref f20)))
    (l20 : K.lookup f20 = some ⟨oc20, od20, .func (PySem.W.fnOf "_law_sizes_right" "_law_sizes_right" (defArgs sSizesR) (defBody sSizesR) (defScope sSizesR) .none kV20 dc20 pm20 an20 (.ref q20) ct20), sl20⟩)
    (c20 : PySem.W.codeIn K (.ref q20) "_law_sizes_right" = true)
    (k20 : PySem.W.keepIn K (.ref f20) = true)
    (u20 : tabV K q20 = some (.ref t20))
    (v20 : PySem.W.codeHdIn K q20 t20 = true)
    (w20 : K.lookup t20 = none)
    (y20 : h.get? t20 = some tabO)
    (dis : [t17, t18, t19, t20].Nodup)
    (n_C : PySem.W.nsIn K mainGlobals "Operators" = some (some (.ref C)))
    (pg_C : PySem.W.plainGet K C Str.empty = true)
    (hd_C : PySem.W.hasDictIn K C = true)
    (po_C : PySem.W.plainOver K C = true)
    (sa_C : PySem.W.findIn K (.ref C) "__setattr__" = some (some (.builtin "object.__setattr__")))
    (mk_C : PySem.W.makesIn K C = true)
    (kc_C : PySem.W.keepIn K (.ref C) = true)
    (no0_C : PySem.W.findIn K (.ref C) "_names" = some none)
    (no1_C : PySem.W.findIn K (.ref C) "_arities" = some none)
    (no2_C : PySem.W.findIn K (.ref C) "_lines" = some none)
    (no3_C : PySem.W.findIn K (.ref C) "_many" = some none)
    (no4_C : PySem.W.findIn K (.ref C) "_counts" = some none)
    (no5_C : PySem.W.findIn K (.ref C) "_rows" = some none)
    (a21 : PySem.W.findIn K (.ref C) "__init__" = some (some (.ref f21)))
    (i21 : PySem.W.isFn K (.ref f21) = true)
    (l21 : K.lookup f21 = some ⟨oc21, od21, .func (PySem.W.fnOf "__init__" "Operators.__init__" (defArgs mInit) (defBody mInit) (defScope mInit) .none kV21 dc21 pm21 an21 cd21 ct21), sl21⟩)
    (c21 : PySem.W.codeIn K cd21 "Operators.__init__" = true)
    (k21 : PySem.W.keepIn K (.ref f21) = true)
    (a22 : PySem.W.findIn K (.ref C) "is_tree" = some (some (.ref f22)))
    (i22 : PySem.W.isFn K (.ref f22) = true)
    (l22 : K.lookup f22 = some ⟨oc22, od22, .func (PySem.W.fnOf "is_tree" "Operators.is_tree" (defArgs mIsTree) (defBody mIsTree) (defScope mIsTree) .none kV22 dc22 pm22 an22 cd22 ct22), sl22⟩)
    (c22 : PySem.W.codeIn K cd22 "Operators.is_tree" = true)
    (k22 : PySem.W.keepIn K (.ref f22) = true)
    (a23 : PySem.W.findIn K (.ref C) "is_context" = some (some (.ref f23)))
    (i23 : PySem.W.isFn K (.ref f23) = true)
    (l23 : K.lookup f23 = some ⟨oc23, od23, .func (PySem.W.fnOf "is_context" "Operators.is_context" (defArgs mIsCtx) (defBody mIsCtx) (defScope mIsCtx) .none kV23 dc23 pm23 an23 cd23 ct23), sl23⟩)
    (c23 : PySem.W.codeIn K cd23 "Operators.is_context" = true)
    (k23 : PySem.W.keepIn K (.ref f23) = true)
    (a24 : PySem.W.findIn K (.ref C) "end" = some (some (.ref f24)))
    (i24 : PySem.W.isFn K (.ref f24) = true)
    (l24 : K.lookup f24 = some ⟨oc24, od24, .func (PySem.W.fnOf "end" "Operators.end" (defArgs mEnd) (defBody mEnd) (defScope mEnd) .none kV24 dc24 pm24 an24 cd24 ct24), sl24⟩)
    (c24 : PySem.W.codeIn K cd24 "Operators.end" = true)
    (k24 : PySem.W.keepIn K (.ref f24) = true)
    (a25 : PySem.W.findIn K (.ref C) "subtree" = some (some (.ref f25)))
    (i25 : PySem.W.isFn K (.ref f25) = true)
    (l25 : K.lookup f25 = some ⟨oc25, od25, .func (PySem.W.fnOf "subtree" "Operators.subtree" (defArgs mSub) (defBody mSub) (defScope mSub) .none kV25 dc25 pm25 an25 cd25 ct25), sl25⟩)
    (c25 : PySem.W.codeIn K cd25 "Operators.subtree" = true)
    (k25 : PySem.W.keepIn K (.ref f25) = true)
    (a26 : PySem.W.findIn K (.ref C) "children" = some (some (.ref f26)))
    (i26 : PySem.W.isFn K (.ref f26) = true)
    (l26 : K.lookup f26 = some ⟨oc26, od26, .func (PySem.W.fnOf "children" "Operators.children" (defArgs mKids) (defBody mKids) (defScope mKids) .none kV26 dc26 pm26 an26 cd26 ct26), sl26⟩)
    (c26 : PySem.W.codeIn K cd26 "Operators.children" = true)
    (k26 : PySem.W.keepIn K (.ref f26) = true)
    (a27 : PySem.W.findIn K (.ref C) "above" = some (some (.ref f27)))
    (i27 : PySem.W.isFn K (.ref f27) = true)
    (l27 : K.lookup f27 = some ⟨oc27, od27, .func (PySem.W.fnOf "above" "Operators.above" (defArgs mAbove) (defBody mAbove) (defScope mAbove) .none kV27 dc27 pm27 an27 cd27 ct27), sl27⟩)
    (c27 : PySem.W.codeIn K cd27 "Operators.above" = true)
    (k27 : PySem.W.keepIn K (.ref f27) = true)
    (a28 : PySem.W.findIn K (.ref C) "levels" = some (some (.ref f28)))
    (i28 : PySem.W.isFn K (.ref f28) = true)
    (l28 : K.lookup f28 = some ⟨oc28, od28, .func (PySem.W.fnOf "levels" "Operators.levels" (defArgs mLevels) (defBody mLevels) (defScope mLevels) .none kV28 dc28 pm28 an28 cd28 ct28), sl28⟩)
    (c28 : PySem.W.codeIn K cd28 "Operators.levels" = true)
    (k28 : PySem.W.keepIn K (.ref f28) = true)
    (a29 : PySem.W.findIn K (.ref C) "replaced" = some (some (.ref f29)))
    (i29 : PySem.W.isFn K (.ref f29) = true)
    (l29 : K.lookup f29 = some ⟨oc29, od29, .func (PySem.W.fnOf "replaced" "Operators.replaced" (defArgs mReplaced) (defBody mReplaced) (defScope mReplaced) .none kV29 dc29 pm29 an29 cd29 ct29), sl29⟩)
    (c29 : PySem.W.codeIn K cd29 "Operators.replaced" = true)
    (k29 : PySem.W.keepIn K (.ref f29) = true)
    (a30 : PySem.W.findIn K (.ref C) "cut" = some (some (.ref f30)))
    (i30 : PySem.W.isFn K (.ref f30) = true)
    (l30 : K.lookup f30 = some ⟨oc30, od30, .func (PySem.W.fnOf "cut" "Operators.cut" (defArgs mCut) (defBody mCut) (defScope mCut) .none kV30 dc30 pm30 an30 cd30 ct30), sl30⟩)
    (c30 : PySem.W.codeIn K cd30 "Operators.cut" = true)
    (k30 : PySem.W.keepIn K (.ref f30) = true)
    (a31 : PySem.W.findIn K (.ref C) "count_trees" = some (some (.ref f31)))
    (i31 : PySem.W.isFn K (.ref f31) = true)
    (l31 : K.lookup f31 = some ⟨oc31, od31, .func (PySem.W.fnOf "count_trees" "Operators.count_trees" (defArgs mCountT) (defBody mCountT) (defScope mCountT) .none kV31 dc31 pm31 an31 cd31 ct31), sl31⟩)
    (c31 : PySem.W.codeIn K cd31 "Operators.count_trees" = true)
    (k31 : PySem.W.keepIn K (.ref f31) = true)
    (a32 : PySem.W.findIn K (.ref C) "each_tree" = some (some (.ref f32)))
    (i32 : PySem.W.isFn K (.ref f32) = true)
    (l32 : K.lookup f32 = some ⟨oc32, od32, .func (PySem.W.fnOf "each_tree" "Operators.each_tree" (defArgs mEach) (defBody mEach) (defScope mEach) .none kV32 dc32 pm32 an32 cd32 ct32), sl32⟩)
    (c32 : PySem.W.codeIn K cd32 "Operators.each_tree" = true)
    (k32 : PySem.W.keepIn K (.ref f32) = true)
    (a33 : PySem.W.findIn K (.ref C) "tree_at" = some (some (.ref f33)))
    (i33 : PySem.W.isFn K (.ref f33) = true)
    (l33 : K.lookup f33 = some ⟨oc33, od33, .func (PySem.W.fnOf "tree_at" "Operators.tree_at" (defArgs mTreeAt) (defBody mTreeAt) (defScope mTreeAt) .none kV33 dc33 pm33 an33 cd33 ct33), sl33⟩)
    (c33 : PySem.W.codeIn K cd33 "Operators.tree_at" = true)
    (k33 : PySem.W.keepIn K (.ref f33) = true)
    (a34 : PySem.W.findIn K (.ref C) "number_of" = some (some (.ref f34)))
    (i34 : PySem.W.isFn K (.ref f34) = true)
    (l34 : K.lookup f34 = some ⟨oc34, od34, .func (PySem.W.fnOf "number_of" "Operators.number_of" (defArgs mNumOf) (defBody mNumOf) (defScope mNumOf) .none kV34 dc34 pm34 an34 cd34 ct34), sl34⟩)
    (c34 : PySem.W.codeIn K cd34 "Operators.number_of" = true)
    (k34 : PySem.W.keepIn K (.ref f34) = true)
    (a35 : PySem.W.findIn K (.ref C) "_check_tree" = some (some (.ref f35)))
    (i35 : PySem.W.isFn K (.ref f35) = true)
    (l35 : K.lookup f35 = some ⟨oc35, od35, .func (PySem.W.fnOf "_check_tree" "Operators._check_tree" (defArgs mChTree) (defBody mChTree) (defScope mChTree) .none kV35 dc35 pm35 an35 cd35 ct35), sl35⟩)
    (c35 : PySem.W.codeIn K cd35 "Operators._check_tree" = true)
    (k35 : PySem.W.keepIn K (.ref f35) = true)
    (a36 : PySem.W.findIn K (.ref C) "_check_place" = some (some (.ref f36)))
    (i36 : PySem.W.isFn K (.ref f36) = true)
    (l36 : K.lookup f36 = some ⟨oc36, od36, .func (PySem.W.fnOf "_check_place" "Operators._check_place" (defArgs mChPlace) (defBody mChPlace) (defScope mChPlace) .none kV36 dc36 pm36 an36 cd36 ct36), sl36⟩)
    (c36 : PySem.W.codeIn K cd36 "Operators._check_place" = true)
    (k36 : PySem.W.keepIn K (.ref f36) = true)
    (a37 : PySem.W.findIn K (.ref C) "_check_filling" = some (some (.ref f37)))
    (i37 : PySem.W.isFn K (.ref f37) = true)
    (l37 : K.lookup f37 = some ⟨oc37, od37, .func (PySem.W.fnOf "_check_filling" "Operators._check_filling" (defArgs mChFill) (defBody mChFill) (defScope mChFill) .none kV37 dc37 pm37 an37 cd37 ct37), sl37⟩)
    (c37 : PySem.W.codeIn K cd37 "Operators._check_filling" = true)
    (k37 : PySem.W.keepIn K (.ref f37) = true)
    (a38 : PySem.W.findIn K (.ref C) "_end" = some (some (.ref f38)))
    (i38 : PySem.W.isFn K (.ref f38) = true)
    (l38 : K.lookup f38 = some ⟨oc38, od38, .func (PySem.W.fnOf "_end" "Operators._end" (defArgs m_End) (defBody m_End) (defScope m_End) .none kV38 dc38 pm38 an38 cd38 ct38), sl38⟩)
    (c38 : PySem.W.codeIn K cd38 "Operators._end" = true)
    (k38 : PySem.W.keepIn K (.ref f38) = true)
    (a39 : PySem.W.findIn K (.ref C) "_parents" = some (some (.ref f39)))
    (i39 : PySem.W.isFn K (.ref f39) = true)
    (l39 : K.lookup f39 = some ⟨oc39, od39, .func (PySem.W.fnOf "_parents" "Operators._parents" (defArgs mParents) (defBody mParents) (defScope mParents) .none kV39 dc39 pm39 an39 cd39 ct39), sl39⟩)
    (c39 : PySem.W.codeIn K cd39 "Operators._parents" = true)
    (k39 : PySem.W.keepIn K (.ref f39) = true)
    (a40 : PySem.W.findIn K (.ref C) "_count" = some (some (.ref f40)))
    (i40 : PySem.W.isFn K (.ref f40) = true)
    (l40 : K.lookup f40 = some ⟨oc40, od40, .func (PySem.W.fnOf "_count" "Operators._count" (defArgs mCnt) (defBody mCnt) (defScope mCnt) .none kV40 dc40 pm40 an40 cd40 ct40), sl40⟩)
    (c40 : PySem.W.codeIn K cd40 "Operators._count" = true)
    (k40 : PySem.W.keepIn K (.ref f40) = true)
    (a41 : PySem.W.findIn K (.ref C) "_forests" = some (some (.ref f41)))
    (i41 : PySem.W.isFn K (.ref f41) = true)
    (l41 : K.lookup f41 = some ⟨oc41, od41, .func (PySem.W.fnOf "_forests" "Operators._forests" (defArgs mForests) (defBody mForests) (defScope mForests) .none kV41 dc41 pm41 an41 cd41 ct41), sl41⟩)
    (c41 : PySem.W.codeIn K cd41 "Operators._forests" = true)
    (k41 : PySem.W.keepIn K (.ref f41) = true)
    (a42 : PySem.W.findIn K (.ref C) "_counted_rows" = some (some (.ref f42)))
    (i42 : PySem.W.isFn K (.ref f42) = true)
    (l42 : K.lookup f42 = some ⟨oc42, od42, .func (PySem.W.fnOf "_counted_rows" "Operators._counted_rows" (defArgs mRows) (defBody mRows) (defScope mRows) .none kV42 dc42 pm42 an42 cd42 ct42), sl42⟩)
    (c42 : PySem.W.codeIn K cd42 "Operators._counted_rows" = true)
    (k42 : PySem.W.keepIn K (.ref f42) = true)
    (a43 : PySem.W.findIn K (.ref C) "filled" = some (some (.ref f43)))
    (i43 : PySem.W.isFn K (.ref f43) = true)
    (l43 : K.lookup f43 = some ⟨oc43, od43, .func (PySem.W.fnOf "filled" "Operators.filled" (defArgs mFilled) (defBody mFilled) (defScope mFilled) .none kV43 dc43 pm43 an43 cd43 ct43), sl43⟩)
    (c43 : PySem.W.codeIn K cd43 "Operators.filled" = true)
    (k43 : PySem.W.keepIn K (.ref f43) = true)
    (cn_MAX_TREE : PySem.W.nsIn K mainGlobals "MAX_TREE" = some (some (.int 5000 tk_MAX_TREE)))
    (cn_MAX_OPERATORS : PySem.W.nsIn K mainGlobals "MAX_OPERATORS" = some (some (.int 8 tk_MAX_OPERATORS)))
    (cn_MAX_LETTERS : PySem.W.nsIn K mainGlobals "MAX_LETTERS" = some (some (.int 8 tk_MAX_LETTERS)))
    (cn_MAX_SIZE : PySem.W.nsIn K mainGlobals "MAX_SIZE" = some (some (.int 200 tk_MAX_SIZE)))
    (cn_HOLE : PySem.W.nsIn K mainGlobals "HOLE" = some (some (.str "_" tk_HOLE)))
    (ig : PySem.W.nsIn K mainGlobals "InvalidTree" = some (some (.ref CT)))
    (ix : PySem.W.excIn K CT [.type "ValueError", .type "Exception", .type "BaseException", .type "object"] "ValueError.__new__" = true)
    (ik : PySem.W.keepIn K (.ref CT) = true)
    (ib : PySem.W.subIn K (.ref CT) (.type "BaseException") = some true)
    (it : PySem.W.typeIn K (.ref CT) = some (.type "type"))
    (ic : PySem.W.isClsIn K CT = true)
    (is_ : PySem.W.subIn K (.ref CT) (.ref CT) = some true)
    (xC1 : PySem.W.nsIn K mainGlobals "InvalidNumber" = some (some (.ref C1)))
    (xL1 : K.lookup C1 = some (excClassObj xn1 xq1 C1 xN1 xb1 [.type "IndexError", .type "LookupError", .type "Exception", .type "BaseException", .type "object"] true xs1 xu1 xa1 xc1 xd1 mq10 mq11 mq12 mq13 mq15 "IndexError.__new__"))
    (xsa1 : PySem.W.findIn K (.ref C1) "__setattr__" = some (some (.builtin "object.__setattr__")))
    (xga1 : PySem.W.findIn K (.ref C1) "__getattribute__" = some (some (.builtin "BaseException.__getattribute__")))
    (xgg1 : PySem.W.findIn K (.ref C1) "__getattr__" = some none)
    (xnb1 : PySem.W.findIn K (.ref C1) "value" = some none)
    (xai1 : PySem.W.findIn K (.ref C1) "__init__" = some (some (.ref e1)))
    (xti1 : PySem.W.typeIn K (.ref e1) = some (.type "function"))
    (xli1 : K.lookup e1 = some ⟨xoc1, xod1, .func (PySem.W.fnOf "__init__" "InvalidNumber.__init__" (PySem.InumX.iA ⟨13, 17, 13, 21⟩ ⟨13, 23, 13, 28⟩) (PySem.InumX.iB ⟨14, 8, 14, 12⟩ ⟨14, 8, 14, 18⟩ ⟨14, 21, 14, 26⟩ ⟨14, 8, 14, 26⟩) PySem.InumX.iS .none .none xdc1 xpm1 xan1 xcd1 xct1), xsl1⟩)
    (xci1 : PySem.W.codeIn K xcd1 "InvalidNumber.__init__" = true)
    (xkC1 : PySem.W.keepIn K (.ref C1) = true)
    (xeC1 : PySem.W.subIn K (.ref C1) (.type "BaseException") = some true)
    (xtC1 : PySem.W.typeIn K (.ref C1) = some (.type "type"))
    (xhC1 : PySem.W.hasDictIn K C1 = true)
    (xiC1 : PySem.W.isClsIn K C1 = true)
    (xsC1 : PySem.W.subIn K (.ref C1) (.ref C1) = some true)
    (xC2 : PySem.W.nsIn K mainGlobals "TooMany" = some (some (.ref C2)))
    (xL2 : K.lookup C2 = some (excClassObj xn2 xq2 C2 xN2 xb2 [.type "OverflowError", .type "ArithmeticError", .type "Exception", .type "BaseException", .type "object"] true xs2 xu2 xa2 xc2 xd2 mq20 mq21 mq22 mq23 mq25 "OverflowError.__new__"))
    (xsa2 : PySem.W.findIn K (.ref C2) "__setattr__" = some (some (.builtin "object.__setattr__")))
    (xga2 : PySem.W.findIn K (.ref C2) "__getattribute__" = some (some (.builtin "BaseException.__getattribute__")))
    (xgg2 : PySem.W.findIn K (.ref C2) "__getattr__" = some none)
    (xnb2 : PySem.W.findIn K (.ref C2) "limit" = some none)
    (xai2 : PySem.W.findIn K (.ref C2) "__init__" = some (some (.ref e2)))
    (xti2 : PySem.W.typeIn K (.ref e2) = some (.type "function"))
    (xli2 : K.lookup e2 = some ⟨xoc2, xod2, .func (PySem.W.fnOf "__init__" "TooMany.__init__" (PySem.TmnyX.iA ⟨17, 17, 17, 21⟩ ⟨17, 23, 17, 28⟩) (PySem.TmnyX.iB ⟨18, 8, 18, 12⟩ ⟨18, 8, 18, 18⟩ ⟨18, 21, 18, 26⟩ ⟨18, 8, 18, 26⟩) PySem.TmnyX.iS .none .none xdc2 xpm2 xan2 xcd2 xct2), xsl2⟩)
    (xci2 : PySem.W.codeIn K xcd2 "TooMany.__init__" = true)
    (xkC2 : PySem.W.keepIn K (.ref C2) = true)
    (xeC2 : PySem.W.subIn K (.ref C2) (.type "BaseException") = some true)
    (xtC2 : PySem.W.typeIn K (.ref C2) = some (.type "type"))
    (xhC2 : PySem.W.hasDictIn K C2 = true)
    (xiC2 : PySem.W.isClsIn K C2 = true)
    (xsC2 : PySem.W.subIn K (.ref C2) (.ref C2) = some true)
    (exf : PySem.W.exmOne K (.ref C1) (.ref CT) = some false)
    (nsi : PySem.W.subIn K (.ref C1) (.type "StopIteration") = some false)
    (z_len : PySem.W.nsIn K mainGlobals "len" = some none)
    (z_int : PySem.W.nsIn K mainGlobals "int" = some none)
    (z_abs : PySem.W.nsIn K mainGlobals "abs" = some none)
    (z_max : PySem.W.nsIn K mainGlobals "max" = some none)
    (z_min : PySem.W.nsIn K mainGlobals "min" = some none)
    (z_list : PySem.W.nsIn K mainGlobals "list" = some none)
    (z_range : PySem.W.nsIn K mainGlobals "range" = some none)
    (z_isinstance : PySem.W.nsIn K mainGlobals "isinstance" = some none)
    (z_bool : PySem.W.nsIn K mainGlobals "bool" = some none)
    (z_tuple : PySem.W.nsIn K mainGlobals "tuple" = some none)
    (z_str : PySem.W.nsIn K mainGlobals "str" = some none)
    (z_dict : PySem.W.nsIn K mainGlobals "dict" = some none)
    (z_sorted : PySem.W.nsIn K mainGlobals "sorted" = some none)
    (z_all : PySem.W.nsIn K mainGlobals "all" = some none)
    (z_sum : PySem.W.nsIn K mainGlobals "sum" = some none)
    (z_repr : PySem.W.nsIn K mainGlobals "repr" = some none)
    (z_enumerate : PySem.W.nsIn K mainGlobals "enumerate" = some none)
    (z_zip : PySem.W.nsIn K mainGlobals "zip" = some none)
    (z_reversed : PySem.W.nsIn K mainGlobals "reversed" = some none) :
    LawTG l w K CX0 11 63 "script" mg fa h := by
  have e := hfa.symm.trans (PySem.W.mg_of X G a17)
  cases e
  have F1 := fun_mk (st := sInteger) l1 c1 k1
  have b1 := F1.binds (ps := ["value"]) fun _ _ _ _ _ _ us hl => match us, hl with | [_], _ => rfl
  have g1 := PySem.W.mg_of X G a1
  have F2 := fun_mk (st := sCount) l2 c2 k2
  have b2 := F2.binds (ps := ["value"]) fun _ _ _ _ _ _ us hl => match us, hl with | [_], _ => rfl
  have g2 := PySem.W.mg_of X G a2
  have F3 := fun_mk (st := sName) l3 c3 k3
  have b3 := F3.binds (ps := ["value"]) fun _ _ _ _ _ _ us hl => match us, hl with | [_], _ => rfl
  have g3 := PySem.W.mg_of X G a3
  have F4 := fun_mk (st := sAre) l4 c4 k4
  have b4 := F4.binds (ps := ["value"]) fun _ _ _ _ _ _ us hl => match us, hl with | [_], _ => rfl
  have g4 := PySem.W.mg_of X G a4
  have F5 := fun_mk (st := sWhole) l5 c5 k5
  have b5 := F5.binds (ps := ["words", "arities"]) fun _ _ _ _ _ _ us hl => match us, hl with | [_, _], _ => rfl
  have g5 := PySem.W.mg_of X G a5
  have F6 := fun_mk (st := sSize) l6 c6 k6
  have b6 := F6.binds (ps := ["size"]) fun _ _ _ _ _ _ us hl => match us, hl with | [_], _ => rfl
  have g6 := PySem.W.mg_of X G a6
  have F7 := fun_mk (st := sDice) l7 c7 k7
  have b7 := F7.binds (ps := ["script", "spot"]) fun _ _ _ _ _ _ us hl => match us, hl with | [_, _], _ => rfl
  have g7 := PySem.W.mg_of X G a7
  have F8 := fun_mk (st := sRoll) l8 c8 k8
  have b8 := F8.binds (ps := ["dice", "total"]) fun _ _ _ _ _ _ us hl => match us, hl with | [_, _], _ => rfl
  have g8 := PySem.W.mg_of X G a8
  have F9 := fun_mk (st := sPick) l9 c9 k9
  have b9 := F9.binds (ps := ["dice", "items"]) fun _ _ _ _ _ _ us hl => match us, hl with | [_, _], _ => rfl
  have g9 := PySem.W.mg_of X G a9
  have F10 := fun_mk (st := sMixed) l10 c10 k10
  have b10 := F10.binds (ps := ["dice", "items"]) fun _ _ _ _ _ _ us hl => match us, hl with | [_, _], _ => rfl
  have g10 := PySem.W.mg_of X G a10
  have F11 := fun_mk (st := sEndL) l11 c11 k11
  have b11 := F11.binds (ps := ["arities", "tree", "place"]) fun _ _ _ _ _ _ us hl => match us, hl with | [_, _, _], _ => rfl
  have g11 := PySem.W.mg_of X G a11
  have F12 := fun_mk (st := sDrawn) l12 c12 k12
  have b12 := F12.binds (ps := ["dice", "arities", "cap"]) fun _ _ _ _ _ _ us hl => match us, hl with | [_, _, _], _ => rfl
  have g12 := PySem.W.mg_of X G a12
  have F13 := fun_mk (st := sOdd) l13 c13 k13
  have b13 := F13.binds (ps := ["dice"]) fun _ _ _ _ _ _ us hl => match us, hl with | [_], _ => rfl
  have g13 := PySem.W.mg_of X G a13
  have F14 := fun_mk (st := sArs) l14 c14 k14
  have b14 := F14.binds (ps := ["dice"]) fun _ _ _ _ _ _ us hl => match us, hl with | [_], _ => rfl
  have g14 := PySem.W.mg_of X G a14
  have F15 := fun_mk (st := sDCtx) l15 c15 k15
  have b15 := F15.binds (ps := ["dice", "arities", "cap"]) fun _ _ _ _ _ _ us hl => match us, hl with | [_, _, _], _ => rfl
  have g15 := PySem.W.mg_of X G a15
  have F16 := fun_mk (st := sWord) l16 c16 k16
  have b16 := F16.binds (ps := ["call"]) fun _ _ _ _ _ _ us hl => match us, hl with | [_], _ => rfl
  have g16 := PySem.W.mg_of X G a16
  have F17 := funC_mk (st := sLaw) l17 c17 k17
  have F18 := funC_mk (st := sTreesR) l18 c18 k18
  have b18 := F18.fun.binds (ps := ["dice", "ops", "tree", "context"]) fun _ _ _ _ _ _ us hl => match us, hl with | [_, _, _, _], _ => rfl
  have g18 := PySem.W.mg_of X G a18
  have F19 := funC_mk (st := sFillsR) l19 c19 k19
  have b19 := F19.fun.binds (ps := ["dice", "ops", "tree", "context"]) fun _ _ _ _ _ _ us hl => match us, hl with | [_, _, _, _], _ => rfl
  have g19 := PySem.W.mg_of X G a19
  have F20 := funC_mk (st := sSizesR) l20 c20 k20
  have b20 := F20.fun.binds (ps := ["dice", "ops"]) fun _ _ _ _ _ _ us hl => match us, hl with | [_, _], _ => rfl
  have g20 := PySem.W.mg_of X G a20
  have cl_C : Cls K C := ⟨pg_C, hd_C, po_C, sa_C⟩
  have g_C := PySem.W.mg_of X G n_C
  have F21 := fun_mk (st := mInit) l21 c21 k21
  have b21 := F21.binds (ps := ["self", "arities"]) fun _ _ _ _ _ _ us hl => match us, hl with | [_, _], _ => rfl
  have m21 : Meth K C "__init__" f21 := ⟨a21, i21, k21⟩
  have F22 := fun_mk (st := mIsTree) l22 c22 k22
  have b22 := F22.binds (ps := ["self", "value"]) fun _ _ _ _ _ _ us hl => match us, hl with | [_, _], _ => rfl
  have m22 : Meth K C "is_tree" f22 := ⟨a22, i22, k22⟩
  have F23 := fun_mk (st := mIsCtx) l23 c23 k23
  have b23 := F23.binds (ps := ["self", "value"]) fun _ _ _ _ _ _ us hl => match us, hl with | [_, _], _ => rfl
  have m23 : Meth K C "is_context" f23 := ⟨a23, i23, k23⟩
  have F24 := fun_mk (st := mEnd) l24 c24 k24
  have b24 := F24.binds (ps := ["self", "tree", "place"]) fun _ _ _ _ _ _ us hl => match us, hl with | [_, _, _], _ => rfl
  have m24 : Meth K C "end" f24 := ⟨a24, i24, k24⟩
  have F25 := fun_mk (st := mSub) l25 c25 k25
  have b25 := F25.binds (ps := ["self", "tree", "place"]) fun _ _ _ _ _ _ us hl => match us, hl with | [_, _, _], _ => rfl
  have m25 : Meth K C "subtree" f25 := ⟨a25, i25, k25⟩
  have F26 := fun_mk (st := mKids) l26 c26 k26
  have b26 := F26.binds (ps := ["self", "tree", "place"]) fun _ _ _ _ _ _ us hl => match us, hl with | [_, _, _], _ => rfl
  have m26 : Meth K C "children" f26 := ⟨a26, i26, k26⟩
  have F27 := fun_mk (st := mAbove) l27 c27 k27
  have b27 := F27.binds (ps := ["self", "tree", "place"]) fun _ _ _ _ _ _ us hl => match us, hl with | [_, _, _], _ => rfl
  have m27 : Meth K C "above" f27 := ⟨a27, i27, k27⟩
  have F28 := fun_mk (st := mLevels) l28 c28 k28
  have b28 := F28.binds (ps := ["self", "tree"]) fun _ _ _ _ _ _ us hl => match us, hl with | [_, _], _ => rfl
  have m28 : Meth K C "levels" f28 := ⟨a28, i28, k28⟩
  have F29 := fun_mk (st := mReplaced) l29 c29 k29
  have b29 := F29.binds (ps := ["self", "tree", "place", "other"]) fun _ _ _ _ _ _ us hl => match us, hl with | [_, _, _, _], _ => rfl
  have m29 : Meth K C "replaced" f29 := ⟨a29, i29, k29⟩
  have F30 := fun_mk (st := mCut) l30 c30 k30
  have b30 := F30.binds (ps := ["self", "tree", "place"]) fun _ _ _ _ _ _ us hl => match us, hl with | [_, _, _], _ => rfl
  have m30 : Meth K C "cut" f30 := ⟨a30, i30, k30⟩
  have F31 := fun_mk (st := mCountT) l31 c31 k31
  have b31 := F31.binds (ps := ["self", "size"]) fun _ _ _ _ _ _ us hl => match us, hl with | [_, _], _ => rfl
  have m31 : Meth K C "count_trees" f31 := ⟨a31, i31, k31⟩
  have F32 := fun_mk (st := mEach) l32 c32 k32
  have b32 := F32.binds (ps := ["self", "size"]) fun _ _ _ _ _ _ us hl => match us, hl with | [_, _], _ => rfl
  have m32 : Meth K C "each_tree" f32 := ⟨a32, i32, k32⟩
  have F33 := fun_mk (st := mTreeAt) l33 c33 k33
  have b33 := F33.binds (ps := ["self", "size", "number"]) fun _ _ _ _ _ _ us hl => match us, hl with | [_, _, _], _ => rfl
  have m33 : Meth K C "tree_at" f33 := ⟨a33, i33, k33⟩
  have F34 := fun_mk (st := mNumOf) l34 c34 k34
  have b34 := F34.binds (ps := ["self", "tree"]) fun _ _ _ _ _ _ us hl => match us, hl with | [_, _], _ => rfl
  have m34 : Meth K C "number_of" f34 := ⟨a34, i34, k34⟩
  have F35 := fun_mk (st := mChTree) l35 c35 k35
  have b35 := F35.binds (ps := ["self", "tree"]) fun _ _ _ _ _ _ us hl => match us, hl with | [_, _], _ => rfl
  have m35 : Meth K C "_check_tree" f35 := ⟨a35, i35, k35⟩
  have F36 := fun_mk (st := mChPlace) l36 c36 k36
  have b36 := F36.binds (ps := ["self", "tree", "place"]) fun _ _ _ _ _ _ us hl => match us, hl with | [_, _, _], _ => rfl
  have m36 : Meth K C "_check_place" f36 := ⟨a36, i36, k36⟩
  have F37 := fun_mk (st := mChFill) l37 c37 k37
  have b37 := F37.binds (ps := ["self", "context", "rest"]) fun _ _ _ _ _ _ us hl => match us, hl with | [_, _, _], _ => rfl
  have m37 : Meth K C "_check_filling" f37 := ⟨a37, i37, k37⟩
  have F38 := fun_mk (st := m_End) l38 c38 k38
  have b38 := F38.binds (ps := ["self", "tree", "place"]) fun _ _ _ _ _ _ us hl => match us, hl with | [_, _, _], _ => rfl
  have m38 : Meth K C "_end" f38 := ⟨a38, i38, k38⟩
  have F39 := fun_mk (st := mParents) l39 c39 k39
  have b39 := F39.binds (ps := ["self", "tree"]) fun _ _ _ _ _ _ us hl => match us, hl with | [_, _], _ => rfl
  have m39 : Meth K C "_parents" f39 := ⟨a39, i39, k39⟩
  have F40 := fun_mk (st := mCnt) l40 c40 k40
  have b40 := F40.binds (ps := ["self", "size"]) fun _ _ _ _ _ _ us hl => match us, hl with | [_, _], _ => rfl
  have m40 : Meth K C "_count" f40 := ⟨a40, i40, k40⟩
  have F41 := fun_mk (st := mForests) l41 c41 k41
  have b41 := F41.binds (ps := ["self", "size"]) fun _ _ _ _ _ _ us hl => match us, hl with | [_, _], _ => rfl
  have m41 : Meth K C "_forests" f41 := ⟨a41, i41, k41⟩
  have F42 := fun_mk (st := mRows) l42 c42 k42
  have b42 := F42.binds (ps := ["self", "size"]) fun _ _ _ _ _ _ us hl => match us, hl with | [_, _], _ => rfl
  have m42 : Meth K C "_counted_rows" f42 := ⟨a42, i42, k42⟩
  have F43 := fun_mk (st := mFilled) l43 c43 k43
  have m43 : Meth K C "filled" f43 := ⟨a43, i43, k43⟩
  have gc_MAX_TREE := PySem.W.mg_of X G cn_MAX_TREE
  have gc_MAX_OPERATORS := PySem.W.mg_of X G cn_MAX_OPERATORS
  have gc_MAX_LETTERS := PySem.W.mg_of X G cn_MAX_LETTERS
  have gc_MAX_SIZE := PySem.W.mg_of X G cn_MAX_SIZE
  have gc_HOLE := PySem.W.mg_of X G cn_HOLE
  have low1 : PySem.InumX.InumTxt K mg C1 e1 :=
    { gC := PySem.W.mg_of X G xC1, cls := ⟨xn1, xq1, xN1, xb1, _, xs1, xu1, xa1, xc1, xd1, mq10, mq11, mq12, mq13, mq15, xL1, rfl⟩, sa := xsa1, ga := xga1, gg := xgg1, noN := xnb1, iC := xai1, tC := xti1, kC := xkC1, exC := xeC1, tyC := xtC1, hdC := xhC1, te := exm_self xeC1 xiC1 xtC1 xsC1,
      fn := ⟨_, _, _, _, _, _, _, _, _, _, _, _, _, _, xli1, xci1⟩ }
  have low2 : PySem.TmnyX.TmnyTxt K mg C2 e2 :=
    { gC := PySem.W.mg_of X G xC2, cls := ⟨xn2, xq2, xN2, xb2, _, xs2, xu2, xa2, xc2, xd2, mq20, mq21, mq22, mq23, mq25, xL2, rfl⟩, sa := xsa2, ga := xga2, gg := xgg2, noN := xnb2, iC := xai2, tC := xti2, kC := xkC2, exC := xeC2, tyC := xtC2, hdC := xhC2, te := exm_self xeC2 xiC2 xtC2 xsC2,
      fn := ⟨_, _, _, _, _, _, _, _, _, _, _, _, _, _, xli2, xci2⟩ }
  have T : Free mg := ⟨PySem.W.mg_none_of X G z_len, PySem.W.mg_none_of X G z_int, PySem.W.mg_none_of X G z_abs, PySem.W.mg_none_of X G z_max, PySem.W.mg_none_of X G z_min, PySem.W.mg_none_of X G z_list, PySem.W.mg_none_of X G z_range, PySem.W.mg_none_of X G z_isinstance, PySem.W.mg_none_of X G z_bool, PySem.W.mg_none_of X G z_tuple, PySem.W.mg_none_of X G z_str, PySem.W.mg_none_of X G z_dict, PySem.W.mg_none_of X G z_sorted, PySem.W.mg_none_of X G z_all, PySem.W.mg_none_of X G z_sum, PySem.W.mg_none_of X G z_repr, PySem.W.mg_none_of X G z_enumerate, PySem.W.mg_none_of X G z_zip, PySem.W.mg_none_of X G z_reversed⟩
  refine ⟨PySem.W.fnOf "law" "law" (defArgs sLaw) (defBody sLaw) (defScope sLaw) .none kV17 dc17 pm17 an17 (.ref q17) ct17, [(q17, t17), (q18, t18), (q19, t19), (q20, t20)], spLaw K [(t17, "law.<locals>.<lambda>"), (t18, "_law_trees_right.<locals>.<lambda>"), (t19, "_law_fills_right.<locals>.<lambda>"), (t20, "_law_sizes_right.<locals>.<lambda>")], ?_, fun s v => .of_eq rfl, fun H a ns hl hT hS => ⟨a, ns, rfl, hS, hl, ?_, fun _ => rfl⟩, fun base _ _ => by
    intro tb
    have cf : OpF K C := ⟨cl_C, no0_C, no1_C, no2_C, no3_C, no4_C, no5_C⟩
    have io : ItF K mg CT := ⟨ix, PySem.W.mg_of X G ig, ik, ib, it⟩
    have tI : PySem.W.exmOne K (.ref CT) (.ref CT) = some true := exm_self ib ic it is_
    have M := Ms.mk cf F5 b5 g5 gc_MAX_TREE F22 b22 m22 F35 b35 m35 F36 b36 m36 F38 b38 m38 F1 b1 g1 F2 b2 g2
    have D : Draws K mg f8 f9 f10 _ _ _ := ⟨F8, b8, g8, F9, b9, g9, F10, b10, g10⟩
    have Wd : WdF K mg CT C1 C2 e1 f16 _ := ⟨F16, b16, g16, io.g, low2.gC, low1, tI, exf⟩
    have gO : GlF K mg "_law_odd_values" sOdd f13 _ ["dice"] := ⟨F13, b13, g13⟩
    have Xm : MX K C := ⟨⟨⟨_, _, ⟨F24, b24, m24⟩⟩⟩, ⟨⟨_, _, ⟨F25, b25, m25⟩⟩⟩, ⟨⟨_, _, ⟨F26, b26, m26⟩⟩⟩, ⟨⟨_, _, ⟨F27, b27, m27⟩⟩⟩, ⟨⟨_, _, ⟨F30, b30, m30⟩⟩⟩, ⟨⟨_, _, ⟨F28, b28, m28⟩⟩⟩, ⟨⟨_, _, ⟨F34, b34, m34⟩⟩⟩, ⟨⟨_, _, ⟨F29, b29, m29⟩⟩⟩, ⟨⟨_, _, ⟨F39, b39, m39⟩⟩⟩⟩
    have Yf : FX K C := ⟨⟨⟨_, _, ⟨F43, m43⟩⟩⟩, ⟨⟨_, _, ⟨F23, b23, m23⟩⟩⟩, ⟨⟨_, _, ⟨F37, b37, m37⟩⟩⟩⟩
    have Yn : NX K C := ⟨⟨⟨_, _, ⟨F34, b34, m34⟩⟩⟩, ⟨⟨_, _, ⟨F41, b41, m41⟩⟩⟩, ⟨⟨_, _, ⟨F42, b42, m42⟩⟩⟩⟩
    have Ys : SX K C := ⟨⟨⟨_, _, ⟨F31, b31, m31⟩⟩⟩, ⟨⟨_, _, ⟨F32, b32, m32⟩⟩⟩, ⟨⟨_, _, ⟨F33, b33, m33⟩⟩⟩⟩
    have Wo := Words.mk F1 b1 g1 F2 b2 g2
    have Sz_ := Sz.mk cf Wo gc_MAX_SIZE low1 F6 b6 g6 F40 b40 m40
    have Ow := Own.mk ⟨F7, b7, g7⟩ ⟨F14, b14, g14⟩ ⟨F12, b12, g12⟩ ⟨F15, b15, g15⟩ ⟨F11, b11, g11⟩ ⟨F4, b4, g4⟩ ⟨F3, b3, g3⟩ ⟨F1, b1, g1⟩ gc_MAX_LETTERS gc_MAX_OPERATORS
    have Mk_ : Mak K mg C f21 _ := ⟨⟨mk_C, a21, i21, kc_C⟩, g_C, F21, b21⟩
    let Tt : List (Addr × Str) := [(t17, "law.<locals>.<lambda>"), (t18, "_law_trees_right.<locals>.<lambda>"), (t19, "_law_fills_right.<locals>.<lambda>"), (t20, "_law_sizes_right.<locals>.<lambda>")]
    have hm1 : (t17, ("law.<locals>.<lambda>" : Str)) ∈ Tt := List.mem_cons_self
    have hm2 : (t18, ("_law_trees_right.<locals>.<lambda>" : Str)) ∈ Tt := List.mem_cons_of_mem _ List.mem_cons_self
    have hm3 : (t19, ("_law_fills_right.<locals>.<lambda>" : Str)) ∈ Tt := List.mem_cons_of_mem _ (List.mem_cons_of_mem _ List.mem_cons_self)
    have hm4 : (t20, ("_law_sizes_right.<locals>.<lambda>" : Str)) ∈ Tt := List.mem_cons_of_mem _ (List.mem_cons_of_mem _ (List.mem_cons_of_mem _ List.mem_cons_self))
    have hu1 : ∀ p ∈ Tt, p.1 = t17 → p.2 = "law.<locals>.<lambda>" := tab_one (Tt := Tt) (k := 0) dis rfl
    have hu2 : ∀ p ∈ Tt, p.1 = t18 → p.2 = "_law_trees_right.<locals>.<lambda>" := tab_one (Tt := Tt) (k := 1) dis rfl
    have hu3 : ∀ p ∈ Tt, p.1 = t19 → p.2 = "_law_fills_right.<locals>.<lambda>" := tab_one (Tt := Tt) (k := 2) dis rfl
    have hu4 : ∀ p ∈ Tt, p.1 = t20 → p.2 = "_law_sizes_right.<locals>.<lambda>" := tab_one (Tt := Tt) (k := 3) dis rfl
    have B1 := tb _ (List.mem_cons_self)
    have B2 := tb _ (List.mem_cons_of_mem _ List.mem_cons_self)
    have B3 := tb _ (List.mem_cons_of_mem _ (List.mem_cons_of_mem _ List.mem_cons_self))
    have B4 := tb _ (List.mem_cons_of_mem _ (List.mem_cons_of_mem _ (List.mem_cons_of_mem _ List.mem_cons_self)))
    exact ok_law (Tt := Tt) F17 B1 hm1 hu1 M gc_HOLE gc_MAX_SIZE io T Yf Yn D Wd Ow Mk_ ⟨ok_treesR F18 B2 hm2 hu2 M gc_HOLE io low1 T Xm D Wd gO, k18, b18, g18⟩ ⟨ok_fillsR F19 B3 hm3 hu3 M gc_HOLE io low2 T Yf D Wd gO, k19, b19, g19⟩ ⟨ok_sizesR F20 B4 hm4 hu4 Sz_ T Ys nsi D Wd, k20, b20, g20⟩⟩
  · exact all_cons ⟨y17, w17, PySem.W.codeHd_of_K X v17⟩ (all_cons ⟨y18, w18, PySem.W.codeHd_of_K X v18⟩ (all_cons ⟨y19, w19, PySem.W.codeHd_of_K X v19⟩ (all_cons ⟨y20, w20, PySem.W.codeHd_of_K X v20⟩ all_nil)))
  · exact all_cons (TabS.nil (hT _ (List.mem_cons_self))) (all_cons (TabS.nil (hT _ (List.mem_cons_of_mem _ List.mem_cons_self))) (all_cons (TabS.nil (hT _ (List.mem_cons_of_mem _ (List.mem_cons_of_mem _ List.mem_cons_self)))) (all_cons (TabS.nil (hT _ (List.mem_cons_of_mem _ (List.mem_cons_of_mem _ (List.mem_cons_of_mem _ List.mem_cons_self))))) all_nil)))
end Pr
open PySem PySem.W PyProof.Rows
set_option maxHeartbeats 0 in
theorem PySem.Challenge.cw_munchbehind_k08_errors_of_trees_holds : PySem.Challenge.rw_munchbehind_k08_errors_of_trees.Holds := by
  w_on; o_law; k_head; (case hw => w_witness2)
  k_fill
  refine Gd.walk_ofTG (l := PySem.Challenge.rw_munchbehind_k08_errors_of_trees) (n := 63) (k := 11) (x := "script") (CX := fun _ => L2.CX0) rfl (by decide) rfl ⟨rfl, by decide, by decide⟩ (fun w h Y => PySem.W.km_in_of Y) ?F (fun _ _ _ _ _ h => h)
  case F =>
    intro w mg fa h Y KX G hmg
    refine' Pr.all_mk KX G hmg ?a1 ?l1 ?c1 ?k1 ?a2 ?l2 ?c2 ?k2 ?a3 ?l3 ?c3 ?k3 ?a4 ?l4 ?c4 ?k4 ?a5 ?l5 ?c5 ?k5 ?a6 ?l6 ?c6 ?k6 ?a7 ?l7 ?c7 ?k7 ?a8 ?l8 ?c8 ?k8 ?a9 ?l9 ?c9 ?k9 ?a10 ?l10 ?c10 ?k10 ?a11 ?l11 ?c11 ?k11 ?a12 ?l12 ?c12 ?k12 ?a13 ?l13 ?c13 ?k13 ?a14 ?l14 ?c14 ?k14 ?a15 ?l15 ?c15 ?k15 ?a16 ?l16 ?c16 ?k16 ?a17 ?l17 ?c17 ?k17 ?u17 ?v17 ?w17 ?y17 ?a18 ?l18 ?c18 ?k18 ?u18 ?v18 ?w18 ?y18 ?a19 ?l19 ?c19 ?k19 ?u19 ?v19 ?w19 ?y19 ?a20 ?l20 ?c20 ?k20 ?u20 ?v20 ?w20 ?y20 ?dis ?n_C ?pg_C ?hd_C ?po_C ?sa_C ?mk_C ?kc_C ?no0_C ?no1_C ?no2_C ?no3_C ?no4_C ?no5_C ?a21 ?i21 ?l21 ?c21 ?k21 ?a22 ?i22 ?l22 ?c22 ?k22 ?a23 ?i23 ?l23 ?c23 ?k23 ?a24 ?i24 ?l24 ?c24 ?k24 ?a25 ?i25 ?l25 ?c25 ?k25 ?a26 ?i26 ?l26 ?c26 ?k26 ?a27 ?i27 ?l27 ?c27 ?k27 ?a28 ?i28 ?l28 ?c28 ?k28 ?a29 ?i29 ?l29 ?c29 ?k29 ?a30 ?i30 ?l30 ?c30 ?k30 ?a31 ?i31 ?l31 ?c31 ?k31 ?a32 ?i32 ?l32 ?c32 ?k32 ?a33 ?i33 ?l33 ?c33 ?k33 ?a34 ?i34 ?l34 ?c34 ?k34 ?a35 ?i35 ?l35 ?c35 ?k35 ?a36 ?i36 ?l36 ?c36 ?k36 ?a37 ?i37 ?l37 ?c37 ?k37 ?a38 ?i38 ?l38 ?c38 ?k38 ?a39 ?i39 ?l39 ?c39 ?k39 ?a40 ?i40 ?l40 ?c40 ?k40 ?a41 ?i41 ?l41 ?c41 ?k41 ?a42 ?i42 ?l42 ?c42 ?k42 ?a43 ?i43 ?l43 ?c43 ?k43 ?cn_MAX_TREE ?cn_MAX_OPERATORS ?cn_MAX_LETTERS ?cn_MAX_SIZE ?cn_HOLE ?ig ?ix ?ik ?ib ?it ?ic ?is_ ?xC1 ?xL1 ?xsa1 ?xga1 ?xgg1 ?xnb1 ?xai1 ?xti1 ?xli1 ?xci1 ?xkC1 ?xeC1 ?xtC1 ?xhC1 ?xiC1 ?xsC1 ?xC2 ?xL2 ?xsa2 ?xga2 ?xgg2 ?xnb2 ?xai2 ?xti2 ?xli2 ?xci2 ?xkC2 ?xeC2 ?xtC2 ?xhC2 ?xiC2 ?xsC2 ?exf ?nsi ?z_len ?z_int ?z_abs ?z_max ?z_min ?z_list ?z_range ?z_isinstance ?z_bool ?z_tuple ?z_str ?z_dict ?z_sorted ?z_all ?z_sum ?z_repr ?z_enumerate ?z_zip ?z_reversed
    (case a1 => k_is)
    (case l1 => k_is)
    (case c1 => k_is)
    (case k1 => k_is)
    (case a2 => k_is)
    (case l2 => k_is)
    (case c2 => k_is)
    (case k2 => k_is)
    (case a3 => k_is)
    (case l3 => k_is)
    (case c3 => k_is)
    (case k3 => k_is)
    (case a4 => k_is)
    (case l4 => k_is)
    (case c4 => k_is)
    (case k4 => k_is)
    (case a5 => k_is)
    (case l5 => k_is)
    (case c5 => k_is)
    (case k5 => k_is)
    (case a6 => k_is)
    (case l6 => k_is)
    (case c6 => k_is)
    (case k6 => k_is)
    (case a7 => k_is)
    (case l7 => k_is)
    (case c7 => k_is)
    (case k7 => k_is)
    (case a8 => k_is)
    (case l8 => k_is)
    (case c8 => k_is)
    (case k8 => k_is)
    (case a9 => k_is)
    (case l9 => k_is)
    (case c9 => k_is)
    (case k9 => k_is)
    (case a10 => k_is)
    (case l10 => k_is)
    (case c10 => k_is)
    (case k10 => k_is)
    (case a11 => k_is)
    (case l11 => k_is)
    (case c11 => k_is)
    (case k11 => k_is)
    (case a12 => k_is)
    (case l12 => k_is)
    (case c12 => k_is)
    (case k12 => k_is)
    (case a13 => k_is)
    (case l13 => k_is)
    (case c13 => k_is)
    (case k13 => k_is)
    (case a14 => k_is)
    (case l14 => k_is)
    (case c14 => k_is)
    (case k14 => k_is)
    (case a15 => k_is)
    (case l15 => k_is)
    (case c15 => k_is)
    (case k15 => k_is)
    (case a16 => k_is)
    (case l16 => k_is)
    (case c16 => k_is)
    (case k16 => k_is)
    (case a17 => k_is)
    (case l17 => k_is)
    (case c17 => k_is)
    (case k17 => k_is)
    (case u17 => first | rfl | k_is)
    (case v17 => kernel_rfl)
    (case w17 => first | rfl | kernel_rfl | k_is)
    (case y17 => exact km_tabs_of Y _ (by first | k_mem | simp))
    (case a18 => k_is)
    (case l18 => k_is)
    (case c18 => k_is)
    (case k18 => k_is)
    (case u18 => first | rfl | k_is)
    (case v18 => kernel_rfl)
    (case w18 => first | rfl | kernel_rfl | k_is)
    (case y18 => exact km_tabs_of Y _ (by first | k_mem | simp))
    (case a19 => k_is)
    (case l19 => k_is)
    (case c19 => k_is)
    (case k19 => k_is)
    (case u19 => first | rfl | k_is)
    (case v19 => kernel_rfl)
    (case w19 => first | rfl | kernel_rfl | k_is)
    (case y19 => exact km_tabs_of Y _ (by first | k_mem | simp))
    (case a20 => k_is)
    (case l20 => k_is)
    (case c20 => k_is)
    (case k20 => k_is)
    (case u20 => first | rfl | k_is)
    (case v20 => kernel_rfl)
    (case w20 => first | rfl | kernel_rfl | k_is)
    (case y20 => exact km_tabs_of Y _ (by first | k_mem | simp))
    (case dis => decide)
    (case n_C => k_is)
    (case pg_C => k_is)
    (case hd_C => k_is)
    (case po_C => k_is)
    (case sa_C => k_is)
    (case mk_C => k_is)
    (case kc_C => k_is)
    (case no0_C => k_is)
    (case no1_C => k_is)
    (case no2_C => k_is)
    (case no3_C => k_is)
    (case no4_C => k_is)
    (case no5_C => k_is)
    (case a21 => k_is)
    (case i21 => k_is)
    (case l21 => k_is)
    (case c21 => k_is)
    (case k21 => k_is)
    (case a22 => k_is)
    (case i22 => k_is)
    (case l22 => k_is)
    (case c22 => k_is)
    (case k22 => k_is)
    (case a23 => k_is)
    (case i23 => k_is)
    (case l23 => k_is)
    (case c23 => k_is)
    (case k23 => k_is)
    (case a24 => k_is)
    (case i24 => k_is)
    (case l24 => k_is)
    (case c24 => k_is)
    (case k24 => k_is)
    (case a25 => k_is)
    (case i25 => k_is)
    (case l25 => k_is)
    (case c25 => k_is)
    (case k25 => k_is)
    (case a26 => k_is)
    (case i26 => k_is)
    (case l26 => k_is)
    (case c26 => k_is)
    (case k26 => k_is)
    (case a27 => k_is)
    (case i27 => k_is)
    (case l27 => k_is)
    (case c27 => k_is)
    (case k27 => k_is)
    (case a28 => k_is)
    (case i28 => k_is)
    (case l28 => k_is)
    (case c28 => k_is)
    (case k28 => k_is)
    (case a29 => k_is)
    (case i29 => k_is)
    (case l29 => k_is)
    (case c29 => k_is)
    (case k29 => k_is)
    (case a30 => k_is)
    (case i30 => k_is)
    (case l30 => k_is)
    (case c30 => k_is)
    (case k30 => k_is)
    (case a31 => k_is)
    (case i31 => k_is)
    (case l31 => k_is)
    (case c31 => k_is)
    (case k31 => k_is)
    (case a32 => k_is)
    (case i32 => k_is)
    (case l32 => k_is)
    (case c32 => k_is)
    (case k32 => k_is)
    (case a33 => k_is)
    (case i33 => k_is)
    (case l33 => k_is)
    (case c33 => k_is)
    (case k33 => k_is)
    (case a34 => k_is)
    (case i34 => k_is)
    (case l34 => k_is)
    (case c34 => k_is)
    (case k34 => k_is)
    (case a35 => k_is)
    (case i35 => k_is)
    (case l35 => k_is)
    (case c35 => k_is)
    (case k35 => k_is)
    (case a36 => k_is)
    (case i36 => k_is)
    (case l36 => k_is)
    (case c36 => k_is)
    (case k36 => k_is)
    (case a37 => k_is)
    (case i37 => k_is)
    (case l37 => k_is)
    (case c37 => k_is)
    (case k37 => k_is)
    (case a38 => k_is)
    (case i38 => k_is)
    (case l38 => k_is)
    (case c38 => k_is)
    (case k38 => k_is)
    (case a39 => k_is)
    (case i39 => k_is)
    (case l39 => k_is)
    (case c39 => k_is)
    (case k39 => k_is)
    (case a40 => k_is)
    (case i40 => k_is)
    (case l40 => k_is)
    (case c40 => k_is)
    (case k40 => k_is)
    (case a41 => k_is)
    (case i41 => k_is)
    (case l41 => k_is)
    (case c41 => k_is)
    (case k41 => k_is)
    (case a42 => k_is)
    (case i42 => k_is)
    (case l42 => k_is)
    (case c42 => k_is)
    (case k42 => k_is)
    (case a43 => k_is)
    (case i43 => k_is)
    (case l43 => k_is)
    (case c43 => k_is)
    (case k43 => k_is)
    (case cn_MAX_TREE => k_is)
    (case cn_MAX_OPERATORS => k_is)
    (case cn_MAX_LETTERS => k_is)
    (case cn_MAX_SIZE => k_is)
    (case cn_HOLE => k_is)
    (case ig => k_is)
    (case ix => k_exc)
    (case ik => k_is)
    (case ib => k_is)
    (case it => k_is)
    (case ic => k_is)
    (case is_ => first | rfl | k_is)
    (case xC1 => k_is)
    (case xL1 => k_is)
    (case xsa1 => k_is)
    (case xga1 => k_is)
    (case xgg1 => k_is)
    (case xnb1 => k_is)
    (case xai1 => k_is)
    (case xti1 => k_is)
    (case xli1 => k_is)
    (case xci1 => k_is)
    (case xkC1 => k_is)
    (case xeC1 => k_is)
    (case xtC1 => k_is)
    (case xhC1 => k_is)
    (case xiC1 => k_is)
    (case xsC1 => first | rfl | k_is)
    (case xC2 => k_is)
    (case xL2 => k_is)
    (case xsa2 => k_is)
    (case xga2 => k_is)
    (case xgg2 => k_is)
    (case xnb2 => k_is)
    (case xai2 => k_is)
    (case xti2 => k_is)
    (case xli2 => k_is)
    (case xci2 => k_is)
    (case xkC2 => k_is)
    (case xeC2 => k_is)
    (case xtC2 => k_is)
    (case xhC2 => k_is)
    (case xiC2 => k_is)
    (case xsC2 => first | rfl | k_is)
    (case exf => first | rfl | k_is)
    (case nsi => first | rfl | k_is)
    (case z_len => k_is)
    (case z_int => k_is)
    (case z_abs => k_is)
    (case z_max => k_is)
    (case z_min => k_is)
    (case z_list => k_is)
    (case z_range => k_is)
    (case z_isinstance => k_is)
    (case z_bool => k_is)
    (case z_tuple => k_is)
    (case z_str => k_is)
    (case z_dict => k_is)
    (case z_sorted => k_is)
    (case z_all => k_is)
    (case z_sum => k_is)
    (case z_repr => k_is)
    (case z_enumerate => k_is)
    (case z_zip => k_is)
    (case z_reversed => k_is)
