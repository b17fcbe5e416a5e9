import PyProof.Rows.All
import Wide.All
import OpenK.AllK
import Wide.FinOn
import PyProof.EqAt
import PyProof.EqKinds
import PyProof.TupleCall
import KE.KExcInit
import KE.OsGo
import HandS.ForMost
import HandS.ForExc
import HandS.Wide
import HandS.IsInst
import HandS.StrMore
import PyProof.ReprReads
import PyProof.ReprRoads
import PyProof.CallFns
import PyProof.ListStr
import PyProof.StrLawsRepr
import HandS.TupMul
import HandS.TupAny
import HandS.More
import KE.KExcIs
import HandS.ExcValue
import HandS.ExcIs
import HandS.ListItems
import HandS.Small
import HandS.DictComp
import HandS.FStr
import HandS.WordsDict
import HandS.Property
import HandS.Iter
import HandS.Walk
import HandS.SetFor
import HandS.Style
import HandS.Finally
import HandS.Strs
import HandS.Star
import HandS.MethStar
import HandS.StrSplit
import HandS.Text
import HandS.ClsMeth
import HandS.TryMany
import HandS.OwnIter
import HandS.OwnEq
import HandS.Lambda
import HandS.Nested
import HandS.EndTab
import HandS.GenYield
import HandS.GenCall
import HandS.GenList
import KE.GoesEnum
import KE.KSortTupAny
import HandS.SortOrd
import HandS.TupSets
import HandS.SetBool
import HandS.DictTup
import KE.KDictKeyed
import KE.KStateDown
import HandS.Base
import HandS.Call
import HandS.Ends
import HandS.Words
import HandS.WordsExc
import HandS.Defaults
import HandS.Head0
import HandS.Head1
import HandS.Head2
import HandS.HeadEnd
import HandS.HeadHook1
import HandS.HeadHook2
import HandS.HeadNt
import PySem.Challenge.RW_munchbehind_k12_whole_near_books
set_option Elab.async false
set_option linter.all false
set_option maxRecDepth 100000
set_option maxHeartbeats 2000000
/-! ### defs that are called where nothing is being shown (repr): what HandS says of a def, with that one fact more -/
namespace Gd
open PySem PySem.Spec PyProof.Rows L2
/-- a def's promise, kept wherever no repr is under way -/
structure FnG (P : Program) (w : World) (K : PySem.W.Frag) (mg : Str → Option Value) (base : Heap) (CX : CXT) (k : Nat) (f : Addr) (fd : FuncData) (ps : List Str) (sp : Sp) : Prop where
  len : ∀ vs H Q E, sp vs H Q E → vs.length = ps.length
  run : ∀ (A : Around) (outer : List Env) (s : Shared) (H : Hp) (args : Args) (us : List Value) (vs : List V) (Q : VK) (E : XK), Room k A → A.guards = some [] → Env0 P w K mg base A outer s H → BindsTo s fd args (ps.zip us) → Vals vs us → sp vs H Q E →
    codeAny (model P w) A (.call (.ref f) args) (CR CX outer P w H s Q E) s
section
variable {P : Program} {w : World} {K : PySem.W.Frag} {mg : Str → Option Value} {base : Heap} {CX : CXT} {k : Nat} {f : Addr} {fd : FuncData} {ps : List Str} {sp : Sp}
/-- out of its body -/
theorem FnG.of_body {qual : Str} {st : Stmt} {x : Str} {N : List Str} (F : Fun K x qual st f fd) (S : FnScope N ps (defScope st)) (len : ∀ vs H Q E, sp vs H Q E → vs.length = ps.length)
    (hbody : ∀ (cdv : Value) (A : Around) (outer : List Env) (s : Shared) (H : Hp) (vs : List V) (Q : VK) (E : XK), Room k (A.deeper (envOfC qual (defScope st) s.heap.objs.size f cdv)) →
      (A.deeper (envOfC qual (defScope st) s.heap.objs.size f cdv)).guards = some [] → sp vs H Q E →
      ∃ t, PSs (cxOf CX P w K mg base N qual (defScope st) f cdv A outer s H E) (defBody st) t ∧ t { nx := fun _ H' => Q .non H', rt := Q } (start N vs) H) : FnG P w K mg base CX (k + 1) f fd ps sp := by
  obtain ⟨oc, od, kV, doc, pm, an, cdv, ct, osl, rfl, lk, hcd⟩ := F.ex
  constructor
  · exact len
  intro A outer s H args us vs Q E room hg env bind rel want
  have size := len _ _ _ _ want
  have keep : ∀ b o, base.get? b = some o → s.heap.get? b = some o := fun b o e => (env.bs b o e).1
  have KX := env.mod.kin.keeps keep
  have lim := env.mod.nolimit.keeps keep
  have slots : ∀ y ∈ ps.zip us, (defScope st).names.lookup y.1 = some .local ∨ ((defScope st).names.lookup y.1 = some .cell ∧ ((cellsFrom (s.heap.objs.size + 1) (defScope st).names []).lookup y.1).isSome = true) := by
    rintro ⟨n, v⟩ hy
    exact (S.par n (List.of_mem_zip hy).1).imp id fun q => ⟨q, PySem.W.cellsFrom_some _ _ _ (.inl q)⟩
  refine codeAny_call_function room.depth (KX _ _ lk) rfl S.co S.gen rfl (PySem.W.codeRec_of KX hcd) (bind _ _ _ _ (wpAny_newFunctionEnv_cells S.kind slots fun env1 he s1 x => ?_))
  subst he
  refine ⟨lim.keeps x.toInCall.keep, codeAny_func ?_⟩
  have guard : (A.deeper (envOfC qual (defScope st) s.heap.objs.size f cdv)).guards = some [] := hg
  obtain ⟨t, ht, hq⟩ := hbody cdv A outer s H vs Q E (room.deeper _) guard want
  have I : Inv (cxOf CX P w K mg base N qual (defScope st) f cdv A outer s H E) [] (start N vs) H s1 := inv_start S room.hd env size rel x
  refine wpAny_mono (ht.run [] s1 (start N vs) H _ I hq) (fun fl s' hs => ?_) fun e s' hs => hs
  cases fl with
  | ret u =>
    obtain ⟨v, σ', H', J, rv, q⟩ := hs
    exact ⟨v, H', J.os, J.bare, J.base, J.hok, rv, q⟩
  | next =>
    obtain ⟨σ', H', J, q⟩ := hs
    exact ⟨V.non, H', J.os, J.bare, J.base, J.hok, rfl, q⟩
  | brk => exact (let ⟨_, _, _, q⟩ := hs; q : False).elim
  | cont => exact (let ⟨_, _, _, q⟩ := hs; q : False).elim
/-- the same, where no exception leaves it -/
theorem FnG.ok {qual : Str} {st : Stmt} {x : Str} {N : List Str} (F : Fun K x qual st f fd) (S : FnScope N ps (defScope st)) (len : ∀ vs H Q E, sp vs H Q E → vs.length = ps.length)
    (hbody : ∀ (cdv : Value) (A : Around) (outer : List Env) (s : Shared) (H : Hp) (vs : List V) (Q : VK) (E : XK), Room k (A.deeper (envOfC qual (defScope st) s.heap.objs.size f cdv)) →
      (A.deeper (envOfC qual (defScope st) s.heap.objs.size f cdv)).guards = some [] → sp vs H Q E →
      ∃ t, PSs (cxOf CX0 P w K mg base N qual (defScope st) f cdv A outer s H E).nox (defBody st) t ∧ t { nx := fun _ H' => Q .non H', rt := Q } (start N vs) H) : FnG P w K mg base CX0 (k + 1) f fd ps sp :=
  FnG.of_body F S len fun cdv A outer s H vs Q E hr hg h => let ⟨t, a, b⟩ := hbody cdv A outer s H vs Q E hr hg h; ⟨t, a.nox, b⟩
end
section
variable {X : Cx} {CX : CXT} {k : Nat} {f : Addr} {fd : FuncData} {ps : List Str} {sp : Sp} {E : XK} {x : Str} {p pos : Pos} {e : Expr} {es : List Expr} {t : TA}
/-- f(..) of such a def -/
theorem pe_callG (F : FnG X.prog X.w X.K X.mg X.base CX k f fd ps sp) (hr : Room k X.A) (gd : X.A.guards = some []) (hg : Gl X x) (hm : X.mg x = some (.ref f)) (hk : PySem.W.keepIn X.K (.ref f) = true) (hb : Binds X.K fd ps []) (hx : Passes CX X E)
    (ha : PA X (e :: es) t) (hdb : (x == ("__debug__" : Str)) = false := by decide) (he : starEach (e :: es) X.env = (false, eval e X.env) :: starEach es X.env := by rfl) (hpl : (backTo pos (starEach es X.env)).any (·.1) = false := by rfl) :
    PE X (.Call (.Name x p) (e :: es) [] pos) (tCall sp [] E t) := by
  refine ⟨fun pins s σ H Q I h => ?_⟩
  refine wpAny_Call_Name_kw (ld_glob I hg hm ?_ hdb)
  refine PySem.W.callWith_K (h₀ := X.base) I.ok.mod.kin hk (thn (ha.run pos pins s σ H _ I h) fun us s1 ⟨vs, H1, I1, r, q⟩ => ⟨I1.kIn, ?_⟩) he hpl
  have q' : sp vs H1 Q E := by
    have z : sp (vs ++ []) H1 Q E := q
    rw [List.append_nil] at z
    exact z
  have hl : us.length = ps.length := by rw [← r.length]; exact F.len _ _ _ _ q'
  have b := hb s1 us I1.kIn (by rw [List.append_nil]; exact hl)
  rw [List.append_nil] at b
  refine wpAny_call (codeAny_mono (F.run X.A X.stack s1 H1 ⟨us, []⟩ us vs Q E hr gd I1.env0 b r q') fun r' s' hq => ?_)
  cases r' with
  | error z => exact hx pins σ H1 s1 z s' I1 hq
  | ok fl =>
    cases fl with
    | ret u => exact I1.after hq
    | next => exact False.elim hq
    | brk => exact False.elim hq
    | cont => exact False.elim hq
end
/-- the script as the one thing that is tracked: at a, locked, where the written part has it not -/
def scriptH (K : PySem.W.Frag) (a : Addr) (o : Obj) (xs : List V) : Hp := fun b => if b = a ∧ K.lookup a = none then some (.frz o (.lst xs)) else none
theorem scriptH_some {K : PySem.W.Frag} {a b : Addr} {o : Obj} {xs : List V} {u : HO} (h : scriptH K a o xs b = some u) : b = a ∧ K.lookup a = none ∧ u = .frz o (.lst xs) := by
  unfold scriptH at h
  by_cases c : b = a ∧ K.lookup a = none
  · rw [if_pos c] at h
    exact ⟨c.1, c.2, (Option.some.inj h).symm⟩
  · rw [if_neg c] at h
    cases h
/-- the law's own call, from a promise that is kept where nothing is being shown -/
theorem law_callG {P : Program} {w : World} {K : PySem.W.Frag} {mg mb : Str → Option Value} {CX : CXT} {k : Nat} {fa a : Addr} {fd : FuncData} {x : Str} {sp : Sp} {s : Shared} {vs : List Value} {ns : List Int}
    (KX : K.In s.heap) (hns : s.heap.Ns mainGlobals mg) (hb : s.heap.Ns builtinsNs mb) (hbb : ∀ x : Str, x ≠ "__name__" → mb x = bootBuiltins x) (hlim : s.heap.NoLimit) (hg : s.gens = #[])
    (ha : s.heap.get? a = some { cls := .type "list", data := .seq vs.toArray }) (hi : IntsAre vs ns) (hl : ns.length ≤ sizeLine) (hr : Room k callerA)
    (F : ∀ base : Heap, K.In base → base.Ns mainGlobals mg → FnG P w K mg base CX k fa fd [x] sp) (hbind : ∀ (s : Shared) (u : Value), BindsTo s fd ⟨[u], []⟩ [(x, u)])
    (hsp : ∀ H : Hp, Only H → SqL K H a (ns.map V.int) → sp [.ref a] H (fun v _ => v = .bl true) fun _ _ _ => False)
    (hCX : ∀ H e s', CX [] H s (fun _ _ _ => False) e s' → False) :
    codeAny (model P w) callerA (.call (.ref fa) ⟨[.ref a], []⟩) (fun r s' => r = .ok (.ret (.bool true)) ∧ OldK s.heap s'.heap ∧ s'.os = s.os ∧ AllBare s'.gens) s := by
  have rv := vals_ints hi
  have lenV := hi.length
  let O : Obj := { cls := .type "list", data := .seq vs.toArray }
  let H : Hp := scriptH K a O (ns.map V.int)
  have only : Only H := fun b => by
    cases q : H b with
    | none => exact .inl rfl
    | some u => exact .inr ⟨O, ns.map V.int, by rw [(scriptH_some q).2.2]⟩
  have hS : SqL K H a (ns.map V.int) := by
    cases hk : K.lookup a with
    | none => exact .inl (.inr ⟨O, if_pos ⟨rfl, hk⟩⟩)
    | some o =>
      have e := KX a o hk
      rw [ha] at e
      cases e
      exact .inr ⟨_, vs.toArray, _, hk, rfl, rfl, rfl, by rw [List.size_toArray, lenV]; exact hl, by simpa using rv⟩
  have hok : HOk P w H s.heap := fun b u q => by
    obtain ⟨e1, _, e3⟩ := scriptH_some q
    rw [e1, e3]
    exact ⟨ha, by rw [List.length_map]; exact hl, vs, _, rv, ha⟩
  have notDict : ∀ {b : Addr} {o : Obj} {es : Array DictEntry} {ep : Nat}, s.heap.get? b = some o → o.data = .dict es ep → H b = none := fun {b o es ep} e d => by
    cases q : H b with
    | none => rfl
    | some u =>
      rw [(scriptH_some q).1, ha] at e
      cases e
      cases (show Data.seq vs.toArray _ = Data.dict es ep from d)
  have nsK : ∀ {b : Addr} {m : Str → Option Value}, s.heap.Ns b m → (hidT s.heap H).Ns b m := fun {b m} ⟨o, es, ep, e, d, r⟩ => ⟨o, es, ep, hidT_get e (notDict e d), d, r⟩
  have inK : K.In (hidT s.heap H) := fun b o e => hidT_get (KX b o e) (by
    cases q : H b with
    | none => rfl
    | some u =>
      obtain ⟨e1, e2, _⟩ := scriptH_some q
      rw [e1, e2] at e
      cases e)
  obtain ⟨mc, l1, l2⟩ := hlim
  have env : Env0 P w K mg (hidT s.heap H) callerA [] s H :=
    ⟨rfl, ⟨inK, nsK hns, ⟨mb, nsK hb, hbb⟩, ⟨mc, nsK l1, l2⟩⟩, fun b o e => of_hidT e, Nat.le_of_eq (hidT_size _ _), trivial, fun b m => absurd (show b ∈ ([] : List Addr) from m) (by simp), hok, .of_eq hg⟩
  refine codeAny_mono ((F _ inK (nsK hns)).run callerA [] s H ⟨[.ref a], []⟩ [.ref a] [.ref a] _ _ hr rfl env (hbind s (.ref a)) (.cons rfl .nil) (hsp H only hS)) fun r s' h => ?_
  cases r with
  | error e => exact (hCX H e s' h).elim
  | ok fl =>
    cases fl with
    | next => exact False.elim h
    | brk => exact False.elim h
    | cont => exact False.elim h
    | ret u =>
      obtain ⟨v, H', os, bare, un, hok', r', q⟩ := h
      obtain rfl : v = .bl true := q
      obtain rfl : u = Value.bool true := r'
      refine ⟨rfl, OldK.of_keep fun b o e => ?_, os, bare⟩
      cases q : H b with
      | none => exact un.keep b o e q (fun z => absurd (show b ∈ ([] : List Addr) from z) (by simp)) (by simp)
      | some u =>
        obtain ⟨_, _, eu⟩ := scriptH_some q
        rw [eu] at q
        have e1 := (hok b _ q).1
        have e2 := (hok' b _ (un.frzs b O _ q)).1
        rw [e] at e1
        cases e1
        exact e2
theorem walk_ofG {l : PySem.W.OpenLaw} {n k : Nat} {q : Program} {loose : List Str} {XP : (Str → Option Value) → Heap → Prop} {YP : World → Heap → Prop} {d : DefRec} {K : Params → PySem.W.Frag} {CX : World → CXT} {sp : World → Sp} {x : Str}
    (hn : l.most = some n) (hn2 : n ≤ sizeLine) (hdf : d.params.defaults = []) (hr : Room k callerA)
    (hY : ∀ (w : World) (h : Heap), YP w h → (K w.params).In h)
    (F : ∀ (w : World) (mg : Str → Option Value) (fa : Addr) (h : Heap), (K w.params).In h → h.Ns mainGlobals mg → mg d.name = some (.ref fa) →
      ∃ fd : FuncData, (∀ (s : Shared) (u : Value), BindsTo s fd ⟨[u], []⟩ [(x, u)]) ∧
        ∀ base : Heap, (K w.params).In base → base.Ns mainGlobals mg → FnG l.prog w (K w.params) mg base (CX w) k fa fd [x] (sp w))
    (hsp : ∀ (w : World) (H : Hp) (a : Addr) (ns : List Int), ns.length ≤ n → Only H → SqL (K w.params) H a (ns.map V.int) → sp w [.ref a] H (fun v _ => v = .bl true) fun _ _ _ => False)
    (hCX : ∀ (w : World) (H : Hp) (s : Shared) (e : Value) (s' : Shared), CX w [] H s (fun _ _ _ => False) e s' → False) :
    PySem.W.WalkO q loose XP YP l.row.toRowW d [] (fun f vs => PySem.call f vs) := by
  refine Att.attach_call hn hdf fun w s₀ s₁ mg mb fa o pm cd doc a vs ns G Y ho hd hcd hmg hobj hints hlen hg => ?_
  obtain ⟨fd, hb, hF⟩ := F w mg fa _ (hY w _ Y) G.T.g hmg
  exact law_callG (hY w _ Y) G.T.g G.T.b G.T.builtins G.T.nolimit hg hobj hints (Nat.le_trans hlen hn2) hr hF hb (fun H hO hS => hsp w H a ns hlen hO hS) fun H e s' => hCX w H s₁ e s'
end Gd
/-! ### tuples of which it is known that they are plain: rules that make them, and their methods -/
namespace Tx
open PySem PySem.Spec PyProof.Rows L2
/-- a plain tuple -/
def TX (H : Hp) (a : Addr) (xs : List V) : Prop := ∃ ob, H a = some (.frz ob (.tup xs)) ∧ ob.dict = none
theorem TX.same {H H' : Hp} {a : Addr} {xs : List V} (h : TX H a xs) (s : Same H H') : TX H' a xs := let ⟨ob, e, d⟩ := h; ⟨ob, s _ _ e, d⟩
theorem TX.sq {K : PySem.W.Frag} {H : Hp} {a : Addr} {xs : List V} (h : TX H a xs) : SqT K H a xs := let ⟨ob, e, _⟩ := h; .inl (.inr ⟨ob, e⟩)
theorem TX.there {H : Hp} {a : Addr} {xs : List V} (h : TX H a xs) : ∃ ob, H a = some (.frz ob (.tup xs)) := let ⟨ob, e, _⟩ := h; ⟨ob, e⟩
theorem same_new {p : Addr} {H : Hp} {o : HO} (n : H p = none) : Same H (L2.upd H p o) := fun b u h => by rw [upd_ne (ne_of_none h n)]; exact h
section
variable {X : Cx}
/-- a new plain tuple -/
theorem laid_tup {pins : List (Addr × Obj)} {σ : L2.St} {H : Hp} {s : Shared} {xs : List V} {us : List Value} (I : Inv X pins σ H s) (rel : Vals xs us) (few : xs.length ≤ sizeLine) :
    ∃ H2, Inv X pins σ H2 { s with heap := s.heap.push { cls := .type "tuple", data := .seq us.toArray } } ∧ H s.heap.objs.size = none ∧ Same H H2 ∧ TX H2 s.heap.objs.size xs := by
  have fresh := I.hok.fresh (Nat.le_refl s.heap.objs.size)
  have J := I.laid (t' := s.toks) (o := .frz { cls := .type "tuple", data := .seq us.toArray } (.tup xs)) (h' := s.heap.push { cls := .type "tuple", data := .seq us.toArray }) (fun b ob q => Heap.get?_push_of_some _ q) (Nat.le_refl _)
    ⟨Heap.get?_push_size _ rfl, few, us, rel, IsTup.new _ _⟩
  exact ⟨_, J, fresh, same_new fresh, _, upd_same, rfl⟩
/-- (a, b, ..) -/
def tTupX (t : TA) : TE := fun σ H Q => t σ H fun xs H1 => xs.length ≤ sizeLine ∧ ∀ p H2, H1 p = none → Same H1 H2 → TX H2 p xs → Q (.ref p) H2
theorem pe_tupX {es : List Expr} {pos : Pos} {x1} {t : TA} (h : PA X es t) : PE X (.Tuple es x1 pos) (tTupX t) := by
  refine ⟨fun pins s0 σ G0 Q J0 q0 => ?_⟩
  refine wpAny_Tuple_spliced (thn (h.run pos pins s0 σ G0 _ J0 q0) fun us s1 ⟨xs, G1, J1, rel, few, q⟩ => ⟨by rw [← rel.length]; exact few, ?_⟩)
  obtain ⟨G2, J2, fresh, same, tx⟩ := laid_tup J1 rel few
  exact ⟨.ref s1.heap.objs.size, G2, J2, rfl, q _ _ fresh same tx⟩
/-- t + u -/
def rCatX : R2 := fun x y H Q => ∃ a b xs ys, x = .ref a ∧ y = .ref b ∧ TX H a xs ∧ TX H b ys ∧ xs.length + ys.length ≤ sizeLine ∧ ∀ p H2, Same H H2 → TX H2 p (xs ++ ys) → Q (.ref p) H2
theorem op_catX : OpR X (binaryOp .Add) rCatX := by
  intro pins s σ H x y v u Q J rx ry h
  obtain ⟨a, b, xs, ys, rfl, rfl, ha, hb, few, q⟩ := h
  by_cases ex : xs = []
  · subst ex
    refine op_catA pins s σ H _ _ v u Q J rx ry ⟨a, b, [], ys, rfl, rfl, ha.sq, hb.sq, few, fun _ => q b H (Same.refl H) hb, fun e => absurd rfl e, fun e => absurd rfl e⟩
  · cases rx
    cases ry
    obtain ⟨us, r1, p1, _⟩ := J.tuple (ha.sq (K := X.K))
    obtain ⟨ws, r2, p2, _⟩ := J.tuple (hb.sq (K := X.K))
    refine HT.cat_tup p1 p2 (fun z => ex (r1.nil_iff.mp z)) (fun z => ?_) (fun z => ?_) (by rw [← r1.length, ← r2.length]; exact few)
    · have ey := r2.nil_iff.mp z
      subst ey
      exact ⟨.ref a, H, J, rfl, q a H (Same.refl H) (by rw [List.append_nil]; exact ha)⟩
    · obtain ⟨G2, J2, fresh, same, tx⟩ := laid_tup J (r1.append r2) (by rw [List.length_append]; exact few)
      exact ⟨.ref s.heap.objs.size, G2, J2, rfl, q _ _ same tx⟩
/-- t + u, what is new is plain -/
def rCatY (K : PySem.W.Frag) : R2 := fun x y H Q => ∃ a b xs ys, x = .ref a ∧ y = .ref b ∧ SqT K H a xs ∧ SqT K H b ys ∧ xs.length + ys.length ≤ sizeLine ∧
  (xs = [] → Q (.ref b) H) ∧ (xs ≠ [] → ys = [] → Q (.ref a) H) ∧ ∀ p H2, H p = none → Same H H2 → TX H2 p (xs ++ ys) → Q (.ref p) H2
theorem op_catY : OpR X (binaryOp .Add) (rCatY X.K) := by
  intro pins s σ H x y v u Q J rx ry h
  obtain ⟨a, b, xs, ys, rfl, rfl, ha, hb, few, q0, q1, q2⟩ := h
  by_cases ex : xs = []
  · subst ex
    exact op_catA pins s σ H _ _ v u Q J rx ry ⟨a, b, [], ys, rfl, rfl, ha, hb, few, q0, fun e => absurd rfl e, fun e => absurd rfl e⟩
  by_cases ey : ys = []
  · subst ey
    exact op_catA pins s σ H _ _ v u Q J rx ry ⟨a, b, xs, [], rfl, rfl, ha, hb, few, fun e => absurd e ex, q1, fun _ e => absurd rfl e⟩
  · cases rx
    cases ry
    obtain ⟨us, r1, p1, _⟩ := J.tuple ha
    obtain ⟨ws, r2, p2, _⟩ := J.tuple hb
    refine HT.cat_tup p1 p2 (fun z => ex (r1.nil_iff.mp z)) (fun z => absurd (r2.nil_iff.mp z) ey) (fun _ => ?_) (by rw [← r1.length, ← r2.length]; exact few)
    obtain ⟨G2, J2, fresh, same, tx⟩ := laid_tup J (r1.append r2) (by rw [List.length_append]; exact few)
    exact ⟨.ref s.heap.objs.size, G2, J2, rfl, q2 _ _ fresh same tx⟩
/-- t[lo:hi] -/
def rSlX : V → Option Int → Option Int → Hp → VK → Prop := fun x lo hi H Q => ∃ a xs, x = .ref a ∧ TX H a xs ∧ ∀ p H2, Same H H2 → TX H2 p (cutV xs lo hi) → Q (.ref p) H2
theorem cut_whole {xs : List V} {lo hi : Option Int} (h : HT.sIx xs.length 0 lo = 0 ∧ HT.sIx xs.length xs.length hi = xs.length) : cutV xs lo hi = xs := by
  unfold cutV
  rw [h.1, h.2, List.drop_zero, Nat.sub_zero, List.take_length]
theorem sl_tupX : SlR X rSlX := by
  intro pins s σ H x v vl vu lo hi sl Q J rx hs pl pu h
  obtain ⟨a, xs, rfl, hx, q⟩ := h
  cases rx
  obtain ⟨us, rel, tt, few⟩ := J.tuple (hx.sq (K := X.K))
  have len : us.toArray.size = xs.length := by rw [List.size_toArray]; exact rel.length.symm
  refine ⟨"tuple", _, PyProof.Rows.slot_tuple_getitem.lookup, tt.typeIs, ?_⟩
  by_cases whole : HT.sIx xs.length 0 lo = 0 ∧ HT.sIx xs.length xs.length hi = xs.length
  · refine getItem_tuple_whole tt hs pl pu (by rw [len]; exact whole) ⟨.ref a, H, J, rfl, q a H (Same.refl H) ?_⟩
    rw [cut_whole whole]
    exact hx
  · refine HT.getItem_tuple_cut tt hs pl pu (by rw [len]; exact whole) ?_ (by rw [len]; exact few)
    rw [len]
    obtain ⟨G2, J2, fresh, same, tx⟩ := laid_tup J ((rel.drop (HT.sIx xs.length 0 lo)).take (HT.sIx xs.length xs.length hi - HT.sIx xs.length 0 lo)) (Nat.le_trans (cutV_length xs lo hi) few)
    exact ⟨.ref s.heap.objs.size, G2, J2, rfl, q _ _ same tx⟩
/-- tuple(xs) of a list -/
theorem call_tupX : CallR X (.type "tuple") (fun xs H Q => ∃ p ys, xs = [.ref p] ∧ SqL X.K H p ys ∧ ∀ q H2, H q = none → Same H H2 → TX H2 q ys → Q (.ref q) H2) := by
  intro pins s σ H xs us Q J r h
  obtain ⟨p, ys, rfl, hq, q⟩ := h
  obtain ⟨u, rfl, rx⟩ := vals1 r
  cases rx
  obtain ⟨its, rel, pl, few⟩ := J.list hq
  have len := rel.length
  refine call_tuple_list pl.isList (fun h2 keep => ?_) (by simp only [List.size_toArray]; omega)
  have J1 : Inv X pins σ H { s with heap := h2 } := J.kept (t' := s.toks) keep
  obtain ⟨G2, J2, fresh, same, tx⟩ := laid_tup J1 rel few
  exact ⟨.ref h2.objs.size, G2, J2, rfl, q _ _ fresh same tx⟩
/-- t.name(..) -/
def tTM (r : V → List V → Hp → VK → Prop) (to : TE) (t : TA) : TE := fun σ H Q => to σ H fun x H1 => (∃ a xs, x = .ref a ∧ TX H1 a xs) ∧ t σ H1 fun vs H2 => r x vs H2 Q
variable {o e : Expr} {es : List Expr} {name : Str} {id : String} {apos cpos : Pos} {r : V → List V → Hp → VK → Prop} {to : TE} {t : TA}
theorem pe_tm (slot : Slot "tuple" name id) (hty : typeOf (.builtin id) = pure (.type "method_descriptor")) (hm : MtR X id r) (ho : PE X o to) (ha : PA X (e :: es) t)
    (hbase : attributeBase o name X.env (eval o X.env) = eval o X.env := by rfl)
    (few : ((backTo cpos (starEach (e :: es) X.env)).all (fun x => !x.1) && (backToKw cpos (keywordEach [] X.env)).all (fun x => x.1.isSome)
      && decide ((e :: es).length + ([] : List Keyword).length + (if ([] : List Keyword).isEmpty then 0 else 1) < 30)) = true := by rfl)
    (line : (apos.endLine == cpos.line) = true := by rfl) (st : starEach (e :: es) X.env = (false, eval e X.env) :: starEach es X.env := by rfl) (plain : (backTo cpos (starEach es X.env)).any (·.1) = false := by rfl) :
    PE X (.Call (.Attribute o name apos) (e :: es) [] cpos) (tTM r to t) := by
  refine ⟨fun pins s0 σ G0 Q J0 q0 => ?_⟩
  refine wpAny_Call_method_late hbase few line rfl (thn (ho.run pins s0 σ G0 _ J0 q0) fun v s1 ⟨x, G1, J1, r1, ⟨a, xs, ex, tx⟩, q1⟩ => ?_)
  subst ex
  obtain rfl : v = Value.ref a := r1
  obtain ⟨ob, at_, nod⟩ := tx
  obtain ⟨here, _, us, rel, tt⟩ := J1.hok a _ at_
  refine ⟨"tuple", id, F.plainAttrs_tuple, slot, hty, tt.typeIs, fun b eb => ?_, ?_⟩
  · cases eb
    exact ⟨ob, here, nod⟩
  have run := ha.run cpos pins s1 σ G1 _ J1 q1
  rw [st] at run ⊢
  refine Calls.callWith_builtin (by show (false || (backTo cpos (starEach es X.env)).any (·.1)) = false; rw [plain]; rfl) (Calls.evalArgs_plain ?_)
  exact thn run fun us2 s2 ⟨vs, G2, J2, r2, q2⟩ => hm pins s2 σ G2 (.ref a) vs _ us2 Q J2 rfl r2 q2
end
end Tx
/-! ### repr of what is tracked: None, bools, ints, texts, lists, tuples and dicts of them -/
namespace Gd
open PySem PySem.Spec PyProof.Rows L2 PySem.Builtin.List
def keyText : Key → Str
  | .inl i => ((toString i : String) : Str)
  | .inr x => reprText x
def keyFits : Key → Prop
  | .inl i => i.natAbs.log2 < 1920
  | .inr x => (reprText x).length ≤ sizeLine
/-- a plain value and its text -/
inductive Sc : V → Str → Prop where
  | non : Sc .non "None"
  | bl (b : Bool) : Sc (.bl b) (if b then "True" else "False")
  | int (i : Int) (h : i.natAbs.log2 < 1920) : Sc (.int i) ((toString i : String) : Str)
  | str (x : Str) (h : (reprText x).length ≤ sizeLine) : Sc (.str x) (reprText x)
/-- a tuple that is tracked -/
def TT (H : Hp) (a : Addr) (xs : List V) : Prop := H a = some (.tup xs)
theorem TT.same {H H' : Hp} {a : Addr} {xs : List V} (h : TT H a xs) (s : Same H H') : TT H' a xs := s _ _ h
theorem TT.eq {H : Hp} {a : Addr} {xs ys : List V} (h : TT H a xs) (k : TT H a ys) : xs = ys := by
  unfold TT at h k
  rw [h] at k
  cases k
  rfl
theorem TT.nl {H : Hp} {a : Addr} {xs ys : List V} (h : TT H a xs) (k : H a = some (.lst ys)) : False := by
  unfold TT at h
  rw [h] at k
  cases k
theorem TT.nd {H : Hp} {a : Addr} {xs : List V} {kvs : List (Key × V)} (h : TT H a xs) (k : H a = some (.dK kvs)) : False := by
  unfold TT at h
  rw [h] at k
  cases k
theorem TT.at {P : Program} {w : World} {H : Hp} {h : Heap} {a : Addr} {xs : List V} (t : TT H a xs) (ok : HOk P w H h) : ∃ its o n, Vals xs its ∧ h.get? a = some o ∧ o.cls = .type "tuple" ∧ o.data = .seq its.toArray n := by
  obtain ⟨_, its, rv, o, ho, hc, m, hd⟩ := (show ObjOk P w H h a (.tup xs) from ok a _ t)
  exact ⟨its, o, m, rv, ho, hc, hd⟩
theorem TT.sq {K : PySem.W.Frag} {H : Hp} {a : Addr} {xs : List V} (h : TT H a xs) : SqT K H a xs := .inl (.inl h)
/-- v is shown as t: nested at most n deep -/
def Sh (H : Hp) : Nat → V → Str → Prop
  | 0, v, t => Sc v t
  | n + 1, v, t => Sc v t ∨ (∃ a xs ts, v = .ref a ∧ H a = some (.lst xs) ∧ Paired (Sh H n) xs ts ∧ t = listText ts) ∨
      (∃ a xs ts, v = .ref a ∧ TT H a xs ∧ Paired (Sh H n) xs ts ∧ t = tupleText ts) ∨
      ∃ a kvs ts, v = .ref a ∧ H a = some (.dK kvs) ∧ Paired (fun (p : Key × V) t => keyFits p.1 ∧ Sh H n p.2 t) kvs ts ∧ t = dictText (List.zipWith (fun (p : Key × V) t => keyText p.1 ++ ": " ++ t) kvs ts)
theorem Sh.sc {H : Hp} {n : Nat} {v : V} {t : Str} (h : Sc v t) : Sh H n v t := by
  cases n with
  | zero => exact h
  | succ n => exact .inl h
theorem Sh.lst {H : Hp} {n : Nat} {a : Addr} {xs : List V} {ts : List Str} (e : H a = some (.lst xs)) (h : Paired (Sh H n) xs ts) : Sh H (n + 1) (.ref a) (listText ts) := .inr (.inl ⟨a, xs, ts, rfl, e, h, rfl⟩)
theorem Sh.tup {H : Hp} {n : Nat} {a : Addr} {xs : List V} {ts : List Str} (e : TT H a xs) (h : Paired (Sh H n) xs ts) : Sh H (n + 1) (.ref a) (tupleText ts) := .inr (.inr (.inl ⟨a, xs, ts, rfl, e, h, rfl⟩))
theorem Sh.dK {H : Hp} {n : Nat} {a : Addr} {kvs : List (Key × V)} {ts : List Str} (e : H a = some (.dK kvs)) (h : Paired (fun (p : Key × V) t => keyFits p.1 ∧ Sh H n p.2 t) kvs ts) :
    Sh H (n + 1) (.ref a) (dictText (List.zipWith (fun (p : Key × V) t => keyText p.1 ++ ": " ++ t) kvs ts)) := .inr (.inr (.inr ⟨a, kvs, ts, rfl, e, h, rfl⟩))
theorem Sc.det {v : V} {t t' : Str} (h : Sc v t) (h' : Sc v t') : t = t' := by
  cases h <;> cases h' <;> rfl
theorem Sc.noRef {a : Addr} {t : Str} (h : Sc (.ref a) t) : False := nomatch h
theorem paired_det {α : Type} {F G : α → Str → Prop} (k : ∀ a t t', F a t → G a t' → t = t') : ∀ {xs : List α} {ts ts' : List Str}, Paired F xs ts → Paired G xs ts' → ts = ts'
  | _, _, _, .nil, .nil => rfl
  | _, _, _, .cons h r, .cons h' r' => by rw [k _ _ _ h h', paired_det k r r']
/-- the text is one -/
theorem Sh.det {H : Hp} : ∀ (n : Nat) (v : V) (t : Str), Sh H n v t → ∀ (m : Nat) (t' : Str), Sh H m v t' → t = t'
  | 0, v, t, h, 0, t', h' => Sc.det h h'
  | 0, v, t, h, m + 1, t', h' => by
    rcases h' with h' | ⟨a, _, _, rfl, _⟩ | ⟨a, _, _, rfl, _⟩ | ⟨a, _, _, rfl, _⟩
    · exact Sc.det h h'
    all_goals exact (Sc.noRef h).elim
  | n + 1, v, t, h, 0, t', h' => by
    rcases h with h | ⟨a, _, _, rfl, _⟩ | ⟨a, _, _, rfl, _⟩ | ⟨a, _, _, rfl, _⟩
    · exact Sc.det h h'
    all_goals exact (Sc.noRef h').elim
  | n + 1, v, t, h, m + 1, t', h' => by
    rcases h with h | ⟨a, xs, ts, rfl, e, p, rfl⟩ | ⟨a, xs, ts, rfl, e, p, rfl⟩ | ⟨a, xs, ts, rfl, e, p, rfl⟩
    · rcases h' with h' | ⟨a, _, _, rfl, _⟩ | ⟨a, _, _, rfl, _⟩ | ⟨a, _, _, rfl, _⟩
      · exact Sc.det h h'
      all_goals exact (Sc.noRef h).elim
    · rcases h' with h' | ⟨b, xs', ts', eb, e', p', rfl⟩ | ⟨b, xs', ts', eb, e', p', rfl⟩ | ⟨b, xs', ts', eb, e', p', rfl⟩
      · exact (Sc.noRef h').elim
      · cases eb
        rw [e] at e'
        cases e'
        rw [paired_det (fun a t t' q q' => Sh.det n a t q m t' q') p p']
      · cases eb
        exact (TT.nl e' e).elim
      · cases eb
        rw [e] at e'
        cases e'
    · rcases h' with h' | ⟨b, xs', ts', eb, e', p', rfl⟩ | ⟨b, xs', ts', eb, e', p', rfl⟩ | ⟨b, xs', ts', eb, e', p', rfl⟩
      · exact (Sc.noRef h').elim
      · cases eb
        exact (TT.nl e e').elim
      · cases eb
        cases TT.eq e e'
        rw [paired_det (fun a t t' q q' => Sh.det n a t q m t' q') p p']
      · cases eb
        exact (TT.nd e e').elim
    · rcases h' with h' | ⟨b, xs', ts', eb, e', p', rfl⟩ | ⟨b, xs', ts', eb, e', p', rfl⟩ | ⟨b, xs', ts', eb, e', p', rfl⟩
      · exact (Sc.noRef h').elim
      · cases eb
        rw [e] at e'
        cases e'
      · cases eb
        exact (TT.nd e' e).elim
      · cases eb
        rw [e] at e'
        cases e'
        rw [paired_det (fun a t t' q q' => Sh.det n a.2 t q.2 m t' q'.2) p p']
theorem Sh.keep {H H' : Hp} (k : ∀ a o, H a = some o → H' a = some o) : ∀ (n : Nat) (v : V) (t : Str), Sh H n v t → Sh H' n v t
  | 0, _, _, h => h
  | n + 1, _, _, h => by
    rcases h with h | ⟨a, xs, ts, rfl, e, p, rfl⟩ | ⟨a, xs, ts, rfl, e, p, rfl⟩ | ⟨a, xs, ts, rfl, e, p, rfl⟩
    · exact .inl h
    · exact Sh.lst (k _ _ e) (L2.Paired.mapP p fun x t q => Sh.keep k n x t q)
    · exact Sh.tup (TT.same e k) (L2.Paired.mapP p fun x t q => Sh.keep k n x t q)
    · exact Sh.dK (k _ _ e) (L2.Paired.mapP p fun x t q => ⟨q.1, Sh.keep k n x.2 t q.2⟩)
section
variable {P : Program} {w : World} {H : Hp} {h : Heap}
def Below (H : Hp) (n : Nat) (b : Addr) : Prop := ∃ m, m ≤ n ∧ ∃ t, Sh H m (.ref b) t
theorem all_repr {n : Nat} (ih : ∀ (v : V) (t : Str) (u : Value), Sh H n v t → RelV v u → ∃ bs : List Addr, (∀ b ∈ bs, Below H n b) ∧ ReprK P w bs h n u t) :
    ∀ {xs : List V} {ts : List Str} {us : List Value}, Paired (Sh H n) xs ts → Vals xs us → ∃ bs : List Addr, (∀ b ∈ bs, Below H n b) ∧ ReprAllK P w bs h n us ts
  | _, _, _, .nil, .nil => ⟨[], (fun _ m => nomatch m), .nil⟩
  | _, _, _, .cons p q, .cons r s => by
    obtain ⟨b1, h1, k1⟩ := ih _ _ _ p r
    obtain ⟨b2, h2, k2⟩ := all_repr ih q s
    exact ⟨b1 ++ b2, fun b m => (List.mem_append.mp m).elim (h1 b) (h2 b), .cons (k1.more fun b m => List.mem_append_left _ m) (k2.more_le (fun b m => List.mem_append_right _ m) (Nat.le_refl _))⟩
theorem key_repr {k : Key} {v : Value} (e : keyIs k v = true) (f : keyFits k) (bs : List Addr) (n : Nat) : ReprK P w bs h n v (keyText k) := by
  rcases keyIs_shape e with ⟨i, t, rfl, rfl⟩ | ⟨x, t, rfl, rfl⟩
  · exact .of_is (ReprIs.int t f) _ _ _
  · exact .of_is (ReprIs.str x t f) _ _ _
theorem ReprEntriesK.wider {as as' : List Addr} {d : Nat} (sub : ∀ b ∈ as, b ∈ as') : ∀ {l : List DictEntry} {ts : List Str}, ReprEntriesK P w as h d l ts → ReprEntriesK P w as' h d l ts
  | _, _, .nil => .nil
  | _, _, .cons a b r => .cons (a.more sub) (b.more sub) (ReprEntriesK.wider sub r)
theorem entries_repr {n : Nat} (ih : ∀ (v : V) (t : Str) (u : Value), Sh H n v t → RelV v u → ∃ bs : List Addr, (∀ b ∈ bs, Below H n b) ∧ ReprK P w bs h n u t) :
    ∀ {kvs : List (Key × V)} {ts : List Str} {ws : List (Key × Value)} {es : List DictEntry}, Paired (fun (p : Key × V) t => keyFits p.1 ∧ Sh H n p.2 t) kvs ts → KV kvs ws → Pairs (mixKind P w) es ws →
      ∃ bs : List Addr, (∀ b ∈ bs, Below H n b) ∧ ReprEntriesK P w bs h n es (List.zipWith (fun (p : Key × V) t => keyText p.1 ++ ": " ++ t) kvs ts)
  | _, _, _, _, .nil, .nil, .nil => ⟨[], (fun _ m => nomatch m), .nil⟩
  | _, _, _, _, .cons p q, .cons r s, .cons (e := e) a b c => by
    obtain ⟨b1, h1, k1⟩ := ih _ _ _ p.2 r.2
    obtain ⟨b2, h2, k2⟩ := entries_repr ih q s c
    refine ⟨b1 ++ b2, fun b m => (List.mem_append.mp m).elim (h1 b) (h2 b), ?_⟩
    refine .cons (key_repr (by rw [r.1]; exact a) p.1 _ _) ?_ (ReprEntriesK.wider (fun b m => List.mem_append_right _ m) k2)
    rw [b]
    exact k1.more fun b m => List.mem_append_left _ m
/-- whatever is tracked and is shown as t gives t to repr -/
theorem repr_sh (ok : HOk P w H h) (n : Nat) : ∀ (v : V) (t : Str) (u : Value), Sh H n v t → RelV v u → ∃ bs : List Addr, (∀ b ∈ bs, Below H n b) ∧ ReprK P w bs h n u t := by
  induction n using Nat.strongRecOn with
  | ind n IH =>
    intro v t u hv r
    have plain : Sc v t → ∃ bs : List Addr, (∀ b ∈ bs, Below H n b) ∧ ReprK P w bs h n u t := fun c => by
      refine ⟨[], (fun _ m => nomatch m), ?_⟩
      cases c with
      | non =>
        cases (show u = Value.none from r)
        exact .of_is ReprIs.none _ _ _
      | bl b =>
        cases (show u = Value.bool b from r)
        exact .of_is (ReprIs.bool b) _ _ _
      | int i f =>
        obtain ⟨t, rfl⟩ := (show ∃ t, u = Value.int i t from r)
        exact .of_is (ReprIs.int t f) _ _ _
      | str x f =>
        obtain ⟨t, rfl⟩ := (show ∃ t, u = Value.str x t from r)
        exact .of_is (ReprIs.str x t f) _ _ _
    cases n with
    | zero => exact plain hv
    | succ n =>
      have ih := IH n (Nat.lt_succ_self n)
      -- a ring can't be: what is below has the same text at a lower level
      have ring : ∀ (a : Addr) (bs : List Addr), v = .ref a → (∀ b ∈ bs, Below H n b) → a ∈ bs → ∃ bs : List Addr, (∀ b ∈ bs, Below H (n + 1) b) ∧ ReprK P w bs h (n + 1) u t := fun a bs e hb m => by
        obtain ⟨m, hm, t', ht⟩ := hb a m
        subst e
        have et : t = t' := Sh.det _ _ _ hv _ _ ht
        subst et
        obtain ⟨cs, hc, k⟩ := IH m (by omega) _ _ _ ht r
        exact ⟨cs, fun b q => let ⟨l, hl, x⟩ := hc b q; ⟨l, by omega, x⟩, k.level_le (by omega)⟩
      rcases id hv with c | ⟨a, xs, ts, rfl, e, p, rfl⟩ | ⟨a, xs, ts, rfl, e, p, rfl⟩ | ⟨a, kvs, ts, rfl, e, p, rfl⟩
      · exact plain c
      · cases (show u = Value.ref a from r)
        obtain ⟨_, its, m, rv, ho⟩ := (show ObjOk P w H h a (.lst xs) from ok a _ e)
        obtain ⟨bs, hb, hk⟩ := all_repr ih p rv
        by_cases c : a ∈ bs
        · exact ring a bs rfl hb c
        · refine ⟨a :: bs, fun b q => ?_, ?_⟩
          · rcases List.mem_cons.mp q with rfl | q
            · exact ⟨n + 1, Nat.le_refl _, _, hv⟩
            · obtain ⟨l, hl, x⟩ := hb b q
              exact ⟨l, by omega, x⟩
          · cases its with
            | nil =>
              cases hk
              rw [listText_nil]
              exact ReprK.listEmpty ho rfl rfl
            | cons x l => exact ReprK.list ho rfl rfl c (by simpa using hk.length_eq) (fun i y q => hk.item i y (by simpa using q))
      · cases (show u = Value.ref a from r)
        obtain ⟨its, o, m, rv, ho, hc, hd⟩ := TT.at e ok
        obtain ⟨bs, hb, hk⟩ := all_repr ih p rv
        by_cases c : a ∈ bs
        · exact ring a bs rfl hb c
        · refine ⟨a :: bs, fun b q => ?_, ReprK.tuple ho hc hd c (by simpa using hk)⟩
          rcases List.mem_cons.mp q with rfl | q
          · exact ⟨n + 1, Nat.le_refl _, _, hv⟩
          · obtain ⟨l, hl, x⟩ := hb b q
            exact ⟨l, by omega, x⟩
      · cases (show u = Value.ref a from r)
        obtain ⟨_, ys, ws, rv, o, es, ep, ho, hc, hd, _, hp, _⟩ := (show ObjOk P w H h a (.dK kvs) from ok a _ e)
        obtain ⟨bs, hb, hk⟩ := entries_repr ih p rv hp
        by_cases c : a ∈ bs
        · exact ring a bs rfl hb c
        · refine ⟨a :: bs, fun b q => ?_, ReprK.dict ho hc.1 hd ys c hk⟩
          rcases List.mem_cons.mp q with rfl | q
          · exact ⟨n + 1, Nat.le_refl _, _, hv⟩
          · obtain ⟨l, hl, x⟩ := hb b q
            exact ⟨l, by omega, x⟩
/-- repr(v) -/
theorem call_sh (ok : HOk P w H h) (n : Nat) : ∀ (v : V) (t : Str) (u : Value), Sh H n v t → RelV v u → t.length ≤ sizeLine → ∀ (A : Around) (E : Value → Shared → Prop) (s : Shared) (Q : Value → Shared → Prop), A.guards = some [] → A.units + (n + 1) < cLine → s.heap = h →
    (∀ h' z tk, (∀ b o, s.heap.get? b = some o → h'.get? b = some o) → Q (.str t z) { s with heap := h', toks := tk }) → wpAny (model P w) A (call (.builtin "repr") [u]) Q E s := by
  induction n using Nat.strongRecOn with
  | ind n IH =>
    intro v t u hv r hz A E s Q hg hu eh hQ
    subst eh
    have plain : Sc v t → wpAny (model P w) A (call (.builtin "repr") [u]) Q E s := fun c => by
      cases c with
      | non =>
        cases (show u = Value.none from r)
        exact PySem.P.repr_of_none (hQ s.heap _ _ fun _ _ e => e)
      | bl b =>
        cases (show u = Value.bool b from r)
        exact PySem.P.repr_of_bool (by
          have q := hQ s.heap s.toks (s.toks + 1) fun _ _ e => e
          cases b <;> exact q)
      | int i f =>
        obtain ⟨t, rfl⟩ := (show ∃ t, u = Value.int i t from r)
        exact PySem.P.repr_of_int f (hQ s.heap _ _ fun _ _ e => e)
      | str x f =>
        obtain ⟨t, rfl⟩ := (show ∃ t, u = Value.str x t from r)
        exact PySem.P.repr_of_str (hQ s.heap _ _ fun _ _ e => e) f
    cases n with
    | zero => exact plain hv
    | succ n =>
      have ih := fun v t u => repr_sh (P := P) (w := w) ok n v t u
      have ring : ∀ (a : Addr) (bs : List Addr), v = .ref a → (∀ b ∈ bs, Below H n b) → a ∈ bs → wpAny (model P w) A (call (.builtin "repr") [u]) Q E s := fun a bs e hb m => by
        obtain ⟨m, hm, t', ht⟩ := hb a m
        subst e
        have et : t = t' := Sh.det _ _ _ hv _ _ ht
        subst et
        exact IH m (by omega) _ _ _ ht r hz A E s Q hg (by omega) rfl hQ
      have hu1 : A.in1.units + (n + 1) < cLine := by
        show A.units + 1 + (n + 1) < cLine
        omega
      have hk0 : ∀ b o, s.heap.get? b = some o → s.heap.get? b = some o := fun _ _ e => e
      rcases id hv with c | ⟨a, xs, ts, rfl, e, p, rfl⟩ | ⟨a, xs, ts, rfl, e, p, rfl⟩ | ⟨a, kvs, ts, rfl, e, p, rfl⟩
      · exact plain c
      · cases (show u = Value.ref a from r)
        obtain ⟨_, its, m, rv, ho⟩ := (show ObjOk P w H s.heap a (.lst xs) from ok a _ e)
        obtain ⟨bs, hb, hk⟩ := all_repr ih p rv
        by_cases c : a ∈ bs
        · exact ring a bs rfl hb c
        · refine call_repr_slot (by omega) (T := "list") ⟨_, ho, rfl⟩ F.slot_list_repr.toG ?_
          cases its with
          | nil =>
            cases hk
            rw [listText_nil] at hQ
            exact call_list_repr_empty ⟨_, ho, rfl⟩ ho rfl ⟨_, _, rfl, hQ s.heap _ _ fun _ _ e => e⟩
          | cons x l =>
            exact call_list_reprK ho rfl rfl c (by simpa using hk.length_eq) (fun i y q => hk.item i y (by simpa using q)) (A := A.in1) hg (fun b _ => Clear.nil b) hu1 hk0 (fun h' z tk k => ⟨_, _, rfl, hQ h' z tk k⟩) hz
      · cases (show u = Value.ref a from r)
        obtain ⟨its, o, m, rv, ho, hc, hd⟩ := TT.at e ok
        obtain ⟨bs, hb, hk⟩ := all_repr ih p rv
        by_cases c : a ∈ bs
        · exact ring a bs rfl hb c
        · exact call_repr_slot (by omega) (T := "tuple") ⟨_, ho, hc⟩ F.slot_tuple_repr (call_tuple_reprK ho hc hd c (by simpa using hk) (A := A.in1) hg (fun b _ => Clear.nil b) hu1 hk0 (fun h' z tk k => ⟨_, _, rfl, hQ h' z tk k⟩) hz)
      · cases (show u = Value.ref a from r)
        obtain ⟨_, ys, ws, rv, o, es, ep, ho, hc, hd, _, hp, _⟩ := (show ObjOk P w H s.heap a (.dK kvs) from ok a _ e)
        obtain ⟨bs, hb, hk⟩ := entries_repr ih p rv hp
        by_cases c : a ∈ bs
        · exact ring a bs rfl hb c
        · exact call_repr_slot (by omega) (T := "dict") ⟨_, ho, hc.1⟩ F.slot_dict_repr (call_dict_reprK ho hc.1 hd ys c hk (A := A.in1) hg (fun b _ => Clear.nil b) hu1 hk0 (fun h' z tk k => ⟨_, _, rfl, hQ h' z tk k⟩) hz)
end
section
variable {X : Cx}
def rRepr : List V → Hp → VK → Prop := fun vs H Q => ∃ (v : V) (n : Nat) (t : Str), vs = [v] ∧ Sh H n v t ∧ n ≤ 50 ∧ t.length ≤ sizeLine ∧ Q (.str t) H
theorem call_repr (gd : X.A.guards = some []) (hu : X.A.units + 64 < cLine) : CallR X (.builtin "repr") rRepr := by
  intro pins s σ H vs us Q I r h
  obtain ⟨v, n, t, rfl, hv, hn, hz, q⟩ := h
  obtain ⟨u, rfl, ru⟩ := vals1 r
  exact call_sh I.hok n v t u hv ru hz X.A _ s _ gd (by omega) rfl fun h' z tk k => ⟨.str t, H, I.kept k, ⟨z, rfl⟩, q⟩
end
end Gd
/-! ### sets of keys of any depth (tuples of texts, numbers and such tuples), as the model lays them -/
namespace Ns
open PySem PySem.Spec PyProof.Rows L2
/-- the tuple at a is the key k -/
def Tk (h : Heap) (k : NestedKey) (a : Addr) : Prop := NestedIs h k (.ref a) ∧ k.depth ≤ 8
theorem depth_all : ∀ {ks : List NestedKey} {k : NestedKey}, k ∈ ks → k.depth ≤ NestedKey.depthAll ks
  | x :: xs, k, h => by
    show k.depth ≤ max x.depth (NestedKey.depthAll xs)
    rcases List.mem_cons.mp h with rfl | h
    · exact Nat.le_max_left _ _
    · exact Nat.le_trans (depth_all h) (Nat.le_max_right _ _)
/-- each item of a row of keys is one of them -/
theorem all_item {h : Heap} : ∀ {ks : List NestedKey} {vs : List Value}, NestedAll h ks vs → ∀ v ∈ vs, ∃ k ∈ ks, NestedIs h k v
  | _, _, .nil, v, m => nomatch m
  | _, _, .cons a r, v, m => by
    rcases List.mem_cons.mp m with rfl | m
    · exact ⟨_, List.mem_cons_self, a⟩
    · obtain ⟨k, mk, z⟩ := all_item r v m
      exact ⟨k, List.mem_cons_of_mem _ mk, z⟩
section
variable {P : Program} {w : World}
/-- no key is of a class statement -/
theorem ofA_key : ∀ (n : Nat) (k : NestedKey) (v : Value) (s : Shared), NestedIs s.heap k v → k.depth ≤ n → ∀ {A : Around} {E : Value → Shared → Prop} {Q : Bool → Shared → Prop}, Q false s → wpAny (model P w) A (ofAClassStatement n v) Q E s := by
  intro n
  induction n with
  | zero =>
    intro k v s hk hd A E Q q
    cases hk with
    | tup => exact absurd hd (by simp [NestedKey.depth])
    | _ => exact wpAny_pure q
  | succ n ih =>
    intro k v s hk hd A E Q q
    cases hk with
    | @tup a o vs m ks ho hc hdt ha =>
      have hd' : NestedKey.depthAll ks + 1 ≤ n + 1 := hd
      unfold ofAClassStatement
      refine wpAny_bind (wpAny_typeOf (T := "tuple") ⟨o, ho, hc⟩ ?_)
      have e : (("tuple" : String) == "tuple") = true := by decide
      simp only [e, if_true]
      refine wpAny_bind (wpAny_pure ?_)
      simp only [Bool.not_true, Bool.false_eq_true, if_false]
      refine wpAny_bind (wpAny_seqItems ho hdt (wpAny_bind ?_))
      show wpAny _ _ (forIn vs _ _) _ _ s
      rw [← Array.forIn_toList]
      refine wpAny_forIn_list _ (fun rest r s' => r.1 = none ∧ s' = s ∧ ∀ y ∈ rest, ∃ k' ∈ ks, NestedIs s.heap k' y) _ ?_ ?_ _ _ ⟨rfl, rfl, all_item ha⟩
      · rintro y rest r s' ⟨_, rfl, hy⟩
        obtain ⟨k', mk, z⟩ := hy y List.mem_cons_self
        refine wpAny_bind (ih k' y s' z (by have := depth_all mk; omega) ?_)
        simp only [Bool.false_eq_true, if_false]
        exact wpAny_pure ⟨rfl, rfl, fun u m => hy u (List.mem_cons_of_mem _ m)⟩
      · rintro ⟨r1, r2⟩ s' ⟨h1, rfl, _⟩
        have h1 : r1 = none := h1
        subst h1
        exact wpAny_pure q
    | _ => exact wpAny_pure q
/-- whether a key's hash follows from its value: an answer, whichever -/
theorem hashBy_key : ∀ (n : Nat) (k : NestedKey) (v : Value) (s : Shared), NestedIs s.heap k v → ∀ {A : Around} {E : Value → Shared → Prop} {Q : Bool → Shared → Prop}, (∀ b, Q b s) → wpAny (model P w) A (hashByValue n v) Q E s := by
  intro n
  induction n with
  | zero =>
    intro k v s hk A E Q q
    cases hk <;> (unfold hashByValue; exact wpAny_pure (q _))
  | succ n ih =>
    intro k v s hk A E Q q
    cases hk with
    | @tup a o vs m ks ho hc hdt ha =>
      unfold hashByValue
      refine wpAny_bind (wpAny_specialOf (T := "tuple") ⟨o, ho, hc⟩ F.slot_tuple_hash.lookup ?_)
      refine wpAny_bind (wpAny_seqItems ho hdt (wpAny_bind ?_))
      show wpAny _ _ (forIn vs _ _) _ _ s
      rw [← Array.forIn_toList]
      refine wpAny_forIn_list _ (fun rest r s' => r.1 = none ∧ s' = s ∧ ∀ y ∈ rest, ∃ k' ∈ ks, NestedIs s.heap k' y) _ ?_ ?_ _ _ ⟨rfl, rfl, all_item ha⟩
      · rintro y rest r s' ⟨_, rfl, hy⟩
        obtain ⟨k', mk, z⟩ := hy y List.mem_cons_self
        refine wpAny_bind (ih k' y s' z fun b => ?_)
        cases b with
        | true =>
          simp only [Bool.not_true, Bool.false_eq_true, if_false]
          exact wpAny_pure ⟨rfl, rfl, fun u m => hy u (List.mem_cons_of_mem _ m)⟩
        | false =>
          simp only [Bool.not_false, if_true]
          exact wpAny_pure (wpAny_pure (q _))
      · rintro ⟨r1, r2⟩ s' ⟨h1, rfl, _⟩
        have h1 : r1 = none := h1
        subst h1
        exact wpAny_pure (q _)
    | _ => unfold hashByValue; exact wpAny_pure (q _)
/-- what a search asks besides: nothing that could be seen -/
theorem seen_key {k : NestedKey} {a : Addr} {s : Shared} {A : Around} {E : Value → Shared → Prop} {Q : Bool → Shared → Prop} (hk : Tk s.heap k a) {ys : List Value} (hy : ∀ y ∈ ys, ∃ k' b, y = Value.ref b ∧ Tk s.heap k' b) (q : Q false s) :
    wpAny (model P w) A (searchCouldBeSeen (.ref a) ys) Q E s := by
  unfold searchCouldBeSeen
  refine wpAny_bind ?_
  refine wpAny_forIn_list _ (fun rest r s' => r.1 = none ∧ s' = s ∧ ∀ y ∈ rest, ∃ k' b, y = Value.ref b ∧ Tk s.heap k' b) _ ?_ ?_ _ _ ⟨rfl, rfl, hy⟩
  · rintro y rest r s' ⟨_, rfl, hall⟩
    obtain ⟨k', b, rfl, hb⟩ := hall y List.mem_cons_self
    have left : ∀ u ∈ rest, ∃ k' b, u = Value.ref b ∧ Tk s'.heap k' b := fun u m => hall u (List.mem_cons_of_mem _ m)
    dsimp only
    split
    · exact wpAny_pure ⟨rfl, rfl, left⟩
    · refine wpAny_bind (quiet_key k (.ref a) 8 s' hk.1 hk.2 _ _ _ ?_)
      simp only [Bool.not_true, Bool.false_eq_true, if_false]
      refine wpAny_bind (quiet_key k' (.ref b) 8 s' hb.1 hb.2 _ _ _ ?_)
      simp only [Bool.not_true, Bool.false_eq_true, if_false]
      refine wpAny_bind (ofA_key 8 k (.ref a) s' hk.1 hk.2 ?_)
      simp only [Bool.false_eq_true, if_false]
      refine wpAny_bind (ofA_key 8 k' (.ref b) s' hb.1 hb.2 ?_)
      simp only [Bool.false_eq_true, if_false]
      exact wpAny_pure ⟨rfl, rfl, left⟩
  · rintro ⟨r1, r2⟩ s' ⟨h1, rfl, _⟩
    have h1 : r1 = none := h1
    subst h1
    exact wpAny_pure q
end
end Ns
namespace Ns
open PySem PySem.Spec PyProof.Rows L2
/-- an element with its key, as the table's row -/
abbrev El := Addr × NestedKey
def row (w : World) (p : El) : Int × Value := (p.2.hash w, .ref p.1)
/-- how the elements L lie in a table -/
structure Lay (w : World) (L : List El) (es : Array (Int × Value)) (t : SetTable) : Prop where
  rows : es.toList = L.map (row w)
  tab : TabOk t (L.map fun p => p.2.hash w)
  led : w.params.followText "set-order" = true ∨ t.led = true
  room : L.length * 5 < t.mask * 3
/-- the set at a has the elements L -/
structure SetN (w : World) (h : Heap) (a : Addr) (L : List El) (o : Obj) (es : Array (Int × Value)) (ep : Nat) (t : SetTable) : Prop where
  at_ : h.get? a = some o
  exact_ : o.ExactSet
  data : o.data = .set es ep t
  lay : Lay w L es t
  nd : (L.map (·.2)).Nodup
  keys : ∀ p ∈ L, Tk h p.2 p.1
  few : L.length < 64
section
variable {P : Program} {w : World} {A : Around} {E : Value → Shared → Prop} {s : Shared} {a : Addr} {L : List El} {o : Obj} {es : Array (Int × Value)} {ep : Nat} {t : SetTable}
theorem Lay.len (l : Lay w L es t) : es.size = L.length := by
  rw [← Array.length_toList, l.rows, List.length_map]
theorem Lay.psz (l : Lay w L es t) : t.place.size = L.length := by
  rw [l.tab.sz, List.length_map]
theorem Lay.fits (l : Lay w L es t) : t.fits es.size = true := by
  have h1 := l.psz
  have h2 := l.len
  have h3 := l.room
  unfold SetTable.fits SetTable.fill
  rw [l.tab.dm, Bool.and_eq_true, beq_iff_eq, decide_eq_true_eq]
  show t.place.size = es.size ∧ t.place.size + 0 ≤ t.mask
  omega
theorem Lay.entry (l : Lay w L es t) {i : Nat} {p : El} (h : L[i]? = some p) : es[i]? = some (row w p) := by
  rw [← Array.getElem?_toList, l.rows, List.getElem?_map, h]
  rfl
theorem Lay.hashAt (l : Lay w L es t) {i : Nat} {p : El} (h : L[i]? = some p) : (es[i]?.map (·.1)).getD 0 = p.2.hash w := by
  rw [l.entry h]
  rfl
theorem Lay.whole (l : Lay w L es t) : ¬ t.gaveWay = true := by
  unfold SetTable.gaveWay
  rw [mask_odd l.tab.mok]
  decide
/-- the steps of a search for the hash h in a table of the mask m -/
def stp (m : Nat) (h : Int) (c : Nat) : SetTable.Probe := nth m (runAt m (SetTable.bits h % (m + 1)) (SetTable.bits h)) c
theorem stp_add (m : Nat) (h : Int) (c q : Nat) : nth m (stp m h c) q = stp m h (c + q) := (nth_add m c _ q).symm
theorem stp_clean (m : Nat) (h : Int) (c : Nat) : (stp m h c).dummy = none := by
  have go : ∀ (n : Nat) (p : SetTable.Probe), p.dummy = none → (nth m p n).dummy = none := fun n => by
    induction n with
    | zero => exact fun p e => e
    | succ n ih => exact fun p e => ih _ (by unfold adv; split <;> exact e)
  exact go c _ rfl
/-- from the c-th step on: it is found, or the first free slot is -/
theorem search_from (S : SetN w s.heap a L o es ep t) {x : Addr} {k : NestedKey} (hx : Tk s.heap k x) (hu : A.units + 8 < cLine) {K : Nat} (hKf : K < 10 * SetTable.turns t.mask)
    (free : way t.mask (k.hash w) K ∉ t.place.toList) (full : ∀ c, c < K → way t.mask (k.hash w) c ∈ t.place.toList) {Q : SetFound → Shared → Prop}
    (yes : k ∈ L.map (·.2) → Q (.there none) s) (no : k ∉ L.map (·.2) → Q (.free (way t.mask (k.hash w) K) false) s) :
    ∀ (f c : Nat) (stand : Option SetTable.Probe), stand.getD (t.probeStart (k.hash w)) = stp t.mask (k.hash w) c → c ≤ K → K - c < f →
      (∀ (i : Nat) (p : El), L[i]? = some p → p.2 = k → ∃ c', c ≤ c' ∧ c' < K ∧ t.place.toList[i]? = some (way t.mask (k.hash w) c')) →
      wpAny (model P w) A (setSearchFrom a (.ref x) (k.hash w) true f stand) Q E s := by
  have ly := S.lay
  intro f
  induction f with
  | zero => exact fun c _ _ _ h => absurd h (Nat.not_lt_zero _)
  | succ f ih =>
    intro c stand hst hc hf ahead
    have at_step : ∀ q, (nth t.mask (stp t.mask (k.hash w) c) q).j = way t.mask (k.hash w) (c + q) := fun q => congrArg SetTable.Probe.j (stp_add _ _ c q)
    have to_K : c + (K - c) = K := by omega
    rw [setSearchFrom_succ]
    refine wpAny_bind (wpAny_setState_of S.at_ S.data ly.fits ?_)
    dsimp only
    refine wp_if_neg ly.whole ?_
    refine wpAny_bind (wpAny_pure ?_)
    rcases go_spec t ly.tab.ris ly.tab.dm (fun i => (es[i]?.map (·.1)).getD 0) (k.hash w) (10 * SetTable.turns t.mask) (K - c) (stp t.mask (k.hash w) c) (stp_clean _ _ c) (by omega)
        (fun q hq => by rw [at_step]; exact full _ (by omega)) (by rw [at_step, to_K]; exact free) with ⟨q, i, hq, hi, _, before, found⟩ | ⟨never, found⟩
    · have found' : t.probe (fun i => (es[i]?.map (·.1)).getD 0) (k.hash w) (stand.getD (t.probeStart (k.hash w))) = some (.candidate (way t.mask (k.hash w) (c + q)) i (stp t.mask (k.hash w) (c + (q + 1)))) := by
        rw [hst, ← at_step, ← stp_add]
        exact found
      rw [found']
      dsimp only
      rw [at_step] at hi
      obtain ⟨p, hp⟩ : ∃ p, L[i]? = some p := by
        have lt := (List.getElem?_eq_some_iff.mp hi).1
        rw [Array.length_toList, ly.psz] at lt
        exact ⟨_, List.getElem?_eq_getElem lt⟩
      have mp := List.mem_of_getElem? hp
      have live := slot_live ly.tab.ris hi
      have goes : wpAny (model P w) A (searchRest a (.ref x) (k.hash w) true f es t (way t.mask (k.hash w) (c + q)) i (stp t.mask (k.hash w) (c + (q + 1)))) Q E s := by
        unfold searchRest
        rw [ly.entry hp]
        dsimp only
        refine wpAny_bind (wpAny_holding ((nestedKind P w).eqBool (show A.units + 8 < cLine from hu) (S.keys p mp) hx ?_))
        refine wpAny_bind (wpAny_setState_of S.at_ S.data ly.fits ?_)
        dsimp only
        by_cases same : p.2 = k
        · refine wp_if_pos (by rw [decide_eq_true same]; rfl) (wpAny_pure (yes ?_))
          exact List.mem_map.mpr ⟨p, mp, same⟩
        · have off : decide (p.2 = k) = false := decide_eq_false same
          refine wp_if_neg (by rw [off]; decide) (wpAny_bind (wpAny_pure ?_))
          rw [sameMem]
          dsimp only
          simp only [if_true, live, ly.entry hp]
          refine wpAny_bind (wpAny_isSame_ref_self (wpAny_bind (wpAny_pure ?_)))
          simp only [if_true]
          refine wp_if_neg (by rw [off]; decide) ?_
          refine ih (c + (q + 1)) _ rfl (by omega) (by omega) fun i0 p0 h0 k0 => ?_
          obtain ⟨c', a1, a2, a3⟩ := ahead i0 p0 h0 k0
          refine ⟨c', ?_, a2, a3⟩
          rcases Nat.lt_trichotomy c' (c + q) with z | z | z
          · refine absurd ((ly.hashAt h0).trans (by rw [k0])) (before (c' - c) i0 (by omega) ?_)
            rw [at_step, show c + (c' - c) = c' by omega]
            exact a3
          · rw [z] at a3
            have l2 := slot_live ly.tab.ris a3
            rw [live] at l2
            injection l2 with l2
            rw [← l2, hp] at h0
            exact absurd (by rw [Option.some.inj h0]; exact k0) same
          · omega
      by_cases hl : t.led = true
      · exact wp_if_neg (by rw [hl]; decide) (wpAny_bind (wpAny_pure goes))
      · refine wp_if_pos (by rw [Bool.not_eq_true] at hl; rw [hl]; rfl) (wpAny_bind (seen_key hx (fun y hy => ?_) ?_))
        · obtain ⟨e, he, rfl⟩ := List.mem_map.mp hy
          have me : e ∈ es.toList := by
            have := (Array.mem_filter.mp (Array.mem_toList_iff.mp he)).1
            exact Array.mem_toList_iff.mpr this
          rw [ly.rows] at me
          obtain ⟨p2, m2, rfl⟩ := List.mem_map.mp me
          exact ⟨p2.2, p2.1, rfl, S.keys p2 m2⟩
        · exact wp_if_neg (by decide) (wpAny_bind (wpAny_pure goes))
    · have found' : t.probe (fun i => (es[i]?.map (·.1)).getD 0) (k.hash w) (stand.getD (t.probeStart (k.hash w))) = some (.empty (way t.mask (k.hash w) K) none) := by
        have e2 : way t.mask (k.hash w) K = (nth t.mask (stp t.mask (k.hash w) c) (K - c)).j := by rw [at_step, to_K]
        rw [hst, e2]
        exact found
      rw [found']
      dsimp only
      refine wpAny_pure (no fun hm => ?_)
      obtain ⟨p0, m0, k0⟩ := List.mem_map.mp hm
      obtain ⟨i0, h0⟩ := List.mem_iff_getElem?.mp m0
      obtain ⟨c', a1, a2, a3⟩ := ahead i0 p0 h0 k0
      refine never (c' - c) i0 (by omega) ?_ ((ly.hashAt h0).trans (by rw [k0]))
      rw [at_step, show c + (c' - c) = c' by omega]
      exact a3
/-- the search that adding asks for -/
theorem search_at (S : SetN w s.heap a L o es ep t) {x : Addr} {k : NestedKey} (hx : Tk s.heap k x) (hu : A.units + 8 < cLine) {Q : SetFound → Shared → Prop} (yes : k ∈ L.map (·.2) → Q (.there none) s)
    (no : ∀ K, k ∉ L.map (·.2) → way t.mask (k.hash w) K ∉ t.place.toList → (∀ c, c < K → way t.mask (k.hash w) c ∈ t.place.toList) → Q (.free (way t.mask (k.hash w) K) false) s) :
    wpAny (model P w) A (setSearch a (.ref x) (k.hash w) true) Q E s := by
  have ly := S.lay
  have rm := ly.room
  obtain ⟨K, hKf, free, full⟩ := ly.tab.first (by rw [List.length_map]; omega) (k.hash w)
  have small : 10 * SetTable.turns t.mask ≤ 1420 := by
    unfold SetTable.turns
    rcases ly.tab.mok with e | e | e <;> omega
  unfold setSearch
  refine search_from S hx hu hKf free full yes (fun n => no K n free full) 100000 0 none rfl (Nat.zero_le _) (by omega) fun i p hp hk => ?_
  have hi : (L.map fun p => p.2.hash w)[i]? = some (k.hash w) := by rw [List.getElem?_map, hp, ← hk]; rfl
  have lt : i < t.place.toList.length := by
    rw [Array.length_toList, ly.psz]
    exact (List.getElem?_eq_some_iff.mp hp).1
  have hj := List.getElem?_eq_getElem lt
  obtain ⟨c, hc, e⟩ := ly.tab.before free hi hj
  exact ⟨c, Nat.zero_le _, hc, by rw [hj, e]⟩
end
end Ns
namespace Ns
open PySem PySem.Spec PyProof.Rows L2
section
variable {P : Program} {w : World} {A : Around} {E : Value → Shared → Prop} {s : Shared} {a : Addr} {L : List El} {o : Obj} {es : Array (Int × Value)} {ep : Nat} {t : SetTable}
/-- a key stays one where only the set changes -/
theorem Tk.same {h h' : Heap} {k : NestedKey} {b : Addr} (x : Tk h k b) (ho : h.get? a = some o) (hd : o.data = .set es ep t) (sb : Heap.SameBut a h h') : Tk h' k b :=
  ⟨NestedIs.at (fun c u vs n hc hv => (sb.2 c fun e => by
    subst e
    rw [ho] at hc
    cases hc
    rw [hd] at hv
    cases hv).trans hc) k _ x.1, x.2⟩
theorem Tk.keep {h h' : Heap} {k : NestedKey} {b : Addr} (x : Tk h k b) (kp : ∀ c u, h.get? c = some u → h'.get? c = some u) : Tk h' k b := ⟨NestedIs.at (fun c u _ _ hc _ => kp c u hc) k _ x.1, x.2⟩
theorem ins_perm {α : Type} (l : List α) (n : Nat) (x : α) : (l.take n ++ x :: l.drop n).Perm (x :: l) := by
  refine List.perm_middle.trans ?_
  rw [List.take_append_drop]
/-- what is picked in an order of the places is the rows in that order -/
theorem picked (es : Array (Int × Value)) (L : List El) (hr : es.toList = L.map (row w)) : ∀ js : List Nat, (∀ j ∈ js, j < L.length) →
    js.filterMap (fun j => es[j]?) = (js.filterMap fun j => L[j]?).map (row w) ∧ (js.filterMap fun j => L[j]?).map (fun p => p.2.hash w) = js.map fun j => (es.map (·.1)).getD j 0
  | [], _ => ⟨rfl, rfl⟩
  | j :: js, h => by
    have lj := h j List.mem_cons_self
    obtain ⟨e1, e2⟩ := picked es L hr js fun i m => h i (List.mem_cons_of_mem _ m)
    have x1 : L[j]? = some L[j] := List.getElem?_eq_getElem lj
    have x2 : es[j]? = some (row w L[j]) := by rw [← Array.getElem?_toList, hr, List.getElem?_map, x1]; rfl
    have x3 : (es.map (·.1)).getD j 0 = (L[j]).2.hash w := by
      rw [Array.getD_eq_getD_getElem?, Array.getElem?_map, x2]
      rfl
    rw [List.filterMap_cons_some x2, List.filterMap_cons_some x1, e1, List.map_cons, List.map_cons, List.map_cons, e2, x3]
    exact ⟨rfl, rfl⟩
theorem all_places {α : Type} : ∀ l : List α, (List.range l.length).filterMap (fun j => l[j]?) = l
  | [] => rfl
  | x :: l => by
    have e0 : (fun j => (x :: l)[j]?) 0 = some x := rfl
    rw [List.length_cons, List.range_succ_eq_map, List.filterMap_cons_some e0, List.filterMap_map]
    exact congrArg (x :: ·) (all_places l)
/-- the table laid anew, larger -/
theorem relay_at (ho : s.heap.get? a = some o) (hx : o.ExactSet) (hd : o.data = .set es ep t) (hr : es.toList = L.map (row w)) (psz : t.place.size = L.length) (dm : t.dummies = #[]) (le : L.length ≤ t.mask) (nd : (L.map (·.2)).Nodup)
    (keys : ∀ p ∈ L, Tk s.heap p.2 p.1) (led : w.params.followText "set-order" = true ∨ t.led = true) (few : L.length < 64) {wanted M : Nat} (hw : SetTable.sizeAbove wanted - 1 = M) (hM : MaskOk M) (top : SetTable.sizeAbove wanted ≤ 128) (room : L.length * 5 < M * 3)
    {Q : Unit → Shared → Prop} (q : ∀ h' L' o' es' ep' t', Heap.SameBut a s.heap h' → SetN w h' a L' o' es' ep' t' → L'.Perm L → Q () { s with heap := h' }) : wpAny (model P w) A (setRelay a wanted) Q E s := by
  have esz : es.size = L.length := by rw [← Array.length_toList, hr, List.length_map]
  have fits : t.fits es.size = true := by
    unfold SetTable.fits SetTable.fill
    rw [dm, Bool.and_eq_true, beq_iff_eq, decide_eq_true_eq]
    show t.place.size = es.size ∧ t.place.size + 0 ≤ t.mask
    omega
  obtain ⟨t', order, laid, pm, tab, em, el, _, _⟩ := relaid_ok t (hs := es.map (·.1)) (wanted := wanted) hw hM (by rw [Array.size_map, esz]; omega)
  rw [Array.size_map, esz] at pm
  obtain ⟨r1, r2⟩ := picked es L hr order.toList fun j m => List.mem_range.mp (pm.mem_iff.mp m)
  have pL : (order.toList.filterMap fun j => L[j]?).Perm L := by
    have z := pm.filterMap fun j => L[j]?
    rw [all_places] at z
    exact z
  have er : (order.filterMap (es[·]?)).toList = (order.toList.filterMap fun j => L[j]?).map (row w) := by
    rw [Array.toList_filterMap]
    exact r1
  generalize order.toList.filterMap (fun j => L[j]?) = L2 at r2 pL er
  rw [← r2] at tab
  have sz2 : (order.filterMap (es[·]?)).size = L.length := by rw [← Array.length_toList, er, List.length_map, pL.length_eq]
  rw [setRelay_eq]
  refine wpAny_bind (wpAny_setState_of ho hd fits ?_)
  dsimp only
  refine wp_if_neg (by rw [sizeLine_eq]; omega) ?_
  rw [laid]
  dsimp only
  refine wpAny_bind (wp_if_neg (by rw [sz2, esz]; simp) (wpAny_pure ?_))
  dsimp only
  refine wpAny_storeSet_of ho hd ?_ (by rw [sz2, sizeLine_eq]; omega)
  have sb : Heap.SameBut a s.heap (s.heap.update a (Obj.putSet (order.filterMap (es[·]?)) t')) := Heap.SameBut.update ..
  refine q _ L2 _ (order.filterMap (es[·]?)) (ep + 1) t' sb ⟨store_at ho hd, ⟨hx.1, hx.2.1, hx.2.2⟩, rfl, ⟨er, tab, by rw [el]; exact led, by rw [pL.length_eq, em]; exact room⟩, (pL.map (·.2)).nodup_iff.mpr nd, fun p m => (keys p (pL.mem_iff.mp m)).same ho hd sb, by rw [pL.length_eq]; exact few⟩ pL
/-- an element is added, or stands there -/
theorem add_at (S : SetN w s.heap a L o es ep t) {x : Addr} {k : NestedKey} (hx : Tk s.heap k x) (hu : A.units + 8 < cLine) (few : L.length + 1 < 64) {Q : Bool → Shared → Prop}
    (q : ∀ b h' L' o' es' ep' t', Heap.SameBut a s.heap h' → SetN w h' a L' o' es' ep' t' → (k ∈ L.map (·.2) → L' = L) → (k ∉ L.map (·.2) → L'.Perm ((x, k) :: L)) → Q b { s with heap := h' }) :
    wpAny (model P w) A (setAddHashed a (.ref x) (k.hash w)) Q E s := by
  have ly := S.lay
  have rm := ly.room
  unfold setAddHashed
  refine wpAny_holding ?_
  rw [show (100000 : Nat) = 99999 + 1 from rfl, setAddHashedIn_succ]
  refine wpAny_bind (wpAny_setState_of S.at_ S.data ly.fits ?_)
  dsimp only
  refine wp_if_neg (by simp [byScan, Value.scannable]) ?_
  refine wpAny_bind (search_at S hx hu (fun m => ?_) fun K n free full => ?_)
  · dsimp only
    exact wpAny_pure (q false s.heap L o es ep t (Heap.SameBut.refl a s.heap) S (fun _ => rfl) fun z => absurd m z)
  dsimp only
  refine wpAny_bind (wpAny_setState_of S.at_ S.data ly.fits ?_)
  dsimp only
  obtain ⟨q1, q2, q3, q4, q5, _, _, _, q9⟩ := ly.tab.put free full
  generalize t.put (way t.mask (k.hash w) K) = tp at q1 q3 q4 q5 q9 ⊢
  obtain ⟨t1, n1⟩ := tp
  dsimp only at q1 q3 q4 q5 q9 ⊢
  subst q1
  generalize SetTable.below t.place (way t.mask (k.hash w) K) = n1 at q2 q3 ⊢
  have pm := ins_perm L n1 (x, k)
  have er : (SetTable.insertAt es n1 (k.hash w, Value.ref x)).toList = (L.take n1 ++ (x, k) :: L.drop n1).map (row w) := by
    rw [SetTable.toList_insertAt, ly.rows, List.map_append, List.map_cons, List.map_take, List.map_drop]
    rfl
  have eh : (L.take n1 ++ (x, k) :: L.drop n1).map (fun p => p.2.hash w) = (L.map fun p => p.2.hash w).take n1 ++ k.hash w :: (L.map fun p => p.2.hash w).drop n1 := by
    rw [List.map_append, List.map_cons, List.map_take, List.map_drop]
  rw [← eh] at q3
  generalize L.take n1 ++ (x, k) :: L.drop n1 = L1 at pm er q3
  have ln : L1.length = L.length + 1 := pm.length_eq
  have sz : (SetTable.insertAt es n1 (k.hash w, Value.ref x)).size = L.length + 1 := by rw [← Array.length_toList, er, List.length_map, ln]
  generalize SetTable.insertAt es n1 (k.hash w, Value.ref x) = es1 at er sz ⊢
  have nd1 : (L1.map (·.2)).Nodup := by
    refine (pm.map (·.2)).nodup_iff.mpr ?_
    rw [List.map_cons]
    exact List.nodup_cons.mpr ⟨n, S.nd⟩
  -- whatever is known of the elements' hashes
  have stored : ∀ t2 : SetTable, TabOk t2 (L1.map fun p => p.2.hash w) → t2.mask = t.mask → t2.led = t.led → t2.tooFull = t1.tooFull → wpAny (model P w) A (do
      storeSet a es1 t2
      if !false && t2.tooFull then setRelay a (SetTable.grown (es.size + 1))
      return true) Q E s := fun t2 tab em el ef => by
    refine wpAny_bind (wpAny_storeSet_of S.at_ S.data ?_ (by rw [sz, sizeLine_eq]; omega))
    have sb : Heap.SameBut a s.heap (s.heap.update a (Obj.putSet es1 t2)) := Heap.SameBut.update ..
    have ho1 := store_at (es' := es1) (t' := t2) S.at_ S.data
    generalize s.heap.update a (Obj.putSet es1 t2) = h1 at sb ho1 ⊢
    have keys1 : ∀ p ∈ L1, Tk h1 p.2 p.1 := fun p m => by
      rcases List.mem_cons.mp (pm.mem_iff.mp m) with z | m
      · rw [z]
        exact hx.same S.at_ S.data sb
      · exact (S.keys p m).same S.at_ S.data sb
    have led1 : w.params.followText "set-order" = true ∨ t2.led = true := by rw [el]; exact ly.led
    have psz1 : t2.place.size = L1.length := by rw [tab.sz, List.length_map]
    have full1 : t2.tooFull = decide ((L.length + 1) * 5 ≥ t2.mask * 3) := by
      rw [ef]
      unfold SetTable.tooFull
      rw [q9, q4, em, List.length_map]
    by_cases c : (L.length + 1) * 5 ≥ t2.mask * 3
    · have hf : t2.tooFull = true := by rw [full1]; exact decide_eq_true c
      refine wp_if_pos (by rw [hf]; rfl) (wpAny_bind ?_)
      rw [ly.len]
      have two : (t.mask = 7 ∧ L.length = 4) ∨ (t.mask = 31 ∧ L.length = 18) := by
        rw [em] at c
        rcases ly.tab.mok with e | e | e <;> rw [e] at c rm
        · exact .inl ⟨e, by omega⟩
        · exact .inr ⟨e, by omega⟩
        · omega
      have go : ∀ M, SetTable.sizeAbove (SetTable.grown (L.length + 1)) - 1 = M → MaskOk M → SetTable.sizeAbove (SetTable.grown (L.length + 1)) ≤ 128 → (L.length + 1) * 5 < M * 3 →
          wpAny (model P w) A (setRelay a (SetTable.grown (L.length + 1))) (fun _ s' => wpAny (model P w) A (pure true) Q E s') E { s with heap := h1 } := fun M m1 m2 m3 m4 => by
        refine relay_at (s := { s with heap := h1 }) ho1 ⟨S.exact_.1, S.exact_.2.1, S.exact_.2.2⟩ rfl er psz1 tab.dm (by rw [ln, em]; rcases two with ⟨e, e2⟩ | ⟨e, e2⟩ <;> omega) nd1 keys1 led1 (by rw [ln]; exact few) m1 m2 m3 (by rw [ln]; exact m4) ?_
        exact fun h2 L2 o2 es2 ep2 t2 sb2 S2 pm2 => wpAny_pure (q true h2 L2 o2 es2 ep2 t2 (sb.trans sb2) S2 (fun z => absurd z n) fun _ => pm2.trans pm)
      rcases two with ⟨_, e2⟩ | ⟨_, e2⟩
      · exact go 31 (by rw [e2, size_20]) (.inr (.inl rfl)) (by rw [e2, size_20]; decide) (by omega)
      · exact go 127 (by rw [e2, size_76]) (.inr (.inr rfl)) (by rw [e2, size_76]; decide) (by omega)
    · have hf : t2.tooFull = false := by rw [full1]; exact decide_eq_false c
      refine wp_if_neg (by rw [hf]; decide) (wpAny_pure ?_)
      exact q true h1 L1 _ es1 (ep + 1) t2 sb ⟨ho1, ⟨S.exact_.1, S.exact_.2.1, S.exact_.2.2⟩, rfl, ⟨er, tab, led1, by rw [ln]; omega⟩, nd1, keys1, by rw [ln]; exact few⟩ (fun z => absurd z n) fun _ => pm
  have both : ∀ b : Bool, wpAny (model P w) A (do
      storeSet a es1 (if b = true then t1 else { t1 with plain := false })
      if !false && (if b = true then t1 else { t1 with plain := false }).tooFull then setRelay a (SetTable.grown (es.size + 1))
      return true) Q E s := fun b => by
    cases b with
    | true => exact stored t1 q3 q4 q5 rfl
    | false => exact stored { t1 with plain := false } ⟨q3.ris, q3.dm, q3.sz, q3.mok, q3.bd, q3.reach⟩ q4 q5 rfl
  by_cases hp : t1.plain = true
  · exact wp_if_pos hp (wpAny_bind (hashBy_key 8 k (.ref x) s hx.1 both))
  · exact wp_if_neg hp (wpAny_bind (wpAny_pure (both true)))
end
end Ns
namespace Ns
open PySem PySem.Spec PyProof.Rows L2
/-! ### over the layer: what a value's key is, the set as a tracked object -/
mutual
inductive KV (K : PySem.W.Frag) (H : Hp) : NestedKey → V → Prop
  | int (i : Int) : KV K H (.num i) (.int i)
  | text (z : Str) : KV K H (.text z) (.str z)
  | tup {a : Addr} {xs : List V} {ks : List NestedKey} (e : SqT K H a xs) (h : KVs K H ks xs) : KV K H (.tup ks) (.ref a)
inductive KVs (K : PySem.W.Frag) (H : Hp) : List NestedKey → List V → Prop
  | nil : KVs K H [] []
  | cons {k : NestedKey} {x : V} {ks : List NestedKey} {xs : List V} (a : KV K H k x) (r : KVs K H ks xs) : KVs K H (k :: ks) (x :: xs)
end
mutual
theorem KV.up {K : PySem.W.Frag} {H H' : Hp} (up : ∀ a xs, SqT K H a xs → SqT K H' a xs) : ∀ {k : NestedKey} {v : V}, KV K H k v → KV K H' k v
  | _, _, .int i => .int i
  | _, _, .text z => .text z
  | _, _, .tup e h => .tup (up _ _ e) (KVs.up up h)
theorem KVs.up {K : PySem.W.Frag} {H H' : Hp} (up : ∀ a xs, SqT K H a xs → SqT K H' a xs) : ∀ {ks : List NestedKey} {xs : List V}, KVs K H ks xs → KVs K H' ks xs
  | _, _, .nil => .nil
  | _, _, .cons a r => .cons (KV.up up a) (KVs.up up r)
end
section
variable {X : Cx} {pins : List (Addr × Obj)} {σ : L2.St} {H : Hp} {s : Shared}
mutual
theorem KV.is (I : Inv X pins σ H s) : ∀ {k : NestedKey} {v : V} {u : Value}, KV X.K H k v → RelV v u → NestedIs s.heap k u
  | _, _, _, .int i, r => by
    obtain ⟨t, rfl⟩ := r
    exact .int i t
  | _, _, _, .text z, r => by
    obtain ⟨t, rfl⟩ := r
    exact .text z t
  | _, _, _, .tup e h, r => by
    cases r
    obtain ⟨its, rv, ⟨o, ho, hc, n, hd⟩, _⟩ := I.tuple e
    exact .tup ho hc hd (KVs.is I h (by simpa using rv))
theorem KVs.is (I : Inv X pins σ H s) : ∀ {ks : List NestedKey} {xs : List V} {us : List Value}, KVs X.K H ks xs → Vals xs us → NestedAll s.heap ks us
  | _, _, _, .nil, .nil => .nil
  | _, _, _, .cons a r, .cons b t => .cons (KV.is I a b) (KVs.is I r t)
end
end
/-- the set at a, its elements' tuples aside -/
def Set0 (w : World) (h : Heap) (a : Addr) (L : List El) : Prop := ∃ o es ep t, h.get? a = some o ∧ o.ExactSet ∧ o.data = .set es ep t ∧ Lay w L es t ∧ (L.map (·.2)).Nodup ∧ L.length < 64
def SetO (w : World) (a : Addr) (L : List El) : HO := .ext fun h => Set0 w h a L
theorem SetN.set0 {w : World} {h : Heap} {a : Addr} {L : List El} {o : Obj} {es : Array (Int × Value)} {ep : Nat} {t : SetTable} (S : SetN w h a L o es ep t) : Set0 w h a L := ⟨o, es, ep, t, S.at_, S.exact_, S.data, S.lay, S.nd, S.few⟩
theorem Set0.full {w : World} {h : Heap} {a : Addr} {L : List El} (S : Set0 w h a L) (keys : ∀ p ∈ L, Tk h p.2 p.1) : ∃ o es ep t, SetN w h a L o es ep t := let ⟨o, es, ep, t, a, b, c, d, e, f⟩ := S; ⟨o, es, ep, t, a, b, c, d, e, keys, f⟩
theorem setO_new {P : Program} {w : World} {H : Hp} {h : Heap} {a : Addr} {L : List El} (S : Set0 w h a L) : ObjOk P w H h a (SetO w a L) := by
  obtain ⟨o, es, ep, t, ho, r⟩ := id S
  refine ⟨S, ⟨o, ho⟩, fun h1 h2 p k => ?_⟩
  obtain ⟨o', es', ep', t', ho', r'⟩ := (show Set0 w h1 a L from p)
  exact ⟨o', es', ep', t', k o' ho', r'⟩
theorem set0_fresh {w : World} {h : Heap} : Set0 w (h.push { cls := .type "set", dict := none, data := .set #[] 0 (.fresh 0 0 (!w.params.followText "set-order")) }) h.objs.size [] := by
  refine ⟨_, #[], 0, _, Heap.get?_push_size _ rfl, ⟨rfl, rfl, rfl⟩, rfl, ⟨rfl, ⟨List.Pairwise.nil, rfl, rfl, .inl rfl, fun x m => absurd (show x ∈ ([] : List Nat) from m) (by simp), fun i _ _ z => absurd z (by simp)⟩, ?_, by show 0 * 5 < 7 * 3; decide⟩, .nil, by show 0 < 64; decide⟩
  show _ ∨ (!w.params.followText "set-order") = true
  cases w.params.followText "set-order"
  · exact .inr rfl
  · exact .inl rfl
/-- what is known of an element: its tuple is its key -/
def ElK (K : PySem.W.Frag) (H : Hp) (p : El) : Prop := KV K H p.2 (.ref p.1) ∧ p.2.depth ≤ 8
section
variable {X : Cx} {pins : List (Addr × Obj)} {σ : L2.St} {H : Hp} {s : Shared}
theorem ElK.tk (I : Inv X pins σ H s) {p : El} (h : ElK X.K H p) : Tk s.heap p.2 p.1 := ⟨KV.is I h.1 rfl, h.2⟩
/-- set.add of a key -/
theorem addN_ok {E : Value → Shared → Prop} {D b : Addr} {L : List El} {k : NestedKey} {Q : Value → Shared → Prop} (I : Inv X pins σ H s) (hD : H D = some (SetO X.w D L)) (kb : ElK X.K H (b, k)) (ks : ∀ p ∈ L, ElK X.K H p) (few : L.length + 1 < 64) (hu : X.A.units + 64 < cLine)
    (q : ∀ L' s', Inv X pins σ (upd H D (SetO X.w D L')) s' → (k ∈ L.map (·.2) → L' = L) → (k ∉ L.map (·.2) → L'.Perm ((b, k) :: L)) → Q .none s') : wpAny (model X.prog X.w) X.A (call (.builtin "set.add") [.ref D, .ref b]) Q E s := by
  have S0 : Set0 X.w s.heap D L := (I.hok D _ hD).1
  obtain ⟨o, es, ep, t, S⟩ := S0.full fun p m => (ks p m).tk I
  have kt := kb.tk I
  have hu1 : X.A.in1.units + 8 < cLine := by
    have e : X.A.in1.units ≤ X.A.units + 1 := by first | exact Nat.le_refl _ | (unfold Around.in1; simp) | simp [Around.in1, Around.units]
    omega
  refine wpAny_call_entry F.slot_set_add ⟨o, S.at_, S.exact_.1⟩ F.entry_set_add ?_ (F.args_set_add_2 _ _)
  unfold Builtin.«set.add» Builtin.Frozenset.oneOther
  simp only [List.isEmpty_nil, bind_assoc]
  unfold Builtin.Frozenset.addrOf setAdd
  refine wpAny_bind (wpAny_pure ?_)
  try dsimp only
  refine wpAny_bind (wpAny_pure ?_)
  try dsimp only
  refine wpAny_bind (wpAny_holding (wpAny_bind ((nestedKind X.prog X.w).pyHash (show _ + 8 < cLine from ?_) kt ?_)))
  · show X.A.in1.units + 8 < cLine
    exact hu1
  refine add_at (s := { s with toks := s.toks + k.draws }) (L := L) ⟨S.at_, S.exact_, S.data, S.lay, S.nd, S.keys, S.few⟩ kt hu1 few fun b' h' L' o' es' ep' t' sb S' y n => ?_
  show wpAny _ _ (ret Value.none) _ _ _
  refine wpAny_pure ⟨_, rfl, q L' _ ?_ y n⟩
  exact I.write (e := D) (t' := s.toks + k.draws) (by rw [hD]; trivial) (.inl rfl) (fun c u hc hu => (sb.2 c hc).trans hu) ⟨o', S'.at_⟩ (setO_new S'.set0)
end
end Ns
namespace Ns
open PySem PySem.Spec PyProof.Rows L2 PpSet
/-! ### {elt for target in iter}, the elements tuples that are keys -/
/-- what the element at hand does to the set at D, whose elements are L -/
def tElt (K : PySem.W.Frag) (w : World) (D : Addr) (Nx : Hp → Prop) : VK := fun y H => ∃ (b : Addr) (k : NestedKey) (L : List El), y = .ref b ∧ H D = some (SetO w D L) ∧ ElK K H (b, k) ∧ (∀ p ∈ L, ElK K H p) ∧ L.length + 1 < 64 ∧
  ∀ L', (k ∈ L.map (·.2) → L' = L) → (k ∉ L.map (·.2) → L'.Perm ((b, k) :: L)) → Nx (upd H D (SetO w D L'))
def tSet (K : PySem.W.Frag) (w : World) (wi : TI) (g : TG) (tt : TT) (te : TE) (vs : List Nat) : TE := fun σ H Q => wi σ H fun J H1 => ∀ D, H1 D = none → ∃ W : Nat → Nat → Hp → Prop, (∃ m, W 0 m (upd H1 D (SetO w D []))) ∧ ∀ i m H, W i m H →
  (J.stop i H ∧ Q (.ref D) H) ∨ (J.go i H ∧ ∃ Nx : Hp → Prop, (∀ H', Nx H' → ∃ m', m' < m ∧ W (i + 1) m' H') ∧ ∀ x H', J.yld i H x H' → g x (wipe σ vs) H' fun σ2 H2 => wipe σ2 vs = wipe σ vs ∧ tt σ2 H2 fun b H3 =>
    if b = true then te σ2 H3 (tElt K w D Nx) else Nx H3)
section
variable {X : Cx}
theorem pe_set {elt tg iter : Expr} {ifs : List Expr} {scope : Scope} {own : List (PySem.Str × Nat)} {pos : Pos} {wi : TI} {g : TG} {tt : TT} {te : TE} (hu : X.A.units + 64 < cLine) (hc : X.calm = true) (hN : X.N.Nodup) (hi : PI X tg iter wi) (ok : BlkOk X.N X.env.scope scope own)
    (hg : ∀ (s : Shared) (H : Hp) (C : Addr) (cl : List (PySem.Str × Addr)) (fp : List Addr), PG (X.blk s H scope (compEnvC scope cl C X.env) fp) tg g) (ht : ∀ (s : Shared) (H : Hp) (C : Addr) (cl : List (PySem.Str × Addr)) (fp : List Addr), PTs (X.blk s H scope (compEnvC scope cl C X.env) fp) ifs tt)
    (he : ∀ (s : Shared) (H : Hp) (C : Addr) (cl : List (PySem.Str × Addr)) (fp : List Addr), PE (X.blk s H scope (compEnvC scope cl C X.env) fp) elt te) (hs : ∀ x, foldedSetIterable iter X.env x = pure x := by intro _; rfl) :
    PE X (.SetComp elt [⟨tg, iter, ifs, 0⟩] scope pos) (tSet X.K X.w wi g tt te (own.map (·.2))) := by
  refine ⟨fun pins s σ H Q I h => ?_⟩
  rw [eval_SetComp]
  have free : ∀ y ∈ scope.names, y.2 = .free → ∃ c, X.env.cells.lookup y.1 = some c := fun y hy e => (ok.free y hy e).elim (fun z => I.ok.has _ (.inl z)) fun z => I.ok.has _ (.inr z)
  refine wpAny_comprehension_free (use := none) rfl hs (closure_ok free) ok.kind (fun y hy e => by rw [ok.uniq y hy, e]) (thn (hi.run pins s σ H _ I h) fun xv s1 hx => thn hx fun itv s2 h2 => ?_)
  obtain ⟨it, fp, tn, J, H2, rfl, I2, T, st2, f2, q⟩ := h2
  refine newSet_ok (newEnv_comp ?_)
  generalize eD : s2.heap.objs.size = D
  have nD : H2 D = none := I2.hok.fresh (Nat.le_of_eq eD)
  obtain ⟨W, ⟨m0, w0⟩, turn⟩ := q D nD
  generalize es3 : ({ s2 with heap := s2.heap.push { cls := .type "set", dict := none, data := .set #[] 0 (.fresh 0 0 (!X.w.params.followText "set-order")) } } : Shared) = s3
  have h3 : s3.heap = s2.heap.push { cls := .type "set", dict := none, data := .set #[] 0 (.fresh 0 0 (!X.w.params.followText "set-order")) } := by rw [← es3]
  have I3 : Inv X pins σ (upd H2 D (SetO X.w D [])) s3 := by
    rw [← es3]
    refine I2.laid (t' := s2.toks) (fun b o e => Heap.get?_push_of_some _ e) (Nat.le_of_eq eD) ?_
    rw [← eD]
    exact setO_new set0_fresh
  have f3 : ∀ b ∈ fp, FpOk X pins (upd H2 D (SetO X.w D [])) b ∧ b < s3.heap.objs.size := fun b hb => by
    obtain ⟨o, e, _⟩ := T.obj _ _ st2 b hb
    have lt := Heap.lt_size e
    exact ⟨⟨(upd_ne (by rw [← eD]; exact Nat.ne_of_lt lt)).trans (f2 b hb).1, (f2 b hb).2⟩, by rw [h3, Heap.size_push]; exact Nat.lt_succ_of_lt lt⟩
  have st3 : tn 0 s3.heap := T.keep _ _ _ st2 fun b _ o e => by rw [h3]; exact Heap.get?_push_of_some _ e
  generalize eH3 : upd H2 D (SetO X.w D []) = H3 at I3 f3 w0
  have I4 := block_start I3 ok hN f3
  have pg := hg s3 H3 s3.heap.objs.size (cellsFrom (s3.heap.objs.size + 1) scope.names (cloFrom X.env.cells scope.names [])) fp
  have pt := ht s3 H3 s3.heap.objs.size (cellsFrom (s3.heap.objs.size + 1) scope.names (cloFrom X.env.cells scope.names [])) fp
  have pe := he s3 H3 s3.heap.objs.size (cellsFrom (s3.heap.objs.size + 1) scope.names (cloFrom X.env.cells scope.names [])) fp
  show codeAny _ _ (.compStart (.SetComp elt [⟨tg, iter, ifs, 0⟩] scope pos) 0 (.ref it) (.ref D) (compEnvC scope (cellsFrom (s3.heap.objs.size + 1) scope.names (cloFrom X.env.cells scope.names [])) s3.heap.objs.size X.env)) _ { s3 with heap := pushCells (s3.heap.push { cls := .type "dict", data := .dict #[] }) scope.names }
  generalize ece : compEnvC scope (cellsFrom (s3.heap.objs.size + 1) scope.names (cloFrom X.env.cells scope.names [])) s3.heap.objs.size X.env = ce at I4 pg pt pe ⊢
  have cL : ce.locals = s3.heap.objs.size := by rw [← ece]; rfl
  generalize es4 : ({ s3 with heap := pushCells (s3.heap.push { cls := .type "dict", data := .dict #[] }) scope.names } : Shared) = s4 at I4 ⊢
  have st4 : tn 0 s4.heap := T.keep _ _ _ st3 fun b _ o e => by rw [← es4]; exact pushCells_keeps _ _ _ _ (Heap.get?_push_of_some _ e)
  -- the iterator's own objects, in the block
  have own_ : ∀ {σ' : L2.St} {H' : Hp} {s' : Shared}, Inv (X.blk s3 H3 scope ce fp) [] σ' H' s' → (∀ b ∈ fp, H' b = none) → ∀ b ∈ fp, FpOk (X.blk s3 H3 scope ce fp) [] H' b := fun {σ' H' s'} I' n b hb =>
    ⟨n b hb, (I'.ok.exf b hb).1, I'.ok.exfs b hb, .inl hb, fun x c e => (I'.ok.exf b hb).2 x c e, fun p hp => absurd (show p ∈ ([] : List (Addr × Obj)) ++ [] from hp) (by simp)⟩
  refine codeAny_compStart_set ?loop (T.self X.A 0 _ _ _ st4 ?loop)
  refine compLoopS_any (fun n s' => ∃ i H', Inv (X.blk s3 H3 scope ce fp) [] (wipe σ (own.map (·.2))) H' s' ∧ tn i s'.heap ∧ (∀ b ∈ fp, H' b = none) ∧ W i n H') ?_ m0 ⟨0, H3, I4, st4, fun b hb => (f3 b hb).1.1, w0⟩
  rintro n s5 ⟨i, H5, I5, st5, n5, w5⟩
  rcases turn i n H5 w5 with ⟨stop, qq⟩ | ⟨go, Nx, hNx, step⟩
  · refine thnF (T.done (X.blk s3 H3 scope ce fp) rfl rfl rfl hc i [] s5 _ H5 (fun _ _ => False) I5 (own_ I5 n5) st5 stop) fun r s6 ⟨hr, I6⟩ => ?_
    subst hr
    have I7 : Inv X pins σ H5 s6 := I3.call' (ch := fp) I6.os I6.base I6.hok I6.bare fun b hb => ⟨(f3 b hb).1.2.2.2.1, (f3 b hb).1.2.1, (f3 b hb).1.2.2.2.2.1, (f3 b hb).1.2.2.2.2.2⟩
    have nC : H5 s3.heap.objs.size = none := cL ▸ (show H5 ce.locals = none from I6.free)
    obtain ⟨m, hn, _⟩ := I6.loc
    have hn : s6.heap.Ns s3.heap.objs.size m := cL ▸ (show s6.heap.Ns ce.locals m from hn)
    obtain ⟨a0, a1, a2, a3, a4, a5⟩ := I3.fpOk (Nat.le_refl _) nC
    exact ⟨m, hn, fun h'' sb => ⟨.ref D, H5, I7.turned (t' := s6.toks) (fun b o hb e => (sb.2 b hb).trans e) a0 a1 a3 a4 a5, rfl, qq⟩⟩
  · refine thnF (T.item (X.blk s3 H3 scope ce fp) rfl rfl rfl hc i [] s5 _ H5 (fun _ _ => False) I5 (own_ I5 n5) st5 go) fun r s6 ⟨u, hr, h6⟩ => ?_
    subst hr
    refine thnF h6 fun _ s7 ⟨x, H7, I7, r7, y7, st7, n7⟩ => ?_
    refine thnF (pg.run _ s7 _ H7 x u _ (I7.pinned (own_ I7 n7) (T.obj _ _ st7)) r7 (step x H7 y7)) fun _ s8 ⟨σ8, H8, I8, hw8, q8⟩ => ?_
    refine thnF (pt.run _ s8 σ8 H8 _ I8 q8) fun b s9 ⟨H9, I9, q9⟩ => ?_
    have fin : ∀ {s' : Shared} {H' : Hp}, Inv (X.blk s3 H3 scope ce fp) ([] ++ pinsAt fp s7.heap) σ8 H' s' → Nx H' → ∃ m, m < n ∧ ∃ i H', Inv (X.blk s3 H3 scope ce fp) [] (wipe σ (own.map (·.2))) H' s' ∧ tn i s'.heap ∧ (∀ b ∈ fp, H' b = none) ∧ W i m H' := fun {s' H'} I' nx => by
      obtain ⟨m', lt, w'⟩ := hNx H' nx
      have pin' : ∀ b ∈ fp, ∀ o, s7.heap.get? b = some o → s'.heap.get? b = some o ∧ H' b = none := fun b hb o e =>
        let z := I'.pin (b, o) (List.mem_append_right _ (List.mem_append_right _ (mem_pinsAt hb e)))
        ⟨z.1, z.2.1⟩
      refine ⟨m', lt, i + 1, H', (I'.unpinned (pins := [])).weak (by rw [← hw8, wipe_length]) (fun j v e => ?_), T.keep _ _ _ st7 fun b hb o e => (pin' b hb o e).1, fun b hb => ?_, w'⟩
      · rw [← hw8] at e
        exact (wipe_some e).1
      · obtain ⟨o, e, _⟩ := T.obj _ _ st7 b hb
        exact (pin' b hb o e).2
    cases b with
    | false =>
      simp only [Bool.false_eq_true, if_false] at q9 ⊢
      exact fin I9 q9
    | true =>
      simp only [if_true] at q9 ⊢
      refine thnF (pe.run _ s9 σ8 H9 _ I9 q9) fun z s10 ⟨yv, H10, I10, r10, bb, k, L, ey, hD, kb, ks, few, nx⟩ => ?_
      subst ey
      cases (show z = Value.ref bb from r10)
      exact addN_ok (X := X.blk s3 H3 scope ce fp) I10 hD kb ks few hu fun L' s11 I11 y n' => fin I11 (nx L' y n')
end
end Ns
/-! ### sets of texts, as the model lays them -/
namespace Ns
open PySem PySem.Spec PyProof.Rows L2
def keyS (e : Int × Value) : Str := match e.2 with | .str k _ => k | _ => Str.empty
def GoodS (P : Program) (w : World) (e : Int × Value) : Prop := ∃ k t, e.2 = Value.str k t ∧ e.1 = (PySem.strKind P w).hash k
/-- the set of bools at a: S its members, n their number; its table rises and can be walked -/
def SetS (P : Program) (w : World) (h : Heap) (a : Addr) (S : Str → Bool) (n : Nat) : Prop :=
  ∃ o es ep t, h.get? a = some o ∧ o.ExactSet ∧ o.data = .set es ep t ∧ (∀ e ∈ es.toList, GoodS P w e) ∧ (es.toList.map keyS).Nodup ∧ (∀ k, S k = true ↔ k ∈ es.toList.map keyS) ∧
    es.size < scanBound ∧ t.fits es.size = true ∧ es.size = n ∧ Ris t.place.toList ∧ (w.params.followText "set-order" = true ∨ t.led = true)

section
variable {P : Program} {w : World} {h h' : Heap} {a : Addr} {S : Str → Bool} {n : Nat}

theorem SetS.at (R : SetS P w h a S n) (k : ∀ o, h.get? a = some o → h'.get? a = some o) : SetS P w h' a S n := by
  obtain ⟨o, es, ep, t, ho, r⟩ := R
  exact ⟨o, es, ep, t, k o ho, r⟩
theorem SetS.lt (R : SetS P w h a S n) : a < h.objs.size := by
  obtain ⟨o, es, ep, t, ho, r⟩ := R
  exact Heap.lt_size ho
theorem SetS.congr {S' : Str → Bool} (R : SetS P w h a S n) (e : ∀ k, S' k = S k) : SetS P w h a S' n := by
  have q : S' = S := funext e
  rw [q]; exact R
theorem goodS_elems {l : List (Int × Value)} (g : ∀ e ∈ l, GoodS P w e) : ElemsOf (PySem.strKind P w) l := fun e he => by
  obtain ⟨k, tk, h1, h2⟩ := g e he
  exact ⟨⟨k, by rw [h1]; exact strKind_is P w k tk, h2⟩, by rw [h1] <;> rfl⟩
theorem goodS_is {e : Int × Value} (g : GoodS P w e) (k : Str) : (PySem.strKind P w).is k e.2 = true ↔ keyS e = k := by
  obtain ⟨k0, tk, h1, _⟩ := g
  unfold keyS
  rw [h1]
  show ((k0 == k) = true) ↔ k0 = k
  exact beq_iff_eq
theorem goodS_mem {l : List (Int × Value)} (g : ∀ e ∈ l, GoodS P w e) (k : Str) : k ∈ l.map keyS ↔ ∃ e ∈ l, (PySem.strKind P w).is k e.2 = true := by
  rw [List.mem_map]
  constructor
  · rintro ⟨e, he, q⟩
    exact ⟨e, he, (goodS_is (g e he) k).2 q⟩
  · rintro ⟨e, he, q⟩
    exact ⟨e, he, (goodS_is (g e he) k).1 q⟩
theorem SetS.setOf (R : SetS P w h a S n) : h.SetOf (PySem.strKind P w) a S n := by
  obtain ⟨o, es, ep, t, ho, hx, hd, g, nd, hm, hb, hf, hn, _⟩ := R
  exact ⟨o, es, ep, t, ho, hx, hd, goodS_elems g, fun k => (hm k).trans (goodS_mem g k), hb, hf, hn⟩
end

section
variable {P : Program} {w : World} {A : Around} {E : Value → Shared → Prop} {s : Shared} {a : Addr} {S : Str → Bool} {n : Nat}

/-! ### add -/
theorem storeS_at {h : Heap} {a : Addr} {o : Obj} {es es' : Array (Int × Value)} {ep : Nat} {t t' : SetTable} (ho : h.get? a = some o) (hd : o.data = .set es ep t) :
    (h.update a (Obj.putSet es' t')).get? a = some { o with data := .set es' (ep + 1) t' } := by
  have q := Heap.get?_update_self (Obj.putSet es' t') ho (by rw [putSet_of es' t' hd]; rfl)
  rw [putSet_of es' t' hd] at q
  exact q

theorem setS_add_tail {g : Bool → Sem Unit} (hg : ∀ (b : Bool) (s₁ : Shared) (Q' : Unit → Shared → Prop), Q' () s₁ → wpAny (model P w) A (g b) Q' E s₁)
    {o : Obj} {es : Array (Int × Value)} {ep : Nat} {t : SetTable} (ho : s.heap.get? a = some o) (hex : o.ExactSet) (hd : o.data = .set es ep t)
    {es1 : Array (Int × Value)} {t2 : SetTable} {S' : Str → Bool} (g1 : ∀ e ∈ es1.toList, GoodS P w e) (nd1 : (es1.toList.map keyS).Nodup) (m1 : ∀ k, S' k = true ↔ k ∈ es1.toList.map keyS)
    (hb1 : es1.size < scanBound) (hf2 : t2.fits es1.size = true) (hr : Ris t2.place.toList) (hl : w.params.followText "set-order" = true ∨ t2.led = true) {wasDummy : Bool} {R : Option Bool → Shared → Prop}
    (hR : ∀ h', Heap.SameBut a s.heap h' → SetS P w h' a S' es1.size → R (some true) { s with heap := h' }) :
    wpAny (model P w) A (do
        storeSet a es1 t2
        if (!wasDummy && t2.tooFull) = true then do
            g (relayAll t2 es1 (SetTable.grown es1.size)).2.2
            storeSet a (relayAll t2 es1 (SetTable.grown es1.size)).1 (relayAll t2 es1 (SetTable.grown es1.size)).2.1
            pure (some true)
          else pure (some true)) R E s := by
  refine wpAny_bind (wpAny_storeSet_of ho hd ?_ (fits_of_scanBound hb1))
  have ho1 := storeS_at (es' := es1) (t' := t2) ho hd
  have sb1 := Heap.SameBut.update s.heap a (Obj.putSet es1 t2)
  split
  · have pm := relayAll_perm t2 es1 (SetTable.grown es1.size)
    have hf3 := relayAll_fits t2 es1 (SetTable.grown es1.size)
    have hr3 := relayAll_ris t2 es1 (SetTable.grown es1.size)
    have hl3 := relayAll_led t2 es1 (SetTable.grown es1.size)
    generalize relayAll t2 es1 (SetTable.grown es1.size) = Z at pm hf3 hr3 hl3 ⊢
    obtain ⟨es2, t3, gave⟩ := Z
    dsimp only at pm hf3 hr3 hl3 ⊢
    have hsz : es2.size = es1.size := by rw [← Array.length_toList, pm.length_eq, Array.length_toList]
    have hb2 : es2.size < scanBound := by rw [hsz]; exact hb1
    refine wpAny_bind (hg _ _ _ ?_)
    refine wpAny_bind (wpAny_storeSet_of ho1 rfl ?_ (fits_of_scanBound hb2))
    have ho2 := storeS_at (es' := es2) (t' := t3) ho1 rfl
    refine wpAny_pure (hR _ (sb1.trans (Heap.SameBut.update _ a _)) ?_)
    exact ⟨_, es2, _, t3, ho2, hex, rfl, fun e he => g1 e (pm.mem_iff.mp he), (pm.map keyS).nodup_iff.mpr nd1, fun k => (m1 k).trans (pm.map keyS).mem_iff.symm, hb2, hf3, hsz, hr3,
      hl.imp id fun z => by rw [hl3]; exact z⟩
  · exact wpAny_pure (hR _ sb1 ⟨_, es1, _, t2, ho1, hex, rfl, g1, nd1, m1, hb1, hf2, rfl, hr, hl⟩)

theorem setS_add_hashed {k : Str} {tk : Tok} {Q : Bool → Shared → Prop} (R : SetS P w s.heap a S n) (room : n + 1 < scanBound)
    (hQ : ∀ h', Heap.SameBut a s.heap h' → SetS P w h' a (fun j => S j || decide (j = k)) (if S k = true then n else n + 1) → Q (!S k) { s with heap := h' }) :
    wpAny (model P w) A (setAddHashed a (.str k tk) ((PySem.strKind P w).hash k)) Q E s := by
  obtain ⟨o, es, ep, t, ho, hex, hd, g, nd, hm, hb, hf, hn, hr, hl⟩ := R
  have hkey : (PySem.strKind P w).is k (.str k tk) = true := strKind_is P w k tk
  have hsc : (Value.str k tk).scannable = true := rfl
  have hel : ElemsOf (PySem.strKind P w) es.toList := goodS_elems g
  unfold setAddHashed setAddHashedIn
  refine wpAny_holding (wpAny_bind (wpAny_setState_of ho hd hf ?_))
  dsimp only
  rw [byScan_of hsc hb hel]
  simp only [↓reduceIte]
  unfold setAddByScan
  refine wpAny_bind ?_
  refine wpAny_bind (wpAny_rule ?_)
  refine wpAny_bind (wpAny_setScan_of hkey ho hd hf hel ?_)
  cases hfi : List.findIdx? (fun e => (PySem.strKind P w).is k e.2) es.toList with
  | some j =>
    dsimp only
    obtain ⟨hj, pj, _⟩ := List.findIdx?_eq_some_iff_getElem.mp hfi
    have hSk : S k = true := (hm k).2 ((goodS_mem (P := P) (w := w) g k).2 ⟨es.toList[j], List.getElem_mem hj, pj⟩)
    refine wpAny_pure (wpAny_pure ?_)
    have q := hQ s.heap (Heap.SameBut.refl a s.heap) ⟨o, es, ep, t, ho, hex, hd, g, nd, fun i => by
      rw [Bool.or_eq_true, decide_eq_true_eq, ← hm i]
      exact ⟨fun z => z.elim id (fun e => e ▸ hSk), .inl⟩, hb, hf, by rw [if_pos hSk]; exact hn, hr, hl⟩
    rw [hSk] at q
    exact q
  | none =>
    dsimp only
    have hnk : k ∉ es.toList.map keyS := fun z => by
      obtain ⟨e, he, q⟩ := (goodS_mem (P := P) (w := w) g k).1 z
      have c := List.findIdx?_eq_none_iff.mp hfi e he
      rw [q] at c
      cases c
    have hSk : S k = false := by
      cases q : S k with
      | false => rfl
      | true => exact absurd ((hm k).1 q) hnk
    have hgw : ∀ (b : Bool) {s₁ : Shared} {Q' : Unit → Shared → Prop}, Q' () s₁ → wpAny (model P w) A (match b with | true => rule "set.scan.the-table-gave-way" | false => pure ()) Q' E s₁ :=
      fun b s₁ Q' q => by cases b <;> first | exact wpAny_pure q | exact wpAny_rule q
    have pm := layNew_perm t es ((PySem.strKind P w).hash k) (.str k tk)
    have hf1 := layNew_fits t es ((PySem.strKind P w).hash k) (.str k tk)
    have hr1 := layNew_ris t es ((PySem.strKind P w).hash k) (.str k tk) hr
    have hl1 := layNew_led t es ((PySem.strKind P w).hash k) (.str k tk)
    generalize layNew t es ((PySem.strKind P w).hash k) (.str k tk) = Z at pm hf1 hr1 hl1 ⊢
    obtain ⟨es1, t1, wasDummy, gave⟩ := Z
    dsimp only at pm hf1 hr1 hl1 ⊢
    rw [Array.toList_push] at pm
    have pc : es1.toList.Perm (((PySem.strKind P w).hash k, Value.str k tk) :: es.toList) := pm.trans (List.perm_append_singleton _ _)
    have pk : (es1.toList.map keyS).Perm (k :: es.toList.map keyS) := pc.map keyS
    have g1 : ∀ e ∈ es1.toList, GoodS P w e := fun e he => by
      rcases List.mem_cons.mp (pc.mem_iff.mp he) with z | z
      · rw [z]; exact ⟨k, tk, rfl, rfl⟩
      · exact g e z
    have nd1 : (es1.toList.map keyS).Nodup := pk.nodup_iff.mpr (List.nodup_cons.mpr ⟨hnk, nd⟩)
    have m1 : ∀ i, (S i || decide (i = k)) = true ↔ i ∈ es1.toList.map keyS := fun i => by
      rw [Bool.or_eq_true, decide_eq_true_eq, hm i, pk.mem_iff, List.mem_cons]
      exact Or.comm
    have hsz : es1.size = n + 1 := by rw [← Array.length_toList, pc.length_eq, List.length_cons, Array.length_toList, hn]
    have hb1 : es1.size < scanBound := by rw [hsz]; exact room
    have hled : w.params.followText "set-order" = true ∨ t1.led = true := hl.imp id fun z => by rw [hl1]; exact z
    have fin : ∀ h', Heap.SameBut a s.heap h' → SetS P w h' a (fun j => S j || decide (j = k)) es1.size → Q true { s with heap := h' } := fun h' sb r => by
      have q := hQ h' sb
      rw [hSk] at q
      rw [hsz] at r
      exact q r
    refine wpAny_bind (hgw _ ?_)
    split
    · refine wpAny_bind ?_
      rw [hashByValue_scannable 8 hsc]
      refine wpAny_pure ?_
      refine setS_add_tail ?_ ho hex hd g1 nd1 m1 hb1 ?_ ?_ ?_ ?_
      · intro b s₁ Q' q; cases b <;> first | exact wpAny_pure q | exact wpAny_rule q
      · first | (split <;> first | exact hf1 | exact SetTable.fits_plain_off hf1) | exact hf1
      · first | (split <;> exact hr1) | exact hr1
      · first | (split <;> exact hled) | exact hled
      · intro h' sb r; dsimp only; exact wpAny_pure (fin h' sb r)
    · refine wpAny_bind (wpAny_pure ?_)
      simp only [↓reduceIte]
      refine setS_add_tail ?_ ho hex hd g1 nd1 m1 hb1 hf1 hr1 hled ?_
      · intro b s₁ Q' q; cases b <;> first | exact wpAny_pure q | exact wpAny_rule q
      · intro h' sb r; dsimp only; exact wpAny_pure (fin h' sb r)

end
end Ns
namespace Ns
open PySem PySem.Spec PyProof.Rows L2
theorem perm_map' {α β : Type} {g : β → α} : ∀ {xs : List α} {l : List β}, xs.Perm (l.map g) → ∃ l' : List β, l'.Perm l ∧ xs = l'.map g := by
  have key : ∀ {xs ys : List α}, xs.Perm ys → ∀ l : List β, ys = l.map g → ∃ l' : List β, l'.Perm l ∧ xs = l'.map g := by
    intro xs ys p
    induction p with
    | nil => exact fun l e => ⟨l, .refl _, e⟩
    | cons x p ih =>
      intro l e
      cases l with
      | nil => cases e
      | cons y l =>
        injection e with e1 e2
        obtain ⟨l', q, e3⟩ := ih l e2
        exact ⟨y :: l', q.cons _, by rw [e1, e3]; rfl⟩
    | swap x y l0 =>
      intro l e
      match l, e with
      | u :: v :: l, e =>
        injection e with e1 e2
        injection e2 with e2 e3
        exact ⟨v :: u :: l, .swap _ _ _, by rw [e1, e2, e3]; rfl⟩
    | trans p q ih1 ih2 =>
      intro l e
      obtain ⟨l1, q1, e1⟩ := ih2 l e
      obtain ⟨l2, q2, e2⟩ := ih1 l1 e1
      exact ⟨l2, q2.trans q1, e2⟩
  exact fun {xs l} p => key p l rfl
theorem strs_of : ∀ ms : List (Int × Value), (∀ e ∈ ms, ∃ tk, e.2 = Value.str (keyS e) tk) → StrsAre (ms.map fun e => e.2) (ms.map keyS)
  | [], _ => .nil
  | e :: ms, h => by
    obtain ⟨tk, q⟩ := h e List.mem_cons_self
    show StrsAre (e.2 :: ms.map fun e => e.2) (keyS e :: ms.map keyS)
    rw [q]
    exact .cons _ _ (strs_of ms fun u m => h u (List.mem_cons_of_mem _ m))
theorem setS_new_at {P : Program} {w : World} {h : Heap} {a : Addr} {ns : List Str} (ho : h.get? a = some { cls := .type "set", dict := none, data := .set #[] 0 (.fresh 0 0 (!w.params.followText "set-order")) }) : SetS P w h a (fun j => decide (j ∈ ns.take 0)) 0 :=
  ⟨_, #[], 0, _, ho, ⟨rfl, rfl, rfl⟩, rfl, (fun e he => by simp at he), (by simp), (fun k => by simp), (by decide), (by rfl), rfl, List.Pairwise.nil, by
    show _ ∨ (!w.params.followText "set-order") = true
    cases w.params.followText "set-order"
    · exact .inr rfl
    · exact .inl rfl⟩
section
variable {P : Program} {w : World} {A : Around} {E : Value → Shared → Prop} {s : Shared} {a : Addr}
theorem set_update_strs {I : Addr} {fp wr : List Addr} {G : Array GenState → Array GenState → Prop} {n : Nat} {Pv : Nat → Value → Prop} {St : Nat → Shared → Prop} {R : Result → Shared → Prop}
    (W : WalksS P w A.in1 I fp wr G n Pv St) (S : Addr) (hSf : S ∉ fp) (ns : List Str) (hn : n = ns.length) (hb : ns.length + 1 < scanBound) (hval : ∀ i v, Pv i v → ∃ k t, ns[i]? = some k ∧ v = .str k t) :
    ∀ (k i : Nat) (s : Shared), n - i = k → i ≤ n → St i s → (∃ c, c ≤ i ∧ SetS P w s.heap S (fun j => decide (j ∈ ns.take i)) c) →
      (∀ s' c, Moved (S :: wr) G s s' → c ≤ n → SetS P w s'.heap S (fun j => decide (j ∈ ns)) c → R (.ok (.ret .none)) s') →
      codeAny (model P w) A (.builtin "set.update.loop" ⟨[.ref S, .ref I], []⟩) R s := by
  have hSw : S ∉ wr := fun h => hSf (W.sub _ h)
  have hsub : ∀ b ∈ wr, b ∈ S :: wr := fun b hb => List.mem_cons_of_mem _ hb
  intro k
  induction k with
  | zero =>
    intro i s hk' hi hst ⟨c, hc, hS⟩ hR
    have hin : i = n := by omega
    subst hin
    refine codeAny_builtin F.entry_set_update_loop ?_
    rw [Around.under_plainId F.plain_set_update_loop _]
    show wpAny _ A.in1 (pyNext (.ref I) >>= _) _ _ s
    refine wpAny_bind (W.done s _ _ hst fun s' hm => ?_)
    show wpAny _ A.in1 (ret Value.none) _ _ s'
    have e : ns.take i = ns := List.take_of_length_le (by omega)
    rw [e] at hS
    exact wpAny_pure (hR s' c (hm.mono hsub) hc (hS.at fun o e => hm.heap S o hSw e))
  | succ k ih =>
    intro i s hk' hi hst ⟨c, hc, hS⟩ hR
    have hlt : i < n := by omega
    refine codeAny_builtin F.entry_set_update_loop ?_
    rw [Around.under_plainId F.plain_set_update_loop _]
    show wpAny _ A.in1 (pyNext (.ref I) >>= _) _ _ s
    refine wpAny_bind (W.item i s _ _ hlt hst fun v s' hP hst' hm => ?_)
    obtain ⟨z, t, hz, rfl⟩ := hval i v hP
    have hS' : SetS P w s'.heap S (fun j => decide (j ∈ ns.take i)) c := hS.at fun o e => hm.heap S o hSw e
    show wpAny _ A.in1 (holding [Value.str z t] (setAdd S (.str z t)) >>= _) _ _ s'
    refine wpAny_bind (wpAny_holding ?_)
    unfold setAdd
    refine wpAny_holding ?_
    refine wpAny_bind ((PySem.strKind P w).pyHash (k := z) (strKind_is _ _ _ _) ?_)
    refine setS_add_hashed (s := { s' with toks := s'.toks + 1 }) hS' (by omega) fun h' hsb hS2 => ?_
    have hS3 : SetS P w h' S (fun j => decide (j ∈ ns.take (i + 1))) (if decide (z ∈ ns.take i) = true then c else c + 1) := hS2.congr fun j => by
      rw [List.take_add_one, hz]
      simp [List.mem_append]
    have hc3 : (if decide (z ∈ ns.take i) = true then c else c + 1) ≤ i + 1 := by
      split <;> omega
    refine wpAny_pure ⟨plainId_quiet F.plain_set_update_loop _, ih (i + 1) _ (by omega) hlt (W.frame _ s' _ _ hst' (Nat.le_succ _) fun b hb o e => ?_) ⟨_, hc3, hS3⟩ fun s'' c2 hm'' hc'' hS'' => ?_⟩
    · rw [hsb.2 b (fun h : b = S => hSf (by rw [← h]; exact hb))]; exact e
    · refine hR s'' c2 (Moved.trans W.gtrans ((hm.mono hsub).then_heap (Nat.le_succ _) fun b o hb e => ?_) hm'') hc'' hS''
      rw [hsb.2 b (fun h : b = S => hb (by rw [h]; exact List.mem_cons_self))]; exact e

set_option maxRecDepth 100000 in
set_option maxHeartbeats 3200000 in
theorem call_set_listS {l : Addr} {items : Array Value} (ns : List Str) {Q : Value → Shared → Prop} (hh : A.handled = none) (hl : s.heap.IsList l items) (hit : StrsAre items.toList ns) (hb : ns.length + 1 < scanBound)
    (h : ∀ (h' : Heap) (tk c : Nat), SetS P w h' s.heap.objs.size (fun j => decide (j ∈ ns)) c → c ≤ ns.length → (∀ b o, s.heap.get? b = some o → h'.get? b = some o) → Q (.ref s.heap.objs.size) { s with heap := h', toks := tk }) :
    wpAny (model P w) A (call (.type "set") [.ref l]) Q E s := by
  have hisz : items.size = ns.length := by
    have q := StrsAre.len_eq hit
    rw [Array.length_toList] at q
    exact q
  obtain ⟨c, tl, hmro⟩ := F.called_set.mro
  have hmade := F.called_set.made
  have hsub := F.called_set.sub
  refine wpAny_call (codeAny_of_tree ?_)
  show wpAny _ _ (callAny (.type "set") _) _ _ _
  refine wpAny_pure ⟨Code.quiet_builtin _ (by decide +kernel), codeAny_builtin F.entry_type_call ?_⟩
  rw [Around.under_plain (weight_type_call_type "set" [.ref l] []) rfl]
  have h1 := F.called_set.notType
  have h2 := F.called_set.canCreate
  have hct := F.typeCall_set_1 (.ref l)
  repeat (any_goals (first | assumption | wp_step))

  refine codeAny_mono (code_set_led1 (.ref l) (E := E) (Q₁ := fun obj s₁ => obj = .ref s.heap.objs.size ∧ s₁ = { s with heap := s.heap.push { cls := .type "set", dict := none, data := .set #[] 0 (.fresh 0 0 (!w.params.followText "set-order")) } }) ⟨rfl, rfl⟩) fun r s₁ hr => ?_
  cases r with
  | error e => exact hr
  | ok fl =>
    cases fl with
    | ret obj =>
      obtain ⟨rfl, rfl⟩ := hr
      have hS : (s.heap.push { cls := .type "set", dict := none, data := .set #[] 0 (.fresh 0 0 (!w.params.followText "set-order")) }).get? s.heap.objs.size = some { cls := .type "set", dict := none, data := .set #[] 0 (.fresh 0 0 (!w.params.followText "set-order")) } := Heap.get?_push_size _ rfl
      have hT : Shared.TypeIs { s with heap := s.heap.push { cls := .type "set", dict := none, data := .set #[] 0 (.fresh 0 0 (!w.params.followText "set-order")) } } (.ref s.heap.objs.size) "set" := ⟨_, hS, rfl⟩
      have hli := F.called_set.init.lookup
      have hbi := F.called_set.init.bind (.ref s.heap.objs.size)
      repeat (any_goals (first | assumption | wp_step))

      refine codeAny_mono (codeAny_call_builtin (R := wants (fun r s₂ => r = .none ∧ ∃ h' tk c, s₂ = { s with heap := h', toks := tk } ∧ SetS P w h' s.heap.objs.size (fun j => decide (j ∈ ns)) c ∧ c ≤ ns.length ∧
          (∀ b o, s.heap.get? b = some o → h'.get? b = some o)) E) F.called_set.init.plain F.entry_set_init (check_set_init_1 hT ?_)) fun r₂ s₂ hr₂ => ?_
      · obtain ⟨ol, hol, hcl, nl, hdl⟩ := hl
        obtain ⟨ocls, odict, odata, oslots⟩ := ol
        simp only at hcl hdl
        subst hcl; subst hdl
        have hol' : (s.heap.push { cls := .type "set", dict := none, data := .set #[] 0 (.fresh 0 0 (!w.params.followText "set-order")) }).get? l = some { cls := .type "list", dict := odict, data := .seq items nl, slots := oslots } := Heap.get?_push_of_some _ hol
        have hsls := F.sub_list_set
        have hslf := F.sub_list_frozenset
        have hne : (Value.type "list" == Value.type "dict") = false := by decide
        have hl1 : (s.heap.push { cls := .type "set", dict := none, data := .set #[] 0 (.fresh 0 0 (!w.params.followText "set-order")) }).IsList l items := ⟨_, hol', rfl, nl, rfl⟩
        unfold Builtin.«set.__init__» noKeywords Builtin.Frozenset.updateFrom
        generalize hPI : pyIter = PI
        wp_walk
        subst hPI

        refine wpAny_pyIter_list hl1 ?_
        refine wpAny_bind (wpAny_runValue ?_)
        have hlS : l < s.heap.objs.size := Heap.lt_size hol
        have hh3 : A.in1.in1.in1.handled = none := by simp [hh]
        have hz1 : (s.heap.push { cls := .type "set", dict := none, data := .set #[] 0 (.fresh 0 0 (!w.params.followText "set-order")) }).objs.size = s.heap.objs.size + 1 := Heap.size_push ..
        have hneI : l ≠ (s.heap.push { cls := .type "set", dict := none, data := .set #[] 0 (.fresh 0 0 (!w.params.followText "set-order")) }).objs.size := by
          rw [Heap.size_push]; exact Nat.ne_of_lt (Nat.lt_succ_of_lt hlS)
        have hSf : s.heap.objs.size ∉ [(s.heap.push { cls := .type "set", dict := none, data := .set #[] 0 (.fresh 0 0 (!w.params.followText "set-order")) }).objs.size, l] := by
          rw [Heap.size_push]; simp only [List.mem_cons, List.mem_singleton, List.not_mem_nil, or_false, not_or]
          exact ⟨Nat.ne_of_lt (Nat.lt_succ_self _), Nat.ne_of_gt hlS⟩
        have hval : ∀ (i : Nat) (v : Value), items[i]? = some v → ∃ k t, ns[i]? = some k ∧ v = .str k t := fun i v hv => by
          have hi : i < ns.length := by rw [← hisz]; exact (Array.getElem?_eq_some_iff.mp hv).1
          obtain ⟨t, e⟩ := SS.strs_at hit i v (by rw [Array.getElem?_toList]; exact hv)
          refine ⟨ns[i], t, List.getElem?_eq_getElem hi, ?_⟩
          rw [e, List.getD_eq_getElem?_getD, List.getElem?_eq_getElem hi] <;> rfl
        refine set_update_strs ((Walks.list hh3 _ l hneI items).toS) s.heap.objs.size
          hSf ns hisz hb hval (items.size - 0) 0 _ (by omega) (Nat.zero_le _)
          ⟨⟨_, Heap.get?_push_size _ rfl, rfl, rfl⟩, (hl1.push _)⟩ ?hS0 ?hR
        case hS0 =>
          have hget : ((s.heap.push { cls := .type "set", dict := none, data := .set #[] 0 (.fresh 0 0 (!w.params.followText "set-order")) }).push { cls := .type "list_iterator", data := .fields #[.ref l, .int 0 0] }).get? s.heap.objs.size
              = some { cls := .type "set", dict := none, data := .set #[] 0 (.fresh 0 0 (!w.params.followText "set-order")) } := Heap.get?_push_of_some _ hS
          exact ⟨0, Nat.le_refl 0, setS_new_at hget⟩
        case hR =>
          intro s' c' hm hc' hS'
          obtain ⟨h', g2, d', tk', os'⟩ := s'
          have eg : g2 = s.gens := hm.gens
          have ed : d' = s.drawn := hm.drawn
          have eo : os' = s.os := hm.os
          subst eg; subst ed; subst eo
          show wpAny _ _ _ _ _ _
          refine wpAny_pure ?_
          show wpAny _ _ (ret Value.none) _ _ _
          rw [hisz] at hc'
          refine wpAny_pure ⟨rfl, h', tk', c', rfl, hS', hc', fun b o e => ?_⟩
          have hb0 : b < s.heap.objs.size := Heap.lt_size e
          have hb1 : b ≠ s.heap.objs.size := Nat.ne_of_lt hb0
          have hb2 : b ≠ (s.heap.push { cls := .type "set", dict := none, data := .set #[] 0 (.fresh 0 0 (!w.params.followText "set-order")) }).objs.size := by
            rw [Heap.size_push]; exact Nat.ne_of_lt (Nat.lt_succ_of_lt hb0)
          exact hm.heap b o (by simp only [List.mem_cons, List.mem_singleton, List.not_mem_nil, or_false, not_or]; exact ⟨hb1, hb2⟩) (Heap.get?_push_of_some _ (Heap.get?_push_of_some _ e))

      · cases r₂ with
        | error e => exact hr₂
        | ok fl₂ =>
          cases fl₂ with
          | ret r =>
            obtain ⟨rfl, h', tk, c', rfl, hS', hc', hk'⟩ := hr₂
            repeat (any_goals (first | assumption | wp_step))
            exact h _ _ _ hS' hc' hk'
          | _ => exact hr₂.elim
    | _ => exact hr.elim

theorem sorted_setS {S : Str → Bool} {n : Nat} {Q : Value → Shared → Prop} (R : SetS P w s.heap a S n) (hh : A.handled = none) (h64 : n < 64)
    (hQ : ∀ s' p (out : Array Value) (c : Nat) (ns : List Str), (∀ b o, s.heap.get? b = some o → s'.heap.get? b = some o) → s'.gens = s.gens → s'.os = s.os → s.heap.objs.size ≤ p →
      s'.heap.get? p = some (seqObj "list" out c) → StrsAre out.toList ns → sortedS ns = true → ns.Nodup → (∀ k, k ∈ ns ↔ S k = true) → ns.length = n → Q (.ref p) s') :
    wpAny (model P w) A (call (.builtin "sorted") [.ref a]) Q E s := by
  obtain ⟨o, es, ep, t, ho, hex, hd, g, nd, hm, hb, hf, hn, hr, hl⟩ := R
  refine Calls.call_function_entry kind_sorted plain_sorted entry_sorted (args_sorted1 _) ?_
  unfold Builtin.«sorted»
  refine wpAny_bind (m := checkCount "sorted" 1 1 _) (wpAny_pure ?_)
  refine wpAny_bind (collect_set (A := A.in1) hh ⟨o, ho, hex.1, hd⟩ hf hb hr hl fun s1 vs k1 hz g1 o1 pm => ?_)
  have hvl : vs.length = n := by rw [pm.length_eq, List.length_map, Array.length_toList]; exact hn
  have ek : ∀ e ∈ es.toList, ∃ tk, e.2 = Value.str (keyS e) tk := fun e he => by
    obtain ⟨k, tk, h1, _⟩ := g e he
    refine ⟨tk, ?_⟩
    unfold keyS
    rw [h1]
  obtain ⟨ms, pms, rfl⟩ := perm_map' (g := fun e : Int × Value => e.2) pm
  have hI : StrsAre (ms.map fun e => e.2) (ms.map keyS) := strs_of ms fun e he => ek e (pms.mem_iff.mp he)
  refine wpAny_bind (wpAny_newList ?_ (by rw [hvl, sizeLine_eq]; omega))
  have hoL : (s1.heap.push (seqObj "list" (ms.map fun e => e.2).toArray 0)).get? s1.heap.objs.size = some (seqObj "list" (ms.map fun e => e.2).toArray 0) := Heap.get?_push_size _ rfl
  refine wpAny_bind (wpAny_holding (wpAny_call_entry slot_list_sort ⟨_, hoL, rfl⟩ entry_list_sort
    (list_sort_treeK strKind_oneLt hoL hI.keysOf (fun v₁ v₂ rest e => keyKind_strs (by rw [← e]; exact hI)) (by rw [hvl]; exact h64) fun st' hp hs => ⟨_, rfl, ?_⟩) (args_list_sort _)))
  obtain ⟨ys, g1', g2', g3'⟩ := sorted_out_str hI hp hs
  obtain ⟨c, hc⟩ := sortedHeap_at (vs := ms.map fun e => e.2) (out := (arrOf st').map (·.2)) hoL
  have pn : ys.Perm (es.toList.map keyS) := g2'.trans (pms.map keyS)
  refine wpAny_pure ⟨_, rfl, hQ _ s1.heap.objs.size ((arrOf st').map (·.2)) c ys (fun b u e => ?_) g1 o1 hz hc g1' g3' (pn.nodup_iff.mpr nd) (fun k => by rw [pn.mem_iff, ← hm k]) ?_⟩
  · have q := k1 b u e
    have hlt := Heap.lt_size q
    show (sortedHeap (s1.heap.push (seqObj "list" (ms.map fun e => e.2).toArray 0)) s1.heap.objs.size (ms.map fun e => e.2) ((arrOf st').map (·.2))).get? b = some u
    rw [sortedHeap_old (Nat.ne_of_lt hlt) (by rw [size_push']; exact Nat.lt_succ_of_lt hlt)]
    exact Heap.get?_push_of_some _ q
  · rw [pn.length_eq, List.length_map, Array.length_toList]; exact hn
end
end Ns
namespace Ns
open PySem PySem.Spec PyProof.Rows L2
/-! ### as tracked things: set(xs), sorted(set) -/
def SetSO (P : Program) (w : World) (a : Addr) (S : Str → Bool) (n : Nat) : HO := .ext fun h => SetS P w h a S n
theorem setSO_new {P : Program} {w : World} {H : Hp} {h : Heap} {a : Addr} {S : Str → Bool} {n : Nat} (R : SetS P w h a S n) : ObjOk P w H h a (SetSO P w a S n) := by
  have ⟨o, _, _, _, ho, _⟩ := R
  exact ⟨R, ⟨o, ho⟩, fun h1 h2 p k => SetS.at p k⟩
section
variable {X : Cx}
theorem nodup_few' : ∀ {l D : List Str}, l.Nodup → (∀ x ∈ l, x ∈ D) → l.length ≤ D.length
  | [], _, _, _ => Nat.zero_le _
  | x :: l, D, hn, hs => by
    obtain ⟨h1, h2⟩ := List.nodup_cons.mp hn
    have hx : x ∈ D := hs x List.mem_cons_self
    have ih := nodup_few' (l := l) (D := D.erase x) h2 fun y hy => by
      have hne : y ≠ x := fun e => h1 (e ▸ hy)
      exact (List.mem_erase_of_ne hne).2 (hs y (List.mem_cons_of_mem _ hy))
    have e := List.length_erase_of_mem hx
    have hp : 0 < D.length := List.length_pos_of_mem hx
    rw [List.length_cons]
    omega
def rSetOfS (K : PySem.W.Frag) (P : Program) (w : World) : List V → Hp → VK → Prop := fun xs H Q => ∃ (l : Addr) (zs : List Str), xs = [V.ref l] ∧ SqL K H l (zs.map V.str) ∧ zs.length + 1 < scanBound ∧
  ∀ a c, H a = none → (∀ D : List Str, (∀ z ∈ zs, z ∈ D) → c ≤ D.length) → Q (.ref a) (upd H a (SetSO P w a (fun z => decide (z ∈ zs)) c))
theorem cr_setOfS (hc : X.calm = true) : CallR X (.type "set") (rSetOfS X.K X.prog X.w) := by
  intro pins s σ H xs us Q I r h
  obtain ⟨l, zs, rfl, hl, hb, q⟩ := h
  rw [Vals.ref1 r]
  obtain ⟨its, rv, pl, hz⟩ := I.list hl
  have hn : H s.heap.objs.size = none := I.hok.fresh (Nat.le_refl _)
  refine call_set_listS (P := X.prog) (w := X.w) zs (I.ok.hd hc) pl.isList (by simpa using rv.strs) hb fun h' tk c R hc' k => ?_
  refine ⟨.ref s.heap.objs.size, upd H s.heap.objs.size (SetSO X.prog X.w s.heap.objs.size (fun z => decide (z ∈ zs)) c), I.laid (t' := tk) k (Nat.le_refl _) (setSO_new R), rfl, q _ c hn fun D hD => ?_⟩
  obtain ⟨o, es, ep, t, _, _, _, _, nd, mem, _, _, en, _⟩ := R
  have e : (es.toList.map keyS).length ≤ D.length := nodup_few' nd fun z m => hD z (of_decide_eq_true ((mem z).mpr m))
  rw [List.length_map, Array.length_toList, en] at e
  exact e
def rSortedSetS (P : Program) (w : World) : List V → Hp → VK → Prop := fun vs H Q => ∃ (a : Addr) (S : Str → Bool) (n : Nat), vs = [V.ref a] ∧ H a = some (SetSO P w a S n) ∧ n < 64 ∧
  ∀ (zs : List Str) (p : Addr), sortedS zs = true → zs.Nodup → (∀ k, k ∈ zs ↔ S k = true) → zs.length = n → H p = none → Q (.ref p) (upd H p (.lst (zs.map V.str)))
theorem cr_sortedSetS (hc : X.calm = true) : CallR X (.builtin "sorted") (rSortedSetS X.prog X.w) := by
  intro pins s σ H vs us Q I r h
  obtain ⟨a, S, n, rfl, ha, h64, q⟩ := h
  have R : SetS X.prog X.w s.heap a S n := (I.hok a _ ha).1
  rw [Vals.ref1 r]
  refine sorted_setS R (I.ok.hd hc) h64 fun s' p out c zs k g o hp hg hi hs nd hm hl => ?_
  have hlen : (zs.map V.str).length ≤ sizeLine := by rw [List.length_map, hl, sizeLine_eq]; omega
  have hn : H p = none := I.hok.fresh hp
  have J : Inv X pins σ (upd H p (.lst (zs.map V.str))) { s with heap := s'.heap, gens := s'.gens, drawn := s'.drawn, toks := s'.toks } :=
    I.call (ch := []) (Un.laid k hp hn) (I.hok.laid k hp ⟨hlen, out.toList, c, vals_of_strs hi, hg⟩) (by rw [g]; exact I.bare) (fun _ z => nomatch z)
  have e : s' = { s with heap := s'.heap, gens := s'.gens, drawn := s'.drawn, toks := s'.toks } := by
    cases s'
    cases s
    cases o
    rfl
  rw [e]
  exact ⟨.ref p, _, J, rfl, q zs p hs nd hm hl hn⟩
end
end Ns
namespace Ns
open PySem PySem.Spec PyProof.Rows L2
/-! ### set(xs), xs a list of tuples that are keys -/
/-- what the set has got from the first i items -/
structure GotE (ks : List (El)) (i : Nat) (L : List (El)) : Prop where
  sub : ∀ p ∈ L, p ∈ ks.take i
  all : ∀ p ∈ ks.take i, p.2 ∈ L.map (·.2)
  len : L.length ≤ i
theorem GotE.zero (ks : List (El)) : GotE ks 0 [] := ⟨fun p h => (by cases h), fun p h => (by simp at h), Nat.le_refl _⟩
theorem GotE.same {ks L : List (El)} {i : Nat} {x : El} (g : GotE ks i L) (h : ks[i]? = some x) (hm : x.2 ∈ L.map (·.2)) : GotE ks (i + 1) L := by
  refine ⟨fun p hp => ?_, fun p hp => ?_, Nat.le_succ_of_le g.len⟩
  · rw [take_next h]
    exact List.mem_append_left _ (g.sub p hp)
  · rw [take_next h] at hp
    rcases List.mem_append.mp hp with z | z
    · exact g.all p z
    · rw [List.mem_singleton.mp z]; exact hm
theorem GotE.more {ks L L' : List (El)} {i : Nat} {x : El} (g : GotE ks i L) (h : ks[i]? = some x) (pm : L'.Perm (x :: L)) : GotE ks (i + 1) L' := by
  refine ⟨fun p hp => ?_, fun p hp => ?_, ?_⟩
  · rw [take_next h]
    rcases List.mem_cons.mp (pm.mem_iff.mp hp) with e | z
    · rw [e]; exact List.mem_append_right _ (List.mem_singleton.mpr rfl)
    · exact List.mem_append_left _ (g.sub p z)
  · rw [(pm.map (·.2)).mem_iff, List.map_cons]
    rw [take_next h] at hp
    rcases List.mem_append.mp hp with z | z
    · exact List.mem_cons_of_mem _ (g.all p z)
    · rw [List.mem_singleton.mp z]; exact List.mem_cons_self
  · rw [pm.length_eq, List.length_cons]
    exact Nat.succ_le_succ g.len

section
variable {P : Program} {w : World} {A : Around} {E : Value → Shared → Prop} {s : Shared}
theorem SetN.keep {h h' : Heap} {a : Addr} {L : List El} {o : Obj} {es : Array (Int × Value)} {ep : Nat} {t : SetTable} (S : SetN w h a L o es ep t) (ha : ∀ o, h.get? a = some o → h'.get? a = some o) (ht : ∀ p ∈ L, Tk h' p.2 p.1) : SetN w h' a L o es ep t :=
  ⟨ha o S.at_, S.exact_, S.data, S.lay, S.nd, ht, S.few⟩
theorem setN_fresh {h : Heap} {a : Addr} (ho : h.get? a = some { cls := .type "set", dict := none, data := .set #[] 0 (.fresh 0 0 (!w.params.followText "set-order")) }) : ∃ o es ep t, SetN w h a [] o es ep t := by
  refine ⟨_, #[], 0, _, ho, ⟨rfl, rfl, rfl⟩, rfl, ⟨rfl, ⟨List.Pairwise.nil, rfl, rfl, .inl rfl, fun x m => absurd (show x ∈ ([] : List Nat) from m) (by simp), fun i _ _ z => absurd z (by simp)⟩, ?_, by show 0 * 5 < 7 * 3; decide⟩, .nil, fun p m => (nomatch m), by show 0 < 64; decide⟩
  show _ ∨ (!w.params.followText "set-order") = true
  cases w.params.followText "set-order"
  · exact .inr rfl
  · exact .inl rfl
/-- set.update's loop -/
theorem set_update_els {I : Addr} {fp wr : List Addr} {G : Array GenState → Array GenState → Prop} {n : Nat} {Pv : Nat → Value → Prop} {St : Nat → Shared → Prop} {R : Result → Shared → Prop}
    (W : WalksS P w A.in1 I fp wr G n Pv St) (S : Addr) (hSf : S ∉ fp) (ks : List El) (hn : n = ks.length) (hfew : ks.length < 64) (hval : ∀ i v, Pv i v → ∃ p, ks[i]? = some p ∧ v = .ref p.1)
    (h0 : Heap) (hk : ∀ p ∈ ks, Tk h0 p.2 p.1) (hS0 : h0.get? S = none) (hw0 : ∀ b ∈ wr, h0.get? b = none) (hu : A.in1.units + 8 < cLine) :
    ∀ (k i : Nat) (s : Shared), n - i = k → i ≤ n → St i s → (∀ b o, h0.get? b = some o → s.heap.get? b = some o) → (∃ L o es ep t, SetN w s.heap S L o es ep t ∧ GotE ks i L) →
      (∀ s' L o es ep t, Moved (S :: wr) G s s' → SetN w s'.heap S L o es ep t → GotE ks n L → (∀ b o, h0.get? b = some o → s'.heap.get? b = some o) → R (.ok (.ret .none)) s') →
      codeAny (model P w) A (.builtin "set.update.loop" ⟨[.ref S, .ref I], []⟩) R s := by
  have hSw : S ∉ wr := fun h => hSf (W.sub _ h)
  have hsub : ∀ b ∈ wr, b ∈ S :: wr := fun b hb => List.mem_cons_of_mem _ hb
  have keepM : ∀ {s s' : Shared}, Moved wr G s s' → (∀ b o, h0.get? b = some o → s.heap.get? b = some o) → ∀ b o, h0.get? b = some o → s'.heap.get? b = some o := fun hm hkp b o e =>
    hm.heap b o (fun hb => by rw [hw0 b hb] at e; cases e) (hkp b o e)
  intro k
  induction k with
  | zero =>
    intro i s hk' hi hst hkp ⟨L, ob, es, ep, t, hS, g⟩ hR
    have hin : i = n := by omega
    subst hin
    refine codeAny_builtin F.entry_set_update_loop ?_
    rw [Around.under_plainId F.plain_set_update_loop _]
    show wpAny _ A.in1 (pyNext (.ref I) >>= _) _ _ s
    refine wpAny_bind (W.done s _ _ hst fun s' hm => ?_)
    show wpAny _ A.in1 (ret Value.none) _ _ s'
    have hkp' := keepM hm hkp
    have sub : ∀ p ∈ L, p ∈ ks := fun p hp => List.mem_of_mem_take (g.sub p hp)
    exact wpAny_pure (hR s' L ob es ep t (hm.mono hsub) (hS.keep (fun o e => hm.heap S o hSw e) fun p hp => (hk p (sub p hp)).keep hkp') g hkp')
  | succ k ih =>
    intro i s hk' hi hst hkp ⟨L, ob, es, ep, t, hS, g⟩ hR
    have hlt : i < n := by omega
    refine codeAny_builtin F.entry_set_update_loop ?_
    rw [Around.under_plainId F.plain_set_update_loop _]
    show wpAny _ A.in1 (pyNext (.ref I) >>= _) _ _ s
    refine wpAny_bind (W.item i s _ _ hlt hst fun v s' hP hst' hm => ?_)
    obtain ⟨p, hp, rfl⟩ := hval i v hP
    have hkp' := keepM hm hkp
    have sub : ∀ p ∈ L, p ∈ ks := fun p hp => List.mem_of_mem_take (g.sub p hp)
    have hS' : SetN w s'.heap S L ob es ep t := hS.keep (fun o e => hm.heap S o hSw e) fun q hq => (hk q (sub q hq)).keep hkp'
    have hx : Tk s'.heap p.2 p.1 := (hk p (List.mem_of_getElem? hp)).keep hkp'
    show wpAny _ A.in1 (holding [Value.ref p.1] (setAdd S (.ref p.1)) >>= _) _ _ s'
    refine wpAny_bind (wpAny_holding ?_)
    unfold setAdd
    refine wpAny_holding ?_
    refine wpAny_bind ((nestedKind P w).pyHash (show _ + 8 < cLine from hu) hx ?_)
    refine add_at (s := { s' with toks := s'.toks + p.2.draws }) hS' hx hu (by have := g.len; omega) fun b h' L' ob' es' ep' t' hsb hS2 c1 c2 => ?_
    have g' : GotE ks (i + 1) L' := by
      rcases Classical.em (p.2 ∈ L.map (·.2)) with c | c
      · rw [c1 c]; exact g.same hp c
      · exact g.more hp (c2 c)
    have hkp2 : ∀ b o, h0.get? b = some o → h'.get? b = some o := fun b o e => (hsb.2 b (fun z => by rw [z, hS0] at e; cases e)).trans (hkp' b o e)
    refine wpAny_pure ⟨plainId_quiet F.plain_set_update_loop _, ih (i + 1) _ (by omega) hlt (W.frame _ s' _ _ hst' (Nat.le_add_right _ _) fun b hb o e => ?_) hkp2 ⟨L', ob', es', ep', t', hS2, g'⟩ fun s'' L2 ob2 es2 ep2 t2 hm'' hS'' g'' hkp'' => ?_⟩
    · rw [hsb.2 b (fun h : b = S => hSf (by rw [← h]; exact hb))]; exact e
    · refine hR s'' L2 ob2 es2 ep2 t2 (Moved.trans W.gtrans ((hm.mono hsub).then_heap (Nat.le_add_right _ _) fun b o hb e => ?_) hm'') hS'' g'' hkp''
      rw [hsb.2 b (fun h : b = S => hb (by rw [h]; exact List.mem_cons_self))]; exact e

set_option maxRecDepth 100000 in
set_option maxHeartbeats 3200000 in
/-- set(xs) -/
theorem call_set_els {l : Addr} {items : Array Value} (ks : List El) {Q : Value → Shared → Prop} (hh : A.handled = none) (hl : s.heap.IsList l items) (hit : items.toList = ks.map fun p => Value.ref p.1)
    (hk : ∀ p ∈ ks, Tk s.heap p.2 p.1) (hfew : ks.length < 64) (hu : A.units + 16 < cLine)
    (h : ∀ (h' : Heap) (tk : Nat) L o es ep t, SetN w h' s.heap.objs.size L o es ep t → GotE ks ks.length L → (∀ b o, s.heap.get? b = some o → h'.get? b = some o) → Q (.ref s.heap.objs.size) { s with heap := h', toks := tk }) :
    wpAny (model P w) A (call (.type "set") [.ref l]) Q E s := by
  have hu8 : A.in1.in1.in1.units + 8 < cLine := by
    have e : A.in1.in1.in1.units ≤ A.units + 3 := by first | (simp [Around.in1]; done) | (unfold Around.in1; simp; done) | exact Nat.le_refl _
    omega
  have hisz : items.size = ks.length := by
    have q := congrArg List.length hit
    rw [Array.length_toList, List.length_map] at q
    exact q
  obtain ⟨c, tl, hmro⟩ := F.called_set.mro
  have hmade := F.called_set.made
  have hsub := F.called_set.sub
  refine wpAny_call (codeAny_of_tree ?_)
  show wpAny _ _ (callAny (.type "set") _) _ _ _
  refine wpAny_pure ⟨Code.quiet_builtin _ (by decide +kernel), codeAny_builtin F.entry_type_call ?_⟩
  rw [Around.under_plain (weight_type_call_type "set" [.ref l] []) rfl]
  have h1 := F.called_set.notType
  have h2 := F.called_set.canCreate
  have hct := F.typeCall_set_1 (.ref l)
  repeat (any_goals (first | assumption | wp_step))

  refine codeAny_mono (code_set_led1 (.ref l) (E := E) (Q₁ := fun obj s₁ => obj = .ref s.heap.objs.size ∧ s₁ = { s with heap := s.heap.push { cls := .type "set", dict := none, data := .set #[] 0 (.fresh 0 0 (!w.params.followText "set-order")) } }) ⟨rfl, rfl⟩) fun r s₁ hr => ?_
  cases r with
  | error e => exact hr
  | ok fl =>
    cases fl with
    | ret obj =>
      obtain ⟨rfl, rfl⟩ := hr
      have hS : (s.heap.push { cls := .type "set", dict := none, data := .set #[] 0 (.fresh 0 0 (!w.params.followText "set-order")) }).get? s.heap.objs.size = some { cls := .type "set", dict := none, data := .set #[] 0 (.fresh 0 0 (!w.params.followText "set-order")) } := Heap.get?_push_size _ rfl
      have hT : Shared.TypeIs { s with heap := s.heap.push { cls := .type "set", dict := none, data := .set #[] 0 (.fresh 0 0 (!w.params.followText "set-order")) } } (.ref s.heap.objs.size) "set" := ⟨_, hS, rfl⟩
      have hli := F.called_set.init.lookup
      have hbi := F.called_set.init.bind (.ref s.heap.objs.size)
      repeat (any_goals (first | assumption | wp_step))

      refine codeAny_mono (codeAny_call_builtin (R := wants (fun r s₂ => r = .none ∧ ∃ h' tk L o es ep t, s₂ = { s with heap := h', toks := tk } ∧ SetN w h' s.heap.objs.size L o es ep t ∧ GotE ks ks.length L ∧
          (∀ b o, s.heap.get? b = some o → h'.get? b = some o)) E) F.called_set.init.plain F.entry_set_init (check_set_init_1 hT ?_)) fun r₂ s₂ hr₂ => ?_
      · obtain ⟨ol, hol, hcl, nl, hdl⟩ := hl
        obtain ⟨ocls, odict, odata, oslots⟩ := ol
        simp only at hcl hdl
        subst hcl; subst hdl
        have hol' : (s.heap.push { cls := .type "set", dict := none, data := .set #[] 0 (.fresh 0 0 (!w.params.followText "set-order")) }).get? l = some { cls := .type "list", dict := odict, data := .seq items nl, slots := oslots } := Heap.get?_push_of_some _ hol
        have hsls := F.sub_list_set
        have hslf := F.sub_list_frozenset
        have hne : (Value.type "list" == Value.type "dict") = false := by decide
        have hl1 : (s.heap.push { cls := .type "set", dict := none, data := .set #[] 0 (.fresh 0 0 (!w.params.followText "set-order")) }).IsList l items := ⟨_, hol', rfl, nl, rfl⟩
        unfold Builtin.«set.__init__» noKeywords Builtin.Frozenset.updateFrom
        generalize hPI : pyIter = PI
        wp_walk
        subst hPI

        refine wpAny_pyIter_list hl1 ?_
        refine wpAny_bind (wpAny_runValue ?_)
        have hlS : l < s.heap.objs.size := Heap.lt_size hol
        have hh3 : A.in1.in1.in1.handled = none := by simp [hh]
        have hz1 : (s.heap.push { cls := .type "set", dict := none, data := .set #[] 0 (.fresh 0 0 (!w.params.followText "set-order")) }).objs.size = s.heap.objs.size + 1 := Heap.size_push ..
        have hneI : l ≠ (s.heap.push { cls := .type "set", dict := none, data := .set #[] 0 (.fresh 0 0 (!w.params.followText "set-order")) }).objs.size := by
          rw [Heap.size_push]; exact Nat.ne_of_lt (Nat.lt_succ_of_lt hlS)
        have hSf : s.heap.objs.size ∉ [(s.heap.push { cls := .type "set", dict := none, data := .set #[] 0 (.fresh 0 0 (!w.params.followText "set-order")) }).objs.size, l] := by
          rw [Heap.size_push]; simp only [List.mem_cons, List.mem_singleton, List.not_mem_nil, or_false, not_or]
          exact ⟨Nat.ne_of_lt (Nat.lt_succ_self _), Nat.ne_of_gt hlS⟩
        have hval : ∀ (i : Nat) (v : Value), items[i]? = some v → ∃ p, ks[i]? = some p ∧ v = .ref p.1 := fun i v hv => by
          have q : items.toList[i]? = some v := by rw [Array.getElem?_toList]; exact hv
          rw [hit, List.getElem?_map] at q
          cases hq : ks[i]? with
          | none => rw [hq] at q; cases q
          | some p =>
            rw [hq] at q
            exact ⟨p, rfl, (Option.some.inj q).symm⟩
        have none_of : ∀ b, s.heap.objs.size ≤ b → s.heap.get? b = none := fun b hb => by
          cases q : s.heap.get? b with
          | none => rfl
          | some o => exact absurd (Nat.lt_of_lt_of_le (Heap.lt_size q) hb) (Nat.lt_irrefl _)
        refine set_update_els ((Walks.list hh3 _ l hneI items).toS) s.heap.objs.size
          hSf ks hisz hfew hval s.heap hk (none_of _ (Nat.le_refl _)) (fun b hb => none_of b (by
            rw [List.mem_singleton.mp hb, Heap.size_push]
            exact Nat.le_succ _)) (by first | exact hu8 | (show _ + 8 < cLine; have e := hu8; omega)) (items.size - 0) 0 _ (by omega) (Nat.zero_le _)
          ⟨⟨_, Heap.get?_push_size _ rfl, rfl, rfl⟩, (hl1.push _)⟩ (fun b o e => Heap.get?_push_of_some _ (Heap.get?_push_of_some _ e)) ?hS0 ?hR
        case hS0 =>
          have hget : ((s.heap.push { cls := .type "set", dict := none, data := .set #[] 0 (.fresh 0 0 (!w.params.followText "set-order")) }).push { cls := .type "list_iterator", data := .fields #[.ref l, .int 0 0] }).get? s.heap.objs.size
              = some { cls := .type "set", dict := none, data := .set #[] 0 (.fresh 0 0 (!w.params.followText "set-order")) } := Heap.get?_push_of_some _ hS
          obtain ⟨o0, es0, ep0, t0, z⟩ := setN_fresh (w := w) hget
          exact ⟨[], o0, es0, ep0, t0, z, GotE.zero ks⟩
        case hR =>
          intro s' L ob es ep t hm hS' g' hkp
          obtain ⟨h', g2, d', tk', os'⟩ := s'
          have eg : g2 = s.gens := hm.gens
          have ed : d' = s.drawn := hm.drawn
          have eo : os' = s.os := hm.os
          subst eg; subst ed; subst eo
          show wpAny _ _ _ _ _ _
          refine wpAny_pure ?_
          show wpAny _ _ (ret Value.none) _ _ _
          rw [hisz] at g'
          exact wpAny_pure ⟨rfl, h', tk', L, ob, es, ep, t, rfl, hS', g', hkp⟩

      · cases r₂ with
        | error e => exact hr₂
        | ok fl₂ =>
          cases fl₂ with
          | ret r =>
            obtain ⟨rfl, h', tk, L, ob, es, ep, t, rfl, hS', g', hk'⟩ := hr₂
            repeat (any_goals (first | assumption | wp_step))
            exact h _ _ _ _ _ _ _ hS' g' hk'
          | _ => exact hr₂.elim
    | _ => exact hr.elim


end
end Ns
namespace Ns
open PySem PySem.Spec PyProof.Rows L2 SrtO
/-! ### tuples of texts, sorted -/
/-- the items of a tuple of texts, as the sort sees them -/
def kw (ws : List Str) : List (Int ⊕ List Nat) := ws.map fun z => .inr z.cps.toList
def allS : Nat → Bool := fun _ => true
/-- v is a tuple of these texts -/
def Wv (h : Heap) (v : Value) (ws : List Str) : Prop := ∃ a o n xs, v = .ref a ∧ h.get? a = some o ∧ o.cls = .type "tuple" ∧ o.data = .seq xs n ∧ StrsAre xs.toList ws
theorem items_kw : ∀ {vs : List Value} {ws : List Str} (i : Nat), StrsAre vs ws → tupItems allS i vs = some (kw ws)
  | _, _, _, .nil => rfl
  | _, _, i, .cons x t r => by
    show (if allS i = true then (tupItems allS (i + 1) _).map (Sum.inr x.cps.toList :: ·) else none) = _
    rw [if_pos (show allS i = true from rfl), items_kw (i + 1) r]
    rfl
theorem Wv.key {h : Heap} {v : Value} {ws : List Str} (x : Wv h v ws) : tupKey h allS v = some (kw ws) := by
  obtain ⟨a, o, n, xs, rfl, ho, hc, hd, hs⟩ := x
  simp only [tupKey, ho, hd]
  exact items_kw 0 hs
theorem Wv.keeps {h h' : Heap} {v : Value} {ws : List Str} (x : Wv h v ws) (k : ∀ b o, h.get? b = some o → o.cls = .type "tuple" → h'.get? b = some o) : Wv h' v ws := by
  obtain ⟨a, o, n, xs, rfl, ho, hc, r⟩ := x
  exact ⟨a, o, n, xs, rfl, k a o ho hc, hc, r⟩
def keyV (h : Heap) (v : Value) : List (Int ⊕ List Nat) := (tupKey h allS v).getD []
theorem Wv.keyV {h : Heap} {v : Value} {ws : List Str} (x : Wv h v ws) : keyV h v = kw ws := by
  unfold Ns.keyV
  rw [x.key]
  rfl
def ltW (h : Heap) (v u : Value) : Bool := lexLt itemOrd (keyV h v) (keyV h u)
theorem swo_lexW {α : Type} (f : α → List (Int ⊕ List Nat)) : Swo fun v u => lexLt itemOrd (f v) (f u) := by
  refine ⟨fun x y h => ?_, fun x y z h1 h2 => ?_⟩
  · cases e : lexLt itemOrd (f y) (f x) with
    | false => rfl
    | true =>
      have t := lex_trans _ _ _ h e
      rw [lex_irrefl] at t
      cases t
  · cases e : lexLt itemOrd (f z) (f x) with
    | false => rfl
    | true =>
      rcases lex_negTrans _ (f y) _ e with k | k
      · rw [k] at h2
        cases h2
      · rw [k] at h1
        cases h1
theorem tups_of {h : Heap} : ∀ {vs : List Value}, (∀ v ∈ vs, ∃ ws, Wv h v ws ∧ ws ≠ []) → ∃ fs, TupsOf h allS vs fs ∧ fs.length = vs.length
  | [], _ => ⟨[], .nil, rfl⟩
  | v :: vs, x => by
    obtain ⟨fs, k, hl⟩ := tups_of (vs := vs) fun u m => x u (List.mem_cons_of_mem _ m)
    obtain ⟨ws, ⟨a, o, n, xs, rfl, ho, hc, hd, hs⟩, ne⟩ := x v List.mem_cons_self
    obtain ⟨L, rfl⟩ : ∃ L : List Value, xs = L.toArray := ⟨xs.toList, rfl⟩
    simp only at hs
    cases hs with
    | nil => exact absurd rfl ne
    | cons z t r =>
      exact ⟨.str z t :: fs, .cons ⟨a, o, _, n, rfl, ho, hc, hd, rfl, fun e => (by cases e), fun _ => ⟨z, t, rfl⟩⟩ k, by rw [List.length_cons, List.length_cons, hl]⟩
section
variable {P : Program} {w : World} {A : Around} {E : Value → Shared → Prop} {s : Shared}
theorem sortable_w {a : Addr} {vs : List Value} (h0 : 0 < vs.length) (hv : ∀ v ∈ vs, ∃ ws, Wv s.heap v ws ∧ ws ≠ []) (ha : ∀ o, s.heap.get? a = some o → o.cls ≠ .type "tuple") : SortableO P w A s a vs (ltW s.heap) := by
  intro h' keep
  have kp : ∀ b o, s.heap.get? b = some o → o.cls = .type "tuple" → h'.get? b = some o := fun b o e c => keep b o (fun z => ha o (z ▸ e) c) e
  have hv' : ∀ v ∈ vs, ∃ ws, Wv h' v ws ∧ ws ≠ [] := fun v m => let ⟨ws, x, ne⟩ := hv v m; ⟨ws, x.keeps kp, ne⟩
  obtain ⟨fs, k, hl⟩ := tups_of hv'
  refine ⟨tuples' true, fun Q E hq => tup_kind (s := { s with heap := h' }) (by omega) k hq, ?_⟩
  intro p q hm hm'
  obtain ⟨w1, x1, _⟩ := hv _ hm
  obtain ⟨w2, x2, _⟩ := hv _ hm'
  refine tup_ltAt (shape := allS) (s := { s with heap := h' }) true _ _ p.1 q.1 (kw w1) (kw w2) (x1.keeps kp).key (x2.keeps kp).key ?_
  refine ⟨rfl, ?_⟩
  show lexLt itemOrd (kw w1) (kw w2) = lexLt itemOrd (keyV s.heap p.1) (keyV s.heap q.1)
  rw [x1.keyV, x2.keyV]
/-- l.sort() of a list of tuples of texts -/
theorem sort_w {l : Addr} {vs : List Value} (hoL : s.heap.get? l = some (seqObj "list" vs.toArray 0)) (hz : vs.length ≤ sizeLine) (hv : ∀ v ∈ vs, ∃ ws, Wv s.heap v ws ∧ ws ≠ []) {Q : Value → Shared → Prop}
    (q : ∀ out : List Value, out.Perm vs → out.Pairwise (fun x y => ltW s.heap y x = false) → Q .none { s with heap := sortedHeap s.heap l vs out.toArray }) : wpAny (model P w) A (call (.builtin "list.sort") [.ref l]) Q E s := by
  refine wpAny_call_entry slot_list_sort ⟨_, hoL, rfl⟩ entry_list_sort (list_sort_ord (swo_lexW (keyV s.heap)) hoL hz (fun h2 => sortable_w (by omega) hv fun o e => ?_) fun out hs hb => ⟨_, rfl, q out hb.perm hs⟩) (args_list_sort _)
  have e' : some o = some (seqObj "list" vs.toArray 0) := e.symm.trans hoL
  cases e'
  intro c
  exact absurd (Value.type.inj c) (by decide)
end
/-! ### over the layer -/
theorem same_new {p : Addr} {H : Hp} {o : HO} (n : H p = none) : Same H (L2.upd H p o) := fun b u h => by rw [upd_ne (ne_of_none h n)]; exact h
theorem sqT_same {K : PySem.W.Frag} {H H' : Hp} {a : Addr} {xs : List V} (h : SqT K H a xs) (s : Same H H') : SqT K H' a xs := by
  rcases h with h | h
  · rcases h with h | ⟨od, h⟩
    · exact .inl (.inl (s _ _ h))
    · exact .inl (.inr ⟨od, s _ _ h⟩)
  · exact .inr h
/-- rows of texts in order -/
def sortedW (ls : List (List Str)) : Prop := ls.Pairwise fun x y => lexLt itemOrd (kw y) (kw x) = false
theorem kw_inj : ∀ {a b : List Str}, kw a = kw b → a = b
  | [], [], _ => rfl
  | [], _ :: _, h => by cases h
  | _ :: _, [], h => by cases h
  | x :: a, y :: b, h => by
    have h' : (Sum.inr x.cps.toList : Int ⊕ List Nat) :: kw a = Sum.inr y.cps.toList :: kw b := h
    injection h' with h1 h2
    injection h1 with h1
    have e : x = y := by
      have hc : x.cps = y.cps := Array.toList_inj.mp h1
      cases x
      cases y
      simp only [Str.mk.injEq]
      exact hc
    rw [e, kw_inj h2]
/-- the same rows in order are one -/
theorem sortedW_one {xs ys : List (List Str)} (hx : sortedW xs) (hy : sortedW ys) (p : xs.Perm ys) : xs = ys :=
  List.Perm.eq_of_pairwise (fun a b _ _ h k => kw_inj (lex_total _ _ k h)) hx hy p
/-- an element of words -/
def elW (q : Addr × List Str) : El := (q.1, .tup (q.2.map .text))
theorem text_inj : ∀ {a b : List Str}, a.map NestedKey.text = b.map NestedKey.text → a = b
  | [], [], _ => rfl
  | [], _ :: _, h => by cases h
  | _ :: _, [], h => by cases h
  | x :: a, y :: b, h => by
    have h' : NestedKey.text x :: a.map NestedKey.text = NestedKey.text y :: b.map NestedKey.text := h
    injection h' with h1 h2
    injection h1 with h1
    rw [h1, text_inj h2]
theorem kvs_words {K : PySem.W.Frag} {H : Hp} : ∀ ws : List Str, KVs K H (ws.map .text) (ws.map V.str)
  | [] => .nil
  | z :: ws => .cons (.text z) (kvs_words ws)
theorem depth_words : ∀ ws : List Str, NestedKey.depthAll (ws.map .text) ≤ 0
  | [] => Nat.le_refl _
  | z :: ws => by
    show max (NestedKey.text z).depth (NestedKey.depthAll (ws.map .text)) ≤ 0
    have := depth_words ws
    have e : (NestedKey.text z).depth = 0 := rfl
    omega
theorem elk_words {K : PySem.W.Frag} {H : Hp} {q : Addr × List Str} (h : SqT K H q.1 (q.2.map V.str)) : ElK K H (elW q) := by
  refine ⟨.tup h (kvs_words q.2), ?_⟩
  show NestedKey.depthAll (q.2.map .text) + 1 ≤ 8
  have := depth_words q.2
  omega
theorem words_refs : ∀ (M : List (Addr × List Str)), Vals (M.map fun q => V.ref q.1) (M.map fun q => Value.ref q.1)
  | [] => .nil
  | q :: M => .cons rfl (words_refs M)
theorem refs_words : ∀ {M : List (Addr × List Str)} {us : List Value}, Vals (M.map fun q => V.ref q.1) us → us = M.map fun q => Value.ref q.1
  | [], _, .nil => rfl
  | q :: M, _, .cons r t => by
    cases r
    rw [refs_words t]
    rfl
section
variable {X : Cx} {pins : List (Addr × Obj)} {σ : L2.St} {H : Hp} {s : Shared}
theorem wv_of (I : Inv X pins σ H s) {b : Addr} {ws : List Str} (h : SqT X.K H b (ws.map V.str)) : Wv s.heap (.ref b) ws := by
  obtain ⟨its, r, ⟨o, ho, hc, n, hd⟩, _⟩ := I.tuple h
  exact ⟨b, o, n, its.toArray, rfl, ho, hc, hd, by simpa using r.strs⟩
/-- set(xs), xs a list of tuples of texts -/
def rSetOfW (K : PySem.W.Frag) (w : World) : List V → Hp → VK → Prop := fun xs H Q => ∃ (l : Addr) (M : List (Addr × List Str)), xs = [V.ref l] ∧ SqL K H l (M.map fun q => V.ref q.1) ∧ (∀ q ∈ M, SqT K H q.1 (q.2.map V.str)) ∧ M.length < 64 ∧
  ∀ (a : Addr) (M' : List (Addr × List Str)), H a = none → (∀ q ∈ M', q ∈ M) → (∀ q ∈ M, q.2 ∈ M'.map (·.2)) → (M'.map (·.2)).Nodup → Q (.ref a) (upd H a (SetO w a (M'.map elW)))
theorem els_words : ∀ {L : List El} {M : List (Addr × List Str)}, (∀ p ∈ L, p ∈ M.map elW) → ∃ M' : List (Addr × List Str), L = M'.map elW ∧ ∀ q ∈ M', q ∈ M
  | [], _, _ => ⟨[], rfl, fun _ m => (nomatch m)⟩
  | p :: L, M, h => by
    obtain ⟨M', e, s⟩ := els_words (L := L) fun u m => h u (List.mem_cons_of_mem _ m)
    obtain ⟨q, mq, eq⟩ := List.mem_map.mp (h p List.mem_cons_self)
    refine ⟨q :: M', by rw [List.map_cons, ← e, eq], fun u m => ?_⟩
    rcases List.mem_cons.mp m with rfl | m
    · exact mq
    · exact s u m
theorem elW_two {q r : Addr × List Str} (h : (elW q).2 = (elW r).2) : q.2 = r.2 := by
  have h' : NestedKey.tup (q.2.map .text) = NestedKey.tup (r.2.map .text) := h
  injection h' with h'
  exact text_inj h'
theorem words_nodup {M : List (Addr × List Str)} : ((M.map elW).map (·.2)).Nodup ↔ (M.map (·.2)).Nodup := by
  rw [List.map_map]
  refine ⟨fun h => ?_, fun h => ?_⟩
  · have h' := List.pairwise_map.mp h
    exact List.pairwise_map.mpr (h'.imp fun {q r} ne e => ne (by show NestedKey.tup (q.2.map .text) = NestedKey.tup (r.2.map .text); rw [e]))
  · have h' := List.pairwise_map.mp h
    exact List.pairwise_map.mpr (h'.imp fun {q r} ne e => ne (elW_two e))
theorem cr_setOfW (hc : X.calm = true) (hu : X.A.units + 64 < cLine) : CallR X (.type "set") (rSetOfW X.K X.w) := by
  intro pins s σ H xs us Q I r h
  obtain ⟨l, M, rfl, hl, hk, hf, q⟩ := h
  rw [Vals.ref1 r]
  obtain ⟨its, rv, pl, hz⟩ := I.list hl
  have hn : H s.heap.objs.size = none := I.hok.fresh (Nat.le_refl _)
  have ek : (M.map elW).map (fun p => Value.ref p.1) = M.map fun q => Value.ref q.1 := by
    rw [List.map_map]
    rfl
  refine call_set_els (P := X.prog) (w := X.w) (M.map elW) (I.ok.hd hc) pl.isList (by rw [ek]; simpa using refs_words rv) (fun p hp => ?_) (by rw [List.length_map]; exact hf) (by omega) fun h' tk L o es ep t R g k => ?_
  · obtain ⟨q, mq, rfl⟩ := List.mem_map.mp hp
    exact (elk_words (hk q mq)).tk I
  · obtain ⟨M', rfl, sub⟩ := els_words (L := L) (M := M) fun p m => List.mem_of_mem_take (g.sub p m)
    refine ⟨.ref s.heap.objs.size, upd H s.heap.objs.size (SetO X.w s.heap.objs.size (M'.map elW)), I.laid (t' := tk) k (Nat.le_refl _) (setO_new R.set0), rfl, q _ M' hn sub (fun q mq => ?_) (words_nodup.mp R.nd)⟩
    have m2 := g.all (elW q) (by rw [List.take_length]; exact List.mem_map_of_mem mq)
    obtain ⟨p, mp, e⟩ := List.mem_map.mp m2
    obtain ⟨r, mr, rfl⟩ := List.mem_map.mp mp
    exact List.mem_map.mpr ⟨r, mr, elW_two e⟩
/-- what a sorted row of such tuples is -/
def rSrtW (K : PySem.W.Frag) (H : Hp) (wss : List (List Str)) (Q : VK) : Prop := ∀ (M : List (Addr × List Str)) (p : Addr) (H' : Hp), (M.map (·.2)).Perm wss → sortedW (M.map (·.2)) → (∀ q ∈ M, SqT K H' q.1 (q.2.map V.str)) → H p = none → Same H H' → H' p = some (.lst (M.map fun q => V.ref q.1)) → Q (.ref p) H'
/-- the tail of sorted: the collected values are put into a new list and sorted -/
theorem sorted_tail {s1 : Shared} {M : List (Addr × List Str)} {Q : VK} (I : Inv X pins σ H s) (k1 : ∀ b o, s.heap.get? b = some o → s1.heap.get? b = some o) (hz : s.heap.objs.size ≤ s1.heap.objs.size) (g1 : s1.gens = s.gens) (o1 : s1.os = s.os)
    (hM : ∀ q ∈ M, SqT X.K H q.1 (q.2.map V.str) ∧ q.2 ≠ []) (few : M.length ≤ 1000) (q : rSrtW X.K H (M.map (·.2)) Q) {A : Around} {E : Value → Shared → Prop} :
    wpAny (model X.prog X.w) A (call (.builtin "list.sort") [.ref s1.heap.objs.size]) (fun _ s' => EP X pins σ Q (.ref s1.heap.objs.size) s') E { s1 with heap := s1.heap.push (seqObj "list" (M.map fun q => Value.ref q.1).toArray 0) } := by
  have hoL : (s1.heap.push (seqObj "list" (M.map fun q => Value.ref q.1).toArray 0)).get? s1.heap.objs.size = some (seqObj "list" (M.map fun q => Value.ref q.1).toArray 0) := Heap.get?_push_size _ rfl
  have wv : ∀ q ∈ M, Wv (s1.heap.push (seqObj "list" (M.map fun q => Value.ref q.1).toArray 0)) (.ref q.1) q.2 := fun q m => (wv_of I (hM q m).1).keeps fun b o e _ => Heap.get?_push_of_some _ (k1 b o e)
  refine sort_w (s := { s1 with heap := s1.heap.push (seqObj "list" (M.map fun q => Value.ref q.1).toArray 0) }) hoL (by rw [List.length_map, sizeLine_eq]; omega) (fun v m => ?_) fun out pm pw => ?_
  · obtain ⟨q, mq, rfl⟩ := List.mem_map.mp m
    exact ⟨q.2, wv q mq, (hM q mq).2⟩
  obtain ⟨c, hc⟩ := sortedHeap_at (vs := M.map fun q => Value.ref q.1) (out := out.toArray) hoL
  obtain ⟨M2, p2, rfl⟩ := perm_map' pm
  have hn : H s1.heap.objs.size = none := I.hok.fresh hz
  have hlen : (M2.map fun q => V.ref q.1).length ≤ sizeLine := by
    rw [List.length_map, p2.length_eq, sizeLine_eq]
    omega
  have k : ∀ b o, s.heap.get? b = some o → (sortedHeap (s1.heap.push (seqObj "list" (M.map fun q => Value.ref q.1).toArray 0)) s1.heap.objs.size (M.map fun q => Value.ref q.1) (M2.map fun q => Value.ref q.1).toArray).get? b = some o := fun b o e => by
    have e1 := k1 b o e
    have hlt := Heap.lt_size e1
    rw [sortedHeap_old (Nat.ne_of_lt hlt) (by rw [size_push']; exact Nat.lt_succ_of_lt hlt)]
    exact Heap.get?_push_of_some _ e1
  have J : Inv X pins σ (upd H s1.heap.objs.size (.lst (M2.map fun q => V.ref q.1))) { s with heap := sortedHeap (s1.heap.push (seqObj "list" (M.map fun q => Value.ref q.1).toArray 0)) s1.heap.objs.size (M.map fun q => Value.ref q.1) (M2.map fun q => Value.ref q.1).toArray, gens := s1.gens, drawn := s1.drawn, toks := s1.toks } :=
    I.call (ch := []) (Un.laid k hz hn) (I.hok.laid k hz ⟨hlen, M2.map fun q => Value.ref q.1, c, words_refs M2, hc⟩) (by rw [g1]; exact I.bare) (fun _ z => nomatch z)
  have es : ({ s1 with heap := sortedHeap (s1.heap.push (seqObj "list" (M.map fun q => Value.ref q.1).toArray 0)) s1.heap.objs.size (M.map fun q => Value.ref q.1) (M2.map fun q => Value.ref q.1).toArray } : Shared) = { s with heap := sortedHeap (s1.heap.push (seqObj "list" (M.map fun q => Value.ref q.1).toArray 0)) s1.heap.objs.size (M.map fun q => Value.ref q.1) (M2.map fun q => Value.ref q.1).toArray, gens := s1.gens, drawn := s1.drawn, toks := s1.toks } := by
    cases s1
    cases s
    cases o1
    rfl
  rw [es]
  refine ⟨.ref s1.heap.objs.size, _, J, rfl, q M2 _ _ (p2.map _) ?_ (fun q m => sqT_same (hM q (p2.mem_iff.mp m)).1 (same_new hn)) hn (same_new hn) upd_same⟩
  refine List.pairwise_map.mpr (List.Pairwise.imp_of_mem (fun {x y} mx my h => ?_) (List.pairwise_map.mp pw))
  have h' : lexLt itemOrd (keyV _ (Value.ref y.1)) (keyV _ (Value.ref x.1)) = false := h
  rw [(wv x (p2.mem_iff.mp mx)).keyV, (wv y (p2.mem_iff.mp my)).keyV] at h'
  exact h'
end
end Ns
namespace Ns
open PySem PySem.Spec PyProof.Rows L2 SrtO
section
variable {X : Cx} {pins : List (Addr × Obj)} {σ : L2.St} {H : Hp} {s : Shared}
/-- sorted(set) of tuples of texts -/
def rSortedSetW (K : PySem.W.Frag) (w : World) : List V → Hp → VK → Prop := fun vs H Q => ∃ (a : Addr) (M : List (Addr × List Str)), vs = [V.ref a] ∧ H a = some (SetO w a (M.map elW)) ∧ (∀ q ∈ M, SqT K H q.1 (q.2.map V.str) ∧ q.2 ≠ []) ∧ rSrtW K H (M.map (·.2)) Q
theorem cr_sortedSetW (hc : X.calm = true) : CallR X (.builtin "sorted") (rSortedSetW X.K X.w) := by
  intro pins s σ H vs us Q I r h
  obtain ⟨a, M, rfl, ha, hM, q⟩ := h
  have S0 : Set0 X.w s.heap a (M.map elW) := (I.hok a _ ha).1
  obtain ⟨o, es, ep, t, S⟩ := S0.full fun p m => by
    obtain ⟨q, mq, rfl⟩ := List.mem_map.mp m
    exact (elk_words (hM q mq).1).tk I
  rw [Vals.ref1 r]
  have ly := S.lay
  have few := S.few
  rw [List.length_map] at few
  have len : es.size = M.length := by rw [ly.len, List.length_map]
  refine Calls.call_function_entry kind_sorted plain_sorted entry_sorted (args_sorted1 _) ?_
  unfold Builtin.«sorted»
  refine wpAny_bind (m := checkCount "sorted" 1 1 _) (wpAny_pure ?_)
  refine wpAny_bind (collect_set (A := X.A.in1) (I.ok.hd hc) ⟨o, S.at_, S.exact_.1, S.data⟩ ly.fits (by unfold scanBound; omega) ly.tab.ris ly.led fun s1 vs k1 hz g1 o1 pm => ?_)
  have hes : es.toList.map (·.2) = M.map fun q => Value.ref q.1 := by
    rw [ly.rows, List.map_map, List.map_map]
    rfl
  rw [hes] at pm
  obtain ⟨M1, p1, rfl⟩ := perm_map' pm
  refine wpAny_bind (wpAny_newList ?_ (by rw [List.length_map, p1.length_eq, sizeLine_eq]; omega))
  refine wpAny_bind (wpAny_holding (wpAny_mono (sorted_tail (M := M1) (Q := Q) I k1 hz g1 o1 (fun q m => hM q (p1.mem_iff.mp m)) (by rw [p1.length_eq]; omega) fun M' p H' pw srt hk hn sm e => q M' p H' (pw.trans (p1.map _)) srt hk hn sm e) (fun v s' hq => ?_) fun _ _ e => e))
  exact wpAny_pure ⟨_, rfl, hq⟩
/-- the words of a dict's keys that are tuples of texts, with the addresses of the keys -/
theorem kt_words {H : Hp} : ∀ {kvs : List (List L2.Key × V)} {xs : List (List L2.Key × Addr × Value)} {wss : List (List Str)}, KT H kvs xs → kvs.map (·.1) = wss.map (fun ws => ws.map Sum.inr) →
    ∃ M : List (Addr × List Str), M.map (·.2) = wss ∧ xs.map (fun x => Value.ref x.2.1) = M.map (fun q => Value.ref q.1) ∧ ∀ q ∈ M, H q.1 = some (.tup (q.2.map V.str))
  | _, _, [], .nil, _ => ⟨[], rfl, rfl, fun _ m => (nomatch m)⟩
  | _, _, _ :: _, .nil, h => by cases h
  | _, _, [], .cons _ _, h => by cases h
  | _, _, ws :: wss, .cons (a := p) (b := x) f r, h => by
    have h' : p.1 :: _ = ws.map Sum.inr :: wss.map (fun ws => ws.map Sum.inr) := h
    injection h' with h1 h2
    obtain ⟨M, e1, e2, e3⟩ := kt_words r h2
    refine ⟨(x.2.1, ws) :: M, by rw [List.map_cons, e1], by rw [List.map_cons, List.map_cons, e2], fun q m => ?_⟩
    rcases List.mem_cons.mp m with rfl | m
    · have e := f.2.1
      rw [h1, List.map_map] at e
      exact e
    · exact e3 q m
theorem kdl_raw {P : Program} {w : World} {d : Addr} {es : Array DictEntry} {ep : Nat} (lo : (d == sysModules) = false) : PySem.W.KdlSrc P w "dict" d d es.size (fun i v => ∃ hi : i < es.size, v = es[i].key) (fun h => h.DictRaw d es ep) where
  type := fun _ hm => hm.typeIs
  there := fun h hm => by
    obtain ⟨o, ho, _⟩ := hm
    exact ⟨Heap.lt_size ho, Heap.lt_size ho⟩
  keep := fun _ _ hm hk => hm.at fun o e => hk d (.inl rfl) o e
  notList := by decide
  notTuple := by decide
  hint := fun _ _ _ _ hm hq => PySem.W.kdl_hint_dict hm.typeIs hq
  iter := fun _ s hh hm => by
    obtain ⟨o, ho, _⟩ := id hm
    exact ⟨_, _, (fun _ _ hq => wpAny_pyIter_dict_raw lo hm hq), Walks.rawKeys hh _ d (Nat.ne_of_lt (Heap.lt_size ho)) es ep, ⟨⟨_, Heap.get?_push_size _ rfl, rfl, rfl⟩, hm.at fun o e => Heap.get?_push_of_some _ e⟩⟩
/-- sorted(d), d a dict whose keys are tuples of texts -/
def rSortedDW (K : PySem.W.Frag) : List V → Hp → VK → Prop := fun vs H Q => ∃ (a : Addr) (kvs : List (List L2.Key × V)) (wss : List (List Str)), vs = [V.ref a] ∧ H a = some (.dT kvs) ∧ kvs.map (·.1) = wss.map (fun ws => ws.map Sum.inr) ∧ wss.length ≤ 1000 ∧ (∀ ws ∈ wss, ws ≠ []) ∧ rSrtW K H wss Q
theorem cr_sortedDW (hc : X.calm = true) : CallR X (.builtin "sorted") (rSortedDW X.K) := by
  intro pins s σ H vs us Q I r h
  obtain ⟨a, kvs, wss, rfl, ha, hk, few, ne, q⟩ := h
  obtain ⟨z, lo, xs, rel, dd⟩ := dt_of I.hok ha
  obtain ⟨M, e1, e2, e3⟩ := kt_words rel hk
  obtain ⟨es, ep, raw, sz, ent⟩ := dd.raw
  rw [Vals.ref1 r]
  have lM : M.length = wss.length := by rw [← e1, List.length_map]
  have lx : xs.length = M.length := by
    have e := congrArg List.length e2
    rw [List.length_map, List.length_map] at e
    exact e
  refine Calls.call_function_entry kind_sorted plain_sorted entry_sorted (args_sorted1 _) ?_
  unfold Builtin.«sorted»
  refine wpAny_bind (m := checkCount "sorted" 1 1 _) (wpAny_pure ?_)
  refine wpAny_bind (PySem.W.kdu_collect (A := X.A.in1) (kdl_raw (P := X.prog) (w := X.w) (es := es) (ep := ep) lo) (I.ok.hd hc) raw (by rw [sizeLine_eq]; omega) fun h' tk acc hk hacc => ?_)
  have eacc : acc.toList = M.map fun q => Value.ref q.1 := by
    rw [← e2]
    refine List.ext_getElem? fun i => ?_
    rw [Array.getElem?_toList, List.getElem?_map]
    by_cases hi : i < es.size
    · obtain ⟨y, y1, y2, _⟩ := ent i hi
      rw [y1]
      have ha : i < acc.size := by rw [hacc.1]; exact hi
      obtain ⟨_, ev⟩ := hacc.2 i _ (Array.getElem?_eq_getElem ha)
      rw [Array.getElem?_eq_getElem ha, ev, y2]
      rfl
    · rw [Array.getElem?_eq_none (by rw [hacc.1]; omega), List.getElem?_eq_none (by omega)]
      rfl
  rw [eacc]
  refine wpAny_bind (wpAny_newList ?_ (by rw [List.length_map, sizeLine_eq]; omega))
  refine wpAny_bind (wpAny_holding (wpAny_mono (sorted_tail (s1 := { s with heap := h', toks := tk }) (M := M) (Q := Q) (I.kept hk) (fun _ _ e => e) (Nat.le_refl _) rfl rfl (fun q m => ⟨.inl (.inl (e3 q m)), ne _ (by rw [← e1]; exact List.mem_map_of_mem m)⟩) (by omega) fun M' p H' pw srt hk hn sm e => q M' p H' (by rw [← e1]; exact pw) srt hk hn sm e) (fun v s' hq => ?_) fun _ _ e => e))
  exact wpAny_pure ⟨_, rfl, hq⟩
/-- len(set) -/
theorem cr_lenSet : CallR X (.builtin "len") (fun xs H Q => ∃ (a : Addr) (L : List El), xs = [V.ref a] ∧ H a = some (SetO X.w a L) ∧ Q (.int L.length) H) := by
  intro pins s σ H vs us Q I r h
  obtain ⟨a, L, rfl, ha, q⟩ := h
  obtain ⟨o, es, ep, t, ho, hex, hd, ly, nd, few⟩ := (show Set0 X.w s.heap a L from (I.hok a _ ha).1)
  rw [Vals.ref1 r]
  refine call_len_set ho hex hd ly.fits (by rw [ly.len]; omega) ⟨.int L.length, H, I.tok _, ⟨_, by rw [ly.len]⟩, q⟩
end
end Ns
/-! ### the dice: the law's own drawn numbers -/
namespace Pr
open PySem PySem.Spec PyProof.Rows L2
/-- all that was tracked, but the object at d, is as it was -/
def Kp (d : Addr) (H H' : Hp) : Prop := ∀ b o, b ≠ d → H b = some o → H' b = some o
theorem Kp.refl (d : Addr) (H : Hp) : Kp d H H := fun _ _ _ h => h
theorem Kp.trans {d : Addr} {H H1 H2 : Hp} (a : Kp d H H1) (b : Kp d H1 H2) : Kp d H H2 := fun c o n h => b c o n (a c o n h)
theorem Kp.upd {d : Addr} {H : Hp} {o : HO} : Kp d H (upd H d o) := fun b u n h => by rw [upd_ne n]; exact h
theorem Kp.new {d p : Addr} {H : Hp} {o : HO} (n : H p = none) : Kp d H (L2.upd H p o) := fun b u _ h => by rw [upd_ne (ne_of_none h n)]; exact h
theorem Kp.same {d : Addr} {H H' : Hp} (s : Same H H') : Kp d H H' := fun b o _ h => s b o h
theorem Same.new {p : Addr} {H : Hp} {o : HO} (n : H p = none) : Same H (L2.upd H p o) := fun b u h => by rw [upd_ne (ne_of_none h n)]; exact h
/-- d is new and then written -/
theorem Kp.over {d : Addr} {H H1 H2 : Hp} (n : H d = none) (s : Same H H1) (k : Kp d H1 H2) : Same H H2 := fun b o h => k b o (ne_of_none h n) (s b o h)
theorem Kp.seq {K : PySem.W.Frag} {d a : Addr} {H H' : Hp} {xs : List V} (k : Kp d H H') (n : a ≠ d) (h : SqL K H a xs) : SqL K H' a xs := by
  rcases h with (h | ⟨o, h⟩) | h
  · exact .inl (.inl (k _ _ n h))
  · exact .inl (.inr ⟨o, k _ _ n h⟩)
  · exact .inr h
/-- the dice that stand at d: what is left of the cell's number, the seed, the number of draws (at most n) -/
structure Dice (H : Hp) (d : Addr) (n : Nat) : Prop where
  at_ : ∃ x y c : Int, H d = some (.lst [.int x, .int y, .int c]) ∧ 0 ≤ x ∧ x < 2 ^ 400 ∧ 0 ≤ y ∧ y < 2 ^ 40 ∧ 0 ≤ c ∧ c ≤ n
  few : n ≤ 1000000
theorem Dice.kept {H H' : Hp} {d : Addr} {n : Nat} (D : Dice H d n) (s : ∀ o, H d = some o → H' d = some o) : Dice H' d n := by
  obtain ⟨⟨x, y, c, e, r⟩, f⟩ := D
  exact ⟨⟨x, y, c, s _ e, r⟩, f⟩
theorem Dice.same {H H' : Hp} {d : Addr} {n : Nat} (D : Dice H d n) (s : Same H H') : Dice H' d n := D.kept fun o e => s _ o e
theorem Dice.more {H : Hp} {d : Addr} {n m : Nat} (D : Dice H d n) (h : n ≤ m) (hm : m ≤ 1000000) : Dice H d m := by
  obtain ⟨⟨x, y, c, e, r1, r2, r3, r4, r5, r6⟩, f⟩ := D
  exact ⟨⟨x, y, c, e, r1, r2, r3, r4, r5, by omega⟩, hm⟩
theorem Dice.there {H : Hp} {d : Addr} {n : Nat} (D : Dice H d n) : ∃ xs, H d = some (.lst xs) := by
  obtain ⟨⟨x, y, c, e, _⟩, _⟩ := D
  exact ⟨_, e⟩
def spDice (K : PySem.W.Frag) : Sp := fun vs H Q _ => ∃ (a : Addr) (ns : List Int) (i : Nat), vs = [.ref a, .int i] ∧ SqL K H a (ns.map V.int) ∧ i < 64 ∧
  ∀ (d : Addr) (H' : Hp), H d = none → Same H H' → Dice H' d 0 → Q (.ref d) H'
def spRoll : Sp := fun vs H Q _ => ∃ (d : Addr) (t : Int) (n : Nat), vs = [.ref d, .int t] ∧ Dice H d n ∧ n < 1000000 ∧ 0 < t ∧ t < 2 ^ 400 ∧
  ∀ (r : Int) (o : HO), 0 ≤ r → r < t → Dice (upd H d o) d (n + 1) → Q (.int r) (upd H d o)
def spPick (K : PySem.W.Frag) : Sp := fun vs H Q _ => ∃ (d p : Addr) (n : Nat) (xs : List V), vs = [.ref d, .ref p] ∧ p ≠ d ∧ (SqL K H p xs ∨ SqT K H p xs) ∧ xs ≠ [] ∧ xs.length ≤ 1000 ∧ Dice H d n ∧ n < 1000000 ∧
  ∀ (v : V) (o : HO), v ∈ xs → Dice (upd H d o) d (n + 1) → Q v (upd H d o)
def spMixed (K : PySem.W.Frag) : Sp := fun vs H Q _ => ∃ (d p : Addr) (n : Nat) (xs : List V), vs = [.ref d, .ref p] ∧ p ≠ d ∧ SqL K H p xs ∧ xs.length ≤ 1000 ∧ Dice H d n ∧ n + xs.length < 1000000 ∧
  ∀ (q : Addr) (ys : List V) (H' : Hp), q ≠ d → H q = none → Kp d H H' → H' q = some (.lst ys) → ys.Perm xs → Dice H' d (n + xs.length) → Q (.ref q) H'
theorem fmod_pos {i j : Int} (h : 0 < j) : 0 ≤ i.fmod j ∧ i.fmod j < j := ⟨Int.fmod_nonneg_of_pos _ h, Int.fmod_lt_of_pos _ h⟩
theorem emod_pos {i j : Int} (h : 0 < j) : 0 ≤ i % j ∧ i % j < j := ⟨Int.emod_nonneg _ (by omega), Int.emod_lt_of_pos _ h⟩
theorem c10 {k : Nat} (h : k ≤ 1000000) : CPow 10 (k : Int) := ⟨by omega, by omega, by decide⟩
end Pr
namespace Pr
open PySem PySem.Spec PyProof.Rows L2
/-! ### the text by places -/
def topS (i : Nat) : Stmt := PySem.Challenge.pw_munchbehind_k12_whole_near_books.main.body.getD i (.Pass ⟨0, 0, 0, 0⟩)
abbrev sEnds : Stmt := topS 2
abbrev sParts : Stmt := topS 3
abbrev sInteger : Stmt := topS 12
abbrev sCount : Stmt := topS 13
abbrev sName : Stmt := topS 14
abbrev sNames : Stmt := topS 15
abbrev sAre : Stmt := topS 19
abbrev sWhole : Stmt := topS 20
abbrev sRule : Stmt := topS 27
abbrev sNonts : Stmt := topS 28
abbrev sIsBook : Stmt := topS 29
abbrev sDice : Stmt := topS 32
abbrev sRoll : Stmt := topS 33
abbrev sPick : Stmt := topS 34
abbrev sMixed : Stmt := topS 35
abbrev sLNonts : Stmt := topS 36
abbrev sDPat : Stmt := topS 37
abbrev sDBook : Stmt := topS 38
abbrev sLPatternEnd : Stmt := topS 39
abbrev sLIsWord : Stmt := topS 40
abbrev sLIsFigure : Stmt := topS 41
abbrev sLIsRule : Stmt := topS 42
abbrev sLIsPlain : Stmt := topS 43
abbrev sLMet : Stmt := topS 44
abbrev sLNearRule : Stmt := topS 45
abbrev sLNearRules : Stmt := topS 46
abbrev sLRight : Stmt := topS 47
abbrev sLaw : Stmt := topS 48
def inS (i : Nat) : Stmt := match topS 21 with
  | .ClassDef _ _ _ body _ _ _ _ _ _ _ => body.getD i (.Pass ⟨0, 0, 0, 0⟩)
  | _ => .Pass ⟨0, 0, 0, 0⟩
abbrev mInit : Stmt := inS 0
abbrev mFromLines : Stmt := inS 1
abbrev mArities : Stmt := inS 2
abbrev mNames : Stmt := inS 3
abbrev mConstants : Stmt := inS 4
abbrev mLines : Stmt := inS 5
abbrev mIsTree : Stmt := inS 6
abbrev mIsContext : Stmt := inS 7
abbrev mEnd : Stmt := inS 8
abbrev mSubtree : Stmt := inS 9
abbrev mChildren : Stmt := inS 10
abbrev mAbove : Stmt := inS 11
abbrev mLevels : Stmt := inS 12
abbrev mReplaced : Stmt := inS 13
abbrev mCut : Stmt := inS 14
abbrev mFilled : Stmt := inS 15
abbrev mCountTrees : Stmt := inS 16
abbrev mEachTree : Stmt := inS 17
abbrev mTreeAt : Stmt := inS 18
abbrev mNumberOf : Stmt := inS 19
abbrev mLen : Stmt := inS 20
abbrev mContains : Stmt := inS 21
abbrev mIter : Stmt := inS 22
abbrev mEq : Stmt := inS 23
abbrev mStr : Stmt := inS 24
abbrev m_CheckTree : Stmt := inS 25
abbrev m_CheckPlace : Stmt := inS 26
abbrev m_CheckFilling : Stmt := inS 27
abbrev m_End : Stmt := inS 28
abbrev m_Parents : Stmt := inS 29
abbrev m_Count : Stmt := inS 30
abbrev m_Forests : Stmt := inS 31
abbrev m_CountedRows : Stmt := inS 32
def inB (i : Nat) : Stmt := match topS 30 with
  | .ClassDef _ _ _ body _ _ _ _ _ _ _ => body.getD i (.Pass ⟨0, 0, 0, 0⟩)
  | _ => .Pass ⟨0, 0, 0, 0⟩
abbrev bInit : Stmt := inB 0
abbrev bFromLines : Stmt := inB 1
abbrev bOps : Stmt := inB 2
abbrev bGoal : Stmt := inB 3
abbrev bRules : Stmt := inB 4
abbrev bNonts : Stmt := inB 5
abbrev bParts : Stmt := inB 6
abbrev bLines : Stmt := inB 7
abbrev bNumberedSides : Stmt := inB 8
abbrev bKeptAnswers : Stmt := inB 9
abbrev bRulesOf : Stmt := inB 10
abbrev bWithRule : Stmt := inB 11
abbrev bWithoutRule : Stmt := inB 12
abbrev bMoved : Stmt := inB 13
abbrev bWithPrice : Stmt := inB 14
abbrev bScaled : Stmt := inB 15
abbrev bOrdered : Stmt := inB 16
abbrev bLargestFirst : Stmt := inB 17
abbrev bRenamed : Stmt := inB 18
abbrev bLen : Stmt := inB 19
abbrev bIter : Stmt := inB 20
abbrev bEq : Stmt := inB 21
abbrev bStr : Stmt := inB 22
abbrev b_WithRules : Stmt := inB 23
abbrev b_CheckIndex : Stmt := inB 24
abbrev b_CheckNames : Stmt := inB 25
/-- the built-in names that the module leaves alone -/
structure Free (mg : Str → Option Value) : Prop where
  len : mg "len" = none
  int : mg "int" = none
  abs : mg "abs" = none
  max : mg "max" = none
  min : mg "min" = none
  list : mg "list" = none
  range : mg "range" = none
  isi : mg "isinstance" = none
  bool : mg "bool" = none
  tuple : mg "tuple" = none
  str : mg "str" = none
  dict : mg "dict" = none
  sorted : mg "sorted" = none
  all : mg "all" = none
  sum : mg "sum" = none
  repr : mg "repr" = none
  enum : mg "enumerate" = none
  iter : mg "iter" = none
  set : mg "set" = none
end Pr
namespace Pr
open PySem PySem.Spec PyProof.Rows L2
theorem dice_end (l g : Int) (b : Int) {i : Nat} (hi : i < 64) (hb : 0 ≤ b ∧ b ≤ 1) :
    0 ≤ l.fmod (10 ^ (60 : Int).toNat * 10 ^ (60 : Int).toNat) ∧ l.fmod (10 ^ (60 : Int).toNat * 10 ^ (60 : Int).toNat) < 2 ^ 400 ∧
    0 ≤ g % 2147483563 * 41 + 613 * (i : Int) + 17 * b + 7 ∧ g % 2147483563 * 41 + 613 * (i : Int) + 17 * b + 7 < 2 ^ 40 ∧ (0 : Int) ≤ 0 ∧ (0 : Int) ≤ (0 : Nat) := by
  have h1 := fmod_pos (i := l) (j := 10 ^ (60 : Int).toNat * 10 ^ (60 : Int).toNat) (by decide +kernel)
  have h2 : (10 ^ (60 : Int).toNat * 10 ^ (60 : Int).toNat : Int) < 2 ^ 400 := by decide +kernel
  have h3 := emod_pos (i := g) (j := 2147483563) (by decide)
  refine ⟨h1.1, Int.lt_trans h1.2 h2, by omega, by omega, by omega, by omega⟩
section
variable {P : Program} {w : World} {K : PySem.W.Frag} {mg : Str → Option Value} {base : Heap}
theorem scDice : FnScope ["script", "spot", "cell", "great", "left"] ["script", "spot"] (defScope sDice) := ⟨rfl, rfl, rfl, by decide +kernel, rfl, by decide +kernel, by decide +kernel⟩
theorem ok_dice {f : Addr} {fd : FuncData} (F : Fun K "_law_dice" "_law_dice" sDice f fd) (T : Free mg) : FnOk P w K mg base CX0 1 f fd ["script", "spot"] (spDice K) := by
  refine F.ok scDice (fun vs H Q E h => ?_) (fun cdv A outer s H vs Q E hr h => ?_)
  · obtain ⟨a, ns, i, rfl, _⟩ := h
    rfl
  · obtain ⟨a, ns, i, rfl, hS, hi, k⟩ := h
    refine ⟨_, pss_cons (ps_set (i := 2) scDice.nd rfl (.inl rfl) (pe_ifExp (pt_cmpR op_lt (pv 1) (pe_callB call_len_seq (by rfl) T.len PySem.boot_len (pa_cons (pv 0) pa_nil)) (nomark _))
        (pe_callTy call_int1 (by rfl) T.int (by decide +kernel) (pa_cons (pe_ix ix_list (pv 0) (pv 1) (fun _ _ => rfl)) pa_nil)) (pe_op op_add (pe_op op_mul pe_int (pv 1)) pe_int)))
      (pss_cons (ps_set (i := 3) scDice.nd rfl (.inl rfl) (pe_op op_modN (pe_callB call_abs (by rfl) T.abs (by decide +kernel) (pa_cons (pv 2) pa_nil)) (pe_op op_pow pe_int pe_int)))
      (pss_cons (ps_set (i := 4) scDice.nd rfl (.inl rfl) (pe_callB (call_max2 rfl) (by rfl) T.max (by decide +kernel) (pa_cons pe_int (pa_cons (pe_op op_sub (pe_callB call_abs (by rfl) T.abs (by decide +kernel) (pa_cons (pv 2) pa_nil)) (pe_op op_pow pe_int pe_int)) pa_nil))))
      (pss_one (ps_ret (pe_lst (pa_cons (pe_op op_modN (pv 4) (pe_op op_mulW (pe_op op_pow pe_int pe_int) (pe_op op_pow pe_int pe_int)))
        (pa_cons (pe_op op_add (pe_op op_add (pe_op op_add (pe_op op_mul (pe_op op_mod (pv 3) pe_int) pe_int) (pe_op op_mul pe_int (pv 1)))
          (pe_op op_mul pe_int (pe_callTy call_int1 (by rfl) T.int (by decide +kernel) (pa_cons (pe_cmpR op_lt (pv 2) pe_int (nomark _)) pa_nil)))) pe_int) (pa_cons pe_int pa_nil)))))))), ?_⟩
    refine ⟨_, rfl, _, rfl, a, _, rfl, .inl hS, _, _, rfl, rfl, _, rfl, ?_⟩
    refine ite2 (fun c => ?_) (fun c => ?_)
    · have hlt : i < ns.length := by
        have c' := of_decide_eq_true c
        rw [List.length_map] at c'
        omega
      have g : (ns.map V.int)[i]? = some (.int ns[i]) := by
        rw [List.getElem?_map, List.getElem?_eq_getElem hlt]
        rfl
      refine ⟨_, rfl, _, rfl, a, _, _, _, rfl, rfl, hS, atI_nat g, .inl ⟨_, rfl, ?_⟩⟩
      refine ⟨_, rfl, _, rfl, 10, 59, rfl, rfl, c10 (k := 59) (by decide), _, _, rfl, rfl, (by dsimp only; decide +kernel), ?_⟩
      refine ⟨_, rfl, _, rfl, 10, 17, rfl, rfl, c10 (k := 17) (by decide), _, _, rfl, rfl, _, _, rfl, ?_⟩
      refine ⟨_, rfl, 10, 60, rfl, rfl, c10 (k := 60) (by decide), 10, 60, rfl, rfl, c10 (k := 60) (by decide), _, _, rfl, rfl, wide_mul (a := 400) (b := 400) (by decide +kernel) (by decide +kernel) (by decide) (by decide) (by decide), _, _, rfl, rfl, (by dsimp only; decide +kernel), ?_⟩
      refine ⟨_, rfl, _, _, rfl, rfl, (by dsimp only; decide), _, _, rfl, rfl, .inr ⟨by decide, by decide⟩, _, rfl, _, _, rfl, rfl, .inl ⟨by decide, by decide⟩, _, _, rfl, rfl, _, rfl, _, _, rfl, rfl, .inr ⟨_, rfl, ?_⟩⟩
      refine ⟨_, _, rfl, rfl, .inl ⟨by decide, by decide⟩, _, _, rfl, rfl, _, _, rfl, rfl, (by show 3 ≤ sizeLine; decide), fun d hd => ?_⟩
      refine k d _ hd (Same.new hd) ⟨⟨_, _, 0, upd_same, ?_⟩, by decide⟩
      refine dice_end _ _ _ hi ?_
      split <;> omega
    · refine ⟨_, rfl, _, _, rfl, rfl, .inl ⟨by decide, by decide⟩, _, _, rfl, rfl, ?_⟩
      refine ⟨_, rfl, _, rfl, 10, 59, rfl, rfl, c10 (k := 59) (by decide), _, _, rfl, rfl, (by dsimp only; decide +kernel), ?_⟩
      refine ⟨_, rfl, _, rfl, 10, 17, rfl, rfl, c10 (k := 17) (by decide), _, _, rfl, rfl, _, _, rfl, ?_⟩
      refine ⟨_, rfl, 10, 60, rfl, rfl, c10 (k := 60) (by decide), 10, 60, rfl, rfl, c10 (k := 60) (by decide), _, _, rfl, rfl, wide_mul (a := 400) (b := 400) (by decide +kernel) (by decide +kernel) (by decide) (by decide) (by decide), _, _, rfl, rfl, (by dsimp only; decide +kernel), ?_⟩
      refine ⟨_, rfl, _, _, rfl, rfl, (by dsimp only; decide), _, _, rfl, rfl, .inr ⟨by decide, by decide⟩, _, rfl, _, _, rfl, rfl, .inl ⟨by decide, by decide⟩, _, _, rfl, rfl, _, rfl, _, _, rfl, rfl, .inr ⟨_, rfl, ?_⟩⟩
      refine ⟨_, _, rfl, rfl, .inl ⟨by decide, by decide⟩, _, _, rfl, rfl, _, _, rfl, rfl, (by show 3 ≤ sizeLine; decide), fun d hd => ?_⟩
      refine k d _ hd (Same.new hd) ⟨⟨_, _, 0, upd_same, ?_⟩, by decide⟩
      refine dice_end _ _ _ hi ?_
      split <;> omega
end
end Pr
namespace Pr
open PySem PySem.Spec PyProof.Rows L2
theorem div_le {x t : Int} (h0 : 0 ≤ x) (ht : 0 < t) : 0 ≤ x / t ∧ x / t ≤ x := ⟨Int.ediv_nonneg h0 (by omega), Int.ediv_le_self _ h0⟩
theorem mod2 {x y : Int} (h : 0 ≤ x) (a : 0 < y) : 0 ≤ x.fmod y ∧ x.fmod y < y := fmod_pos a
section
variable {P : Program} {w : World} {K : PySem.W.Frag} {mg : Str → Option Value} {base : Heap}
theorem scRoll : FnScope ["dice", "total", "found", "one", "two"] ["dice", "total"] (defScope sRoll) := ⟨rfl, rfl, rfl, by decide +kernel, rfl, by decide +kernel, by decide +kernel⟩
theorem ok_roll {f : Addr} {fd : FuncData} (F : Fun K "_law_roll" "_law_roll" sRoll f fd) (T : Free mg) : FnOk P w K mg base CX0 1 f fd ["dice", "total"] spRoll := by
  refine F.ok scRoll (fun vs H Q E h => ?_) (fun cdv A outer s H vs Q E hr h => ?_)
  · obtain ⟨d, t, n, rfl, _⟩ := h
    rfl
  · obtain ⟨d, t, n, rfl, ⟨⟨x, y, c, e, x0, x1, y0, y1, c0, c1⟩, fw⟩, hn, t0, t1, k⟩ := h
    have sq : SqL K H d [.int x, .int y, .int c] := SqL.of e
    refine ⟨_, pss_cons (ps_if (pt_cmpR op_gt (pe_ix ix_list (pv 0) pe_int (fun _ _ => rfl)) pe_int (nomark _))
        (pss_cons (ps_set (i := 2) scRoll.nd rfl (.inl rfl) (pe_op op_modN (pe_callTy call_int1 (by rfl) T.int (by decide +kernel) (pa_cons (pe_ix ix_list (pv 0) pe_int (fun _ _ => rfl)) pa_nil)) (pv 1)))
        (pss_cons (ps_asg (pe_op op_fdivW (pe_ix ix_list (pv 0) pe_int (fun _ _ => rfl)) (pv 1)) (pg_sub (pv 0) pe_int set_list))
        (pss_one (ps_ret (pv 2))))) pss_nil)
      (pss_cons (ps_asg (pe_op op_add (pe_ix ix_list (pv 0) pe_int (fun _ _ => rfl)) pe_int) (pg_sub (pv 0) pe_int set_list))
      (pss_cons (ps_set (i := 3) scRoll.nd rfl (.inl rfl) (pe_op op_mod (pe_callTy call_int1 (by rfl) T.int (by decide +kernel)
        (pa_cons (pe_op op_add (pe_ix ix_list (pv 0) pe_int (fun _ _ => rfl)) (pe_op op_mul pe_int (pe_ix ix_list (pv 0) pe_int (fun _ _ => rfl)))) pa_nil)) pe_int))
      (pss_cons (ps_set (i := 4) scRoll.nd rfl (.inl rfl) (pe_op op_add (pe_op op_mul (pe_op op_mod (pe_callTy call_int1 (by rfl) T.int (by decide +kernel)
        (pa_cons (pe_op op_add (pe_op op_mul (pv 3) (pv 3)) (pe_op op_mul pe_int (pe_ix ix_list (pv 0) pe_int (fun _ _ => rfl)))) pa_nil)) pe_int) pe_int) (pv 3)))
      (pss_one (ps_ret (pe_op op_modN (pe_callTy call_int1 (by rfl) T.int (by decide +kernel) (pa_cons (pe_op op_fdiv (pv 4) pe_int) pa_nil)) (pv 1))))))), ?_⟩
    refine ⟨_, rfl, d, _, 0, _, rfl, rfl, sq, rfl, _, _, rfl, rfl, _, rfl, ite2 (fun cx => ?_) (fun cx => ?_)⟩
    · -- what is left of the cell's number
      have r := fmod_pos (i := x) t0
      have q := div_le x0 t0
      refine ⟨_, rfl, d, _, 0, _, rfl, rfl, sq, rfl, .inl ⟨_, rfl, _, rfl, _, _, rfl, rfl, (by dsimp only; omega), ?_⟩⟩
      refine ⟨_, rfl, d, _, 0, _, rfl, rfl, sq, rfl, _, rfl, _, _, rfl, rfl, wide_div (b := 400) t0 (by omega) (by decide) (by decide), _, rfl, d, _, 0, 0, rfl, rfl, e, rfl, _, rfl, ?_⟩
      exact k _ _ r.1 r.2 ⟨⟨_, _, _, upd_same, q.1, by omega, y0, y1, c0, by omega⟩, by omega⟩
    · refine ⟨_, rfl, d, _, 2, _, rfl, rfl, sq, rfl, _, _, rfl, rfl, _, rfl, d, _, 2, 2, rfl, rfl, e, rfl, ?_⟩
      have sq2 : SqL K (upd H d (.lst [.int x, .int y, .int (c + 1)])) d [.int x, .int y, .int (c + 1)] := SqL.of upd_same
      have m1 := emod_pos (i := y + 7901 * (c + 1)) (j := 2305843009213693907) (by decide)
      refine ⟨_, rfl, d, _, 1, _, rfl, rfl, sq2, rfl, _, rfl, d, _, 2, _, rfl, rfl, sq2, rfl, _, _, rfl, rfl, .inl ⟨by decide, by decide⟩, _, _, rfl, rfl, .inl ⟨_, rfl, _, _, rfl, rfl, (by dsimp only; decide), ?_⟩⟩
      have m2 := emod_pos (i := (y + 7901 * (c + 1)) % 2305843009213693907 * ((y + 7901 * (c + 1)) % 2305843009213693907) + 71 * (c + 1)) (j := 2305843009213693921) (by decide)
      refine ⟨_, rfl, _, rfl, _, _, rfl, rfl, .inl ⟨by omega, by omega⟩, _, rfl, d, _, 2, _, rfl, rfl, sq2, rfl, _, _, rfl, rfl, .inl ⟨by decide, by decide⟩, _, _, rfl, rfl, .inl ⟨_, rfl, _, _, rfl, rfl, (by dsimp only; decide), ?_⟩⟩
      refine ⟨_, _, rfl, rfl, .inl ⟨by omega, by omega⟩, _, rfl, _, _, rfl, rfl, ?_⟩
      refine ⟨_, rfl, _, _, rfl, rfl, ⟨by decide, by decide⟩, .inl ⟨_, rfl, _, rfl, _, _, rfl, rfl, (by dsimp only; omega), ?_⟩⟩
      exact k _ _ (fmod_pos t0).1 (fmod_pos t0).2 ⟨⟨_, _, _, upd_same, x0, x1, y0, y1, by omega, by omega⟩, by omega⟩
end
end Pr
namespace Pr
open PySem PySem.Spec PyProof.Rows L2
/-- the law's drawing defs, as they stand behind the top -/
structure Draws (K : PySem.W.Frag) (mg : Str → Option Value) (fR fP fM : Addr) (dR dP dM : FuncData) : Prop where
  FR : Fun K "_law_roll" "_law_roll" sRoll fR dR
  bR : Binds K dR ["dice", "total"] []
  gR : mg "_law_roll" = some (.ref fR)
  FP : Fun K "_law_pick" "_law_pick" sPick fP dP
  bP : Binds K dP ["dice", "items"] []
  gP : mg "_law_pick" = some (.ref fP)
  FM : Fun K "_law_mixed" "_law_mixed" sMixed fM dM
  bM : Binds K dM ["dice", "items"] []
  gM : mg "_law_mixed" = some (.ref fM)
theorem erase_perm {α : Type} : ∀ (l : List α) (i : Nat) (h : i < l.length), (l[i] :: l.eraseIdx i).Perm l
  | [], _, h => absurd h (Nat.not_lt_zero _)
  | a :: l, 0, _ => List.Perm.refl _
  | a :: l, i + 1, h => (List.Perm.swap a (l[i]'(Nat.lt_of_succ_lt_succ h)) (l.eraseIdx i)).trans (List.Perm.cons a (erase_perm l i (Nat.lt_of_succ_lt_succ h)))
section
variable {P : Program} {w : World} {K : PySem.W.Frag} {mg : Str → Option Value} {base : Heap} {fR fP fM : Addr} {dR dP dM : FuncData}
theorem scPick : FnScope ["dice", "items"] ["dice", "items"] (defScope sPick) := ⟨rfl, rfl, rfl, by decide +kernel, rfl, by decide +kernel, by decide +kernel⟩
theorem ok_pick (D : Draws K mg fR fP fM dR dP dM) (T : Free mg) : FnOk P w K mg base CX0 2 fP dP ["dice", "items"] (spPick K) := by
  have GR : FnOk P w K mg base CX0 1 fR dR ["dice", "total"] spRoll := ok_roll D.FR T
  refine D.FP.ok scPick (fun vs H Q E h => ?_) (fun cdv A outer s H vs Q E hr h => ?_)
  · obtain ⟨d, p, n, xs, rfl, _⟩ := h
    rfl
  · obtain ⟨d, p, n, xs, rfl, npd, hS, ne, few, di, hn, k⟩ := h
    refine ⟨_, pss_one (ps_ret (pe_ix ix_seq (pv 1) (pe_call GR hr (by rfl) D.gR D.FR.kp D.bR .nil pass0 (pa_cons (pv 0) (pa_cons (pe_callB call_len_seq (by rfl) T.len PySem.boot_len (pa_cons (pv 1) pa_nil)) pa_nil))) (fun _ _ => rfl))), ?_⟩
    have pos : 0 < xs.length := List.length_pos_iff.mpr ne
    refine ⟨_, rfl, _, rfl, _, rfl, p, xs, rfl, hS, d, _, n, rfl, di, hn, by omega, by omega, fun r o r0 r1 di' => ?_⟩
    have hlt : r.toNat < xs.length := by omega
    have g : atI xs r = some xs[r.toNat] := at_of (j := r.toNat) (by omega) (List.getElem?_eq_getElem hlt)
    have kp : Kp d H (upd H d o) := Kp.upd
    rcases hS with hS | hS
    · exact .inl ⟨p, xs, r, _, rfl, rfl, kp.seq npd hS, g, k _ o (List.getElem_mem hlt) di'⟩
    · have hT : SqT K (upd H d o) p xs := by
        rcases hS with (h | ⟨u, h⟩) | h
        · exact .inl (.inl (kp _ _ npd h))
        · exact .inl (.inr ⟨u, kp _ _ npd h⟩)
        · exact .inr h
      exact .inr (.inl ⟨p, xs, r, _, rfl, rfl, hT, g, k _ o (List.getElem_mem hlt) di'⟩)
theorem scMixed : FnScope ["dice", "items", "left", "found", "turn"] ["dice", "items"] (defScope sMixed) := ⟨rfl, rfl, rfl, by decide +kernel, rfl, by decide +kernel, by decide +kernel⟩
theorem ok_mixed (D : Draws K mg fR fP fM dR dP dM) (T : Free mg) : FnOk P w K mg base CX0 2 fM dM ["dice", "items"] (spMixed K) := by
  have GR : FnOk P w K mg base CX0 1 fR dR ["dice", "total"] spRoll := ok_roll D.FR T
  refine D.FM.ok scMixed (fun vs H Q E h => ?_) (fun cdv A outer s H vs Q E hr h => ?_)
  · obtain ⟨d, p, n, xs, rfl, _⟩ := h
    rfl
  · obtain ⟨d, p, n, xs, rfl, npd, hS, few, di, hn, k⟩ := h
    refine ⟨_, pss_cons (ps_par (i := 2) (j := 3) (by rfl) scMixed.nd rfl rfl (by decide) rfl rfl (pa_cons (pe_callTy call_list_of (by rfl) T.list (by decide +kernel) (pa_cons (pv 1) pa_nil)) (pa_cons (pe_lst pa_nil) pa_nil)) (by rfl))
      (pss_cons (ps_for PassesOwn.never rfl (pi_range1 rfl T.range (pa_cons (pe_callB call_len_seq (by rfl) T.len PySem.boot_len (pa_cons (pv 1) pa_nil)) pa_nil)) (pg_name (i := 4) scMixed.nd rfl (.inl rfl))
        (pss_one (ps_expr (pe_bm PySem.F.plainAttrs_list PySem.F.slot_list_append PySem.F.type_list_append mt_append (pv 3)
          (pa_cons (pe_bm PySem.F.plainAttrs_list PySem.F.slot_list_pop PySem.F.type_list_pop mt_popAt (pv 2)
            (pa_cons (pe_call GR hr (by rfl) D.gR D.FR.kp D.bR .nil pass0 (pa_cons (pv 0) (pa_cons (pe_callB call_len_seq (by rfl) T.len PySem.boot_len (pa_cons (pv 2) pa_nil)) pa_nil))) pa_nil)) pa_nil)))))
      (pss_one (ps_ret (pv 3)))), ?_⟩
    obtain ⟨ds, hd⟩ := di.there
    -- left = list(items); found = []
    refine ⟨_, rfl, p, xs, rfl, .inl hS, fun l nl => ⟨Nat.zero_le _, fun q nq => ?_⟩⟩
    refine ⟨_, _, rfl, ?_⟩
    have ndl : d ≠ l := ne_of_none hd nl
    have nql : q ≠ l := fun e => by
      rw [e, upd_same] at nq
      cases nq
    have nHq : H q = none := by
      rw [upd_ne nql] at nq
      exact nq
    have ndq : d ≠ q := ne_of_none hd nHq
    have s1 : Same H (upd (upd H l (.lst xs)) q (.lst [])) := (Same.new nl).trans (Same.new nq)
    have hS1 := s1.seq hS
    -- the loop
    refine ⟨_, rfl, p, xs, rfl, .inl hS1, xs.length, rfl, by omega, by omega, ?_⟩
    refine for_range (lo := 0) (n := ((xs.length : Int)).toNat) (fun i σ H' => ∃ (v : Option V) (rem done : List V), σ = [some (.ref d), some (.ref p), some (.ref l), some (.ref q), v] ∧ Kp d H H' ∧
      H' l = some (.lst rem) ∧ H' q = some (.lst done) ∧ rem.length + i = xs.length ∧ (done ++ rem).Perm xs ∧ Dice H' d (n + i))
      ⟨none, xs, [], rfl, Kp.same s1, by rw [upd_ne nql.symm, upd_same], upd_same, by omega, List.Perm.refl _, di.same s1⟩ ?_ ?_
    · rintro i σ H' hi ⟨v, rem, done, rfl, kp, hl, hq, len, pm, di'⟩
      have hi' : i < xs.length := by omega
      have dl : done.length = i := by
        have := pm.length_eq
        rw [List.length_append] at this
        omega
      refine ⟨_, rfl, .inl ⟨rfl, _, SqL.of hq⟩, _, rfl, .inl ⟨rfl, _, SqL.of hl⟩, _, rfl, _, rfl, l, rem, rfl, .inl (SqL.of hl), d, _, n + i, rfl, di', by omega, by omega, by omega, fun r o r0 r1 di2 => ?_⟩
      have hlt : r.toNat < rem.length := by omega
      have k2 : Kp d H' (upd H' d o) := Kp.upd
      have hl2 := k2 _ _ ndl.symm hl
      have hq2 := k2 _ _ ndq.symm hq
      refine ⟨l, rem, r, r.toNat, rem[r.toNat], rfl, rfl, hl2, by omega, by omega, seqIndex_of r0 (by omega), List.getElem?_eq_getElem hlt, ?_⟩
      have hq3 : (upd (upd H' d o) l (.lst (rem.eraseIdx r.toNat))) q = some (.lst done) := by
        rw [upd_ne nql]
        exact hq2
      refine ⟨q, done, _, rfl, rfl, hq3, small1000 (by omega), ?_⟩
      refine ⟨_, rem.eraseIdx r.toNat, _, rfl, fun b u nb e => ?_, ?_, upd_same, ?_, ?_, ?_⟩
      · rw [upd_ne (ne_of_none e nHq), upd_ne (ne_of_none e nl)]
        exact k2 _ _ nb (kp _ _ nb e)
      · rw [upd_ne nql.symm, upd_same]
      · rw [List.length_eraseIdx_of_lt hlt]
        omega
      · have e1 := erase_perm rem r.toNat hlt
        rw [List.append_assoc]
        exact (List.Perm.append_left done e1).trans pm
      · refine (di2.kept fun u e => ?_).more (by omega) (by omega)
        rw [upd_ne ndq, upd_ne ndl]
        exact e
    · rintro σ H' ⟨v, rem, done, rfl, kp, hl, hq, len, pm, di'⟩
      have e0 : rem = [] := List.length_eq_zero_iff.mp (by omega)
      subst e0
      rw [List.append_nil] at pm
      refine ⟨_, rfl, k q done H' ndq.symm nHq kp hq pm (di'.more (by omega) (by omega))⟩
end
end Pr
namespace Pr
open PySem PySem.Spec PyProof.Rows L2 Gd
/-! ### values that can be judged and shown; all tuples are plain -/
/-- the heap without the dice -/
def Hm (d : Addr) (H : Hp) : Hp := fun b => if b = d then none else H b
theorem Hm.some_of {d b : Addr} {H : Hp} {o : HO} (h : Hm d H b = some o) : H b = some o ∧ b ≠ d := by
  unfold Hm at h
  by_cases e : b = d
  · rw [if_pos e] at h
    cases h
  · rw [if_neg e] at h
    exact ⟨h, e⟩
theorem Hm.of {d b : Addr} {H : Hp} {o : HO} (h : H b = some o) (e : b ≠ d) : Hm d H b = some o := by
  unfold Hm
  rw [if_neg e]
  exact h
theorem Kp.hm {d : Addr} {H H' : Hp} (k : Kp d H H') : Same (Hm d H) (Hm d H') := fun b o h => Hm.of (k b o (Hm.some_of h).2 (Hm.some_of h).1) (Hm.some_of h).2
theorem Same.hm {d : Addr} {H H' : Hp} (s : Same H H') : Same (Hm d H) (Hm d H') := (Kp.same (d := d) s).hm
theorem TT.hm {d a : Addr} {H : Hp} {xs : List V} (h : TT H a xs) (n : a ≠ d) : TT (Hm d H) a xs := Hm.of h n
theorem TT.un {a d : Addr} {H : Hp} {xs : List V} (h : TT (Hm d H) a xs) : TT H a xs ∧ a ≠ d := ⟨(Hm.some_of h).1, (Hm.some_of h).2⟩
/-- the type of a value that is no instance -/
inductive Kd (H : Hp) : V → String → Prop where
  | non : Kd H .non "NoneType"
  | bl (b : Bool) : Kd H (.bl b) "bool"
  | int (i : Int) : Kd H (.int i) "int"
  | str (z : Str) : Kd H (.str z) "str"
  | lst {a : Addr} {xs : List V} (e : H a = some (.lst xs)) : Kd H (.ref a) "list"
  | tup {a : Addr} {xs : List V} (e : TT H a xs) : Kd H (.ref a) "tuple"
  | dK {a : Addr} {kvs : List (Key × V)} (e : H a = some (.dK kvs)) : Kd H (.ref a) "dict"
theorem Kd.same {H H' : Hp} {v : V} {t : String} (k : Kd H v t) (s : Same H H') : Kd H' v t := by
  cases k with
  | non => exact .non
  | bl b => exact .bl b
  | int i => exact .int i
  | str z => exact .str z
  | lst e => exact .lst (s _ _ e)
  | tup e => exact .tup (TT.same e s)
  | dK e => exact .dK (s _ _ e)
theorem Sh.more {H : Hp} : ∀ (n : Nat) (v : V) (t : Str), Sh H n v t → Sh H (n + 1) v t
  | 0, _, _, h => .inl h
  | n + 1, _, _, h => by
    rcases h with h | ⟨a, xs, ts, rfl, e, p, rfl⟩ | ⟨a, xs, ts, rfl, e, p, rfl⟩ | ⟨a, xs, ts, rfl, e, p, rfl⟩
    · exact .inl h
    · exact Sh.lst e (L2.Paired.mapP p fun x t q => Sh.more n x t q)
    · exact Sh.tup e (L2.Paired.mapP p fun x t q => Sh.more n x t q)
    · exact Sh.dK e (L2.Paired.mapP p fun x t q => ⟨q.1, Sh.more n x.2 t q.2⟩)
theorem Sh.le {H : Hp} {n m : Nat} {v : V} {t : Str} (h : n ≤ m) (s : Sh H n v t) : Sh H m v t := by
  induction h with
  | refl => exact s
  | step _ ih => exact Sh.more _ _ _ ih
theorem Sc.kd {H : Hp} {v : V} {t : Str} (h : Sc v t) : ∃ ty, Kd H v ty := by
  cases h with
  | non => exact ⟨_, .non⟩
  | bl b => exact ⟨_, .bl b⟩
  | int i _ => exact ⟨_, .int i⟩
  | str z _ => exact ⟨_, .str z⟩
theorem Sh.kd {H : Hp} {n : Nat} {v : V} {t : Str} (h : Sh H n v t) : ∃ ty, Kd H v ty := by
  cases n with
  | zero => exact Sc.kd h
  | succ n =>
    rcases h with h | ⟨a, xs, ts, rfl, e, p, rfl⟩ | ⟨a, xs, ts, rfl, e, p, rfl⟩ | ⟨a, xs, ts, rfl, e, p, rfl⟩
    · exact Sc.kd h
    · exact ⟨_, .lst e⟩
    · exact ⟨_, .tup e⟩
    · exact ⟨_, .dK e⟩
theorem paired_all {α : Type} {F : α → Str → Prop} {xs : List α} {ts : List Str} (p : Paired F xs ts) : ∀ x ∈ xs, ∃ t, F x t := by
  induction p with
  | nil => intro x m; cases m
  | cons h r ih =>
    intro x m
    rcases List.mem_cons.mp m with e | m
    · rw [e]
      exact ⟨_, h⟩
    · exact ih x m
/-- what can stand in a tuple that is judged -/
def Ji (H : Hp) (v : V) : Prop := ∃ ty, Kd H v ty
theorem Ji.same {H H' : Hp} {v : V} (h : Ji H v) (s : Same H H') : Ji H' v := let ⟨ty, k⟩ := h; ⟨ty, k.same s⟩
theorem Ji.non {H : Hp} : Ji H .non := ⟨_, .non⟩
theorem Ji.int {H : Hp} (i : Int) : Ji H (.int i) := ⟨_, .int i⟩
theorem Ji.str {H : Hp} (z : Str) : Ji H (.str z) := ⟨_, .str z⟩
theorem Ji.lst {H : Hp} {a : Addr} {xs : List V} (e : H a = some (.lst xs)) : Ji H (.ref a) := ⟨_, .lst e⟩
theorem Ji.tup {H : Hp} {a : Addr} {xs : List V} (e : TT H a xs) : Ji H (.ref a) := ⟨_, .tup e⟩
/-- a value that can be shown: its text has at most m signs; what it holds, if it is a tuple, can be judged -/
structure Vd (H : Hp) (n m : Nat) (v : V) : Prop where
  sm : ∃ t, Sh H n v t ∧ t.length ≤ m
  items : ∀ a xs, v = .ref a → TT H a xs → xs.length ≤ 1000 ∧ ∀ x ∈ xs, Ji H x
theorem Vd.kd {H : Hp} {n m : Nat} {v : V} (h : Vd H n m v) : ∃ t, Kd H v t := let ⟨_, s, _⟩ := h.sm; Sh.kd s
theorem Vd.le {H : Hp} {n m n' m' : Nat} {v : V} (h : Vd H n m v) (a : n ≤ n') (b : m ≤ m') : Vd H n' m' v :=
  ⟨let ⟨t, s, l⟩ := h.sm; ⟨t, Sh.le a s, by omega⟩, h.items⟩
theorem Vd.same {H H' : Hp} {n m : Nat} {v : V} (h : Vd H n m v) (s : Same H H') : Vd H' n m v := by
  obtain ⟨ty, hk⟩ := h.kd
  refine ⟨let ⟨t, q, l⟩ := h.sm; ⟨t, Sh.keep s n v t q, l⟩, fun a xs e q => ?_⟩
  subst e
  cases hk with
  | lst e => exact (TT.nl q (s _ _ e)).elim
  | tup e =>
    rw [← TT.eq (TT.same e s) q]
    exact ⟨(h.items a _ rfl e).1, fun x m => ((h.items a _ rfl e).2 x m).same s⟩
  | dK e => exact (TT.nd q (s _ _ e)).elim
theorem Vd.plain {H : Hp} {m : Nat} {v : V} {t : Str} (h : Sc v t) (l : t.length ≤ m) (n : ∀ a, v ≠ .ref a) : Vd H 0 m v := ⟨⟨t, h, l⟩, fun a xs e => absurd e (n a)⟩
theorem Vd.non {H : Hp} : Vd H 0 100 .non := .plain Sc.non (by decide) (fun a e => (nomatch e))
theorem Vd.bl {H : Hp} (b : Bool) : Vd H 0 100 (.bl b) := .plain (Sc.bl b) (by cases b <;> decide) (fun a e => (nomatch e))
theorem Vd.int {H : Hp} (i : Int) (h : i.natAbs < 2 ^ 1900) : Vd H 0 2000 (.int i) := by
  have hl : i.natAbs.log2 < 1920 := Nat.lt_of_lt_of_le (PySem.Flt.log2_lt_of (by decide) h) (by decide)
  exact .plain (Sc.int i hl) (Nat.le_trans (PyProof.Rows.int_text_len_1921 hl) (by decide)) (fun a e => (nomatch e))
theorem Vd.zero {H : Hp} : Vd H 0 100 (.int 0) := .plain (Sc.int 0 (by decide)) (by decide +kernel) (fun a e => (nomatch e))
/-- a text of at most m signs -/
def SOk (m : Nat) (z : Str) : Prop := z.length ≤ m ∧ ∀ c ∈ z.cps.toList, c < 16 ^ 8
theorem SOk.le {m n : Nat} {z : Str} (h : SOk m z) (l : m ≤ n) : SOk n z := ⟨by have := h.1; omega, h.2⟩
theorem Vd.text {H : Hp} {k : Nat} {z : Str} (h : SOk k z) (hk : k ≤ 100000) : Vd H 0 (10 * k + 2) (.str z) := by
  have l := StrLaws.reprText_len z h.2
  have l2 := h.1
  exact .plain (Sc.str z (by rw [sizeLine_eq]; omega)) (by omega) (fun a e => (nomatch e))
theorem paired_of {H : Hp} {n m : Nat} : ∀ {xs : List V}, (∀ x ∈ xs, Vd H n m x) → ∃ ts, Paired (Sh H n) xs ts ∧ (ts.map (·.length)).sum ≤ xs.length * m ∧ ts.length = xs.length
  | [], _ => ⟨[], .nil, by simp, rfl⟩
  | x :: xs, h => by
    obtain ⟨ts, p, s, l⟩ := paired_of (xs := xs) fun y m => h y (List.mem_cons_of_mem _ m)
    obtain ⟨t, q, lt⟩ := (h x List.mem_cons_self).sm
    refine ⟨t :: ts, .cons q p, ?_, by simp [l]⟩
    rw [List.map_cons, List.sum_cons, List.length_cons, Nat.succ_mul]
    omega
theorem Vd.lst {H : Hp} {n m k : Nat} {a : Addr} {xs : List V} (e : H a = some (.lst xs)) (h : ∀ x ∈ xs, Vd H n m x) (hl : xs.length ≤ k) : Vd H (n + 1) (k * (m + 2) + 3) (.ref a) := by
  obtain ⟨ts, p, s, l⟩ := paired_of h
  refine ⟨⟨_, Sh.lst e p, ?_⟩, fun b ys eb q => ?_⟩
  case refine_2 =>
    cases eb
    exact (TT.nl q e).elim
  have := listText_len_le ts
  have h2 : xs.length * (m + 2) ≤ k * (m + 2) := Nat.mul_le_mul_right _ hl
  rw [Nat.mul_add] at h2
  omega
theorem Vd.tup {H : Hp} {n m k : Nat} {a : Addr} {xs : List V} (e : TT H a xs) (h : ∀ x ∈ xs, Vd H n m x) (hj : ∀ x ∈ xs, Ji H x) (hl : xs.length ≤ k) (hk : k ≤ 1000 := by decide) : Vd H (n + 1) (k * (m + 2) + 3) (.ref a) := by
  obtain ⟨ts, p, s, l⟩ := paired_of h
  refine ⟨⟨_, Sh.tup e p, ?_⟩, fun b ys eb q => ?_⟩
  case refine_2 =>
    cases eb
    rw [← TT.eq e q]
    exact ⟨Nat.le_trans hl hk, hj⟩
  have := tupleText_len_le ts
  have h2 : xs.length * (m + 2) ≤ k * (m + 2) := Nat.mul_le_mul_right _ hl
  rw [Nat.mul_add] at h2
  omega
theorem Vd.dK0 {H : Hp} {a : Addr} (e : H a = some (.dK [])) : Vd H 1 100 (.ref a) := ⟨⟨_, Sh.dK e .nil, by decide +kernel⟩, fun b ys eb q => by
  cases eb
  exact (TT.nd q e).elim⟩
theorem Vd.dK1 {H : Hp} {a : Addr} {x : Str} {i : Int} (e : H a = some (.dK [(.inr x, .int i)])) (hx : SOk 10 x) (hi : i.natAbs.log2 < 1920) : Vd H 1 3000 (.ref a) := by
  have l := StrLaws.reprText_len x hx.2
  have l2 := hx.1
  have l3 := PyProof.Rows.int_text_len_1921 hi
  refine ⟨⟨_, Sh.dK (n := 0) (ts := [((toString i : String) : Str)]) e (.cons ⟨by show (reprText x).length ≤ sizeLine; rw [sizeLine_eq]; omega, Sc.int i hi⟩ .nil), ?_⟩, fun b ys eb q => ?_⟩
  case refine_2 =>
    cases eb
    exact (TT.nd q e).elim
  have h := dictText_len_le (List.zipWith (fun (p : Key × V) t => keyText p.1 ++ ": " ++ t) [((.inr x : Key), V.int i)] [((toString i : String) : Str)])
  have e2 : ((keyText (.inr x) ++ ": " ++ ((toString i : String) : Str)) : Str).length = (reprText x).length + 2 + ((toString i : String) : Str).length := by
    rw [strLen_append, strLen_append]
    rfl
  have e3 : (List.zipWith (fun (p : Key × V) t => keyText p.1 ++ ": " ++ t) [((.inr x : Key), V.int i)] [((toString i : String) : Str)]) = [keyText (.inr x) ++ ": " ++ ((toString i : String) : Str)] := rfl
  rw [e3] at h ⊢
  rw [List.map_cons, List.map_nil, List.sum_cons, List.sum_nil, e2, List.length_singleton] at h
  omega
/-- a value as the judges see it: what stands in it, if it is a tuple -/
inductive Vw (H : Hp) : V → Option (List V) → Prop where
  | not {v : V} {ty : String} (k : Kd H v ty) (ne : ty ≠ "tuple") : Vw H v none
  | tup {a : Addr} {xs : List V} (t : TT H a xs) (j : ∀ x ∈ xs, Ji H x) : Vw H (.ref a) (some xs)
theorem Vw.same {H H' : Hp} {v : V} {o : Option (List V)} (h : Vw H v o) (s : Same H H') : Vw H' v o := by
  cases h with
  | not k ne => exact .not (k.same s) ne
  | tup t j => exact .tup (TT.same t s) fun x m => (j x m).same s
theorem Vd.vw {H : Hp} {n m : Nat} {v : V} (h : Vd H n m v) : ∃ o, Vw H v o ∧ ∀ xs, o = some xs → xs.length < 100000 := by
  obtain ⟨ty, k⟩ := h.kd
  cases k with
  | tup e => exact ⟨_, .tup e (h.items _ _ rfl e).2, fun xs q => by cases q; have := (h.items _ _ rfl e).1; omega⟩
  | non => exact ⟨_, .not .non (by decide), fun xs q => (nomatch q)⟩
  | bl b => exact ⟨_, .not (.bl b) (by decide), fun xs q => (nomatch q)⟩
  | int i => exact ⟨_, .not (.int i) (by decide), fun xs q => (nomatch q)⟩
  | str z => exact ⟨_, .not (.str z) (by decide), fun xs q => (nomatch q)⟩
  | lst e => exact ⟨_, .not (.lst e) (by decide), fun xs q => (nomatch q)⟩
  | dK e => exact ⟨_, .not (.dK e) (by decide), fun xs q => (nomatch q)⟩
end Pr
namespace Pr
open PySem PySem.Spec PyProof.Rows L2 Gd
/-! ### drawn operators -/
def pool : List Str := ["c", "v", "p", "s", "add", "operator", "aa", "z", "op", "goal"]
/-- names with arities, as a dict -/
def dkv (l : List (Str × Nat)) : List (Key × V) := l.map fun p => (.inr p.1, .int (p.2 : Int))
structure Ars (l : List (Str × Nat)) : Prop where
  few : 1 ≤ l.length ∧ l.length ≤ 4
  nd : (l.map (·.1)).Nodup
  pool : ∀ p ∈ l, p.1 ∈ pool
  two : ∀ p ∈ l, p.2 ≤ 2
  const : ∃ p ∈ l, p.2 = 0
theorem Ars.perm {l l' : List (Str × Nat)} (h : Ars l) (p : l'.Perm l) : Ars l' :=
  ⟨by rw [p.length_eq]; exact h.few, (p.map _).nodup_iff.mpr h.nd, fun x m => h.pool x (p.mem_iff.mp m), fun x m => h.two x (p.mem_iff.mp m), let ⟨x, m, e⟩ := h.const; ⟨x, p.mem_iff.mpr m, e⟩⟩
theorem val_none {z : Str} : ∀ {l : List (Str × Nat)}, z ∉ l.map (·.1) → valV (dkv l) (.inr z : Key) = none
  | [], _ => rfl
  | p :: l, h => by
    show valV ((.inr p.1, .int (p.2 : Int)) :: dkv l) (.inr z : Key) = none
    rw [valV_neg (fun e => h (by
      have e' : p.1 = z := Sum.inr.inj e
      rw [← e']
      exact List.mem_cons_self))]
    exact val_none fun m => h (List.mem_cons_of_mem _ m)
theorem put_end {l : List (Str × Nat)} {z : Str} {k : Nat} (h : z ∉ l.map (·.1)) : putK (dkv l) (.inr z) (.int (k : Int)) = dkv (l ++ [(z, k)]) := by
  rw [putK_new _ (val_none h)]
  unfold dkv
  rw [List.map_append]
  rfl
theorem merge_end : ∀ (l2 l : List (Str × Nat)), ((l ++ l2).map (·.1)).Nodup → mergeK (dkv l) (dkv l2) = dkv (l ++ l2)
  | [], l, _ => by rw [List.append_nil]; rfl
  | (z, k) :: l2, l, h => by
    have n : z ∉ l.map (·.1) := by
      rw [List.map_append, List.nodup_append] at h
      exact fun m => h.2.2 z m z (by simp) rfl
    show mergeK (putK (dkv l) (.inr z) (.int (k : Int))) (dkv l2) = _
    rw [put_end n, merge_end l2 (l ++ [(z, k)]) (by rw [List.append_assoc]; exact h), List.append_assoc]
    rfl
theorem merge_all {l : List (Str × Nat)} (h : (l.map (·.1)).Nodup) : mergeK [] (dkv l) = dkv l := merge_end l [] h
theorem paired_perm {α β : Type} {F : α → β → Prop} {xs ys : List α} (p : xs.Perm ys) : ∀ {bs : List β}, Paired F ys bs → ∃ cs, cs.Perm bs ∧ Paired F xs cs := by
  induction p with
  | nil => exact fun {bs} h => ⟨bs, .refl _, h⟩
  | cons a p ih =>
    intro bs h
    cases h with
    | cons h r =>
      obtain ⟨cs, q, k⟩ := ih r
      exact ⟨_, q.cons _, .cons h k⟩
  | swap a b l =>
    intro bs h
    cases h with
    | cons h r =>
      cases r with
      | cons k r => exact ⟨_, .swap _ _ _, .cons k (.cons h r)⟩
  | trans p q ih1 ih2 =>
    intro bs h
    obtain ⟨cs, q1, k1⟩ := ih2 h
    obtain ⟨ds, q2, k2⟩ := ih1 k1
    exact ⟨ds, q2.trans q1, k2⟩
theorem paired_of_map {α β : Type} (g : β → α) : ∀ l : List β, Paired (fun a b => a = g b) (l.map g) l
  | [] => .nil
  | _ :: l => .cons rfl (paired_of_map g l)
theorem map_of_paired {α β : Type} {g : β → α} : ∀ {xs : List α} {l : List β}, Paired (fun a b => a = g b) xs l → xs = l.map g
  | _, _, .nil => rfl
  | _, _, .cons h r => by rw [h, map_of_paired r]; rfl
theorem perm_map {α β : Type} {g : β → α} {xs : List α} {l : List β} (p : xs.Perm (l.map g)) : ∃ l' : List β, l'.Perm l ∧ xs = l'.map g := by
  obtain ⟨l', q, k⟩ := paired_perm p (paired_of_map g l)
  exact ⟨l', q, map_of_paired k⟩
theorem Kp.free {d b : Addr} {H H' : Hp} (k : Kp d H H') (n : b ≠ d) (h : H' b = none) : H b = none := by
  cases e : H b with
  | none => rfl
  | some o =>
    rw [k b o n e] at h
    cases h
theorem paired_and {α β : Type} {F : α → β → Prop} {P : α → Prop} : ∀ {xs : List α} {ys : List β}, (∀ a ∈ xs, P a) → Paired F xs ys → Paired (fun a b => P a ∧ F a b) xs ys
  | _, _, _, .nil => .nil
  | _, _, h, .cons k r => .cons ⟨h _ List.mem_cons_self, k⟩ (paired_and (fun a m => h a (List.mem_cons_of_mem _ m)) r)
theorem paired_map {α β : Type} {F G : α → β → Prop} (k : ∀ a b, F a b → G a b) : ∀ {xs : List α} {ys : List β}, Paired F xs ys → Paired G xs ys
  | _, _, .nil => .nil
  | _, _, .cons h r => .cons (k _ _ h) (paired_map k r)
theorem cut_one {x : V} {xs : List V} {r : Int} (h0 : 0 ≤ r) (h1 : r.toNat ≤ xs.length) : cutV (x :: xs) (some 1) (some (1 + r)) = xs.take r.toNat := by
  have a1 : HT.sIx (x :: xs).length 0 (some 1) = 1 := by
    simp [HT.sIx]
  have a2 : HT.sIx (x :: xs).length (x :: xs).length (some (1 + r)) = 1 + r.toNat := by
    show (if 1 + r < 0 then (1 + r + ((xs.length + 1 : Nat) : Int)).toNat else min (1 + r).toNat (xs.length + 1)) = 1 + r.toNat
    rw [if_neg (by omega)]
    omega
  unfold cutV
  rw [a1, a2, List.drop_one, List.tail_cons, Nat.add_sub_cancel_left]
end Pr
namespace Pr
open PySem PySem.Spec PyProof.Rows L2 Gd
theorem if_true_of {c : Bool} {A B : Prop} (hc : c = true) (h : A) : if c = true then A else B := by rw [if_pos hc]; exact h
theorem if_false_of {c : Bool} {A B : Prop} (hc : c = false) (h : B) : if c = true then A else B := by rw [hc, if_neg Bool.false_ne_true]; exact h
theorem val_some {z : Str} {a : Nat} : ∀ {l : List (Str × Nat)}, (l.map (·.1)).Nodup → (z, a) ∈ l → valV (dkv l) (.inr z : Key) = some (.int (a : Int))
  | p :: l, nd, h => by
    show valV ((.inr p.1, .int (p.2 : Int)) :: dkv l) (.inr z : Key) = some (.int (a : Int))
    have nd' := List.nodup_cons.mp nd
    rcases List.mem_cons.mp h with e | h
    · subst e
      rw [valV_pos rfl]
    · rw [valV_neg (fun e => nd'.1 (by
        have e' : p.1 = z := Sum.inr.inj e
        have m : (z, a).1 ∈ l.map (·.1) := List.mem_map_of_mem h
        exact (show p.1 ∈ l.map (·.1) from e' ▸ m)))]
      exact val_some nd'.2 h
theorem pe_imp {X : Cx} {e : Expr} {t t' : TE} (h : PE X e t) (k : ∀ σ H Q, t' σ H Q → t σ H Q) : PE X e t' := ⟨fun pins s σ H Q I q => h.run pins s σ H Q I (k σ H Q q)⟩
end Pr
namespace Pr
open PySem PySem.Spec PyProof.Rows L2
/-! ### integers, counts, coprime pairs -/
theorem Kd.ty {K : PySem.W.Frag} {H : Hp} {v : V} {t : String} (k : Kd H v t) : TyX K H v (.type t) := by
  cases k with
  | non => exact .base .non
  | bl b => exact .base (.bl b)
  | int i => exact .base (.int i)
  | str z => exact .base (.str z)
  | lst e => exact .base (.lst e)
  | tup e => exact .base (.tup e)
  | dK e => exact .base (.dK e)
/-- is it an int (a bool is one); is it a bool -/
def isI : V → Bool
  | .bl _ => true
  | .int _ => true
  | _ => false
def isB : V → Bool
  | .bl _ => true
  | _ => false
theorem kit_int {K : PySem.W.Frag} {H : Hp} {v : V} {t : String} (k : Kd H v t) : PySem.W.kitOne K (.type t) (.type "int") = some (isI v) := by
  cases k <;> first | exact kit_ty (r := true) (by decide +kernel) | exact kit_ty (r := false) (by decide +kernel)
theorem kit_bool {K : PySem.W.Frag} {H : Hp} {v : V} {t : String} (k : Kd H v t) : PySem.W.kitOne K (.type t) (.type "bool") = some (isB v) := by
  cases k <;> first | exact kit_ty (r := true) (by decide +kernel) | exact kit_ty (r := false) (by decide +kernel)
/-- an integer of at most sixty digits; a count -/
def isInt : V → Bool
  | .int i => decide ((if i < 0 then -i else i) < 10 ^ (60 : Int).toNat)
  | _ => false
def isCount : V → Bool
  | .int i => decide ((if i < 0 then -i else i) < 10 ^ (60 : Int).toNat) && decide (0 ≤ i)
  | _ => false
theorem count_nat {v : V} (h : isCount v = true) : ∃ n : Nat, v = .int n ∧ n < 10 ^ 60 := by
  cases v with
  | int i =>
    have h' : (decide ((if i < 0 then -i else i) < 10 ^ (60 : Int).toNat) && decide (0 ≤ i)) = true := h
    rw [Bool.and_eq_true] at h'
    have h1 := of_decide_eq_true h'.1
    have h2 := of_decide_eq_true h'.2
    rw [if_neg (by omega)] at h1
    have e : ((10 : Int) ^ (60 : Int).toNat) = ((10 ^ 60 : Nat) : Int) := by decide +kernel
    rw [e] at h1
    exact ⟨i.toNat, by rw [Int.toNat_of_nonneg h2], by omega⟩
  | _ => cases h
theorem nat_count {n : Nat} (h : n < 10 ^ 60) : isCount (.int n) = true := by
  show (decide ((if (n : Int) < 0 then -(n : Int) else n) < 10 ^ (60 : Int).toNat) && decide ((0 : Int) ≤ n)) = true
  have e : ((10 : Int) ^ (60 : Int).toNat) = ((10 ^ 60 : Nat) : Int) := by decide +kernel
  rw [if_neg (by omega), e, decide_eq_true (by omega), decide_eq_true (by omega)]
  rfl
def spInt : Sp := fun vs H Q _ => ∃ (v : V) (t : String), vs = [v] ∧ Kd H v t ∧ Q (.bl (isInt v)) H
def spCount : Sp := fun vs H Q _ => ∃ (v : V) (t : String), vs = [v] ∧ Kd H v t ∧ Q (.bl (isCount v)) H
section
variable {P : Program} {w : World} {K : PySem.W.Frag} {mg : Str → Option Value} {base : Heap}
theorem scInteger : FnScope ["value"] ["value"] (defScope sInteger) := ⟨rfl, rfl, rfl, by decide +kernel, rfl, by decide +kernel, by decide +kernel⟩
theorem ok_integer {f : Addr} {fd : FuncData} (F : Fun K "is_integer" "is_integer" sInteger f fd) (T : Free mg) : FnOk P w K mg base CX0 1 f fd ["value"] spInt := by
  refine F.ok scInteger (fun vs H Q E h => ?_) (fun cdv A outer s H vs Q E hr h => ?_)
  · obtain ⟨v, t, rfl, _⟩ := h
    rfl
  · obtain ⟨v, t, rfl, kd, q⟩ := h
    refine ⟨_, pss_one (ps_ret (pe_and (pe_callB call_isi (by rfl) T.isi (by decide +kernel) (pa_cons (pv 0) (pa_cons (pe_bltn (v := .ty "int") (by rfl) T.int (by decide +kernel) rfl) pa_nil)))
      (pe_and (pe_not (pe_callB call_isi (by rfl) T.isi (by decide +kernel) (pa_cons (pv 0) (pa_cons (pe_bltn (v := .ty "bool") (by rfl) T.bool (by decide +kernel) rfl) pa_nil))))
        (pe_one (pe_cmpR op_lt (pe_callB call_abs (by rfl) T.abs (by decide +kernel) (pa_cons (pv 0) pa_nil)) (pe_op op_pow pe_int pe_int) (nomark _)))))), ?_⟩
    refine ⟨_, rfl, v, _, _, _, _, rfl, .ty "int", kd.ty, kit_int kd, _, rfl, ?_⟩
    cases kd with
    | int i => exact iteT ⟨_, rfl, _, _, _, _, _, rfl, .ty "bool", (Kd.int i).ty, kit_bool (Kd.int (H := H) i), _, rfl, _, rfl, iteT ⟨_, rfl, i, rfl, 10, 60, rfl, rfl, c10 (k := 60) (by decide), _, _, rfl, rfl, q⟩⟩
    | bl b => exact iteT ⟨_, rfl, _, _, _, _, _, rfl, .ty "bool", (Kd.bl b).ty, kit_bool (Kd.bl (H := H) b), _, rfl, _, rfl, iteF q⟩
    | _ => exact iteF q
end
end Pr
namespace Pr
open PySem PySem.Spec PyProof.Rows L2
/-! ### the same judge, as a name that is never unfolded -/
theorem there_int : ∃ p : V → Bool, p = isInt := ⟨_, rfl⟩
noncomputable def isIntO : V → Bool := Classical.choose there_int
theorem isIntO_eq : isIntO = isInt := Classical.choose_spec there_int
def spIntO : Sp := fun vs H Q _ => ∃ (v : V) (t : String), vs = [v] ∧ Kd H v t ∧ Q (.bl (isIntO v)) H
theorem spIntO_eq : spIntO = spInt := by
  unfold spIntO spInt
  rw [isIntO_eq]
section
variable {P : Program} {w : World} {K : PySem.W.Frag} {mg : Str → Option Value} {base : Heap}
theorem ok_integerO {f : Addr} {fd : FuncData} (F : Fun K "is_integer" "is_integer" sInteger f fd) (T : Free mg) : FnOk P w K mg base CX0 1 f fd ["value"] spIntO := by
  rw [spIntO_eq]
  exact ok_integer F T
end
end Pr
namespace Pr
open PySem PySem.Spec PyProof.Rows L2 Gd
/-! ### names: by the text's methods, and sign by sign -/
def azC (c : Nat) : Bool := decide (97 ≤ c) && decide (c ≤ 122)
def azB (z : Str) : Bool := decide (1 ≤ z.length) && decide (z.length ≤ 8) && z.cps.toList.all azC
def nameB : V → Bool
  | .str z => azB z
  | _ => false
theorem az_table : ((List.range 128).all fun c => ((Unicode.isAlpha c && !(Unicode.isUpper c || Unicode.isTitle c)) == azC c) && (!azC c || Unicode.isLower c)) = true := by decide +kernel
theorem az_at {c : Nat} (h : c < 128) : (Unicode.isAlpha c && !(Unicode.isUpper c || Unicode.isTitle c)) = azC c ∧ (azC c = true → Unicode.isLower c = true) := by
  have q := List.all_eq_true.mp az_table c (List.mem_range.mpr h)
  rw [Bool.and_eq_true] at q
  refine ⟨eq_of_beq q.1, fun e => ?_⟩
  have q2 := q.2
  rw [e] at q2
  simpa using q2
theorem az_lt {c : Nat} (h : azC c = true) : c < 128 := by
  unfold azC at h
  rw [Bool.and_eq_true] at h
  have := of_decide_eq_true h.2
  omega
/-- the three methods say what the signs say -/
theorem by_methods {z : Str} (h8 : z.length ≤ 8) : (Txt.isascii z && (Txt.isalpha z && Txt.islower z)) = azB z := by
  obtain ⟨⟨l⟩⟩ := z
  have hl : l.length ≤ 8 := h8
  have e1 : Txt.isascii ⟨⟨l⟩⟩ = l.all (· < 128) := by simp [Txt.isascii]
  have e2 : Txt.isalpha ⟨⟨l⟩⟩ = (decide (0 < l.length) && l.all Unicode.isAlpha) := by
    unfold Txt.isalpha
    simp [Str.length]
  have e3 : Txt.islower ⟨⟨l⟩⟩ = (l.any Unicode.isLower && !l.any fun c => Unicode.isUpper c || Unicode.isTitle c) := by simp [Txt.islower]
  have e4 : azB ⟨⟨l⟩⟩ = (decide (1 ≤ l.length) && decide (l.length ≤ 8) && l.all azC) := rfl
  rw [e1, e2, e3, e4, decide_eq_true hl, Bool.and_true]
  apply Bool.eq_iff_iff.mpr
  simp only [Bool.and_eq_true, List.all_eq_true, decide_eq_true_eq, Bool.not_eq_true', List.any_eq_false, List.any_eq_true]
  constructor
  · rintro ⟨a, ⟨b, c⟩, d, e⟩
    refine ⟨b, fun x m => ?_⟩
    rw [← (az_at (a x m)).1, c x m, Bool.true_and]
    have := e x m
    simpa using this
  · rintro ⟨a, b⟩
    have lt : ∀ x ∈ l, x < 128 := fun x m => az_lt (b x m)
    have both : ∀ x ∈ l, Unicode.isAlpha x = true ∧ (Unicode.isUpper x || Unicode.isTitle x) = false := fun x m => by
      have q := (az_at (lt x m)).1
      rw [b x m, Bool.and_eq_true] at q
      exact ⟨q.1, by simpa using q.2⟩
    refine ⟨lt, ⟨a, fun x m => (both x m).1⟩, ?_, fun x m => by rw [(both x m).2]; simp⟩
    cases l with
    | nil => simp at a
    | cons x r => exact ⟨x, List.mem_cons_self, (az_at (lt x List.mem_cons_self)).2 (b x List.mem_cons_self)⟩
def spName : Sp := fun vs H Q _ => ∃ (v : V) (t : String), vs = [v] ∧ Kd H v t ∧ (∀ z, v = .str z → z.length ≤ 1000000) ∧ Q (.bl (nameB v)) H
theorem kit_str {K : PySem.W.Frag} {H : Hp} {v : V} {t : String} (k : Kd H v t) : PySem.W.kitOne K (.type t) (.type "str") = some (match v with | .str _ => true | _ => false) := by
  cases k <;> first | exact kit_ty (r := true) (by decide +kernel) | exact kit_ty (r := false) (by decide +kernel)
/-- a list's address (or any other's) is no text -/
theorem nameB_not {H : Hp} {v : V} {t : String} (k : Kd H v t) (h : ∀ z, v ≠ .str z) : nameB v = false := by
  cases k with
  | str z => exact absurd rfl (h z)
  | _ => rfl
section
variable {P : Program} {w : World} {K : PySem.W.Frag} {mg : Str → Option Value} {base : Heap}
theorem scName : FnScope ["value"] ["value"] (defScope sName) := ⟨rfl, rfl, rfl, by decide +kernel, rfl, by decide +kernel, by decide +kernel⟩
theorem ok_name {f : Addr} {fd : FuncData} {tk : Tok} (F : Fun K "is_name" "is_name" sName f fd) (T : Free mg) (gm : mg "MAX_LETTERS" = some (.int 8 tk)) : FnOk P w K mg base CX0 1 f fd ["value"] spName := by
  refine F.ok scName (fun vs H Q E h => ?_) (fun cdv A outer s H vs Q E hr h => ?_)
  · obtain ⟨v, t, rfl, _⟩ := h
    rfl
  · obtain ⟨v, t, rfl, kd, hz, q⟩ := h
    refine ⟨_, pss_cons (ps_if (PW.pt (pw_or (pt_not (pt_val (pe_callB call_isi (by rfl) T.isi (by decide +kernel) (pa_cons (pv 0) (pa_cons (pe_bltn (v := .ty "str") (by rfl) T.str (by decide +kernel) rfl) pa_nil)))))
        (pw_or1 (pt_cmpR op_gt (pe_callB call_len_str (by rfl) T.len PySem.boot_len (pa_cons (pv 0) pa_nil)) (pe_glob (v := .int 8) (by rfl) gm ⟨_, rfl⟩) (nomark _))))) (pss_one (ps_ret pe_bl)) pss_nil)
      (pss_one (ps_ret (pe_and (pe_bm0 PySem.F.plainAttrs_str PySem.F.slot_str_isascii PySem.F.type_str_isascii mt_isascii (pv 0))
        (pe_and (pe_bm0 PySem.F.plainAttrs_str PySem.F.slot_str_isalpha PySem.F.type_str_isalpha mt_isalpha (pv 0))
          (pe_one (pe_bm0 PySem.F.plainAttrs_str PySem.F.slot_str_islower PySem.F.type_str_islower mt_islower (pv 0))))))), ?_⟩
    refine ⟨_, rfl, v, _, _, _, _, rfl, .ty "str", kd.ty, kit_str kd, _, rfl, ?_⟩
    cases kd with
    | str z =>
      have l := hz z rfl
      refine iteF ⟨_, rfl, z, rfl, by rw [sizeLine_eq]; omega, _, _, rfl, rfl, _, rfl, ite2 (fun c => ?_) (fun c => ?_)⟩
      · have e : nameB (.str z) = false := by
          have c' := of_decide_eq_true c
          show (_ && _ && _) = false
          rw [decide_eq_false (show ¬ z.length ≤ 8 by omega), Bool.and_false, Bool.false_and]
        rw [e] at q
        exact q
      · have c' : ¬ (8 : Int) < z.length := fun h => c (decide_eq_true h)
        have e : nameB (.str z) = (Txt.isascii z && (Txt.isalpha z && Txt.islower z)) := (by_methods (by omega)).symm
        rw [e] at q
        refine ⟨_, rfl, rfl, z, rfl, rfl, trivial, _, rfl, ite2 (fun c1 => ?_) (fun c1 => ?_)⟩
        · rw [c1, Bool.true_and] at q
          refine ⟨_, rfl, rfl, z, rfl, rfl, trivial, _, rfl, ite2 (fun c2 => ?_) (fun c2 => ?_)⟩
          · rw [c2, Bool.true_and] at q
            exact ⟨_, rfl, rfl, z, rfl, rfl, trivial, q⟩
          · rw [Bool.eq_false_iff.mpr c2, Bool.false_and] at q
            exact q
        · rw [Bool.eq_false_iff.mpr c1, Bool.false_and] at q
          exact q
    | _ => exact iteT (iteT q)
end
/-! ### a list beside the empty one -/
def rEqE (K : PySem.W.Frag) : R2 := fun x y H Q => ∃ a b xs, x = .ref a ∧ y = .ref b ∧ SqL K H a xs ∧ SqL K H b [] ∧ Q (.bl xs.isEmpty) H
theorem op_eqE {X : Cx} (hu : X.A.units + 64 < cLine) : OpR X (compareOp .Eq) (rEqE X.K) := by
  intro pins s σ H x y v u Q I rx ry h
  obtain ⟨a, b, xs, rfl, rfl, ha, hb, q⟩ := h
  cases (show v = Value.ref a from rx)
  cases (show u = Value.ref b from ry)
  obtain ⟨us, r1, p1, _⟩ := I.list ha
  obtain ⟨ws, r2, p2, _⟩ := I.list hb
  have l2 : ws.length = 0 := r2.length.symm
  have l1 : us.length = xs.length := r1.length.symm
  cases xs with
  | nil =>
    have hsz : us.toArray.size = ws.toArray.size := by
      rw [List.size_toArray, List.size_toArray, l1, l2]
      rfl
    have z := SeqAt.RcAt.lists (e := fun _ => true) p1.isList p2.isList hsz (A := X.A) (s := s) (by omega) (fun j h1 h2 => by
      rw [List.size_toArray, l1] at h1
      exact absurd h1 (Nat.not_lt_zero _))
    rw [show ((List.range us.toArray.size).all fun _ => true) = true from List.all_eq_true.mpr fun _ _ => rfl] at z
    exact z X.prog X.w _ _ ⟨.bl true, H, I, rfl, q⟩
  | cons x r =>
    have hsz : (us.toArray.size != ws.toArray.size) = true := by
      rw [List.size_toArray, List.size_toArray, l1, l2]
      rfl
    exact SeqAt.RcAt.lists_lengths p1.isList p2.isList hsz (A := X.A) (s := s) (by omega) X.prog X.w _ _ ⟨.bl false, H, I, rfl, q⟩
/-- a comprehension over the signs of a text -/
theorem lc_signs {x : Str} {g : TG} {tt : TT} {te : TE} {vs : List Nat} {σ : L2.St} {H1 : Hp} {D : Addr} {Qd : Hp → Prop} (Pv : Nat → Hp → Prop) (h0 : Pv 0 (upd H1 D (.lst [])))
    (hs : ∀ i c H, x.cps[i]? = some c → Pv i H → g (.str ⟨#[c]⟩) (wipe σ vs) H fun σ2 H2 => wipe σ2 vs = wipe σ vs ∧ tt σ2 H2 fun b H3 =>
      if b = true then te σ2 H3 fun y H4 => ∃ acc, H4 D = some (.lst acc) ∧ acc.length < sizeLine ∧ Pv (i + 1) (upd H4 D (.lst (acc ++ [y]))) else Pv (i + 1) H3) (hd : ∀ H, Pv x.cps.size H → Qd H) :
    ∃ W : Nat → Nat → Hp → Prop, (∃ m, W 0 m (upd H1 D (.lst []))) ∧ ∀ i m H, W i m H →
      ((Its x).stop i H ∧ Qd H) ∨ ((Its x).go i H ∧ ∃ Nx : Hp → Prop, (∀ H', Nx H' → ∃ m', m' < m ∧ W (i + 1) m' H') ∧ ∀ y H', (Its x).yld i H y H' → g y (wipe σ vs) H' fun σ2 H2 => wipe σ2 vs = wipe σ vs ∧ tt σ2 H2 fun b H3 =>
        if b = true then te σ2 H3 fun y H4 => ∃ acc, H4 D = some (.lst acc) ∧ acc.length < sizeLine ∧ Nx (upd H4 D (.lst (acc ++ [y]))) else Nx H3) := by
  refine ⟨fun i m H => m = x.cps.size - i ∧ i ≤ x.cps.size ∧ Pv i H, ⟨x.cps.size, by simp, Nat.zero_le _, h0⟩, ?_⟩
  rintro i m H ⟨rfl, hi, p⟩
  rcases Nat.lt_or_ge i x.cps.size with lt | ge
  · refine .inr ⟨lt, Pv (i + 1), fun H' p' => ⟨x.cps.size - (i + 1), by omega, rfl, lt, p'⟩, fun y H' h => ?_⟩
    obtain ⟨rfl, c, hc, rfl⟩ := h
    exact hs i c _ hc p
  · obtain rfl : i = x.cps.size := Nat.le_antisymm hi ge
    exact .inl ⟨Nat.le_refl _, hd H p⟩
end Pr
namespace Pr
open PySem PySem.Spec PyProof.Rows L2 Gd
/-! ### are_arities of any value -/
/-- a value that is no reference -/
def Fl (v : V) : Prop := ∀ H : Hp, ∃ ty, Kd H v ty
theorem Fl.non : Fl .non := fun _ => ⟨_, .non⟩
theorem Fl.int (i : Int) : Fl (.int i) := fun _ => ⟨_, .int i⟩
theorem Fl.bl (b : Bool) : Fl (.bl b) := fun _ => ⟨_, .bl b⟩
theorem Fl.str (z : Str) : Fl (.str z) := fun _ => ⟨_, .str z⟩
def in02 : V → Bool
  | .int i => decide (0 ≤ i) && decide (i ≤ 2)
  | _ => false
noncomputable def goodP (p : Key × V) : Bool := nameB (kV p.1) && (isIntO p.2 && in02 p.2)
noncomputable def goodK (kvs : List (Key × V)) : Bool := decide (1 ≤ kvs.length) && (decide (kvs.length ≤ 8) && kvs.all goodP)
structure Nice (kvs : List (Key × V)) : Prop where
  nd : (kvs.map (·.1)).Nodup
  few : kvs.length ≤ 1000
  flat : ∀ p ∈ kvs, Fl p.2
  key : ∀ p ∈ kvs, ∀ z, p.1 = .inr z → z.length ≤ 1000000
inductive AreB (H : Hp) : V → Bool → Prop where
  | not {v : V} {ty : String} (k : Kd H v ty) (n : ty ≠ "dict") : AreB H v false
  | dict {a : Addr} {kvs : List (Key × V)} (e : H a = some (.dK kvs)) (n : Nice kvs) : AreB H (.ref a) (goodK kvs)
theorem AreB.same {H H' : Hp} {v : V} {b : Bool} (h : AreB H v b) (s : Same H H') : AreB H' v b := by
  cases h with
  | not k n => exact .not (k.same s) n
  | dict e n => exact .dict (s _ _ e) n
theorem val_mem : ∀ {kvs : List (Key × V)} {p : Key × V}, (kvs.map (·.1)).Nodup → p ∈ kvs → valV kvs p.1 = some p.2
  | q :: r, p, nd, m => by
    have nd' := List.nodup_cons.mp nd
    rcases List.mem_cons.mp m with e | m
    · subst e
      exact valV_pos rfl
    · have ne : q.1 ≠ p.1 := fun e => nd'.1 (by show q.1 ∈ _; rw [e]; exact List.mem_map_of_mem m)
      show valV ((q.1, q.2) :: r) p.1 = _
      rw [valV_neg ne]
      exact val_mem nd'.2 m
theorem isIntO_int {v : V} (h : isIntO v = true) : ∃ i, v = .int i := by
  rw [isIntO_eq] at h
  cases v with
  | int i => exact ⟨i, rfl⟩
  | _ => cases h
def spAre7 : Sp := fun vs H Q _ => ∃ (v : V) (b : Bool), vs = [v] ∧ AreB H v b ∧ ∀ H', Same H H' → Q (.bl b) H'
section
variable {P : Program} {w : World} {K : PySem.W.Frag} {mg : Str → Option Value} {base : Heap} {fI fN : Addr} {dI dN : FuncData} {tk tk2 : Tok}
theorem scAre : FnScope ["value", "name"] ["value"] (defScope sAre) := ⟨rfl, rfl, rfl, by decide +kernel, rfl, by decide +kernel, by decide +kernel⟩
theorem ok_are7 {f : Addr} {fd : FuncData} (F : Fun K "are_arities" "are_arities" sAre f fd) (T : Free mg) (gm : mg "MAX_LETTERS" = some (.int 8 tk)) (gm2 : mg "MAX_OPERATORS" = some (.int 8 tk2)) (FN : Fun K "is_name" "is_name" sName fN dN) (bN : Binds K dN ["value"] []) (gN : mg "is_name" = some (.ref fN))
    (FI : Fun K "is_integer" "is_integer" sInteger fI dI) (bI : Binds K dI ["value"] []) (gI : mg "is_integer" = some (.ref fI)) : FnOk P w K mg base CX0 2 f fd ["value"] spAre7 := by
  have GN : FnOk P w K mg base CX0 1 fN dN ["value"] spName := ok_name FN T gm
  have GI : FnOk P w K mg base CX0 1 fI dI ["value"] spIntO := ok_integerO FI T
  refine F.ok scAre (fun vs H Q E h => ?_) (fun cdv A outer s H vs Q E hr h => ?_)
  · obtain ⟨v, b, rfl, _⟩ := h
    rfl
  · obtain ⟨v, b, rfl, ab, q⟩ := h
    have hu := hr.units
    have hu1 : ∀ {u : Nat}, u + 64 < cLine → u + 1 < cLine := fun h => by omega
    refine ⟨_, pss_cons (ps_if (PW.pt (pw_or (pt_not (pt_val (pe_callB call_isi (by rfl) T.isi (by decide +kernel) (pa_cons (pv 0) (pa_cons (pe_bltn (v := .ty "dict") (by rfl) T.dict (by decide +kernel) rfl) pa_nil))))) (pw_or1 (pt_not (pt_chain op_le op_le pe_int (pe_callB call_lenD (by rfl) T.len PySem.boot_len (pa_cons (pv 0) pa_nil)) (pe_glob (v := .int 8) (by rfl) gm2 ⟨_, rfl⟩)))))) (pss_one (ps_ret pe_bl)) pss_nil) (pss_one (ps_ret (pe_callB (cr_all rfl) (by rfl) T.all (by decide +kernel) (pa_cons (pe_lock (pe_lc (own := [("name", 1)]) (g := gName 1) (by rfl) scAre.nd (pi_keys (pv 0)) (blkOk_by (own := [("name", 1)]) (N := ["value", "name"]) (sc := defScope sAre) (by decide +kernel)) (fun _ _ _ _ _ => pg_name (i := 1) scAre.nd rfl (Or.inl rfl)) (fun _ _ _ _ _ => pts_nil) (fun _ _ _ _ _ => pe_and (pe_call GN hr (by rfl) gN FN.kp bN .nil pass0 (pa_cons (pv 1) pa_nil)) (pe_and (pe_call GI hr (by rfl) gI FI.kp bI .nil pass0 (pa_cons (pe_dget (hu1 hu) (pv 0) (pv 1) (fun _ _ => rfl)) pa_nil)) (pe_one (pe_chain op_le op_le pe_int (pe_dget (hu1 hu) (pv 0) (pv 1) (fun _ _ => rfl)) pe_int)))))) pa_nil)))), ?_⟩
    cases ab with
    | @not v ty kd ne =>
      refine ⟨_, rfl, v, _, _, _, false, rfl, .ty "dict", kd.ty, ?_, _, rfl, iteT (q _ (Same.refl _))⟩
      cases kd <;> first | exact absurd rfl ne | exact kit_ty (r := false) (by decide +kernel)
    | @dict a kvs ha nice =>
      have few := nice.few
      refine ⟨_, rfl, .ref a, _, _, _, true, rfl, .ty "dict", (Kd.dK ha).ty, kit_ty (r := true) (by decide +kernel), _, rfl, iteF ⟨_, rfl, a, _, rfl, ha, _, _, rfl, rfl, _, rfl, ?_⟩⟩
      by_cases c1 : 1 ≤ kvs.length
      · refine if_true_of (decide_eq_true (by omega)) ⟨_, _, rfl, rfl, _, rfl, ?_⟩
        by_cases c8 : kvs.length ≤ 8
        · have e8 : decide ((kvs.length : Int) ≤ 8) = true := decide_eq_true (by omega)
          rw [e8]
          refine if_false_of rfl ?_
          have eg : goodK kvs = kvs.all goodP := by
            unfold goodK
            rw [decide_eq_true c1, decide_eq_true c8, Bool.true_and, Bool.true_and]
          rw [eg] at q
          refine ⟨a, _, ha, trivial, fun od => ⟨_, rfl, a, od, rfl, .inl ⟨kvs, upd_same, fun D nD => ?_⟩⟩⟩
          have aD : a ≠ D := ne_of_none upd_same nD
          have nHD : H D = none := by
            rw [upd_ne aD.symm] at nD
            exact nD
          refine lc_it walk_keys (fun i G => G D = some (.lst ((kvs.take i).map fun p => V.bl (goodP p))) ∧ G a = some (.frz od (.dK kvs)) ∧ ∀ b u, b ≠ a → H b = some u → G b = some u) ⟨upd_same, by rw [upd_ne aD, upd_same], fun b u nb e => by rw [upd_ne (ne_of_none e nHD), upd_ne nb]; exact e⟩
            (fun i G _ ⟨_, h, _⟩ => h) ?_ ?_
          · rintro i x G G' hi ⟨eD, eA, sm⟩ ⟨rfl, k, v, hk, rfl⟩
            have mp : (k, v) ∈ kvs := List.mem_of_getElem? hk
            have dg : DGet G' a (kV k) (some v) := val_mem nice.nd mp ▸ (.inl ⟨kvs, k, .inr ⟨od, eA⟩, rfl, rfl⟩)
            obtain ⟨tv, kv⟩ := nice.flat _ mp G'
            have fin : ∃ acc, G' D = some (.lst acc) ∧ acc.length < sizeLine ∧ ((upd G' D (.lst (acc ++ [V.bl (goodP (k, v))]))) D = some (.lst ((kvs.take (i + 1)).map fun p => V.bl (goodP p))) ∧ (upd G' D (.lst (acc ++ [V.bl (goodP (k, v))]))) a = some (.frz od (.dK kvs)) ∧ ∀ b u, b ≠ a → H b = some u → (upd G' D (.lst (acc ++ [V.bl (goodP (k, v))]))) b = some u) := by
              refine ⟨_, eD, ?_, ?_, by rw [upd_ne aD]; exact eA, fun b u nb e => by rw [upd_ne (ne_of_none e nHD)]; exact sm b u nb e⟩
              · have := (List.getElem?_eq_some_iff.mp hk).1
                rw [List.length_map, List.length_take, sizeLine_eq]
                omega
              · rw [upd_same, List.take_add_one, hk, List.map_append]
                rfl
            have kk : ∃ ty, Kd G' (kV k) ty := by
              cases k with
              | inl i => exact ⟨_, .int i⟩
              | inr z => exact ⟨_, .str z⟩
            obtain ⟨ty, kk⟩ := kk
            have hz : ∀ z, kV k = .str z → z.length ≤ 1000000 := fun z e => by
              cases k with
              | inl i => cases e
              | inr y =>
                cases e
                exact nice.key _ mp _ rfl
            refine ⟨rfl, _, rfl, kV k, ty, rfl, kk, hz, _, rfl, ite2 (fun n1 => ?_) (fun n1 => ?_)⟩
            · refine ⟨_, rfl, _, rfl, a, _, rfl, dg, v, tv, rfl, kv, _, rfl, ite2 (fun n2 => ?_) (fun n2 => ?_)⟩
              · obtain ⟨j, rfl⟩ := isIntO_int n2
                refine ⟨_, rfl, _, rfl, a, _, rfl, dg, _, _, rfl, rfl, _, rfl, ite2 (fun n3 => ?_) (fun n3 => ?_)⟩
                · refine ⟨_, _, rfl, rfl, ?_⟩
                  have e : goodP (k, V.int j) = decide (j ≤ 2) := by
                    unfold goodP
                    rw [n1, n2, Bool.true_and, Bool.true_and]
                    show (decide (0 ≤ j) && decide (j ≤ 2)) = _
                    rw [n3, Bool.true_and]
                  rw [e] at fin
                  exact fin
                · have e : goodP (k, V.int j) = false := by
                    unfold goodP
                    rw [n1, n2, Bool.true_and, Bool.true_and]
                    show (decide (0 ≤ j) && decide (j ≤ 2)) = _
                    rw [Bool.eq_false_iff.mpr n3, Bool.false_and]
                  rw [e] at fin
                  exact fin
              · have e : goodP (k, v) = false := by
                  unfold goodP
                  rw [Bool.eq_false_iff.mpr n2, Bool.false_and, Bool.and_false]
                rw [e] at fin
                exact fin
            · have e : goodP (k, v) = false := by
                unfold goodP
                rw [Bool.eq_false_iff.mpr n1, Bool.false_and]
              rw [e] at fin
              exact fin
          · rintro G ⟨eD, eA, sm⟩
            refine ⟨eA, D, kvs.map goodP, rfl, SqL.of ?_, ?_⟩
            · rw [upd_ne aD.symm, eD, List.take_of_length_le (Nat.le_refl _), List.map_map]
              rfl
            · have e : (kvs.map goodP).all id = kvs.all goodP := by
                rw [List.all_map]
                rfl
              rw [e]
              refine q _ fun b u hb => ?_
              by_cases c : b = a
              · rw [c] at hb ⊢
                rw [upd_same, ← ha, hb]
              · rw [upd_ne c]
                exact sm b u c hb
        · have e8 : decide ((kvs.length : Int) ≤ 8) = false := decide_eq_false (by omega)
          rw [e8]
          have eg : goodK kvs = false := by
            unfold goodK
            rw [decide_eq_false c8, Bool.false_and, Bool.and_false]
          rw [eg] at q
          exact if_true_of rfl (q _ (Same.refl _))
      · have eg : goodK kvs = false := by
          unfold goodK
          rw [decide_eq_false c1, Bool.false_and]
        rw [eg] at q
        refine if_false_of (decide_eq_false (by omega)) ⟨_, rfl, if_true_of rfl (q _ (Same.refl _))⟩
end
end Pr
/-! ### list(d.values()) -/
namespace Lv
open PySem PySem.Spec PyProof.Rows L2
def tListVals (te : TE) : TE := fun σ H Q => te σ H fun x H1 => ∃ (d : Addr) (kvs : List (Key × V)), x = .ref d ∧ H1 d = some (.dK kvs) ∧ ∀ p, H1 p = none → Q (.ref p) (upd H1 p (.lst (kvs.map (·.2))))
theorem vals_snd {kvs : List (Key × V)} {vs : List (Key × Value)} (r : KV kvs vs) : Vals (kvs.map (·.2)) (vs.map (·.2)) := by
  unfold KV at r
  induction r with
  | nil => exact .nil
  | cons r t ih => exact .cons r.2 ih
section
variable {X : Cx} {e : Expr} {te : TE} {p apos cpos pos : Pos}
theorem pe_listVals (hc : X.calm = true) (he : PE X e te) (hg : Gl X "list") (hm : X.mg "list" = none) (hv : bootBuiltins "list" = some (.type "list")) (hbase : attributeBase e "values" X.env (eval e X.env) = eval e X.env := by rfl) (hline : (apos.endLine == cpos.line) = true := by rfl)
    (hs : starEach [.Call (.Attribute e "values" apos) [] [] cpos] X.env = (false, eval (.Call (.Attribute e "values" apos) [] [] cpos) X.env) :: starEach [] X.env := by rfl) :
    PE X (.Call (.Name "list" p) [.Call (.Attribute e "values" apos) [] [] cpos] [] pos) (tListVals te) := by
  refine ⟨fun pins s σ H Q I hq => ?_⟩
  refine wpAny_Call_Name_kw (ld_blt I hg hm hv ?_)
  refine PyProof.Rows.callWith_type1 ?_ hs rfl
  rw [hs]
  show wpAny _ _ (spliced ((false, eval (.Call (.Attribute e "values" apos) [] [] cpos) X.env) :: backTo pos (starEach [] X.env))) _ _ s
  refine Calls.spliced_cons ?_
  refine wpAny_Call_method (T := "dict") (id := "dict.values") hbase rfl hline F.plainAttrs_dict F.slot_dict_values F.type_dict_values (thn (he.run pins s σ H _ I hq) fun u s1 ⟨x, H1, I1, rx, d, kvs, ex, hd, q⟩ => ?_)
  subst ex
  obtain rfl : u = Value.ref d := rx
  obtain ⟨hz, hs0, vs, kv, hdo⟩ := I1.hok d _ hd
  obtain ⟨ep, hat⟩ := hdo.dictAt
  have lk : kvs.length = vs.length := Paired.length kv
  have I2 : Inv X pins σ H1 { s1 with heap := s1.heap.push { cls := .type "dict_values", data := .fields #[.ref d] } } := I1.kept (t' := s1.toks) fun b ob q => Heap.get?_push_of_some _ q
  refine ⟨hdo.typeIs, hdo.mapOf.noDict, ?_⟩
  show wpAny _ _ (callWith cpos (.builtin "dict.values") [.ref d] [] []) _ X.xe s1
  refine method_meetsIn F.slot_dict_values F.entry_dict_values rfl (PySem.evalArgs_none ⟨rfl, hdo.typeIs, F.args_dict_values_1 _, _, meets_dict_values (mixKind X.prog X.w) d hs0, ⟨vs, hdo⟩, ?_⟩)
  refine Calls.spliced_nil ?_
  refine PySem.W.kdl_call (PySem.W.kdl_values (knd := mixKind X.prog X.w) (kvs := vs) (ep := ep)) (I1.ok.hd hc) ⟨⟨_, Heap.get?_push_size _ rfl, rfl, rfl⟩, hat.push _⟩ (by omega) fun h' tk acc c hk hS hacc => ?_
  have ev : acc.toList = vs.map (·.2) := PySem.W.kdl_vals_eq acc.toList (by rw [Array.length_toList]; exact hacc.1) fun j v e => hacc.2 j v (by rw [← Array.getElem?_toList]; exact e)
  refine ⟨.ref _, _, I2.laid (o := .lst (kvs.map (·.2))) (t' := tk) hk (Nat.le_refl _) ⟨by rw [List.length_map]; omega, vs.map (·.2), c, vals_snd kv, ?_⟩, rfl, q _ (I2.hok.fresh (Nat.le_refl _))⟩
  rw [← ev, Array.toArray_toList]
  exact hS
end
end Lv
namespace Pr
open PySem PySem.Spec PyProof.Rows L2 Gd
/-! ### Operators(arities) -/
/-- what is known of the class -/
structure OpF (K : PySem.W.Frag) (C : Addr) : Prop where
  cls : Cls K C
  n1 : NoAttr K C "_names"
  n2 : NoAttr K C "_arities"
  n3 : NoAttr K C "_lines"
  n4 : NoAttr K C "_many"
  n5 : NoAttr K C "_counts"
  n6 : NoAttr K C "_rows"
/-- the line of an operator -/
def lnS (p : Str × Nat) : Str := Str.empty ++ ("op " : Str) ++ p.1 ++ (" " : Str) ++ Str.ofString (toString (p.2 : Int))
def lnV (p : Str × Nat) : V := .str (lnS p)
/-- what is known of InvalidOperators -/
structure IopF (K : PySem.W.Frag) (mg : Str → Option Value) (CI : Addr) : Prop where
  x : PySem.W.excIn K CI [.type "ValueError", .type "Exception", .type "BaseException", .type "object"] "ValueError.__new__" = true
  g : mg "InvalidOperators" = some (.ref CI)
  k : PySem.W.keepIn K (.ref CI) = true
  b : PySem.W.subIn K (.ref CI) (.type "BaseException") = some true
  t : PySem.W.typeIn K (.ref CI) = some (.type "type")
/-- operators that are let -/
structure OpsOk (l : List (Str × Nat)) : Prop where
  few : 1 ≤ l.length ∧ l.length ≤ 8
  nd : (l.map (·.1)).Nodup
  name : ∀ p ∈ l, azB p.1 = true
  two : ∀ p ∈ l, p.2 ≤ 2
theorem Ars.ok {l : List (Str × Nat)} (h : Ars l) : OpsOk l := by
  refine ⟨by have := h.few; omega, h.nd, fun p m => ?_, h.two⟩
  have t : ∀ z ∈ Pr.pool, azB z = true := by decide +kernel
  exact t _ (h.pool p m)
theorem good_one {p : Key × V} (h : goodP p = true) : ∃ (z : Str) (n : Nat), p = (.inr z, .int (n : Int)) ∧ azB z = true ∧ n ≤ 2 := by
  obtain ⟨k, v⟩ := p
  unfold goodP at h
  rw [Bool.and_eq_true, Bool.and_eq_true] at h
  obtain ⟨h1, h2, h3⟩ := h
  obtain ⟨i, rfl⟩ := isIntO_int h2
  have h3' : (decide (0 ≤ i) && decide (i ≤ 2)) = true := h3
  rw [Bool.and_eq_true] at h3'
  have a := of_decide_eq_true h3'.1
  have b := of_decide_eq_true h3'.2
  cases k with
  | inl j => cases h1
  | inr z => exact ⟨z, i.toNat, by rw [Int.toNat_of_nonneg a], h1, by omega⟩
theorem good_list : ∀ {kvs : List (Key × V)}, kvs.all goodP = true → ∃ l : List (Str × Nat), kvs = dkv l ∧ (∀ p ∈ l, azB p.1 = true) ∧ ∀ p ∈ l, p.2 ≤ 2
  | [], _ => ⟨[], rfl, fun _ m => (nomatch m), fun _ m => (nomatch m)⟩
  | p :: r, h => by
    rw [List.all_cons, Bool.and_eq_true] at h
    obtain ⟨z, n, rfl, a, b⟩ := good_one h.1
    obtain ⟨l, rfl, x, y⟩ := good_list h.2
    refine ⟨(z, n) :: l, rfl, fun q m => ?_, fun q m => ?_⟩
    · rcases List.mem_cons.mp m with rfl | m
      · exact a
      · exact x q m
    · rcases List.mem_cons.mp m with rfl | m
      · exact b
      · exact y q m
theorem keys_dkv (l : List (Str × Nat)) : (dkv l).map (·.1) = (l.map (·.1)).map Sum.inr := by
  unfold dkv
  rw [List.map_map, List.map_map]
  rfl
theorem good_ok {kvs : List (Key × V)} (n : Nice kvs) (h : goodK kvs = true) : ∃ l : List (Str × Nat), kvs = dkv l ∧ OpsOk l := by
  unfold goodK at h
  rw [Bool.and_eq_true, Bool.and_eq_true] at h
  obtain ⟨h1, h8, h⟩ := h
  obtain ⟨l, rfl, x, y⟩ := good_list h
  have e : (dkv l).length = l.length := List.length_map _
  have h1 := of_decide_eq_true h1
  have h8 := of_decide_eq_true h8
  have nd := n.nd
  rw [keys_dkv] at nd
  exact ⟨l, rfl, ⟨by omega, List.Pairwise.of_map Sum.inr (fun a b h e => h (congrArg _ e)) nd, x, y⟩⟩
theorem good_of {l : List (Str × Nat)} (ok : OpsOk l) : Nice (dkv l) ∧ goodK (dkv l) = true := by
  have e : (dkv l).length = l.length := List.length_map _
  have few := ok.few
  have z8 : ∀ p ∈ l, p.1.length ≤ 8 := fun p m => by
    have h2 : (decide (1 ≤ p.1.length) && decide (p.1.length ≤ 8) && p.1.cps.toList.all azC) = true := ok.name p m
    simp only [Bool.and_eq_true, decide_eq_true_eq] at h2
    omega
  have at_ : ∀ p ∈ dkv l, ∃ q ∈ l, p = (.inr q.1, .int (q.2 : Int)) := fun p m => by
    obtain ⟨q, mq, e⟩ := List.mem_map.mp m
    exact ⟨q, mq, e.symm⟩
  refine ⟨⟨by rw [keys_dkv]; exact List.Pairwise.map Sum.inr (fun a b h e => h (Sum.inr.inj e)) ok.nd, by omega, fun p m => ?_, fun p m z ez => ?_⟩, ?_⟩
  · obtain ⟨q, mq, rfl⟩ := at_ p m
    exact Fl.int _
  · obtain ⟨q, mq, rfl⟩ := at_ p m
    cases ez
    have := z8 q mq
    omega
  · unfold goodK
    rw [decide_eq_true (by omega), decide_eq_true (by omega), Bool.true_and, Bool.true_and, List.all_eq_true]
    intro p m
    obtain ⟨q, mq, rfl⟩ := at_ p m
    unfold goodP
    have h1 : nameB (kV (.inr q.1 : Key)) = true := ok.name q mq
    have h2 := ok.two q mq
    have h3 : isIntO (.int (q.2 : Int)) = true := by
      rw [isIntO_eq]
      show decide ((if (q.2 : Int) < 0 then -(q.2 : Int) else q.2) < 10 ^ (60 : Int).toNat) = true
      have e : ((10 : Int) ^ (60 : Int).toNat) = ((10 ^ 60 : Nat) : Int) := by decide +kernel
      rw [if_neg (by omega), e, decide_eq_true (by omega)]
    have h4 : in02 (.int (q.2 : Int)) = true := by
      show (decide (0 ≤ (q.2 : Int)) && decide ((q.2 : Int) ≤ 2)) = true
      rw [decide_eq_true (by omega), decide_eq_true (by omega)]
      rfl
    rw [h1, h3, h4]
    rfl
/-- operators over l at o -/
structure OpsAt (H : Hp) (C o : Addr) (l : List (Str × Nat)) : Prop where
  ex : ∃ (dx tn ta : Addr) (tl : Addr × Addr × Addr × Addr), H o = some (.ins C dx [("_names", .ref tn), ("_arities", .ref ta), ("_lines", .ref tl.1), ("_many", .ref tl.2.1), ("_counts", .ref tl.2.2.1), ("_rows", .ref tl.2.2.2)]) ∧ H tn = some (.tup (l.map fun p => V.str p.1)) ∧ H ta = some (.dK (dkv l)) ∧ H tl.1 = some (.tup (l.map lnV))
theorem OpsAt.same {H H' : Hp} {C o : Addr} {l : List (Str × Nat)} (h : OpsAt H C o l) (s : Same H H') : OpsAt H' C o l :=
  let ⟨dx, tn, ta, tl, a, b, c, e⟩ := h.ex
  ⟨dx, tn, ta, tl, s _ _ a, s _ _ b, s _ _ c, s _ _ e⟩
abbrev t_line : TE := fun σ H Q => tJs [tC (V.str "op "), tFmt (tVar 2), tC (V.str " "), tFmt (tDGet (tVar 1) (tVar 2))] Str.empty σ H fun out H1 => Q (V.str out) H1
/-- a statement that isn't met -/
def tNever : TS := fun _ _ _ => False
theorem ps_never {X : Cx} {st : Stmt} : PS X st tNever := ⟨fun _ _ _ _ _ _ h => False.elim h⟩
def spInit (C CI : Addr) : Sp := fun vs H Q E => ∃ (x dx : Addr) (v : V) (b : Bool), vs = [.ref x, v] ∧ H x = some (.ins C dx []) ∧ AreB H v b ∧ (b = false → ∀ H', Same H H' → E (.ref CI) none H') ∧
  (∀ a l, b = true → v = .ref a → H a = some (.dK (dkv l)) → OpsOk l → ∀ (l' : List (Str × Nat)) (H' : Hp), l'.Perm l → sortedS (l'.map (·.1)) = true → Kp x H H' → OpsAt H' C x l' → Q .non H')
section
variable {P : Program} {w : World} {K : PySem.W.Frag} {mg : Str → Option Value} {base : Heap} {C CI fA : Addr} {dA : FuncData}
theorem scInit : FnScope ["self", "arities", "name", "told"] ["self", "arities"] (defScope mInit) := ⟨rfl, rfl, rfl, by decide +kernel, rfl, by decide +kernel, by decide +kernel⟩
theorem ok_init {f : Addr} {fd : FuncData} (F : Fun K "__init__" "Operators.__init__" mInit f fd) (T : Free mg) (CF : OpF K C) (IO : IopF K mg CI) (GA : FnOk P w K mg base CX0 2 fA dA ["value"] spAre7) (FA : Fun K "are_arities" "are_arities" sAre fA dA) (bA : Binds K dA ["value"] []) (gA : mg "are_arities" = some (.ref fA)) :
    FnOk P w K mg base (L2.CX P w) 3 f fd ["self", "arities"] (spInit C CI) := by
  refine F.okX scInit (fun vs H Q E h => ?_) (fun cdv A outer s H vs Q E hr h => ?_)
  · obtain ⟨x, dx, v, b, rfl, _⟩ := h
    rfl
  · obtain ⟨x, dx, v, b, rfl, hx, ab, qe, q0⟩ := h
    have hu := hr.units
    have hu1 : ∀ {u : Nat}, u + 64 < cLine → u + 1 < cLine := fun h => by omega
    refine ⟨_, pss_cons (ps_if (pt_not (pt_val (pe_call GA hr (by rfl) gA FA.kp bA .nil pass0 (pa_cons (pv 1) pa_nil)))) (pss_one (ps_raise rfl (takes_of rfl rfl rfl rfl) (pmk_own PySem.F.excBase_ValueError IO.x IO.g IO.k (raises_own IO.b IO.t) rfl))) pss_nil) (pss_cons (ps_fld (pv 0) (pe_callTy call_tuple_of (by rfl) T.tuple (by decide +kernel) (pa_cons (pe_callB (call_sortedD (by rfl)) (by rfl) T.sorted (by decide +kernel) (pa_cons (pv 1) pa_nil)) pa_nil)) rfl) (pss_cons (ps_fld (pv 0) (pe_dc (own := [("name", 2)]) (g := gName 2) (by rfl) scInit.nd (pi_tup (pe_fld (pv 0) rfl)) (blkOk_by (own := [("name", 2)]) (N := ["self", "arities", "name", "told"]) (sc := defScope mInit) (by decide +kernel)) (fun _ _ _ _ _ => pg_name (i := 2) scInit.nd rfl (Or.inl rfl)) (fun _ _ _ _ _ => pts_nil) (fun _ _ _ _ _ => pv 2) (fun _ _ _ _ _ => pe_dget (hu1 hu) (pv 1) (pv 2) (fun _ _ => rfl))) rfl) (pss_cons (ps_fld (pv 0) (pe_callTy call_tuple_of (by rfl) T.tuple (by decide +kernel) (pa_cons (pe_lc (own := [("name", 2)]) (g := gName 2) (by rfl) scInit.nd (pi_tup (pe_fld (pv 0) rfl)) (blkOk_by (own := [("name", 2)]) (N := ["self", "arities", "name", "told"]) (sc := defScope mInit) (by decide +kernel)) (fun _ _ _ _ _ => pg_name (i := 2) scInit.nd rfl (Or.inl rfl)) (fun _ _ _ _ _ => pts_nil) (fun _ _ _ _ _ => pe_joined (.cons pe_str (.cons (pe_fmt (pv 2)) (.cons pe_str (.cons (pe_fmt (pe_dget (hu1 hu) (pv 1) (pv 2) (fun _ _ => rfl))) .nil)))))) pa_nil)) rfl) (pss_cons (ps_set (i := 3) scInit.nd rfl (.inl rfl) (Lv.pe_listVals rfl (pv 1) (by rfl) T.list (by decide +kernel))) (pss_cons (ps_fld (pv 0) (pe_tup (pa_cons (pe_bm PySem.F.plainAttrs_list PySem.F.slot_list_count PySem.F.type_list_count mt_lcount (pv 3) (pa_cons pe_int pa_nil)) (pa_cons (pe_bm PySem.F.plainAttrs_list PySem.F.slot_list_count PySem.F.type_list_count mt_lcount (pv 3) (pa_cons pe_int pa_nil)) (pa_cons (pe_bm PySem.F.plainAttrs_list PySem.F.slot_list_count PySem.F.type_list_count mt_lcount (pv 3) (pa_cons pe_int pa_nil)) pa_nil)))) rfl) (pss_cons (ps_fld (pv 0) (pe_lst (pa_cons pe_int (pa_cons (pe_ix ix_tup (pe_fld (pv 0) rfl) pe_int (fun _ _ => rfl)) pa_nil))) rfl) (pss_one (ps_fld (pv 0) (pe_lst pa_nil) rfl)))))))), ?_⟩
    refine ⟨_, rfl, v, b, rfl, ab, fun H1 s1 => ⟨_, rfl, ?_⟩⟩
    cases b with
    | false => exact if_true_of rfl (qe rfl H1 s1)
    | true =>
    refine if_false_of rfl ?_
    obtain ⟨a, kvs, rfl, ha, eg, nice⟩ : ∃ a kvs, v = .ref a ∧ H a = some (.dK kvs) ∧ goodK kvs = true ∧ Nice kvs := by
      have go : ∀ {b : Bool}, AreB H v b → b = true → ∃ a kvs, v = .ref a ∧ H a = some (.dK kvs) ∧ goodK kvs = true ∧ Nice kvs := fun ab eb => by
        cases ab with
        | not _ _ => cases eb
        | dict e n => exact ⟨_, _, rfl, e, eb, n⟩
      exact go ab rfl
    obtain ⟨l, rfl, ok⟩ := good_ok nice eg
    have q0 := q0 a l rfl rfl ha ok
    have few := ok.few
    have xa : x ≠ a := fun e => by
      rw [e, ha] at hx
      cases hx
    refine ⟨_, rfl, a, dkv l, l.map (·.1), rfl, Rd.of (s1 _ _ ha), by unfold dkv; rw [List.map_map, List.map_map]; rfl, by rw [List.length_map]; omega, fun ks ns pk srt nns => ?_⟩
    obtain ⟨l', pl, rfl⟩ := perm_map pk
    refine ⟨ns, _, rfl, .inl ⟨SqL.of upd_same, fun t nt => ?_⟩⟩
    have s2 := (s1.trans (Same.new nns (o := .lst ((l'.map (·.1)).map V.str)))).trans (Same.new nt (o := .tup ((l'.map (·.1)).map V.str)))
    have ht2 : (upd (upd H1 ns (.lst ((l'.map (·.1)).map V.str))) t (.tup ((l'.map (·.1)).map V.str))) t = some (.tup ((l'.map (·.1)).map V.str)) := upd_same
    generalize upd (upd H1 ns (.lst ((l'.map (·.1)).map V.str))) t (.tup ((l'.map (·.1)).map V.str)) = H2 at s2 ht2 ⊢
    have hx2 := s2 _ _ hx
    have xt : x ≠ t := fun e => by
      rw [e, ht2] at hx2
      cases hx2
    refine ⟨_, rfl, x, C, dx, [], rfl, hx2, CF.cls, CF.n1, by decide, ?_⟩
    have k3 : Kp x H (upd H2 x (.ins C dx (putF "_names" (.ref t) []))) := (Kp.same s2).trans Kp.upd
    have hx3 : (upd H2 x (.ins C dx (putF "_names" (.ref t) []))) x = some (.ins C dx [("_names", .ref t)]) := upd_same
    have ht3 : (upd H2 x (.ins C dx (putF "_names" (.ref t) []))) t = some (.tup ((l'.map (·.1)).map V.str)) := by rw [upd_ne xt.symm]; exact ht2
    have ha3 := k3 a _ xa.symm ha
    have ndl : (l'.map (·.1)).Nodup := (pl.map _).nodup_iff.mpr ok.nd
    have mem : ∀ {i : Nat} {v : V}, ((l'.map (·.1)).map V.str)[i]? = some v → ∃ p, l'[i]? = some p ∧ v = .str p.1 ∧ valV (dkv l) (.inr p.1 : Key) = some (.int (p.2 : Int)) ∧ p.2 ≤ 2 ∧ azB p.1 = true := fun {i v} h => by
      rw [List.map_map, List.getElem?_map] at h
      cases e : l'[i]? with
      | none => rw [e] at h; cases h
      | some p =>
        rw [e] at h
        have mp : p ∈ l := pl.mem_iff.mp (List.mem_of_getElem? e)
        exact ⟨p, rfl, (Option.some.inj h).symm, val_some ok.nd mp, ok.two p mp, ok.name p mp⟩
    have ll : l'.length ≤ 8 := by
      rw [pl.length_eq]
      omega
    generalize upd H2 x (.ins C dx (putF "_names" (.ref t) [])) = H3 at k3 hx3 ht3 ha3 ⊢
    -- _arities
    refine ⟨_, rfl, x, C, dx, _, _, rfl, hx3, CF.cls, CF.n1, rfl, t, rfl, ⟨_, SqT.of ht3⟩, fun D nD => ?_⟩
    refine dc_tup (K := K) (a := t) (xs := (l'.map (·.1)).map V.str) (fun i G => G D = some (.dK (dkv (l'.take i))) ∧ Same H3 G) ⟨upd_same, Same.new nD⟩ (fun i G _ ⟨_, s⟩ => SqT.of (s _ _ ht3)) ?_ ?_
    · rintro i v G hv ⟨eD, s⟩
      obtain ⟨p, hp, rfl, vz, two, _⟩ := mem hv
      have nz : p.1 ∉ (l'.take i).map (·.1) := fun m => by
        obtain ⟨j, hj, e⟩ := List.mem_iff_getElem.mp m
        rw [List.length_map, List.length_take] at hj
        obtain ⟨hi, ep⟩ := List.getElem?_eq_some_iff.mp hp
        have e2 : (l'.map (·.1))[j]'(by rw [List.length_map]; omega) = (l'.map (·.1))[i]'(by rw [List.length_map]; omega) := by
          rw [List.getElem_map, List.getElem_map, ep, ← e, List.getElem_map, List.getElem_take]
        have := (List.getElem_inj ndl).mp e2
        omega
      refine ⟨rfl, _, rfl, _, rfl, _, rfl, a, _, rfl, vz ▸ DGet.k (k := .inr p.1) (s _ _ ha3), dkv (l'.take i), .inr p.1, rfl, eD, ?_, ?_, fun b o q => by rw [upd_ne (ne_of_none q nD)]; exact s b o q⟩
      · have e : (dkv (l'.take i)).length = (l'.take i).length := List.length_map _
        rw [e, List.length_take, sizeLine_eq]
        omega
      · rw [upd_same, put_end nz, List.take_add_one, hp]
        rfl
    rintro G ⟨eD, s3⟩
    have eD : G D = some (.dK (dkv l')) := by
      have t0 := List.take_of_length_le (l := l') (i := ((l'.map (·.1)).map V.str).length) (by rw [List.length_map, List.length_map]; exact Nat.le_refl _)
      rw [t0] at eD
      exact eD
    refine ⟨_, rfl, x, C, dx, _, rfl, s3 _ _ hx3, CF.cls, CF.n2, Nat.le_of_ble_eq_true rfl, ?_⟩
    have xD : x ≠ D := ne_of_none hx3 nD
    have k4 : Kp x H (upd G x (.ins C dx (putF "_arities" (.ref D) [("_names", .ref t)]))) := (k3.trans (Kp.same s3)).trans Kp.upd
    have hx4 : (upd G x (.ins C dx (putF "_arities" (.ref D) [("_names", .ref t)]))) x = some (.ins C dx [("_names", .ref t), ("_arities", .ref D)]) := upd_same
    have ht4 : (upd G x (.ins C dx (putF "_arities" (.ref D) [("_names", .ref t)]))) t = some (.tup ((l'.map (·.1)).map V.str)) := by rw [upd_ne xt.symm]; exact s3 _ _ ht3
    have hD4 : (upd G x (.ins C dx (putF "_arities" (.ref D) [("_names", .ref t)]))) D = some (.dK (dkv l')) := by rw [upd_ne xD.symm]; exact eD
    have ha4 := k4 a _ xa.symm ha
    generalize upd G x (.ins C dx (putF "_arities" (.ref D) [("_names", .ref t)])) = H4 at k4 hx4 ht4 hD4 ha4 ⊢
    -- _lines
    refine ⟨_, rfl, x, C, dx, _, _, rfl, hx4, CF.cls, CF.n1, rfl, t, rfl, ⟨_, SqT.of ht4⟩, fun D2 nD2 => ?_⟩
    refine lc_tup (K := K) (a := t) (xs := (l'.map (·.1)).map V.str) (tt := tYes) (g := gName 2) (te := t_line) (vs := [2]) (fun i G => G D2 = some (.lst ((l'.take i).map lnV)) ∧ Same H4 G) ⟨upd_same, Same.new nD2⟩ (fun i G _ ⟨_, s⟩ => SqT.of (s _ _ ht4)) ?_ ?_
    · rintro i v G2 hv ⟨e2, s⟩
      obtain ⟨p, hp, rfl, vz, two, az⟩ := mem hv
      have z8 : p.1.length ≤ 8 := by
        have h2 : (decide (1 ≤ p.1.length) && decide (p.1.length ≤ 8) && p.1.cps.toList.all azC) = true := az
        simp only [Bool.and_eq_true, decide_eq_true_eq] at h2
        omega
      have lg : ((p.2 : Int)).natAbs.log2 < 1920 := Nat.lt_of_le_of_lt (Nat.log2_le_self _) (by omega)
      have tl : (((toString (p.2 : Int) : String) : Str)).length ≤ 1921 := PyProof.Rows.int_text_len_1921 lg
      have il : i < 8 := by
        have := (List.getElem?_eq_some_iff.mp hp).1
        omega
      have n1 : (Str.empty ++ ("op " : Str)).length = 3 := rfl
      refine ⟨rfl, _, rfl, by rw [n1, sizeLine_eq]; decide, _, rfl, .inl ⟨p.1, rfl, by rw [sizeLine_eq]; omega, _, rfl, by rw [strLen_append, n1, sizeLine_eq]; omega, _, rfl, ?_, _, rfl, _, rfl, a, _, rfl, vz ▸ DGet.k (k := .inr p.1) (s _ _ ha4), .inr ⟨_, rfl, lg, _, rfl, ?_, _, e2, by rw [List.length_map, List.length_take, sizeLine_eq]; omega, by rw [upd_same, List.take_add_one, hp, List.map_append]; rfl, fun b o q => by rw [upd_ne (ne_of_none q nD2)]; exact s b o q⟩⟩⟩
      · rw [strLen_append, strLen_append, n1, sizeLine_eq, show (" " : Str).length = 1 from rfl]
        omega
      · rw [strLen_append, strLen_append, strLen_append, n1, sizeLine_eq, show (" " : Str).length = 1 from rfl]
        have tl' : ((Str.ofString (toString (p.2 : Int)))).length ≤ 1921 := tl
        omega
    · rintro G2 ⟨e2, s⟩
      have e2 : G2 D2 = some (.lst (l'.map lnV)) := by
        rw [List.take_of_length_le (by rw [List.length_map, List.length_map]; exact Nat.le_refl _)] at e2
        exact e2
      generalize hss : l'.map lnV = ss at e2
      refine ⟨D2, ss, rfl, .inl ⟨SqL.of e2, fun t2 nt2 => ⟨_, rfl, x, C, dx, _, rfl, (Same.new nt2) _ _ (s _ _ hx4), CF.cls, CF.n3, Nat.le_of_ble_eq_true rfl, ?_⟩⟩⟩
      have s5 := s.trans (Same.new nt2 (o := .tup ss))
      have xt2 : x ≠ t2 := ne_of_none (s _ _ hx4) nt2
      have xa4 : a ≠ x := xa.symm
      have k5 : Kp x H (upd (upd G2 t2 (.tup ss)) x (.ins C dx (putF "_lines" (.ref t2) [("_names", .ref t), ("_arities", .ref D)]))) := (k4.trans (Kp.same s5)).trans Kp.upd
      have hx5 : (upd (upd G2 t2 (.tup ss)) x (.ins C dx (putF "_lines" (.ref t2) [("_names", .ref t), ("_arities", .ref D)]))) x = some (.ins C dx [("_names", .ref t), ("_arities", .ref D), ("_lines", .ref t2)]) := upd_same
      have ht5 : (upd (upd G2 t2 (.tup ss)) x (.ins C dx (putF "_lines" (.ref t2) [("_names", .ref t), ("_arities", .ref D)]))) t = some (.tup (l'.map fun p => V.str p.1)) := by
        rw [upd_ne xt.symm]
        have := s5 _ _ ht4
        rw [List.map_map] at this
        exact this
      have hD5 : (upd (upd G2 t2 (.tup ss)) x (.ins C dx (putF "_lines" (.ref t2) [("_names", .ref t), ("_arities", .ref D)]))) D = some (.dK (dkv l')) := by
        rw [upd_ne xD.symm]
        exact s5 _ _ hD4
      have hl5 : (upd (upd G2 t2 (.tup ss)) x (.ins C dx (putF "_lines" (.ref t2) [("_names", .ref t), ("_arities", .ref D)]))) t2 = some (.tup ss) := by rw [upd_ne xt2.symm, upd_same]
      generalize upd (upd G2 t2 (.tup ss)) x (.ins C dx (putF "_lines" (.ref t2) [("_names", .ref t), ("_arities", .ref D)])) = H5 at k5 hx5 ht5 hD5 hl5 ⊢
      have ha5 := k5 a _ xa4 ha
      -- told
      refine ⟨_, rfl, a, dkv l, rfl, ha5, fun q nq => ?_⟩
      have s6 := Same.new nq (o := .lst ((dkv l).map (·.2)))
      have xq : x ≠ q := ne_of_none hx5 nq
      have hq6 : (upd H5 q (.lst ((dkv l).map (·.2)))) q = some (.lst ((l.map fun p => (p.2 : Int)).map V.int)) := by
        rw [upd_same]
        unfold dkv
        rw [List.map_map, List.map_map]
        rfl
      generalize upd H5 q (.lst ((dkv l).map (·.2))) = H6 at s6 hq6 ⊢
      have hx6 := s6 _ _ hx5
      have ht6 := s6 _ _ ht5
      have hD6 := s6 _ _ hD5
      have hl6 := s6 _ _ hl5
      have tyq : tyV K "list" (V.ref q) H6 := .inl ⟨rfl, _, SqL.of hq6⟩
      refine ⟨_, rfl, tyq, q, _, 0, rfl, rfl, SqL.of hq6, _, rfl, tyq, q, _, 1, rfl, rfl, SqL.of hq6, _, rfl, tyq, q, _, 2, rfl, rfl, SqL.of hq6, by show 3 ≤ sizeLine; decide, fun m nm => ?_⟩
      have s7 := Same.new nm (o := .tup [.int ((l.map fun p => (p.2 : Int)).count 0 : Nat), .int ((l.map fun p => (p.2 : Int)).count 1 : Nat), .int ((l.map fun p => (p.2 : Int)).count 2 : Nat)])
      have xm : x ≠ m := ne_of_none hx6 nm
      refine ⟨_, rfl, x, C, dx, _, rfl, s7 _ _ hx6, CF.cls, CF.n4, Nat.le_of_ble_eq_true rfl, ?_⟩
      have k7 : Kp x H (upd (upd H6 m (.tup [.int ((l.map fun p => (p.2 : Int)).count 0 : Nat), .int ((l.map fun p => (p.2 : Int)).count 1 : Nat), .int ((l.map fun p => (p.2 : Int)).count 2 : Nat)])) x (.ins C dx (putF "_many" (.ref m) [("_names", .ref t), ("_arities", .ref D), ("_lines", .ref t2)]))) := ((k5.trans (Kp.same s6)).trans (Kp.same s7)).trans Kp.upd
      have hx7 : (upd (upd H6 m (.tup [.int ((l.map fun p => (p.2 : Int)).count 0 : Nat), .int ((l.map fun p => (p.2 : Int)).count 1 : Nat), .int ((l.map fun p => (p.2 : Int)).count 2 : Nat)])) x (.ins C dx (putF "_many" (.ref m) [("_names", .ref t), ("_arities", .ref D), ("_lines", .ref t2)]))) x = some (.ins C dx [("_names", .ref t), ("_arities", .ref D), ("_lines", .ref t2), ("_many", .ref m)]) := upd_same
      have hm7 : (upd (upd H6 m (.tup [.int ((l.map fun p => (p.2 : Int)).count 0 : Nat), .int ((l.map fun p => (p.2 : Int)).count 1 : Nat), .int ((l.map fun p => (p.2 : Int)).count 2 : Nat)])) x (.ins C dx (putF "_many" (.ref m) [("_names", .ref t), ("_arities", .ref D), ("_lines", .ref t2)]))) m = some (.tup [.int ((l.map fun p => (p.2 : Int)).count 0 : Nat), .int ((l.map fun p => (p.2 : Int)).count 1 : Nat), .int ((l.map fun p => (p.2 : Int)).count 2 : Nat)]) := by rw [upd_ne xm.symm, upd_same]
      have ht7 : (upd (upd H6 m (.tup [.int ((l.map fun p => (p.2 : Int)).count 0 : Nat), .int ((l.map fun p => (p.2 : Int)).count 1 : Nat), .int ((l.map fun p => (p.2 : Int)).count 2 : Nat)])) x (.ins C dx (putF "_many" (.ref m) [("_names", .ref t), ("_arities", .ref D), ("_lines", .ref t2)]))) t = some (.tup (l'.map fun p => V.str p.1)) := by
        rw [upd_ne xt.symm]
        exact s7 _ _ ht6
      have hD7 : (upd (upd H6 m (.tup [.int ((l.map fun p => (p.2 : Int)).count 0 : Nat), .int ((l.map fun p => (p.2 : Int)).count 1 : Nat), .int ((l.map fun p => (p.2 : Int)).count 2 : Nat)])) x (.ins C dx (putF "_many" (.ref m) [("_names", .ref t), ("_arities", .ref D), ("_lines", .ref t2)]))) D = some (.dK (dkv l')) := by
        rw [upd_ne xD.symm]
        exact s7 _ _ hD6
      have hl7 : (upd (upd H6 m (.tup [.int ((l.map fun p => (p.2 : Int)).count 0 : Nat), .int ((l.map fun p => (p.2 : Int)).count 1 : Nat), .int ((l.map fun p => (p.2 : Int)).count 2 : Nat)])) x (.ins C dx (putF "_many" (.ref m) [("_names", .ref t), ("_arities", .ref D), ("_lines", .ref t2)]))) t2 = some (.tup ss) := by
        rw [upd_ne xt2.symm]
        exact s7 _ _ hl6
      generalize upd (upd H6 m (.tup [.int ((l.map fun p => (p.2 : Int)).count 0 : Nat), .int ((l.map fun p => (p.2 : Int)).count 1 : Nat), .int ((l.map fun p => (p.2 : Int)).count 2 : Nat)])) x (.ins C dx (putF "_many" (.ref m) [("_names", .ref t), ("_arities", .ref D), ("_lines", .ref t2)])) = H7 at k7 hx7 hm7 ht7 hD7 hl7 ⊢
      -- _counts
      refine ⟨_, rfl, x, C, dx, _, _, rfl, hx7, CF.cls, CF.n4, rfl, m, _, _, _, rfl, rfl, SqT.of hm7, rfl, by show 2 ≤ sizeLine; decide, fun c nc => ?_⟩
      have xc : x ≠ c := ne_of_none hx7 nc
      have s8 := Same.new nc (o := .lst [.int 0, .int ((l.map fun p => (p.2 : Int)).count 0 : Nat)])
      refine ⟨_, rfl, x, C, dx, _, rfl, s8 _ _ hx7, CF.cls, CF.n5, Nat.le_of_ble_eq_true rfl, ?_⟩
      have k8 : Kp x H (upd (upd H7 c (.lst [.int 0, .int ((l.map fun p => (p.2 : Int)).count 0 : Nat)])) x (.ins C dx (putF "_counts" (.ref c) [("_names", .ref t), ("_arities", .ref D), ("_lines", .ref t2), ("_many", .ref m)]))) := (k7.trans (Kp.same s8)).trans Kp.upd
      have hx8 : (upd (upd H7 c (.lst [.int 0, .int ((l.map fun p => (p.2 : Int)).count 0 : Nat)])) x (.ins C dx (putF "_counts" (.ref c) [("_names", .ref t), ("_arities", .ref D), ("_lines", .ref t2), ("_many", .ref m)]))) x = some (.ins C dx [("_names", .ref t), ("_arities", .ref D), ("_lines", .ref t2), ("_many", .ref m), ("_counts", .ref c)]) := upd_same
      have ht8 : (upd (upd H7 c (.lst [.int 0, .int ((l.map fun p => (p.2 : Int)).count 0 : Nat)])) x (.ins C dx (putF "_counts" (.ref c) [("_names", .ref t), ("_arities", .ref D), ("_lines", .ref t2), ("_many", .ref m)]))) t = some (.tup (l'.map fun p => V.str p.1)) := by
        rw [upd_ne xt.symm]
        exact s8 _ _ ht7
      have hD8 : (upd (upd H7 c (.lst [.int 0, .int ((l.map fun p => (p.2 : Int)).count 0 : Nat)])) x (.ins C dx (putF "_counts" (.ref c) [("_names", .ref t), ("_arities", .ref D), ("_lines", .ref t2), ("_many", .ref m)]))) D = some (.dK (dkv l')) := by
        rw [upd_ne xD.symm]
        exact s8 _ _ hD7
      have hl8 : (upd (upd H7 c (.lst [.int 0, .int ((l.map fun p => (p.2 : Int)).count 0 : Nat)])) x (.ins C dx (putF "_counts" (.ref c) [("_names", .ref t), ("_arities", .ref D), ("_lines", .ref t2), ("_many", .ref m)]))) t2 = some (.tup ss) := by
        rw [upd_ne xt2.symm]
        exact s8 _ _ hl7
      generalize upd (upd H7 c (.lst [.int 0, .int ((l.map fun p => (p.2 : Int)).count 0 : Nat)])) x (.ins C dx (putF "_counts" (.ref c) [("_names", .ref t), ("_arities", .ref D), ("_lines", .ref t2), ("_many", .ref m)])) = H8 at k8 hx8 ht8 hD8 hl8 ⊢
      -- _rows
      refine ⟨by show 0 ≤ sizeLine; decide, fun r nr => ?_⟩
      have s9 := Same.new nr (o := .lst [])
      refine ⟨_, rfl, x, C, dx, _, rfl, s9 _ _ hx8, CF.cls, CF.n6, Nat.le_of_ble_eq_true rfl, ?_⟩
      refine q0 l' _ pl srt ((k8.trans (Kp.same s9)).trans Kp.upd) ⟨dx, t, D, (t2, m, c, r), upd_same, ?_, ?_, ?_⟩
      · rw [upd_ne xt.symm]
        exact s9 _ _ ht8
      · rw [upd_ne xD.symm]
        exact s9 _ _ hD8
      · show (upd (upd H8 r (.lst [])) x _) t2 = _
        rw [upd_ne xt2.symm, hss]
        exact s9 _ _ hl8
end
end Pr

namespace Pr
open PySem PySem.Spec PyProof.Rows L2 Gd
/-! ### names in their one order -/
theorem not_lt_trans {a b c : List Nat} (h : ¬ b < a) (k : ¬ c < b) : ¬ c < a := List.not_lt.mpr (List.le_trans (List.not_lt.mp h) (List.not_lt.mp k))
theorem rising_all : ∀ (p : Str) (l : List Str), risingS p l = true → ∀ x ∈ l, ¬ x.cps.toList < p.cps.toList
  | _, [], _, x, m => nomatch m
  | p, y :: r, h, x, m => by
    have h' : (!ltCps y.cps.toList p.cps.toList && risingS y r) = true := h
    rw [Bool.and_eq_true, ltCps_eq] at h'
    have h1 : ¬ y.cps.toList < p.cps.toList := by simpa using h'.1
    rcases List.mem_cons.mp m with rfl | m
    · exact h1
    · exact not_lt_trans h1 (rising_all y r h'.2 x m)
theorem rising_pair : ∀ (p : Str) (l : List Str), risingS p l = true → (p :: l).Pairwise fun a b => ¬ b.cps.toList < a.cps.toList
  | p, [], _ => by simp
  | p, y :: r, h => by
    have h' : (!ltCps y.cps.toList p.cps.toList && risingS y r) = true := h
    rw [Bool.and_eq_true] at h'
    exact List.pairwise_cons.mpr ⟨rising_all p (y :: r) h, rising_pair y r h'.2⟩
theorem sorted_pair : ∀ (l : List Str), sortedS l = true → l.Pairwise fun a b => ¬ b.cps.toList < a.cps.toList
  | [], _ => .nil
  | p :: r, h => rising_pair p r h
theorem str_ext {a b : Str} (h : a.cps.toList = b.cps.toList) : a = b := by
  cases a
  cases b
  congr 1
  exact Array.toList_inj.mp h
theorem sorted_one {xs ys : List Str} (hx : sortedS xs = true) (hy : sortedS ys = true) (p : xs.Perm ys) : xs = ys :=
  List.Perm.eq_of_pairwise (fun a b _ _ h k => str_ext (List.le_antisymm (List.not_lt.mp h) (List.not_lt.mp k))) (sorted_pair xs hx) (sorted_pair ys hy) p
/-! ### what operators tell -/
def spPA (C : Addr) : Sp := fun vs H Q _ => ∃ (o : Addr) (l : List (Str × Nat)), vs = [.ref o] ∧ OpsAt H C o l ∧ ∀ p, H p = none → Q (.ref p) (upd H p (.dK (dkv l)))
def spPL (C : Addr) : Sp := fun vs H Q _ => ∃ (o : Addr) (l : List (Str × Nat)), vs = [.ref o] ∧ OpsAt H C o l ∧ ∀ tn, H tn = some (.tup (l.map lnV)) → Q (.ref tn) H
section
variable {P : Program} {w : World} {K : PySem.W.Frag} {mg : Str → Option Value} {base : Heap} {C : Addr}
theorem scPL : FnScope ["self"] ["self"] (defScope mLines) := ⟨rfl, rfl, rfl, by decide +kernel, rfl, by decide +kernel, by decide +kernel⟩
theorem ok_pl {f : Addr} {fd : FuncData} (F : Fun K "lines" "Operators.lines" mLines f fd) (cf : OpF K C) (T : Free mg) : FnOk P w K mg base CX0 1 f fd ["self"] (spPL C) := by
  refine F.ok scPL (fun vs H Q E h => ?_) (fun cdv A outer s H vs Q E hr h => ?_)
  · obtain ⟨o, l, rfl, _⟩ := h
    rfl
  · obtain ⟨o, l, rfl, op, q⟩ := h
    refine ⟨_, pss_one (ps_ret (pe_fld (pv 0) rfl)), ?_⟩
    obtain ⟨dx, tn, ta, tl, ho, hn, ha, hl⟩ := op.ex
    exact ⟨_, rfl, o, C, dx, _, _, rfl, ho, cf.cls, cf.n3, rfl, q tl.1 hl⟩
theorem scPA : FnScope ["self"] ["self"] (defScope mArities) := ⟨rfl, rfl, rfl, by decide +kernel, rfl, by decide +kernel, by decide +kernel⟩
theorem ok_pa {f : Addr} {fd : FuncData} (F : Fun K "arities" "Operators.arities" mArities f fd) (cf : OpF K C) (T : Free mg) : FnOk P w K mg base CX0 1 f fd ["self"] (spPA C) := by
  refine F.ok scPA (fun vs H Q E h => ?_) (fun cdv A outer s H vs Q E hr h => ?_)
  · obtain ⟨o, l, rfl, _⟩ := h
    rfl
  · obtain ⟨o, l, rfl, op, q⟩ := h
    refine ⟨_, pss_one (ps_ret (pe_callTy call_dictD (by rfl) T.dict (by decide +kernel) (pa_cons (pe_fld (pv 0) rfl) pa_nil))), ?_⟩
    obtain ⟨dx, tn, ta, tl, ho, hn, ha, hl⟩ := op.ex
    exact ⟨_, rfl, o, C, dx, _, _, rfl, ho, cf.cls, cf.n2, rfl, ta, _, rfl, .inl ha, q⟩
end
end Pr
/-! ### enumerate over a tuple -/
namespace PySem
namespace EnT
open PySem.W PySem.Calls PyProof.Rows AutoSeq1
section
variable {prog : Program} {w : World} {A : Around} {E : Value → Shared → Prop} {s : Shared} {it t : Addr} {i : Nat} {ys : Array Value}
theorem nextT {x : Value} {Q : Value → Shared → Prop} (hit : s.heap.IsTupleIter it t i) (ht : s.heap.IsTuple t ys) (hx : ys[i]? = some x) (hQ : ∀ h', h'.IsTupleIter it t (i + 1) → Heap.SameBut it s.heap h' → Q x { s with heap := h' }) : wpAny (model prog w) A (Builtin.SmallTypes.nextOf (.ref it)) Q E s := by
  obtain ⟨⟨o, ho, hc, hd⟩, ⟨ot, hot, _, nt, hdt⟩⟩ := And.intro (id hit) ht
  refine (show wpAny _ _ _ _ _ _ from wpAny_bind (wpAny_callSpecial?_slot (name := Str.ofString "__next__") hit.typeIs F.slot_tuple_iterator_next (wpAny_call_entry F.slot_tuple_iterator_next hit.typeIs F.entry_tuple_iterator_next ?_ (F.args_tuple_iterator_next_1 _))))
  refine (show wpAny _ _ (field (.ref it) 0 >>= _) _ _ s from wpAny_bind (wpAny_field ho hd (x := .ref t) rfl ?_))
  refine (show wpAny _ _ (if (Value.ref t == Value.none) = true then _ else _) _ _ s from ?_); rw [if_neg (show ¬ ((Value.ref t == Value.none) = true) from Bool.false_ne_true)]
  refine (show wpAny _ _ (field (.ref it) 1 >>= _) _ _ s from wpAny_bind (wpAny_field ho hd (x := .int i 0) rfl ?_))
  refine (show wpAny _ _ (seqItems? (.ref t) >>= _) _ _ s from wpAny_bind (wpAny_seqItems hot hdt ?_)); simp only [Int.toNat_natCast, hx]
  exact wpAny_bind (wpAny_setField ho hd (by simp) (wpAny_pure ⟨x, rfl, wpAny_pure (hQ _ ⟨_, Heap.get?_update_self _ ho (Obj.isFreed_of_fields (Obj.data_mapFields hd _)), (Obj.cls_mapFields ..).trans hc, by rw [Obj.data_mapFields hd]; simp [rawInt]⟩ (Heap.SameBut.update ..))⟩))
theorem lastT {Q : Value → Shared → Prop} (hh : A.handled = none) (hit : s.heap.IsTupleIter it t i) (ht : s.heap.IsTuple t ys) (hx : ys[i]? = none) (hE : ∀ h' e, Heap.ExtBut it s.heap h' → (∃ o, h'.get? e = some o ∧ o.cls = .type "StopIteration") → E (.ref e) { s with heap := h' }) : wpAny (model prog w) A (Builtin.SmallTypes.nextOf (.ref it)) Q E s := by
  obtain ⟨⟨o, ho, hc, hd⟩, ⟨ot, hot, _, nt, hdt⟩⟩ := And.intro (id hit) ht
  refine (show wpAny _ _ _ _ _ _ from wpAny_bind (wpAny_callSpecial?_slot (name := Str.ofString "__next__") hit.typeIs F.slot_tuple_iterator_next (wpAny_call_entry F.slot_tuple_iterator_next hit.typeIs F.entry_tuple_iterator_next ?_ (F.args_tuple_iterator_next_1 _))))
  refine (show wpAny _ _ (field (.ref it) 0 >>= _) _ _ s from wpAny_bind (wpAny_field ho hd (x := .ref t) rfl ?_))
  refine (show wpAny _ _ (if (Value.ref t == Value.none) = true then _ else _) _ _ s from ?_); rw [if_neg (show ¬ ((Value.ref t == Value.none) = true) from Bool.false_ne_true)]
  refine (show wpAny _ _ (field (.ref it) 1 >>= _) _ _ s from wpAny_bind (wpAny_field ho hd (x := .int i 0) rfl ?_))
  refine (show wpAny _ _ (seqItems? (.ref t) >>= _) _ _ s from wpAny_bind (wpAny_seqItems hot hdt ?_)); simp only [Int.toNat_natCast, hx]
  refine wpAny_bind (wpAny_rule (wpAny_bind (wpAny_setField ho hd (by simp) (show wpAny _ _ (newExc (.type "StopIteration") [] >>= _) _ _ _ from wpAny_bind ?_)))); simp only [newExc, newTuple]
  refine wpAny_bind (wpAny_newObj_type (wpAny_bind (m := firstArgMember _ _) (wpAny_of_eq (a := Value.none) (by first | rfl | (simp only [firstArgMember]; rfl)) (wpAny_newObj_type ?_ (by size_fits)))) (by size_fits)); simp only [raiseNew]
  refine wpAny_bind (wpAny_handled ?_); first | rw [show A.in1.handled = none from hh] | rw [hh]
  exact wpAny_bind (wpAny_pure (wpAny_throw (hE _ _ (((Heap.SameBut.update ..).extBut.push _).push _) ⟨_, Heap.get?_push_size _ rfl, rfl⟩)))
end
theorem drawsT {prog : Program} {w : World} {A : Around} (hh : A.handled = none) (it t : Addr) (hne : t ≠ it) (ys : Array Value) : Draws prog w A it [it, t] ys.size (fun i v => ys[i]? = some v) (fun i h => h.IsTupleIter it t i ∧ h.IsTuple t ys) where
  live := fun _ _ st => let ⟨o, ho, _⟩ := st.1; ⟨o, ho⟩
  frame := fun _ _ _ st hk => ⟨st.1.at fun o e => hk it (by simp) o e, let ⟨o, ho, r⟩ := st.2; ⟨o, hk t (by simp) o ho, r⟩⟩
  item := fun i s Q E hi st hQ => nextT st.1 st.2 (x := ys[i]) (by simp [hi]) fun h' a b => hQ _ h' s.toks (by simp [hi]) ⟨a, st.2.extBut b.extBut hne⟩ b
  done := fun s Q E st hE => lastT hh st.1 st.2 (by simp) hE
end EnT
end PySem
namespace PySem
namespace EnT
open PySem.W PySem.Calls PyProof.Rows AutoSeq1
theorem newT (l : Addr) (ys : Array Value) (n : Nat) (dct : Option Addr) (sl : Array (Option Value)) :
    Meets (Builtin.«enumerate.__new__» ⟨[.type "enumerate", .ref l], []⟩) (fun _ R s => s.heap.get? l = some { cls := .type "tuple", dict := dct, data := .seq ys n, slots := sl } ∧
      R (.ok (.ret (.ref (s.heap.push { cls := .type "tuple_iterator", data := .fields #[.ref l, .int 0 0] }).objs.size)))
        { s with heap := (s.heap.push { cls := .type "tuple_iterator", data := .fields #[.ref l, .int 0 0] }).push { cls := .type "enumerate", data := .fields #[.none, .bool false, .ref s.heap.objs.size, rawInt 0, .none, .none] } }) :=
  .of_wp fun prog w A R s h => by
    obtain ⟨hp, g, d, tk, os⟩ := s; obtain ⟨hl, h⟩ := h
    have c1 := sub_enumerate
    have c2 : Heap.IsTuple (Shared.heap ⟨hp, g, d, tk, os⟩) l ys := ⟨_, hl, rfl, n, rfl⟩
    wp_walk using wpAny_loadPart' hl
    refine wpAny_stack_any fun _ => wpAny_pure (show _ from ?_); split
    · rename_i c _ _ _ _ _
      cases (c == Value.type "enumerate") <;> (wp_walk using wpAny_loadPart' hl, wpAny_pyIter_tuple c2; exact ⟨_, rfl, h⟩)
    · wp_walk using wpAny_loadPart' hl, wpAny_pyIter_tuple c2
      exact ⟨_, rfl, h⟩
theorem callT {prog : Program} {w : World} {A : Around} {E : Value → Shared → Prop} {s : Shared} {l : Addr} {ys : Array Value} {Q : Value → Shared → Prop} (hL : s.heap.IsTuple l ys)
    (h : ∀ h', IsEnum h' (s.heap.objs.size + 1) s.heap.objs.size 0 .none → h'.IsTupleIter s.heap.objs.size l 0 → h'.objs.size = s.heap.objs.size + 2 → (∀ b o, s.heap.get? b = some o → h'.get? b = some o) → Q (.ref (s.heap.objs.size + 1)) { s with heap := h' }) :
    wpAny (model prog w) A (call (.type "enumerate") [.ref l]) Q E s := by
  obtain ⟨⟨c, dct, dt, sl⟩, hl, hc, n, hd⟩ := hL
  cases (show c = .type "tuple" from hc)
  cases (show dt = .seq ys n from hd)
  refine callType_new F.called_enumerate (by decide) (F.typeCall_enumerate_1 _) (F.newCall_enumerate_1 _) (fun o => F.args_object_init_2 o _) F.entry_enumerate_new (newT l ys n dct sl) ⟨hl, ?_⟩
  have z : (s.heap.push { cls := .type "tuple_iterator", data := .fields #[.ref l, .int 0 0] }).objs.size = s.heap.objs.size + 1 := Heap.size_push ..
  refine (show _ ∧ _ from ?_)
  rw [z]
  have e1 : IsEnum ((s.heap.push { cls := .type "tuple_iterator", data := .fields #[.ref l, .int 0 0] }).push { cls := .type "enumerate", data := .fields #[.none, .bool false, .ref s.heap.objs.size, rawInt 0, .none, .none] }) (s.heap.objs.size + 1) s.heap.objs.size 0 .none := by
    have q := Heap.get?_push_size (s.heap.push { cls := .type "tuple_iterator", data := .fields #[.ref l, .int 0 0] }) (o := { cls := .type "enumerate", data := .fields #[.none, .bool false, .ref s.heap.objs.size, rawInt 0, .none, .none] }) rfl
    rw [z] at q
    exact q
  exact ⟨⟨_, e1, rfl⟩, h _ e1 ⟨_, Heap.get?_push_of_some _ (Heap.get?_push_size _ rfl), rfl, rfl⟩ (by rw [Heap.size_push, z]) fun b o x => Heap.get?_push_of_some _ (Heap.get?_push_of_some _ x)⟩
theorem endT {prog : Program} {w : World} {A : Around} {E : Value → Shared → Prop} {s : Shared} {e it t : Addr} {j : Nat} {i : Int} {old : Value} {ys : Array Value} {Q : Option Value → Shared → Prop} (hh : A.handled = none) (he : IsEnum s.heap e it i old) (hit : s.heap.IsTupleIter it t j) (ht : s.heap.IsTuple t ys) (hx : ys[j]? = none)
    (hQ : ∀ h', Heap.ExtBut it s.heap h' → Q none { s with heap := h' }) : wpAny (model prog w) A (pyNext (.ref e)) Q E s := by
  have ty : s.TypeIs (.ref e) "enumerate" := ⟨_, he, rfl⟩
  unfold pyNext
  refine (show wpAny _ _ _ _ _ _ from wpAny_bind (wpAny_attempt (wpAny_callSpecial?_slot (name := Str.ofString "__next__") ty F.slot_enumerate_next (wpAny_call_entry F.slot_enumerate_next ty F.entry_enumerate_next ?_ (F.args_enumerate_next_1 _)))))
  refine (show wpAny _ _ (field (.ref e) 2 >>= _) _ _ _ from wpAny_bind (wpAny_field he rfl (x := .ref it) rfl ?_))
  refine wpAny_bind (lastT (show A.in1.handled = none from hh) hit ht hx fun h' x eb ⟨o, ho, hc⟩ => ?_)
  exact wpAny_bind (wpAny_isInstance (T := "StopIteration") (b := true) ⟨o, ho, hc⟩ isSubtype_stop (wpAny_pure (hQ _ eb)))
end EnT
end PySem
namespace L2
open PySem PySem.Spec PyProof.Rows
/-- the tuple at a, each item in a new pair -/
def Iet (K : PySem.W.Frag) (a : Addr) : It :=
  ⟨fun i H => ∃ (xs : List V) (x : V), SqT K H a xs ∧ xs[i]? = some x, fun i H v H' => ∃ U x, v = .ref U ∧ H U = none ∧ H' = upd H U (.tup [.int (i : Nat), x]) ∧ ∀ xs, SqT K H a xs → xs[i]? = some x, fun i H => ∃ xs : List V, SqT K H a xs ∧ xs.length ≤ i⟩
theorem turn_enT {P : Program} {w : World} {K : PySem.W.Frag} {elts : List Expr} {kk : Nat} {tpos : Pos} (a e it : Addr) (ne2 : a ≠ it) (ne3 : a ≠ e) :
    Turn P w K (.Tuple elts kk tpos) (Iet K a) [e, it] e (fun i h => (∃ old, IsEnum h e it ((i : Nat) : Int) old) ∧ h.IsTupleIter it a i ∧ e ≠ it) where
  mem := by simp
  obj := fun i h ⟨⟨old, he⟩, ⟨o, ho, hc, hd⟩, _⟩ b hb => by
    rcases (show b = e ∨ b = it by simpa using hb) with z | z
    · rw [z]; exact ⟨_, he, fun v q => nomatch q⟩
    · rw [z]; exact ⟨o, ho, fun v q => by rw [hd] at q; cases q⟩
  keep := fun i h h' ⟨⟨old, he⟩, hi, hne⟩ k => ⟨⟨old, k e (by simp) _ he⟩, hi.at fun o q => k it (by simp) o q, hne⟩
  item := by
    intro X hP hw hK hc i pins s σ H E I hf ⟨⟨old, he⟩, hit, hne⟩ ⟨xs, x, hq, hx⟩
    subst hP hw hK
    obtain ⟨its, rv, p, hz⟩ := I.tuple hq
    obtain ⟨u, hu, ru⟩ := rv.get hx
    have l1 : e < s.heap.objs.size := Heap.lt_size he
    have l2 : it < s.heap.objs.size := by obtain ⟨_, q, _⟩ := hit; exact Heap.lt_size q
    have hi : i < its.toArray.size := by
      have := (List.getElem?_eq_some_iff.mp hu).1
      simpa using this
    have D := PySem.EnT.drawsT (prog := X.prog) (w := X.w) (A := X.A.in1) (show X.A.in1.handled = none from I.ok.hd hc) it a ne2 its.toArray
    refine wpAny_pyNext_enum_itemD D he ⟨hit, (show s.heap.IsTuple a its.toArray from p)⟩ hi hne (by simp [hne, Ne.symm ne3]) fun x' h' tk hP ho hit' hT hsz hk => ?_
    have ex : x' = u := by
      have q : its.toArray[i]? = some x' := hP
      rw [List.getElem?_toArray, hu] at q
      exact (Option.some.inj q).symm
    subst ex
    refine ⟨_, rfl, wpAny_letOwnedTupleGo_enum (s := { s with heap := h', toks := tk + 1 }) ho fun h'' he' sb => ?_⟩
    have t2 : h''.get? s.heap.objs.size = some { cls := .type "tuple", data := .seq #[.int i tk, x'] } := (sb.2 _ (Nat.ne_of_gt l1)).trans hT
    have fresh : ObjOk X.prog X.w (upd H s.heap.objs.size (.tup [.int (i : Nat), x])) h'' s.heap.objs.size (.tup [.int (i : Nat), x]) := ⟨by show 2 ≤ sizeLine; decide, [.int i tk, x'], .cons ⟨_, rfl⟩ (.cons ru .nil), ⟨_, t2, rfl, _, rfl⟩⟩
    have J : Inv X pins σ (upd H s.heap.objs.size (.tup [.int (i : Nat), x])) { s with heap := h'', toks := tk + 1 } := I.turnedNew (ch := [e, it]) (fun b ob hb q => (sb.2 b (fun z => hb (by simp [z]))).trans (hk b ob (fun z => hb (by simp [z])) (fun z => hb (by simp [z])) q)) hf (Nat.le_refl _) fresh
    refine ⟨.ref s.heap.objs.size, _, J, rfl, ⟨_, x, rfl, I.hok.fresh (Nat.le_refl _), rfl, fun zs hy => by rw [I.tuple_inj hy hq]; exact hx⟩, ⟨⟨x', ?_⟩, hit'.1.at fun o q => (sb.2 it (Ne.symm hne)).trans q, hne⟩, fun b hb => ?_⟩
    · rw [show ((i + 1 : Nat) : Int) = (i : Int) + 1 by omega]
      exact he'
    · have lb : b < s.heap.objs.size := by
        rcases (show b = e ∨ b = it by simpa using hb) with z | z <;> rw [z] <;> assumption
      rw [upd_ne (Nat.ne_of_lt lb)]
      exact (hf b hb).1
  done := by
    intro X hP hw hK hc i pins s σ H E I hf ⟨⟨old, he⟩, hit, hne⟩ ⟨xs, hq, hx⟩
    subst hP hw hK
    obtain ⟨its, rv, p, hz⟩ := I.tuple hq
    obtain ⟨f0, f1, f2, f3, f4, f5⟩ := hf it (by simp)
    have hl := rv.length
    exact PySem.EnT.endT (I.ok.hd hc) he hit (show s.heap.IsTuple a its.toArray from p) (by simp; omega) fun h' eb => ⟨rfl, I.turned (t' := s.toks) (fun b o hb q => eb b o hb q) f0 f1 f3 f4 f5⟩
  self := fun A i s Q E ⟨⟨_, he⟩, _⟩ h => wpAny_pyIter_enum he h
def iEnumT (K : PySem.W.Frag) (ta : TA) : TI := fun σ H R => ta σ H fun vs H1 => ∃ a xs, vs = [.ref a] ∧ SqT K H1 a xs ∧ R (Iet K a) H1
/-- enumerate(a tuple) -/
theorem pi_enumT {X : Cx} {e : Expr} {ta : TA} {p pos tpos : Pos} {elts : List Expr} {kk : Nat} (hg : Gl X "enumerate") (hm : X.mg "enumerate" = none) (ha : PA X [e] ta) (hs : starEach [e] X.env = [(false, eval e X.env)] := by rfl) : PI X (.Tuple elts kk tpos) (.Call (.Name "enumerate" p) [e] [] pos) (iEnumT X.K ta) := by
  refine ⟨fun pins s σ H R I h => ?_⟩
  refine Call_ (ld_blt I hg hm boot_enumerate (PyProof.Rows.callWith_type1 (thn (ha.run pos pins s σ H _ I h) fun us s1 ⟨vs, H1, I1, r1, a, xs, ex, hq, q⟩ => ?_) hs rfl))
  subst ex
  rw [Vals.ref1 r1]
  obtain ⟨its, rv, pt, hz⟩ := I1.tuple hq
  have old : a < s1.heap.objs.size := by
    obtain ⟨o, ho, _⟩ := (show s1.heap.IsTuple a its.toArray from pt)
    exact Heap.lt_size ho
  refine PySem.EnT.callT (show s1.heap.IsTuple a its.toArray from pt) fun h' he hit hsz hk => wpAny_pyIter_enum he ?_
  have I2 : Inv X pins σ H1 { s1 with heap := h' } := I1.kept (t' := s1.toks) hk
  refine ⟨s1.heap.objs.size + 1, [s1.heap.objs.size + 1, s1.heap.objs.size], _, _, H1, rfl, I2, turn_enT a (s1.heap.objs.size + 1) s1.heap.objs.size (Nat.ne_of_lt old) (Nat.ne_of_lt (Nat.lt_succ_of_lt old)), ⟨⟨.none, he⟩, hit, Nat.succ_ne_self _⟩, fun b hb => ?_, q⟩
  have hle : s1.heap.objs.size ≤ b := by
    rcases (show b = s1.heap.objs.size + 1 ∨ b = s1.heap.objs.size by simpa using hb) with z | z
    · rw [z]; exact Nat.le_succ _
    · rw [z]; exact Nat.le_refl _
  exact I1.fpOk hle (I1.hok.fresh hle)
theorem walk_enumT {K : PySem.W.Frag} {a : Addr} {xs : List V} : Walk (Iet K a) xs.length (fun H => SqT K H a xs) (YPair (fun i => some (.int (i : Nat))) (fun i => xs[i]?)) := by
  refine ⟨fun i _ hi q => ⟨xs, xs[i], q, by simp [hi]⟩, fun _ q => ⟨xs, q, Nat.le_refl _⟩, fun i H v H' _ q y => ?_⟩
  obtain ⟨U, x, h1, h2, h3, h4⟩ := y
  exact ⟨U, .int (i : Nat), x, h1, h2, h3, rfl, h4 xs q⟩
end L2
/-! ### {**d, k: v} -/
namespace Du
theorem twice {R A : Prop} (f : R → A) (r : R) : A := f r
open PySem PySem.Spec PyProof.Rows L2
section
variable {prog : Program} {w : World} {K : Type} [DecidableEq K] {knd : KeyKind prog w K} {A : Around} {E : Value → Shared → Prop} {s : Shared}
/-- a key that isn't there goes to the end -/
theorem put_fresh {d : Addr} {old : List (K × Value)} {k : K} {kv vv : Value} {Q : Unit → Shared → Prop} (is : knd.is k kv = true) (at_ : s.heap.DictOf knd d old) (few : old.length ≤ sizeLine) (fresh : k ∉ old.map (·.1))
    (then_ : ∀ h2, h2.DictOf knd d (old ++ [(k, vv)]) → Heap.SameBut d s.heap h2 → Q () { s with heap := h2 }) : wpAny (model prog w) A (dictPut d (knd.hash k) kv vv) Q E s := by
  obtain ⟨ob, rows, age, there, exact_, dat, ks, prs, ndk⟩ := at_
  have sz : rows.size ≤ sizeLine := by
    have e := prs.length
    rw [Array.length_toList] at e
    omega
  have no : (rows.findIdx? fun e => knd.is k e.key) = none := by
    have e1 := prs.findIdx k
    have e2 : (old.findIdx? fun kv => decide (kv.1 = k)) = none := by
      rw [List.findIdx?_eq_none_iff]
      intro x hx
      exact decide_eq_false fun e => fresh (e ▸ List.mem_map_of_mem hx)
    rw [e2] at e1
    rw [← e1]
    obtain ⟨l⟩ := rows
    simp
  unfold dictPut
  refine wpAny_bind (wpAny_dictFind_of is there dat ks ?_)
  rw [no]
  refine wpAny_updateDictKeys (hz := sz) there dat (then_ _ ⟨_, _, age + 1, Heap.get?_update_self _ there (Obj.isFreed_of_dict (Obj.data_mapDictKeys dat _)), exact_.mapDictKeys _,
    Obj.data_mapDictKeys dat _, ks.push is _, ?_, ?_⟩ (Heap.SameBut.update ..))
  · have := prs.append is (knd.hash k) vv
    obtain ⟨l⟩ := rows
    simpa using this
  · rw [List.map_append, List.nodup_append]
    refine ⟨ndk, by simp, fun x hx y hy e => ?_⟩
    rw [List.map_cons, List.map_nil, List.mem_singleton] at hy
    rw [e, hy] at hx
    exact fresh hx
/-- all of one dict behind what another one has -/
theorem merge_fresh {d a : Addr} {acc more : List (K × Value)} {Q : Unit → Shared → Prop} (da : d ≠ a) (sys : (a == sysModules) = false) (hd : s.heap.DictOf knd d acc) (ha : s.heap.DictOf knd a more) (nodup : ((acc ++ more).map (·.1)).Nodup)
    (few : acc.length + more.length ≤ sizeLine) (byV : ∀ (k : K) (v : Value), knd.is k v = true → ∀ b, v ≠ .ref b)
    (then_ : ∀ h2, h2.DictOf knd d (acc ++ more) → Heap.SameBut d s.heap h2 → Q () { s with heap := h2 }) : wpAny (model prog w) A (mergeMapping d (.ref a) false) Q E s := by
  have tyA := ha.typeIs
  obtain ⟨od, rd, gd, atd, exd, datd, ksd, prd, ndd⟩ := id hd
  obtain ⟨oa, ra, ga, ata, exa, data_, ksa, pra, nda⟩ := id ha
  have len : more.length = ra.size := by
    rw [← pra.length]
    simp
  unfold mergeMapping
  refine wpAny_bind (wpAny_isInstance (T := "dict") (U := "dict") (b := true) tyA (by rw [isSubtype_type]; kernel_rfl) ?_)
  rw [if_pos rfl]
  refine wpAny_bind (wpAny_specialOf tyA F.slot_dict_iter.lookup ?_)
  refine wpAny_bind (wpAny_pure ?_)
  have e : (some (Value.builtin "dict.__iter__") == some (Value.builtin "dict.__iter__")) = true := by decide +kernel
  rw [e]
  dsimp only
  rw [if_neg (by rw [sys]; exact Bool.false_ne_true)]
  refine wpAny_bind (wpAny_dictEntries atd datd ?_)
  apply twice
  · intro rest
    refine wpAny_ite_split (fun _ => ?_) (fun _ => ?_)
    · refine wpAny_bind (wpAny_dictEntries ata data_ ?_)
      refine wpAny_bind ?_
      rw [← Array.forIn_toList]
      refine wpAny_forIn_list _ (fun l _ s' => s' = s ∧ ∀ e ∈ l, e ∈ ra) _ ?_ ?_ _ _ ⟨rfl, fun e he => Array.mem_toList_iff.mp he⟩
      · rintro e l b s' ⟨es, hin⟩
        rw [es]
        obtain ⟨k, hk, _⟩ := ksa e (hin e List.mem_cons_self)
        have no := byV k e.key hk
        split
        · rename_i b eb
          exact absurd eb (no b)
        · exact wpAny_pure ⟨rfl, fun x hx => hin x (List.mem_cons_of_mem _ hx)⟩
      · rintro b s' ⟨es, _⟩
        rw [es]
        exact rest
    · exact rest
  refine wpAny_bind (wpAny_dictEntries ata data_ ?_)
  refine wpAny_bind (wpAny_dictEpoch ata data_ ?_)
  refine wpAny_bind ?_
  refine wpAny_forIn_list _ (fun l _ s' => ∃ (h2 : Heap) (i : Nat), s' = { s with heap := h2 } ∧ l = List.range' i (ra.size - i) ∧ i ≤ ra.size ∧ h2.DictOf knd d (acc ++ more.take i) ∧ h2.get? a = some oa ∧ Heap.SameBut d s.heap h2) _ ?_ ?_ _ _
    ⟨s.heap, 0, rfl, by rw [List.range_eq_range', Nat.sub_zero], Nat.zero_le _, by rw [List.take_zero, List.append_nil]; exact hd, ata, Heap.SameBut.refl _ _⟩
  · rintro x l b s' ⟨h2, i, rfl, el, hi, hd2, ata2, same⟩
    have lt : i < ra.size := by
      rcases Nat.lt_or_ge i ra.size with h | h
      · exact h
      · rw [Nat.sub_eq_zero_of_le h] at el
        cases el
    have e1 : ra.size - i = (ra.size - (i + 1)) + 1 := by omega
    rw [e1, List.range'_succ] at el
    injection el with ex el
    subst ex
    refine wpAny_bind (wpAny_dictEntries ata2 data_ ?_)
    rw [Array.getElem?_eq_getElem lt]
    have ltm : x < more.length := by omega
    obtain ⟨hk, hv⟩ := pra.get? (i := x) (e := ra[x]) (k := more[x].1) (v := more[x].2) (by rw [Array.getElem?_toList, Array.getElem?_eq_getElem lt]) (List.getElem?_eq_getElem ltm)
    obtain ⟨k2, hk2, hh⟩ := ksa ra[x] (Array.getElem_mem lt)
    have ek : k2 = more[x].1 := knd.inj _ _ _ hk2 hk
    subst ek
    have split_ : more = more.take x ++ more[x] :: more.drop (x + 1) := by rw [List.getElem_cons_drop, List.take_append_drop]
    have fresh : more[x].1 ∉ (acc ++ more.take x).map (·.1) := fun m => by
      have nd2 := nodup
      rw [split_, ← List.append_assoc, List.map_append, List.nodup_append] at nd2
      exact nd2.2.2 _ m _ (List.mem_map_of_mem List.mem_cons_self) rfl
    refine wpAny_bind (wpAny_holding ?_)
    rw [if_neg Bool.false_ne_true, hh, hv]
    have few2 : (acc ++ more.take x).length ≤ sizeLine := by
      rw [List.length_append, List.length_take]
      omega
    refine put_fresh hk hd2 few2 fresh fun h3 hd3 same3 => ?_
    have ata3 : h3.get? a = some oa := (same3.2 a (Ne.symm da)).trans ata2
    refine wpAny_bind (wpAny_dictEpoch ata3 data_ ?_)
    rw [if_neg (by simp)]
    refine wpAny_pure ⟨h3, x + 1, rfl, el, lt, ?_, ata3, same.trans same3⟩
    rw [List.take_add_one, List.getElem?_eq_getElem ltm, ← List.append_assoc]
    exact hd3
  · rintro b s' ⟨h2, i, rfl, el, hi, hd2, ata2, same⟩
    have ei : i = ra.size := by
      rcases Nat.lt_or_ge i ra.size with h | h
      · have e1 : ra.size - i = (ra.size - (i + 1)) + 1 := by omega
        rw [e1, List.range'_succ] at el
        cases el
      · omega
    rw [ei, ← len, List.take_length] at hd2
    exact wpAny_pure (then_ h2 hd2 same)
end
/-- {**d, k: v}: a new dict with all of d and, at its end, one key more -/
def tDunp (t0 tk tv : TE) : TE := fun σ H Q => ∀ p, H p = none → t0 σ (upd H p (.dK [])) fun x H1 => ∃ (a : Addr) (kvs : List (Key × V)), x = .ref a ∧ a ≠ p ∧ H1 p = some (.dK []) ∧ H1 a = some (.dK kvs) ∧
  ∀ q, (upd H1 p (.dK kvs)) q = none → tk σ (upd (upd H1 p (.dK kvs)) q (.dK [])) fun y H2 => tv σ H2 fun z H3 => ∃ k : Key, y = kV k ∧ H3 q = some (.dK []) ∧ H3 p = some (.dK kvs) ∧ k ∉ kvs.map (·.1) ∧ kvs.length < 1000 ∧
    Q (.ref p) (upd (upd H3 q (.dK [(k, z)])) p (.dK (kvs ++ [(k, z)])))
theorem key_byV {prog : Program} {w : World} (k : Key) (v : Value) (h : (mixKind prog w).is k v = true) (b : Addr) : v ≠ .ref b := by
  rcases keyIs_shape (k := k) (v := v) h with ⟨i, t, _, rfl⟩ | ⟨x, t, _, rfl⟩ <;> intro e <;> cases e
theorem KV.keys {kvs : List (Key × V)} {vs : List (Key × Value)} (r : KV kvs vs) : vs.map (·.1) = kvs.map (·.1) := by
  unfold KV at r
  induction r with
  | nil => rfl
  | cons h t ih => rw [List.map_cons, List.map_cons, ih, h.1]
theorem KV.app {kvs ks2 : List (Key × V)} {vs vs2 : List (Key × Value)} (r : KV kvs vs) (r2 : KV ks2 vs2) : KV (kvs ++ ks2) (vs ++ vs2) := by
  unfold KV at r
  induction r with
  | nil => exact r2
  | cons h t ih => exact .cons h ih
section
variable {X : Cx} {pos : Pos} {e0 k v : Expr} {t0 tk tv : TE}
theorem pe_dunp (h0 : PE X e0 t0) (hk : PE X k tk) (hv : PE X v tv) : PE X (.Dict [none, some k] [e0, v] pos) (tDunp t0 tk tv) := by
  refine ⟨fun pins s σ H Q I q => ?_⟩
  have hn := I.hok.fresh (Nat.le_refl s.heap.objs.size)
  have I1 := I.laid (a := s.heap.objs.size) (o := .dK []) (h' := s.heap.push { cls := .type "dict", data := .dict #[] }) (t' := s.toks) (fun _ _ q => Heap.get?_push_of_some _ q) (Nat.le_refl _) (dk_empty s.heap I.big)
  rw [arm_eval_Dict]
  refine wpAny_bind (wpAny_standAt ?_)
  have items : (evalEachOpt [none, some k] X.env).zip ((evalEach [e0, v] X.env).map fun v => do let x ← v; standAt pos; pure x) =
    [(none, do let x ← eval e0 X.env; standAt pos; pure x), (some (eval k X.env), do let x ← eval v X.env; standAt pos; pure x)] := rfl
  rw [items]
  unfold dictDisplay
  simp only [List.forIn_cons, List.forIn_nil]
  refine wpAny_bind (wpAny_bind ?_)
  refine wpAny_bind (wpAny_of_eq (a := none) rfl ?_)
  dsimp only
  refine wpAny_bind (wpAny_alloc ?_)
  refine wpAny_bind (wpAny_holding (wpAny_bind (thn (h0.run pins _ σ _ _ I1 (q _ hn)) fun u s1 ⟨x, H1, I2, rx, a, kvs, ex, ap, hp1, ha1, q1⟩ => wpAny_bind (wpAny_standAt (wpAny_pure ?_)))))
  subst ex
  obtain rfl : u = Value.ref a := rx
  obtain ⟨za, sysa, va, ra, da⟩ := dk_of I2.hok ha1
  obtain ⟨zp, sysp, vp, rp, dp⟩ := dk_of I2.hok hp1
  cases rp
  have nda : ((([] : List (Key × Value)) ++ va).map fun (x : Key × Value) => x.1).Nodup := by
    obtain ⟨_, _, _, _, _, _, _, _, nd⟩ := da
    rw [List.nil_append]
    exact nd
  have lva : kvs.length = va.length := Paired.length ra
  refine wpAny_bind (wpAny_onRaise (wpAny_tryCatch (wpAny_onRaise (wpAny_holding (merge_fresh (knd := mixKind X.prog X.w) (Ne.symm ap) sysa dp da nda (by rw [List.length_nil]; omega) key_byV fun h2 dp2 same2 => wpAny_pure (wpAny_pure ?_))))))
  rw [List.nil_append] at dp2
  have hpe : ∃ q, h2.get? s.heap.objs.size = some q := let ⟨q, _, _, hq, _⟩ := dp2; ⟨q, hq⟩
  have I3 := d_write (t' := s1.toks) I2 (a := s.heap.objs.size) (ob := .dK kvs) (by rw [hp1]; exact True.intro) same2 hpe (dk_new za sysp ra dp2)
  dsimp only
  refine wpAny_bind ?_
  show wpAny _ _ (holding [.ref s.heap.objs.size] (subDict (pairTrees [some k] [v] X.env pos)) >>= _) _ _ _
  have nq : (upd H1 s.heap.objs.size (.dK kvs)) h2.objs.size = none := I3.hok.fresh (Nat.le_refl _)
  have I4 := I3.laid (a := h2.objs.size) (o := .dK []) (h' := h2.push { cls := .type "dict", data := .dict #[] }) (t' := s1.toks) (fun _ _ q => Heap.get?_push_of_some _ q) (Nat.le_refl _) (dk_empty h2 I3.big)
  refine wpAny_bind (wpAny_holding (wpAny_subDict (knd := mixKind X.prog X.w) (by rw [pairTrees_length _ _ _ _ rfl rfl]; show 1 ≤ 15; decide) ?_))
  refine pairTrees_cons_walk (thn (hk.run pins _ σ _ _ I4 (q1 _ nq)) fun kv s2 ⟨y, H2, I5, ry, q2⟩ => thn (hv.run pins s2 σ H2 _ I5 q2) fun vv s3 ⟨z, H3, I6, rz, key, ey, hq3, hp3, fresh, few, q3⟩ => pairTrees_nil_walk ?_)
  subst ey
  obtain ⟨zq, sysq, vq, rq, dq⟩ := dk_of I6.hok hq3
  cases rq
  refine ⟨[(key, vv)], ⟨kV_is ry, rfl, True.intro⟩, dq, fun h4 dq4 same4 => ?_⟩
  have dq5 : h4.DictOf (mixKind X.prog X.w) h2.objs.size [(key, vv)] := dq4
  have hqe : ∃ q, h4.get? h2.objs.size = some q := let ⟨q, _, _, hq, _⟩ := dq5; ⟨q, hq⟩
  have I7 := d_write (t' := s3.toks + 1) I6 (a := h2.objs.size) (ob := .dK [(key, z)]) (by rw [hq3]; exact True.intro) same4 hqe (dk_new (by show 1 ≤ sizeLine; decide) sysq (.cons ⟨rfl, rz⟩ .nil) dq5)
  have pq : s.heap.objs.size ≠ h2.objs.size := fun e => by
    rw [← e, upd_same] at nq
    cases nq
  have hp7 : (upd H3 h2.objs.size (.dK [(key, z)])) s.heap.objs.size = some (.dK kvs) := by
    rw [upd_ne pq]
    exact hp3
  obtain ⟨zp7, sysp7, vp7, rp7, dp7⟩ := dk_of I7.hok hp7
  have nd7 : ((vp7 ++ [(key, vv)]).map fun (x : Key × Value) => x.1).Nodup := by
    obtain ⟨_, _, _, _, _, _, _, _, nd⟩ := id dp7
    rw [List.map_append, List.nodup_append]
    refine ⟨nd, by simp, fun x hx y hy e => ?_⟩
    rw [KV.keys rp7] at hx
    rw [List.map_cons, List.map_nil, List.mem_singleton] at hy
    rw [e, hy] at hx
    exact fresh hx
  have lv7 : kvs.length = vp7.length := Paired.length rp7
  refine wpAny_bind (wpAny_onRaise (wpAny_holding (merge_fresh (knd := mixKind X.prog X.w) pq sysq dp7 dq5 nd7 (by rw [sizeLine_eq, ← lv7]; simp only [List.length_cons, List.length_nil]; omega) key_byV fun h5 dp8 same5 => wpAny_pure ?_)))
  have hpe5 : ∃ q, h5.get? s.heap.objs.size = some q := let ⟨q, _, _, hq, _⟩ := dp8; ⟨q, hq⟩
  have I8 := d_write (t' := s3.toks + 1) I7 (a := s.heap.objs.size) (ob := .dK (kvs ++ [(key, z)])) (by rw [hp7]; exact True.intro) same5 hpe5
    (dk_new (by rw [List.length_append, sizeLine_eq]; simp only [List.length_cons, List.length_nil]; omega) sysp7 (KV.app rp7 (.cons ⟨rfl, rz⟩ .nil)) dp8)
  exact wpAny_pure ⟨.ref s.heap.objs.size, _, I8, rfl, q3⟩
end
end Du
/-! ### tuple.count; t[:h:-1]; list.extend(t) -/
namespace Tb
open PySem PySem.Spec PyProof.Rows L2
/-- how often a flat value stands in a tuple of flat values -/
def rTCnt (K : PySem.W.Frag) : V → List V → Hp → VK → Prop := fun x xs H Q => ∃ (p : Addr) (ys : List V) (z : V), x = .ref p ∧ xs = [z] ∧ SqT K H p ys ∧ flatV z = true ∧ ys.all flatV = true ∧ Q (.int (ys.countP fun y => eqV y z : Nat)) H
theorem count_eqU {x : V} : ∀ {xs : List V} {us : List Value}, Vals xs us → xs.all flatV = true → us.countP (eqU x) = xs.countP fun y => eqV y x
  | _, _, .nil, _ => rfl
  | y :: xs, u :: us, .cons r t, f => by
    rw [List.all_cons, Bool.and_eq_true] at f
    rw [List.countP_cons, List.countP_cons, eqU_of r f.1, count_eqU t f.2]
theorem mt_tcount {X : Cx} : MtR X "tuple.count" (rTCnt X.K) := by
  intro pins s σ H x xs v us Q I rx rxs h
  obtain ⟨p, ys, z, rfl, rfl, ht, fz, fs, q⟩ := h
  cases rx
  obtain ⟨u, rfl, ru⟩ := rxs.one
  obtain ⟨its, rel, ⟨⟨ocl, odi, oda, osl⟩, hat, hcl, cnt, hda⟩, _⟩ := I.tuple ht
  dsimp only at hcl hda
  subst hcl hda
  have each : ∀ y, y ∈ its.toArray → SeqAt.EqAt X.A.in1 s y u (eqU z y) := fun y hy => mem_eqAt ru fz rel fs y (by simpa using hy)
  refine call_meets PySem.F.slot_tuple_count ⟨_, hat, rfl⟩
    PySem.F.entry_tuple_count (PySem.F.args_tuple_count_2 _ _)
    (SeqAt.tuple_countAt p its.toArray cnt odi osl u (eqU z)) ⟨hat, each, ?_⟩
  have e : its.toArray.toList.countP (eqU z) = ys.countP fun y => eqV y z := count_eqU rel fs
  refine ⟨.int (ys.countP fun y => eqV y z : Nat), H, I.tok _, ⟨s.toks, ?_⟩, q⟩
  show Value.int ((its.toArray.toList.countP (eqU z) : Nat) : Int) s.toks = _
  rw [e]
theorem fm_congr {α β : Type} {f g : α → Option β} : ∀ {l : List α}, (∀ x ∈ l, f x = g x) → l.filterMap f = l.filterMap g
  | [], _ => rfl
  | x :: l, h => by rw [List.filterMap_cons, List.filterMap_cons, h x List.mem_cons_self, fm_congr fun y m => h y (List.mem_cons_of_mem _ m)]
theorem back_pick (xs : Array Value) {h : Nat} (hh : h < xs.size) : ((List.range (xs.size - 1 - h)).filterMap fun (k : Nat) => xs[(((xs.size : Int) - 1) + (k : Int) * (-1)).toNat]?).toArray = ((xs.toList.drop (h + 1)).reverse).toArray := by
  congr 1
  have len : (xs.toList.drop (h + 1)).reverse.length = xs.size - 1 - h := by
    rw [List.length_reverse, List.length_drop, Array.length_toList]
    omega
  have all : ∀ l : List Value, (List.range l.length).filterMap (fun k => l[k]?) = l := fun l => by
    induction l with
    | nil => rfl
    | cons a l ih =>
      rw [List.length_cons, List.range_succ_eq_map, List.filterMap_cons]
      show a :: ((List.range l.length).map Nat.succ).filterMap (fun k => (a :: l)[k]?) = a :: l
      rw [List.filterMap_map]
      exact congrArg (a :: ·) ih
  have e := all (xs.toList.drop (h + 1)).reverse
  rw [len] at e
  refine Eq.trans ?_ e
  refine fm_congr fun k hk => ?_
  have hk := List.mem_range.mp hk
  rw [List.getElem?_reverse (by rw [List.length_drop, Array.length_toList]; omega), List.getElem?_drop, List.length_drop, Array.length_toList, Array.getElem?_toList]
  congr 1
  omega
section
variable {prog : Program} {w : World} {A : Around} {E : Value → Shared → Prop} {s : Shared}
theorem applied_back {sl : Addr} {vl vu vs : Value} {h n : Nat} {Q : Int × Int × Nat → Shared → Prop} (so : s.heap.IsSliceOf sl vl vu vs) (p0 : IsPart vl none) (p1 : IsPart vu (some (h : Int))) (p2 : IsPart vs (some (-1))) (hn : h < n)
    (k : Q ((n : Int) - 1, -1, n - 1 - h) s) : wpAny (model prog w) A (Builtin.Slice.sliceApplied (.ref sl) (pure (n : Int))) Q E s := by
  obtain ⟨ob, at_, _, dat⟩ := id so
  unfold Builtin.Slice.sliceApplied Builtin.Slice.sliceFields
  refine wpAny_bind (wpAny_bind (wpAny_field at_ dat (x := vl) rfl ?_))
  refine wpAny_bind (wpAny_field at_ dat (x := vu) rfl ?_)
  refine wpAny_bind (wpAny_field at_ dat (x := vs) rfl (wpAny_pure ?_))
  refine wpAny_bind (HT.slicePart_ p2 ?_)
  show wpAny _ _ (if ((-1 : Int) == 0) = true then _ else _) _ _ s
  rw [if_neg (by decide)]
  refine wpAny_bind (HT.slicePart_ p0 ?_)
  refine wpAny_bind (HT.slicePart_ p1 ?_)
  refine wpAny_bind (wpAny_pure ?_)
  have adj : Builtin.Slice.sliceAdjust none (some (h : Int)) (-1) (n : Int) = ((n : Int) - 1, (h : Int)) := by
    unfold Builtin.Slice.sliceAdjust
    have e : ¬ ((h : Int) < 0) := by omega
    have e2 : min (h : Int) ((n : Int) - 1) = h := by omega
    simp [e, e2]
  have pl : Builtin.Slice.slicePlaces ((n : Int) - 1) (h : Int) (-1) = n - 1 - h := by
    unfold Builtin.Slice.slicePlaces
    rw [if_neg (by decide)]
    by_cases c : (n : Int) - 1 > (h : Int)
    · rw [if_pos c]
      have e : ((n : Int) - 1 - (h : Int) - 1) / (- -1) = (n : Int) - 1 - (h : Int) - 1 := by
        rw [show (- -1 : Int) = 1 by decide, Int.ediv_one]
      rw [e]
      omega
    · rw [if_neg c]
      omega
  show wpAny _ _ (match Builtin.Slice.sliceAdjust none (some (h : Int)) (-1) (n : Int) with | (lo, hi) => pure (lo, (-1 : Int), Builtin.Slice.slicePlaces lo hi (-1))) _ _ s
  rw [adj]
  show wpAny _ _ (pure ((n : Int) - 1, (-1 : Int), Builtin.Slice.slicePlaces ((n : Int) - 1) (h : Int) (-1))) _ _ s
  rw [pl]
  exact wpAny_pure k
theorem item_back {t sl : Addr} {items : Array Value} {vl vu vs : Value} {h : Nat} {Q : Value → Shared → Prop} (tt : IsTup s.heap t items) (so : s.heap.IsSliceOf sl vl vu vs) (p0 : IsPart vl none) (p1 : IsPart vu (some (h : Int))) (p2 : IsPart vs (some (-1))) (hn : h < items.size) (few : items.size ≤ sizeLine)
    (k : Q (.ref s.heap.objs.size) { s with heap := s.heap.push { cls := .type "tuple", data := .seq ((items.toList.drop (h + 1)).reverse).toArray } }) : wpAny (model prog w) A (getItem (.ref t) (.ref sl)) Q E s := by
  have okSize : sizeOk (.seq ((items.toList.drop (h + 1)).reverse).toArray) := by
    show ((items.toList.drop (h + 1)).reverse).toArray.size ≤ sizeLine
    rw [List.size_toArray, List.length_reverse, List.length_drop, Array.length_toList]
    omega
  obtain ⟨ob, at_, cl, dat⟩ := id so
  have tyS : s.TypeIs (.ref sl) "slice" := ⟨ob, at_, cl⟩
  unfold getItem
  refine wpAny_holding ?_
  refine wpAny_bind (wpAny_sequenceKey tt.typeIs (by decide) ?_)
  refine wpAny_bind (wpAny_callSpecial?_slot (name := Str.ofString "__getitem__") tt.typeIs PyProof.Rows.slot_tuple_getitem
    (wpAny_call_entry PyProof.Rows.slot_tuple_getitem tt.typeIs PyProof.Rows.entry_tuple_getitem ?_ (PyProof.Rows.args_tuple_getitem _ _)))
  show wpAny _ _ (Builtin.Tuple.tupleItemsOf (.ref t) >>= _) _ _ s
  refine wpAny_bind (PyProof.Rows.tupleItemsOf_ tt ?_)
  refine wpAny_bind (wpAny_typeOf tyS ?_)
  rw [if_pos (by decide)]
  refine wpAny_bind (applied_back so p0 p1 p2 hn ?_)
  show wpAny _ _ (if (((items.size : Int) - 1) == 0 && (-1 : Int) == 1 && (items.size - 1 - h) == items.size) = true then _ else _) _ _ s
  have no : ¬ ((((items.size : Int) - 1) == 0 && (-1 : Int) == 1 && (items.size - 1 - h) == items.size) = true) := by
    rw [show ((-1 : Int) == 1) = false by decide, Bool.and_false, Bool.false_and]
    exact Bool.false_ne_true
  rw [if_neg no, back_pick items hn]
  exact wpAny_bind (m := Builtin.Tuple.tupleExact _) (wpAny_newObj_type (wpAny_pure ⟨_, rfl, wpAny_pure k⟩) okSize)
end
/-- t[:h:-1] -/
def tRevUp (K : PySem.W.Frag) (te th : TE) : TE := fun σ H Q => te σ H fun x H1 => tPart th σ H1 fun y H2 => ∃ (a : Addr) (xs : List V) (h : Nat), x = .ref a ∧ y = some (h : Int) ∧ SqT K H2 a xs ∧ h < xs.length ∧ ∀ p, H2 p = none → Q (.ref p) (upd H2 p (.tup (xs.drop (h + 1)).reverse))
section
variable {X : Cx}
theorem pe_revUp {e eh : Expr} {te th : TE} {c : Nat} {p1 p2 p3 pos : Pos} (he : PE X e te) (hh : PE X eh th) : PE X (.Subscript e (.Slice none (some eh) (some (.UnaryOp .USub (.Constant (.int 1) c p1) p2)) p3) pos) (tRevUp X.K te th) := by
  refine ⟨fun pins s0 σ G0 Q J0 q0 => ?_⟩
  refine Subscript_ (thn (he.run pins s0 σ G0 _ J0 q0) fun v0 s1 ⟨x, G1, J1, r0, q1⟩ => ?_)
  refine wpAny_Slice (thn (po_none.run pins s1 σ G1 (fun o G => o = none ∧ G = G1) J1 ⟨rfl, rfl⟩) fun vl s2 ⟨l, G2, J2, pl, el, e2⟩ => ?_)
  subst el e2
  have up : PO X (some eh) (tPart th) := po_some hh
  refine thn (up.run pins s2 σ G2 _ J2 q1) fun vu s3 ⟨u, G3, J3, pu, a, xs, h, ex, eu, hx, hl, q2⟩ => ?_
  subst ex eu
  cases r0
  have back : PO X (some (.UnaryOp .USub (.Constant (.int 1) c p1) p2)) (tPart (tUn (rU fun i => .int (-i)) (tC (.int 1)))) := po_some (pe_un un_neg pe_int)
  refine thn (back.run pins s3 σ G3 (fun o G => o = some (-1) ∧ G = G3) J3 ⟨1, rfl, -1, rfl, rfl, rfl⟩) fun vs s4 ⟨o, G4, J4, ps, eo, e4⟩ => ?_
  subst eo e4
  have J5 : Inv X pins σ G4 { s4 with heap := s4.heap.push { cls := .type "slice", data := .fields #[vl, vu, vs] } } := J4.kept (t' := s4.toks) fun b ob z => Heap.get?_push_of_some _ z
  obtain ⟨its, rel, tt, few⟩ := J5.tuple hx
  have len := rel.length
  show wpAny (model X.prog X.w) X.A (subscriptTail e (.Slice none (some eh) (some (.UnaryOp .USub (.Constant (.int 1) c p1) p2)) p3) (.ref a) (.ref s4.heap.objs.size)) (EP X pins σ Q) X.xe { s4 with heap := s4.heap.push { cls := .type "slice", data := .fields #[vl, vu, vs] } }
  refine tail_any (ops := [.ref a, .ref s4.heap.objs.size]) tt.typeIs
    PyProof.Rows.slot_tuple_getitem.lookup ?_ (by with_unfolding_all rfl)
  refine item_back (h := h) tt (Heap.IsSliceOf.new _ vl vu vs) pl pu ps (by rw [List.size_toArray]; omega) (by rw [List.size_toArray]; omega) ?_
  refine ⟨.ref _, _, J5.laid (t' := s4.toks) (o := .tup (xs.drop (h + 1)).reverse) (fun b ob z => Heap.get?_push_of_some _ z) (Nat.le_refl _) ?_, rfl, q2 _ (J5.hok.fresh (Nat.le_refl _))⟩
  refine ⟨by rw [List.length_reverse, List.length_drop]; omega, (its.drop (h + 1)).reverse, ?_, IsTup.new _ _⟩
  exact (rel.drop (h + 1)).reverse
end
end Tb
/-! ### {**d, **e} -/
namespace Du
open PySem PySem.Spec PyProof.Rows L2
section
variable {prog : Program} {w : World} {K : Type} [DecidableEq K] {knd : KeyKind prog w K} {A : Around} {E : Value → Shared → Prop} {s : Shared}
/-- d[k] = v as a display puts it -/
theorem put_any {d : Addr} {kvs : List (K × Value)} {k : K} {key v : Value} {Q : Unit → Shared → Prop} (hkey : knd.is k key = true) (hm : s.heap.DictOf knd d kvs) (hsz : kvs.length ≤ sizeLine)
    (hQ : ∀ h', h'.DictOf knd d (stored kvs k v) → Heap.SameBut d s.heap h' → Q () { s with heap := h' }) : wpAny (model prog w) A (dictPut d (knd.hash k) key v) Q E s := by
  obtain ⟨o, es, ep, ho, hc, hd, hk, hp, hn⟩ := id hm
  have hidx : (es.findIdx? fun e => knd.is k e.key) = kvs.findIdx? fun kv => decide (kv.1 = k) := by
    rw [← hp.findIdx k]; obtain ⟨l⟩ := es; simp
  cases hi : es.findIdx? fun e => knd.is k e.key with
  | some i =>
    unfold dictPut
    refine wpAny_bind (wpAny_dictFind_of hkey ho hd hk ?_)
    rw [hi]
    refine wpAny_updateDict ho hd (hQ _ ⟨_, _, ep, Heap.get?_update_self _ ho (Obj.isFreed_of_dict (Obj.data_mapDict hd _)), hc.mapDict _, Obj.data_mapDict hd _, hk.modify _ _, ?_, ?_⟩ (Heap.SameBut.update ..))
    · rw [stored, if_pos (any_of_findIdx_some (hidx ▸ hi))]
      have hl : (es.toList.findIdx? fun e => knd.is k e.key) = some i := by rw [← hi]; obtain ⟨l⟩ := es; simp
      have := hp.modify hn hl v
      obtain ⟨l⟩ := es
      simpa using this
    · rw [stored, if_pos (any_of_findIdx_some (hidx ▸ hi)), keys_map_store]; exact hn
  | none =>
    have hnot : k ∉ kvs.map (·.1) := not_mem_of_findIdx_none (hidx ▸ hi)
    have hany : ¬ (kvs.any fun kv => decide (kv.1 = k)) = true := by
      rw [List.any_eq_true]; rintro ⟨kv, hkv, he⟩
      exact hnot (List.mem_map.mpr ⟨kv, hkv, of_decide_eq_true he⟩)
    refine put_fresh hkey hm hsz hnot fun h2 hd2 sb => hQ h2 ?_ sb
    rw [stored, if_neg hany]
    exact hd2
/-- all of one dict behind what another one has -/
theorem merge_any {d a : Addr} {acc more : List (K × Value)} {Q : Unit → Shared → Prop} (da : d ≠ a) (sys : (a == sysModules) = false) (hd : s.heap.DictOf knd d acc) (ha : s.heap.DictOf knd a more) (few : acc.length + more.length ≤ sizeLine) (byV : ∀ (k : K) (v : Value), knd.is k v = true → ∀ b, v ≠ .ref b)
    (then_ : ∀ h2, h2.DictOf knd d (merged acc more) → Heap.SameBut d s.heap h2 → Q () { s with heap := h2 }) : wpAny (model prog w) A (mergeMapping d (.ref a) false) Q E s := by
  have tyA := ha.typeIs
  obtain ⟨od, rd, gd, atd, exd, datd, ksd, prd, ndd⟩ := id hd
  obtain ⟨oa, ra, ga, ata, exa, data_, ksa, pra, nda⟩ := id ha
  have len : more.length = ra.size := by
    rw [← pra.length]
    simp
  unfold mergeMapping
  refine wpAny_bind (wpAny_isInstance (T := "dict") (U := "dict") (b := true) tyA (by rw [isSubtype_type]; kernel_rfl) ?_)
  rw [if_pos rfl]
  refine wpAny_bind (wpAny_specialOf tyA F.slot_dict_iter.lookup ?_)
  refine wpAny_bind (wpAny_pure ?_)
  have e : (some (Value.builtin "dict.__iter__") == some (Value.builtin "dict.__iter__")) = true := by decide +kernel
  rw [e]
  dsimp only
  rw [if_neg (by rw [sys]; exact Bool.false_ne_true)]
  refine wpAny_bind (wpAny_dictEntries atd datd ?_)
  apply twice
  · intro rest
    refine wpAny_ite_split (fun _ => ?_) (fun _ => ?_)
    · refine wpAny_bind (wpAny_dictEntries ata data_ ?_)
      refine wpAny_bind ?_
      rw [← Array.forIn_toList]
      refine wpAny_forIn_list _ (fun l _ s' => s' = s ∧ ∀ e ∈ l, e ∈ ra) _ ?_ ?_ _ _ ⟨rfl, fun e he => Array.mem_toList_iff.mp he⟩
      · rintro e l b s' ⟨es, hin⟩
        rw [es]
        obtain ⟨k, hk, _⟩ := ksa e (hin e List.mem_cons_self)
        have no := byV k e.key hk
        split
        · rename_i b eb
          exact absurd eb (no b)
        · exact wpAny_pure ⟨rfl, fun x hx => hin x (List.mem_cons_of_mem _ hx)⟩
      · rintro b s' ⟨es, _⟩
        rw [es]
        exact rest
    · exact rest
  refine wpAny_bind (wpAny_dictEntries ata data_ ?_)
  refine wpAny_bind (wpAny_dictEpoch ata data_ ?_)
  refine wpAny_bind ?_
  refine wpAny_forIn_list _ (fun l _ s' => ∃ (h2 : Heap) (i : Nat), s' = { s with heap := h2 } ∧ l = List.range' i (ra.size - i) ∧ i ≤ ra.size ∧ h2.DictOf knd d (merged acc (more.take i)) ∧ h2.get? a = some oa ∧ Heap.SameBut d s.heap h2) _ ?_ ?_ _ _
    ⟨s.heap, 0, rfl, by rw [List.range_eq_range', Nat.sub_zero], Nat.zero_le _, by rw [List.take_zero]; exact hd, ata, Heap.SameBut.refl _ _⟩
  · rintro x l b s' ⟨h2, i, rfl, el, hi, hd2, ata2, same⟩
    have lt : i < ra.size := by
      rcases Nat.lt_or_ge i ra.size with h | h
      · exact h
      · rw [Nat.sub_eq_zero_of_le h] at el
        cases el
    have e1 : ra.size - i = (ra.size - (i + 1)) + 1 := by omega
    rw [e1, List.range'_succ] at el
    injection el with ex el
    subst ex
    refine wpAny_bind (wpAny_dictEntries ata2 data_ ?_)
    rw [Array.getElem?_eq_getElem lt]
    have ltm : x < more.length := by omega
    obtain ⟨hk, hv⟩ := pra.get? (i := x) (e := ra[x]) (k := more[x].1) (v := more[x].2) (by rw [Array.getElem?_toList, Array.getElem?_eq_getElem lt]) (List.getElem?_eq_getElem ltm)
    obtain ⟨k2, hk2, hh⟩ := ksa ra[x] (Array.getElem_mem lt)
    have ek : k2 = more[x].1 := knd.inj _ _ _ hk2 hk
    subst ek
    refine wpAny_bind (wpAny_holding ?_)
    rw [if_neg Bool.false_ne_true, hh, hv]
    have few2 : (merged acc (more.take x)).length ≤ sizeLine := by
      have e1 := merged_length_le acc (more.take x)
      rw [List.length_take] at e1
      omega
    refine put_any hk hd2 few2 fun h3 hd3 same3 => ?_
    have ata3 : h3.get? a = some oa := (same3.2 a (Ne.symm da)).trans ata2
    refine wpAny_bind (wpAny_dictEpoch ata3 data_ ?_)
    rw [if_neg (by simp)]
    refine wpAny_pure ⟨h3, x + 1, rfl, el, lt, ?_, ata3, same.trans same3⟩
    rw [merged_take_succ acc more x more[x] (List.getElem?_eq_getElem ltm)]
    exact hd3
  · rintro b s' ⟨h2, i, rfl, el, hi, hd2, ata2, same⟩
    have ei : i = ra.size := by
      rcases Nat.lt_or_ge i ra.size with h | h
      · have e1 : ra.size - i = (ra.size - (i + 1)) + 1 := by omega
        rw [e1, List.range'_succ] at el
        cases el
      · omega
    rw [ei, ← len, List.take_length] at hd2
    exact wpAny_pure (then_ h2 hd2 same)
end
/-- {**d, **e}: a new dict with all of d, then all of e -/
def tDunp2 (t0 t1 : TE) : TE := fun σ H Q => ∀ p, H p = none → t0 σ (upd H p (.dK [])) fun x H1 => ∃ (a : Addr) (kvs : List (Key × V)), x = .ref a ∧ a ≠ p ∧ H1 p = some (.dK []) ∧ H1 a = some (.dK kvs) ∧
  t1 σ (upd H1 p (.dK kvs)) fun y H2 => ∃ (b : Addr) (more : List (Key × V)), y = .ref b ∧ b ≠ p ∧ H2 p = some (.dK kvs) ∧ H2 b = some (.dK more) ∧ kvs.length + more.length < 1000 ∧ Q (.ref p) (upd H2 p (.dK (mergeK kvs more)))
section
variable {X : Cx} {pos : Pos} {e0 e1 : Expr} {t0 t1 : TE}
theorem pe_dunp2 (h0 : PE X e0 t0) (h1 : PE X e1 t1) : PE X (.Dict [none, none] [e0, e1] pos) (tDunp2 t0 t1) := by
  refine ⟨fun pins s σ H Q I q => ?_⟩
  have hn := I.hok.fresh (Nat.le_refl s.heap.objs.size)
  have I1 := I.laid (a := s.heap.objs.size) (o := .dK []) (h' := s.heap.push { cls := .type "dict", data := .dict #[] }) (t' := s.toks) (fun _ _ q => Heap.get?_push_of_some _ q) (Nat.le_refl _) (dk_empty s.heap I.big)
  rw [arm_eval_Dict]
  refine wpAny_bind (wpAny_standAt ?_)
  have items : (evalEachOpt [none, none] X.env).zip ((evalEach [e0, e1] X.env).map fun v => do let x ← v; standAt pos; pure x) =
    [(none, do let x ← eval e0 X.env; standAt pos; pure x), (none, do let x ← eval e1 X.env; standAt pos; pure x)] := rfl
  rw [items]
  unfold dictDisplay
  simp only [List.forIn_cons, List.forIn_nil]
  refine wpAny_bind (wpAny_bind ?_)
  refine wpAny_bind (wpAny_of_eq (a := none) rfl ?_)
  dsimp only
  refine wpAny_bind (wpAny_alloc ?_)
  refine wpAny_bind (wpAny_holding (wpAny_bind (thn (h0.run pins _ σ _ _ I1 (q _ hn)) fun u s1 ⟨x, H1, I2, rx, a, kvs, ex, ap, hp1, ha1, q1⟩ => wpAny_bind (wpAny_standAt (wpAny_pure ?_)))))
  subst ex
  obtain rfl : u = Value.ref a := rx
  obtain ⟨za, sysa, va, ra, da⟩ := dk_of I2.hok ha1
  obtain ⟨zp, sysp, vp, rp, dp⟩ := dk_of I2.hok hp1
  cases rp
  have nda : ((([] : List (Key × Value)) ++ va).map fun (x : Key × Value) => x.1).Nodup := by
    obtain ⟨_, _, _, _, _, _, _, _, nd⟩ := da
    rw [List.nil_append]
    exact nd
  have lva : kvs.length = va.length := Paired.length ra
  refine wpAny_bind (wpAny_onRaise (wpAny_tryCatch (wpAny_onRaise (wpAny_holding (merge_fresh (knd := mixKind X.prog X.w) (Ne.symm ap) sysa dp da nda (by rw [List.length_nil]; omega) key_byV fun h2 dp2 same2 => wpAny_pure ?_)))))
  rw [List.nil_append] at dp2
  have hpe : ∃ q, h2.get? s.heap.objs.size = some q := let ⟨q, _, _, hq, _⟩ := dp2; ⟨q, hq⟩
  have I3 := d_write (t' := s1.toks) I2 (a := s.heap.objs.size) (ob := .dK kvs) (by rw [hp1]; exact True.intro) same2 hpe (dk_new za sysp ra dp2)
  dsimp only
  refine wpAny_bind ?_
  refine wpAny_bind (wpAny_pure ?_)
  dsimp only
  refine wpAny_bind (wpAny_pure ?_)
  refine wpAny_bind (wpAny_holding (wpAny_bind (thn (h1.run pins _ σ _ _ I3 q1) fun u2 s3 ⟨y, H2, I4, ry, b, more, ey, bp, hp2, hb2, few, q2⟩ => wpAny_bind (wpAny_standAt (wpAny_pure ?_)))))
  subst ey
  obtain rfl : u2 = Value.ref b := ry
  obtain ⟨zb, sysb, vb, rb, db⟩ := dk_of I4.hok hb2
  obtain ⟨zp3, sysp3, vp3, rp3, dp3⟩ := dk_of I4.hok hp2
  have l1 : kvs.length = vp3.length := Paired.length rp3
  have l2 : more.length = vb.length := Paired.length rb
  refine wpAny_bind (wpAny_onRaise (wpAny_tryCatch (wpAny_onRaise (wpAny_holding (merge_any (knd := mixKind X.prog X.w) (Ne.symm bp) sysb dp3 db (by rw [sizeLine_eq]; omega) key_byV fun h4 dp4 same4 => wpAny_pure (wpAny_pure ?_))))))
  have hpe4 : ∃ q, h4.get? s.heap.objs.size = some q := let ⟨q, _, _, hq, _⟩ := dp4; ⟨q, hq⟩
  have rel : KV (mergeK kvs more) (merged vp3 vb) := KV.merge rb rp3
  have lm : (mergeK kvs more).length ≤ sizeLine := by
    have e := Paired.length rel
    have e2 := merged_length_le vp3 vb
    rw [sizeLine_eq]
    omega
  have I5 := d_write (t' := s3.toks) I4 (a := s.heap.objs.size) (ob := .dK (mergeK kvs more)) (by rw [hp2]; exact True.intro) same4 hpe4 (dk_new lm sysp3 rel dp4)
  dsimp only
  refine wpAny_bind (wpAny_of_eq (a := some s.heap.objs.size) rfl ?_)
  exact wpAny_pure ⟨.ref s.heap.objs.size, _, I5, rfl, q2⟩
end
end Du
namespace Pr
open PySem PySem.Spec PyProof.Rows L2 Gd
/-! ### books as data: names with arities, a goal, rules -/
abbrev Rl := Str × Nat × List Str
/-- the arity of a word (0 where it is no operator) -/
def ar (l : List (Str × Nat)) (z : Str) : Nat := match valV (dkv l) (.inr z : Key) with
  | some (.int a) => a.toNat
  | _ => 0
/-- zs are n trees, one behind the other -/
def Wh (f : Str → Nat) : Nat → List Str → Prop
  | n, [] => n = 0
  | 0, _ :: _ => False
  | n + 1, z :: zs => Wh f (n + f z) zs
/-- how many words n trees take -/
def fin (f : Str → Nat) : Nat → List Str → Nat
  | 0, _ => 0
  | _ + 1, [] => 0
  | n + 1, z :: zs => fin f (n + f z) zs + 1
theorem fin_zero {f : Str → Nat} (zs : List Str) : fin f 0 zs = 0 := by cases zs <;> rfl
theorem fin_nil {f : Str → Nat} (n : Nat) : fin f n [] = 0 := by cases n <;> rfl
theorem fin_le {f : Str → Nat} : ∀ (zs : List Str) (n : Nat), fin f n zs ≤ zs.length
  | [], n => by rw [fin_nil]; exact Nat.le_refl _
  | z :: zs, 0 => by rw [fin_zero]; exact Nat.zero_le _
  | z :: zs, n + 1 => Nat.succ_le_succ (fin_le zs _)
theorem fin_add {f : Str → Nat} : ∀ (zs : List Str) (a b : Nat), fin f (a + b) zs = fin f a zs + fin f b (zs.drop (fin f a zs))
  | [], a, b => by rw [fin_nil, fin_nil, List.drop_nil, fin_nil]
  | z :: zs, 0, b => by rw [Nat.zero_add, fin_zero, Nat.zero_add, List.drop_zero]
  | z :: zs, a + 1, b => by
    have e : a + 1 + b = (a + b) + 1 := by omega
    have e2 : a + b + f z = (a + f z) + b := by omega
    rw [e]
    show fin f (a + b + f z) zs + 1 = fin f (a + f z) zs + 1 + fin f b (zs.drop (fin f (a + f z) zs))
    rw [e2, fin_add zs (a + f z) b]
    omega
/-- behind k of the trees the others stand -/
theorem Wh.split_ {f : Str → Nat} : ∀ (zs : List Str) (k m : Nat), Wh f (k + m) zs → Wh f m (zs.drop (fin f k zs))
  | [], k, m, h => by
    have h' : k + m = 0 := h
    rw [List.drop_nil]
    show m = 0
    omega
  | z :: zs, 0, m, h => by
    rw [fin_zero, List.drop_zero]
    rw [Nat.zero_add] at h
    exact h
  | z :: zs, k + 1, m, h => by
    have e : k + 1 + m = (k + m) + 1 := by omega
    rw [e] at h
    have h' : Wh f (k + m + f z) zs := h
    have e2 : k + m + f z = (k + f z) + m := by omega
    rw [e2] at h'
    exact Wh.split_ zs (k + f z) m h'
theorem Wh.split {f : Str → Nat} {zs : List Str} {k m : Nat} (h : Wh f (k + m) zs) : Wh f m (zs.drop (fin f k zs)) := Wh.split_ zs k m h
/-- where trees are still wanted, words are left -/
theorem Wh.left {f : Str → Nat} {zs : List Str} {m : Nat} (h : Wh f (m + 1) zs) : zs ≠ [] := fun e => by
  subst e
  have h' : m + 1 = 0 := h
  omega
theorem Wh.lt {f : Str → Nat} {zs : List Str} {k m : Nat} (h : Wh f (k + (m + 1)) zs) : fin f k zs < zs.length := by
  have := (Wh.split h).left
  rcases Nat.lt_or_ge (fin f k zs) zs.length with c | c
  · exact c
  · exact absurd (List.drop_of_length_le c) this
/-- at each place of a whole row trees are wanted -/
theorem Wh.at_ {f : Str → Nat} : ∀ (zs : List Str) (n p : Nat), Wh f n zs → p < zs.length → ∃ m, Wh f (m + 1) (zs.drop p)
  | [], _, p, _, h => absurd h (Nat.not_lt_zero _)
  | z :: zs, 0, p, h, _ => h.elim
  | z :: zs, n + 1, 0, h, _ => ⟨n, h⟩
  | z :: zs, n + 1, p + 1, h, hp => by
    have h' : Wh f (n + f z) zs := h
    exact Wh.at_ zs _ p h' (by have e : (z :: zs).length = zs.length + 1 := rfl; omega)
theorem Wh.at {f : Str → Nat} {zs : List Str} {n p : Nat} (h : Wh f n zs) (hp : p < zs.length) : ∃ m, Wh f (m + 1) (zs.drop p) := Wh.at_ zs n p h hp
/-- one rule -/
structure RlOk (l : List (Str × Nat)) (r : Rl) : Prop where
  head : azB r.1 = true
  new : r.1 ∉ l.map (·.1)
  price : r.2.1 ≤ 9
  some_ : 1 ≤ r.2.2.length
  few : r.2.2.length ≤ 7
  names : ∀ z ∈ r.2.2, azB z = true
  other : r.2.2 ≠ [r.1]
  whole : Wh (ar l) 1 r.2.2
/-- what is a nonterminal -/
def isNt (l : List (Str × Nat)) (g : Str) (rs : List Rl) (z : Str) : Prop := z = g ∨ ∃ r ∈ rs, (z = r.1 ∨ z ∈ r.2.2) ∧ z ∉ l.map (·.1)
/-- what is a part -/
def isPart (l : List (Str × Nat)) (rs : List Rl) (ws : List Str) : Prop := ∃ r ∈ rs, ∃ i z, r.2.2[i]? = some z ∧ z ∈ l.map (·.1) ∧ ws = (r.2.2.drop i).take (fin (ar l) 1 (r.2.2.drop i))
/-- a book -/
structure BkOk (l : List (Str × Nat)) (g : Str) (rs : List Rl) : Prop where
  ops : OpsOk l
  goal : azB g = true
  gnew : g ∉ l.map (·.1)
  few : rs.length ≤ 12
  rules : ∀ r ∈ rs, RlOk l r
  nd : (rs.map fun r => (r.1, r.2.2)).Nodup
  six : ∃ D : List Str, D.length ≤ 6 ∧ ∀ z, isNt l g rs z → z ∈ D
/-- distinct items of a short row are few -/
theorem nodup_few : ∀ {l D : List Str}, l.Nodup → (∀ x ∈ l, x ∈ D) → l.length ≤ D.length
  | [], _, _, _ => Nat.zero_le _
  | x :: l, D, hn, hs => by
    obtain ⟨h1, h2⟩ := List.nodup_cons.mp hn
    have hx : x ∈ D := hs x List.mem_cons_self
    have ih := nodup_few (l := l) (D := D.erase x) h2 fun y hy => by
      have hne : y ≠ x := fun e => h1 (e ▸ hy)
      exact (List.mem_erase_of_ne hne).2 (hs y (List.mem_cons_of_mem _ hy))
    have e := List.length_erase_of_mem hx
    have hp : 0 < D.length := List.length_pos_of_mem hx
    rw [List.length_cons]
    omega
/-- a rule as a tuple, its pattern a tuple -/
def RuleAt (H : Hp) (a : Addr) (r : Rl) : Prop := ∃ t, H a = some (.tup [.str r.1, .int (r.2.1 : Int), .ref t]) ∧ H t = some (.tup (r.2.2.map V.str))
theorem RuleAt.same {H H' : Hp} {a : Addr} {r : Rl} (h : RuleAt H a r) (s : Same H H') : RuleAt H' a r := let ⟨t, x, y⟩ := h; ⟨t, s _ _ x, s _ _ y⟩
/-- the names of a word's length -/
theorem az_len {z : Str} (h : azB z = true) : z.length ≤ 8 := by
  have h2 : (decide (1 ≤ z.length) && decide (z.length ≤ 8) && z.cps.toList.all azC) = true := h
  simp only [Bool.and_eq_true, decide_eq_true_eq] at h2
  omega
/-! ### dicts of texts and numbers, with one put -/
def putL (l : List (Str × Nat)) (z : Str) (k : Nat) : List (Str × Nat) := if (l.any fun p => decide (p.1 = z)) = true then l.map (fun p => if p.1 = z then (p.1, k) else p) else l ++ [(z, k)]
theorem put_dkv (l : List (Str × Nat)) (z : Str) (k : Nat) : putK (dkv l) (.inr z) (.int (k : Int)) = dkv (putL l z k) := by
  have ea : ((dkv l).any fun kv => decide (kv.1 = (.inr z : Key))) = l.any fun p => decide (p.1 = z) := by
    unfold dkv
    rw [List.any_map]
    congr 1
    funext p
    show decide ((Sum.inr p.1 : Key) = .inr z) = decide (p.1 = z)
    by_cases e : p.1 = z
    · rw [e]; simp
    · rw [decide_eq_false e, decide_eq_false fun c => e (Sum.inr.inj c)]
  unfold putK putL
  rw [ea]
  split
  · unfold dkv
    rw [List.map_map, List.map_map]
    refine List.map_congr_left fun p _ => ?_
    show (if (Sum.inr p.1 : Key) = .inr z then ((Sum.inr p.1 : Key), V.int (k : Int)) else (.inr p.1, .int (p.2 : Int))) = (fun q : Str × Nat => ((.inr q.1 : Key), V.int (q.2 : Int))) (if p.1 = z then (p.1, k) else p)
    by_cases e : p.1 = z
    · rw [if_pos e, if_pos (by rw [e])]
    · rw [if_neg e, if_neg fun c => e (Sum.inr.inj c)]
  · unfold dkv
    rw [List.map_append]
    rfl
def mergeL (l more : List (Str × Nat)) : List (Str × Nat) := more.foldl (fun acc p => putL acc p.1 p.2) l
theorem merge_dkv : ∀ (more l : List (Str × Nat)), mergeK (dkv l) (dkv more) = dkv (mergeL l more)
  | [], l => rfl
  | p :: more, l => by
    show mergeK (putK (dkv l) (.inr p.1) (.int (p.2 : Int))) (dkv more) = dkv (mergeL (putL l p.1 p.2) more)
    rw [put_dkv, merge_dkv more]
theorem val_putL (l : List (Str × Nat)) (z x : Str) (k : Nat) : valV (dkv (putL l z k)) (.inr x : Key) = if x = z then some (.int (k : Int)) else valV (dkv l) (.inr x : Key) := by
  rw [← put_dkv, valV_put]
  by_cases e : x = z
  · rw [if_pos e, if_pos (by rw [e])]
  · rw [if_neg e, if_neg fun c => e (Sum.inr.inj c)]
/-- a field's value -/
def FldAt (H : Hp) (o : Addr) (f : Str) (v : V) : Prop := ∃ C dx fs, H o = some (.ins C dx fs) ∧ fs.lookup f = some v
theorem FldAt.same {H H' : Hp} {o : Addr} {f : Str} {v : V} (h : FldAt H o f v) (s : Same H H') : FldAt H' o f v := let ⟨C, dx, fs, a, b⟩ := h; ⟨C, dx, fs, s _ _ a, b⟩
end Pr
namespace Pr
open PySem PySem.Spec PyProof.Rows L2 Gd
theorem tyR {K : PySem.W.Frag} {H : Hp} {a : Addr} {xs : List V} (h : Rd H a (.tup xs)) : TyX K H (.ref a) (.type "tuple") := by
  rcases h with h | ⟨o, h⟩
  · exact .base (.tup h)
  · exact .fTuple h
theorem Rd.same {H H' : Hp} {a : Addr} {u : HO} (h : Rd H a u) (s : Same H H') : Rd H' a u := by
  rcases h with h | ⟨o, h⟩
  · exact .inl (s _ _ h)
  · exact .inr ⟨o, s _ _ h⟩
theorem TXr {H : Hp} {a : Addr} {xs : List V} (h : Tx.TX H a xs) : Rd H a (.tup xs) := let ⟨o, e, _⟩ := h; .inr ⟨o, e⟩
end Pr
namespace Pr
open PySem PySem.Spec PyProof.Rows L2 Gd
/-! ### are_names, is_rule -/
def spNames : Sp := fun vs H Q _ => ∃ (t : Addr) (ws : List Str), vs = [.ref t] ∧ H t = some (.tup (ws.map V.str)) ∧ (∀ z ∈ ws, azB z = true) ∧ ws.length ≤ 1000 ∧ ∀ H', Same H H' → Q (.bl true) H'
section
variable {P : Program} {w : World} {K : PySem.W.Frag} {mg : Str → Option Value} {base : Heap} {fN : Addr} {dN : FuncData} {tk : Tok}
theorem scNames : FnScope ["value", "word"] ["value"] (defScope sNames) := ⟨rfl, rfl, rfl, by decide +kernel, rfl, by decide +kernel, by decide +kernel⟩
theorem ok_names {f : Addr} {fd : FuncData} (F : Fun K "are_names" "are_names" sNames f fd) (T : Free mg) (gm : mg "MAX_LETTERS" = some (.int 8 tk)) (FN : Fun K "is_name" "is_name" sName fN dN) (bN : Binds K dN ["value"] []) (gN : mg "is_name" = some (.ref fN)) : FnOk P w K mg base CX0 2 f fd ["value"] spNames := by
  have GN : FnOk P w K mg base CX0 1 fN dN ["value"] spName := ok_name FN T gm
  refine F.ok scNames (fun vs H Q E h => ?_) (fun cdv A outer s H vs Q E hr h => ?_)
  · obtain ⟨t, ws, rfl, _⟩ := h
    rfl
  · obtain ⟨t, ws, rfl, ht, az, few, q⟩ := h
    have hu := hr.units
    refine ⟨_, (pss_one (ps_ret (pe_and (pe_callB call_isi (by rfl) T.isi (by decide +kernel) (pa_cons (pv 0) (pa_cons (pe_bltn (v := .ty "tuple") (by rfl) T.tuple (by decide +kernel) rfl) pa_nil))) (pe_one (pe_callB (cr_all rfl) (by rfl) T.all (by decide +kernel) (pa_cons (pe_lc (own := [("word", 1)]) (g := gName 1) (by rfl) scNames.nd (pi_tup (pv 0)) (blkOk_by (own := [("word", 1)]) (N := ["value", "word"]) (sc := defScope sNames) (by decide +kernel)) (fun _ _ _ _ _ => pg_name (i := 1) scNames.nd rfl (.inl rfl)) (fun _ _ _ _ _ => pts_nil) (fun _ _ _ _ _ => pe_call GN hr (by rfl) gN FN.kp bN .nil pass0 (pa_cons (pv 1) pa_nil))) pa_nil)))))), ?_⟩
    refine ⟨_, rfl, .ref t, _, _, _, true, rfl, .ty "tuple", tyR (.inl ht), kit_ty (r := true) (by decide +kernel), _, rfl, iteT ?_⟩
    refine ⟨_, rfl, t, rfl, ⟨_, SqT.of ht⟩, fun D nD => ?_⟩
    refine lc_tup (K := K) (a := t) (xs := ws.map V.str) (fun i G => G D = some (.lst (List.replicate i (V.bl true))) ∧ Same H G) ⟨upd_same, Same.new nD⟩ (fun i G _ ⟨_, s⟩ => SqT.of (s _ _ ht)) ?_ ?_
    · rintro i x G hx ⟨eD, s⟩
      obtain ⟨z, hz, rfl⟩ : ∃ z, ws[i]? = some z ∧ x = .str z := by
        rw [List.getElem?_map] at hx
        cases e : ws[i]? with
        | none => rw [e] at hx; cases hx
        | some z => rw [e] at hx; exact ⟨z, rfl, (Option.some.inj hx).symm⟩
      have hi := (List.getElem?_eq_some_iff.mp hz).1
      have zz := az z (List.mem_of_getElem? hz)
      refine ⟨rfl, _, rfl, .str z, "str", rfl, .str z, fun y e => (by cases e; have := az_len zz; omega), _, eD, by rw [List.length_replicate, sizeLine_eq]; omega, ?_, fun b o q => by rw [upd_ne (ne_of_none q nD)]; exact s b o q⟩
      rw [upd_same]
      have e : nameB (.str z) = true := zz
      rw [e, List.replicate_succ']
    · rintro G ⟨eD, s⟩
      refine ⟨D, List.replicate (ws.map V.str).length true, rfl, SqL.of (by rw [eD, List.map_replicate]), ?_⟩
      have e : (List.replicate (ws.map V.str).length true).all id = true := by
        rw [List.all_eq_true]
        intro b m
        exact (List.mem_replicate.mp m).2
      rw [e]
      exact q G s
end
end Pr
namespace Pr
open PySem PySem.Spec PyProof.Rows L2 Gd
/-! ### rows of names and of numbers, told apart -/
def strD (z : Str) : PyData := .str z
theorem dp_strs {K : PySem.W.Frag} {H : Hp} : ∀ zs : List Str, DpAll K H (zs.map V.str) (zs.map strD)
  | [] => .nil
  | z :: zs => .cons (.str z) (dp_strs zs)
theorem low_depth : ∀ {ds : List PyData}, (∀ d ∈ ds, d.depth = 0) → PyData.depthAll ds = 0
  | [], _ => rfl
  | d :: ds, h => by
    simp only [PyData.depthAll]
    rw [h d List.mem_cons_self, low_depth fun x m => h x (List.mem_cons_of_mem _ m)]
    rfl
theorem lay_all : ∀ {ds : List PyData}, (∀ d ∈ ds, d.canLay0 = true) → PyData.canLayAll0 ds = true
  | [], _ => rfl
  | d :: ds, h => by
    simp only [PyData.canLayAll0]
    rw [h d List.mem_cons_self, lay_all fun x m => h x (List.mem_cons_of_mem _ m)]
    rfl
theorem shaped_row {ds : List PyData} (h : ∀ d ∈ ds, d.depth = 0 ∧ d.canLay0 = true) : SeqAt.shaped (.tuple ds) = true := by
  have e : PyData.depth (.tuple ds) = PyData.depthAll ds + 1 := by simp only [PyData.depth]
  have e2 : PyData.canLay0 (.tuple ds) = PyData.canLayAll0 ds := by simp only [PyData.canLay0]
  unfold SeqAt.shaped
  rw [e, e2, low_depth fun d m => (h d m).1, lay_all fun d m => (h d m).2]
  rfl
theorem shaped_strs {zs : List Str} (h : ∀ z ∈ zs, PyData.strOk z = true) : SeqAt.shaped (.tuple (zs.map strD)) = true := shaped_row fun d m => by
  obtain ⟨z, hz, rfl⟩ := List.mem_map.mp m
  exact ⟨by unfold strD; simp only [PyData.depth], by unfold strD; simp only [PyData.canLay0]; exact h z hz⟩
theorem neT {K : PySem.W.Frag} {H : Hp} {x y : V} {Q : VK} {ds : List PyData} (hx : Dp K H x (.tuple ds)) (hy : Dp K H y (.tuple ds)) (hs : SeqAt.shaped (.tuple ds) = true) (q : Q (.bl false) H) : rNeD K x y H Q :=
  ⟨_, _, hx, hy, hs, hs, by rw [SeqAt.eqv_refl _ (SeqAt.canLay_of_shaped hs)]; exact q⟩
theorem eqT {K : PySem.W.Frag} {H : Hp} {x y : V} {Q : VK} {ds : List PyData} (hx : Dp K H x (.tuple ds)) (hy : Dp K H y (.tuple ds)) (hs : SeqAt.shaped (.tuple ds) = true) (q : Q (.bl true) H) : rEqD K x y H Q :=
  ⟨_, _, hx, hy, hs, hs, by rw [SeqAt.eqv_refl _ (SeqAt.canLay_of_shaped hs)]; exact q⟩
theorem neStrs {K : PySem.W.Frag} {H : Hp} {a b : Addr} {Q : VK} {zs : List Str} (ha : H a = some (.tup (zs.map V.str))) (hb : H b = some (.tup (zs.map V.str))) (hz : ∀ z ∈ zs, PyData.strOk z = true) (q : Q (.bl false) H) : rNeD K (.ref a) (.ref b) H Q :=
  neT (.tup (SqT.of ha) (dp_strs zs)) (.tup (SqT.of hb) (dp_strs zs)) (shaped_strs hz) q
theorem eqStrs {K : PySem.W.Frag} {H : Hp} {a b : Addr} {Q : VK} {zs : List Str} (ha : H a = some (.tup (zs.map V.str))) (hb : H b = some (.tup (zs.map V.str))) (hz : ∀ z ∈ zs, PyData.strOk z = true) (q : Q (.bl true) H) : rEqD K (.ref a) (.ref b) H Q :=
  eqT (.tup (SqT.of ha) (dp_strs zs)) (.tup (SqT.of hb) (dp_strs zs)) (shaped_strs hz) q
/-- a slice of a row of names -/
theorem cut_strs {zs : List Str} {p e : Nat} (hp : p ≤ zs.length) (he : e ≤ zs.length) (pe : p ≤ e) : cutV (zs.map V.str) (some (p : Int)) (some (e : Int)) = ((zs.drop p).take (e - p)).map V.str ∧ HT.sIx (zs.map V.str).length 0 (some (p : Int)) = p ∧ HT.sIx (zs.map V.str).length (zs.map V.str).length (some (e : Int)) = e := by
  have lz : (zs.map V.str).length = zs.length := List.length_map _
  have i1 : HT.sIx (zs.map V.str).length 0 (some (p : Int)) = p := by
    rw [HT.sIx_nat, lz]
    omega
  have i2 : HT.sIx (zs.map V.str).length (zs.map V.str).length (some (e : Int)) = e := by
    rw [HT.sIx_nat, lz]
    omega
  refine ⟨?_, i1, i2⟩
  unfold cutV
  rw [i1, i2, ← List.map_drop, ← List.map_take]
end Pr
namespace Pr
open PySem PySem.Spec PyProof.Rows L2 Gd
/-! ### rows of names, rules, rows of rows: told apart -/
theorem az_ok {z : Str} (h : azB z = true) : PyData.strOk z = true := by
  have h2 : (decide (1 ≤ z.length) && decide (z.length ≤ 8) && z.cps.toList.all azC) = true := h
  simp only [Bool.and_eq_true] at h2
  unfold PyData.strOk
  rw [← Array.all_toList]
  refine List.all_eq_true.mpr fun c m => ?_
  have := az_lt (List.all_eq_true.mp h2.2 c m)
  exact decide_eq_true (by omega)
theorem eqv_strs : ∀ xs ys : List Str, PyData.eqvAll (xs.map strD) (ys.map strD) = decide (xs = ys)
  | [], [] => by rw [List.map_nil]; unfold PyData.eqvAll; simp
  | [], _ :: _ => by rw [List.map_nil, List.map_cons]; unfold PyData.eqvAll; simp
  | _ :: _, [] => by rw [List.map_nil, List.map_cons]; unfold PyData.eqvAll; simp
  | x :: xs, y :: ys => by
    rw [List.map_cons, List.map_cons]
    unfold PyData.eqvAll
    rw [eqv_strs xs ys]
    have e : PyData.eqv (strD x) (strD y) = decide (x = y) := by
      unfold strD PyData.eqv
      by_cases c : x = y
      · rw [c]; simp
      · rw [decide_eq_false c]
        exact beq_eq_false_iff_ne.mpr c
    rw [e]
    by_cases c : x = y
    · by_cases d : xs = ys
      · rw [c, d]; simp
      · rw [c, decide_eq_false d]; simp [d]
    · rw [decide_eq_false c]; simp [c]
/-- two tuples of texts, == -/
theorem eqTx {K : PySem.W.Frag} {H : Hp} {a b : Addr} {Q : VK} {xs ys : List Str} (ha : SqT K H a (xs.map V.str)) (hb : SqT K H b (ys.map V.str)) (hx : ∀ z ∈ xs, azB z = true) (hy : ∀ z ∈ ys, azB z = true) (q : Q (.bl (decide (xs = ys))) H) : rEqD K (.ref a) (.ref b) H Q := by
  refine ⟨_, _, .tup ha (dp_strs xs), .tup hb (dp_strs ys), shaped_strs fun z m => az_ok (hx z m), shaped_strs fun z m => az_ok (hy z m), ?_⟩
  have e : PyData.eqv (.tuple (xs.map strD)) (.tuple (ys.map strD)) = decide (xs = ys) := by
    rw [← eqv_strs]
    unfold PyData.eqv
    rfl
  rw [e]
  exact q
theorem neTx {K : PySem.W.Frag} {H : Hp} {a b : Addr} {Q : VK} {xs ys : List Str} (ha : SqT K H a (xs.map V.str)) (hb : SqT K H b (ys.map V.str)) (hx : ∀ z ∈ xs, azB z = true) (hy : ∀ z ∈ ys, azB z = true) (q : Q (.bl (!decide (xs = ys))) H) : rNeD K (.ref a) (.ref b) H Q := by
  refine ⟨_, _, .tup ha (dp_strs xs), .tup hb (dp_strs ys), shaped_strs fun z m => az_ok (hx z m), shaped_strs fun z m => az_ok (hy z m), ?_⟩
  have e : PyData.eqv (.tuple (xs.map strD)) (.tuple (ys.map strD)) = decide (xs = ys) := by
    rw [← eqv_strs]
    unfold PyData.eqv
    rfl
  rw [e]
  exact q
/-- what can be laid, of a small depth -/
theorem shaped_rows {ds : List PyData} {n : Nat} (hn : n ≤ 60) (h : ∀ d ∈ ds, d.depth ≤ n ∧ d.canLay0 = true) : SeqAt.shaped (.tuple ds) = true := by
  have dep : ∀ {ds : List PyData}, (∀ d ∈ ds, d.depth ≤ n) → PyData.depthAll ds ≤ n := by
    intro ds
    induction ds with
    | nil => exact fun _ => Nat.zero_le _
    | cons d ds ih =>
      intro h
      simp only [PyData.depthAll]
      exact Nat.max_le.mpr ⟨h d List.mem_cons_self, ih fun x m => h x (List.mem_cons_of_mem _ m)⟩
  have e : PyData.depth (.tuple ds) = PyData.depthAll ds + 1 := by simp only [PyData.depth]
  have e2 : PyData.canLay0 (.tuple ds) = PyData.canLayAll0 ds := by simp only [PyData.canLay0]
  unfold SeqAt.shaped
  rw [e, e2, lay_all fun d m => (h d m).2, Bool.true_and]
  have := dep fun d m => (h d m).1
  exact decide_eq_true (by omega)
theorem strs_flat {zs : List Str} (h : ∀ z ∈ zs, azB z = true) : (PyData.tuple (zs.map strD)).depth ≤ 1 ∧ (PyData.tuple (zs.map strD)).canLay0 = true := by
  have s := shaped_strs fun z m => az_ok (h z m)
  refine ⟨?_, SeqAt.canLay_of_shaped s⟩
  have e : PyData.depth (.tuple (zs.map strD)) = PyData.depthAll (zs.map strD) + 1 := by simp only [PyData.depth]
  rw [e, low_depth fun d m => ?_]
  · exact Nat.le_refl _
  · obtain ⟨z, _, rfl⟩ := List.mem_map.mp m
    unfold strD
    simp only [PyData.depth]
/-- a rule as data -/
def rlD (r : Rl) : PyData := .tuple [.str r.1, .int (r.2.1 : Int), .tuple (r.2.2.map strD)]
theorem rl_flat {r : Rl} (h1 : azB r.1 = true) (h : ∀ z ∈ r.2.2, azB z = true) : (rlD r).depth ≤ 2 ∧ (rlD r).canLay0 = true := by
  obtain ⟨a, b⟩ := strs_flat h
  have z := az_ok h1
  unfold rlD
  refine ⟨?_, ?_⟩
  · simp only [PyData.depth, PyData.depthAll] at a ⊢
    omega
  · simp only [PyData.canLay0, PyData.canLayAll0] at b ⊢
    rw [z, b]
    rfl
theorem rl_dp {K : PySem.W.Frag} {H : Hp} {a : Addr} {r : Rl} (h : RuleAt H a r) : Dp K H (.ref a) (rlD r) := by
  obtain ⟨t, x, y⟩ := h
  exact .tup (SqT.of x) (.cons (.str _) (.cons (.int _) (.cons (.tup (SqT.of y) (dp_strs _)) .nil)))
theorem rls_dp {K : PySem.W.Frag} {H : Hp} : ∀ {as : List Addr} {rs : List Rl}, Paired (fun a r => RuleAt H a r) as rs → DpAll K H (as.map V.ref) (rs.map rlD)
  | _, _, .nil => .nil
  | _, _, .cons h r => .cons (rl_dp h) (rls_dp r)
theorem rls_shaped {rs : List Rl} (h : ∀ r ∈ rs, azB r.1 = true ∧ ∀ z ∈ r.2.2, azB z = true) : SeqAt.shaped (.tuple (rs.map rlD)) = true := shaped_rows (n := 2) (by decide) fun d m => by
  obtain ⟨r, mr, rfl⟩ := List.mem_map.mp m
  exact rl_flat (h r mr).1 (h r mr).2
theorem rows_dp {K : PySem.W.Frag} {H : Hp} : ∀ {M : List (Addr × List Str)}, (∀ q ∈ M, SqT K H q.1 (q.2.map V.str)) → DpAll K H (M.map fun q => V.ref q.1) ((M.map (·.2)).map fun ws => .tuple (ws.map strD))
  | [], _ => .nil
  | q :: M, h => .cons (.tup (h q List.mem_cons_self) (dp_strs _)) (rows_dp fun u m => h u (List.mem_cons_of_mem _ m))
theorem rows_shaped {ls : List (List Str)} (h : ∀ ws ∈ ls, ∀ z ∈ ws, azB z = true) : SeqAt.shaped (.tuple (ls.map fun ws => .tuple (ws.map strD))) = true := shaped_rows (n := 1) (by decide) fun d m => by
  obtain ⟨ws, mw, rfl⟩ := List.mem_map.mp m
  exact strs_flat (h ws mw)
end Pr
namespace Pr
open PySem PySem.Spec PyProof.Rows L2 Gd
/-! ### is_whole -/
/-- the arity of a word that is one -/
def arity (l : List (Str × Nat)) : V → Option Int
  | .str z => (match valV (dkv l) (.inr z : Key) with
    | some (.int a) => some a
    | _ => none)
  | _ => none
/-- whether xs are n trees, one behind the other -/
def wgo (l : List (Str × Nat)) : Int → List V → Bool
  | n, [] => decide (n = 0)
  | n, x :: xs => if n = 0 then false else match arity l x with
    | some a => wgo l (n + (a - 1)) xs
    | none => false
theorem wgo_zero {l : List (Str × Nat)} {n : Int} {x : V} {xs : List V} (h : n = 0) : wgo l n (x :: xs) = false := if_pos h
theorem wgo_none {l : List (Str × Nat)} {n : Int} {x : V} {xs : List V} (h : arity l x = none) : wgo l n (x :: xs) = false := by
  show (if n = 0 then false else match arity l x with | some a => wgo l (n + (a - 1)) xs | none => false) = false
  rw [h]
  exact ite_self _
theorem wgo_some {l : List (Str × Nat)} {n a : Int} {x : V} {xs : List V} (h0 : n ≠ 0) (h : arity l x = some a) : wgo l n (x :: xs) = wgo l (n + (a - 1)) xs := by
  show (if n = 0 then false else match arity l x with | some a => wgo l (n + (a - 1)) xs | none => false) = _
  rw [if_neg h0, h]
theorem val_int {z : Str} {v : V} : ∀ {l : List (Str × Nat)}, valV (dkv l) (.inr z : Key) = some v → ∃ a, v = .int a
  | [], h => nomatch h
  | p :: l, h => by
    have h' : valV ((.inr p.1, .int (p.2 : Int)) :: dkv l) (.inr z : Key) = some v := h
    by_cases e : (.inr p.1 : Key) = .inr z
    · rw [valV_pos e] at h'
      exact ⟨_, (Option.some.inj h').symm⟩
    · rw [valV_neg e] at h'
      exact val_int h'
def spWhole : Sp := fun vs H Q _ => ∃ (t a : Addr) (xs : List V) (l : List (Str × Nat)), vs = [.ref t, .ref a] ∧ Rd H t (.tup xs) ∧ (∀ x ∈ xs, ∃ ty, Kd H x ty) ∧ H a = some (.dK (dkv l)) ∧ Q (.bl (wgo l 1 xs)) H
section
variable {P : Program} {w : World} {K : PySem.W.Frag} {mg : Str → Option Value} {base : Heap}
theorem scWhole : FnScope ["words", "arities", "awaited", "word"] ["words", "arities"] (defScope sWhole) := ⟨rfl, rfl, rfl, by decide +kernel, rfl, by decide +kernel, by decide +kernel⟩
theorem ok_whole {f : Addr} {fd : FuncData} (F : Fun K "is_whole" "is_whole" sWhole f fd) (T : Free mg) : FnOk P w K mg base CX0 1 f fd ["words", "arities"] spWhole := by
  refine F.ok scWhole (fun vs H Q E h => ?_) (fun cdv A outer s H vs Q E hr h => ?_)
  · obtain ⟨t, a, xs, l, rfl, _⟩ := h
    rfl
  · obtain ⟨t, a, xs, l, rfl, ht, all, ha, q⟩ := h
    have hu := hr.units
    have hu1 : ∀ {u : Nat}, u + 64 < cLine → u + 1 < cLine := fun h => by omega
    refine ⟨_, pss_cons (ps_set (i := 2) scWhole.nd rfl (.inl rfl) pe_int) (pss_cons (ps_for PassesOwn.never rfl (pi_tup (pv 0)) (pg_name (i := 3) scWhole.nd rfl (.inl rfl)) (pss_cons (ps_if (PW.pt (pw_or (pt_cmpR op_eq (pv 2) pe_int (nomark _)) (pw_or (pt_not (pt_val (pe_callB call_isi (by rfl) T.isi (by decide +kernel) (pa_cons (pv 3) (pa_cons (pe_bltn (v := .ty "str") (by rfl) T.str (by decide +kernel) rfl) pa_nil))))) (pw_or1 (pt_cmp (pc_dnotin (hu1 hu) (pv 3) (pv 1))))))) (pss_one (ps_ret pe_bl)) pss_nil) (pss_one (ps_aug (i := 2) scWhole.nd rfl (.inl rfl) (pe_op op_sub (pe_dget (hu1 hu) (pv 1) (pv 3) (fun _ _ => rfl)) pe_int) ip_add)))) (pss_one (ps_ret (pe_cmpR op_eq (pv 2) pe_int (nomark _))))), ?_⟩
    refine ⟨_, rfl, t, rfl, ⟨_, Or.inl ht⟩, ?_⟩
    refine for_tup (K := K) (a := t) (xs := xs) (fun i σ H' => H' = H ∧ ∃ (n : Int) (v3 : Option V), σ = [some (.ref t), some (.ref a), some (.int n), v3] ∧ wgo l 1 xs = wgo l n (xs.drop i))
      ⟨rfl, 1, none, rfl, rfl⟩ (fun i σ H' _ ⟨e, _⟩ => by rw [e]; exact Or.inl ht) ?_ ?_
    · rintro i x σ H' hx ⟨rfl, n, v3, rfl, hw⟩
      have hd : xs.drop i = x :: xs.drop (i + 1) := by
        obtain ⟨hi, e⟩ := List.getElem?_eq_some_iff.mp hx
        rw [← e]
        exact List.drop_eq_getElem_cons hi
      obtain ⟨ty, kd⟩ := all x (List.mem_of_getElem? hx)
      rw [hd] at hw
      refine ⟨_, rfl, rfl, _, rfl, ?_⟩
      by_cases c : n = 0
      · refine if_true_of (decide_eq_true (by rw [c])) ?_
        rw [hw, wgo_zero c] at q
        exact q
      · refine if_false_of (decide_eq_false fun z => c (V.int.inj z)) ⟨_, rfl, x, _, _, _, _, rfl, .ty "str", kd.ty, kit_str kd, _, rfl, ?_⟩
        cases kd with
        | str z =>
          refine if_false_of rfl ⟨_, rfl, _, rfl, a, _, rfl, DGet.k (k := .inr z) ha, _, rfl, ?_⟩
          cases e : valV (dkv l) (.inr z : Key) with
          | none =>
            refine if_true_of rfl ?_
            have an : arity l (.str z) = none := by
              show (match valV (dkv l) (.inr z : Key) with | some (.int a) => some a | _ => none) = none
              rw [e]
            rw [hw, wgo_none an] at q
            exact q
          | some v =>
            obtain ⟨a1, rfl⟩ := val_int e
            have an : arity l (.str z) = some a1 := by
              show (match valV (dkv l) (.inr z : Key) with | some (.int a) => some a | _ => none) = some a1
              rw [e]
            refine if_false_of rfl ⟨_, rfl, _, rfl, _, rfl, a, _, rfl, e ▸ DGet.k (k := .inr z) ha, _, _, rfl, rfl, _, _, rfl, rfl, rfl, _, _, rfl, ?_⟩
            rw [hw, wgo_some c an]
        | _ =>
          refine if_true_of rfl ?_
          rw [hw, wgo_none rfl] at q
          exact q
    · rintro σ H' ⟨rfl, n, v3, rfl, hw⟩
      rw [List.drop_of_length_le (Nat.le_refl _)] at hw
      refine ⟨_, rfl, rfl, ?_⟩
      have e : decide (V.int n = V.int 0) = wgo l 1 xs := by
        rw [hw]
        show _ = decide (n = 0)
        rw [dec_int]
        by_cases c : n = 0 <;> simp [c]
      rw [e]
      exact q
end
end Pr

namespace Pr
open PySem PySem.Spec PyProof.Rows L2 Gd
/-! ### the arities of a pattern's words -/
theorem val_nat {z : Str} {v : V} : ∀ {l : List (Str × Nat)}, valV (dkv l) (.inr z : Key) = some v → ∃ n : Nat, v = .int (n : Int) ∧ (z, n) ∈ l
  | [], h => nomatch h
  | p :: l, h => by
    have h' : valV ((.inr p.1, .int (p.2 : Int)) :: dkv l) (.inr z : Key) = some v := h
    by_cases e : (.inr p.1 : Key) = .inr z
    · rw [valV_pos e] at h'
      refine ⟨p.2, (Option.some.inj h').symm, ?_⟩
      have e' : p.1 = z := Sum.inr.inj e
      rw [← e']
      exact List.mem_cons_self
    · rw [valV_neg e] at h'
      obtain ⟨n, a, b⟩ := val_nat h'
      exact ⟨n, a, List.mem_cons_of_mem _ b⟩
theorem ar_of {l : List (Str × Nat)} {z : Str} {n : Nat} (h : valV (dkv l) (.inr z : Key) = some (.int (n : Int))) : ar l z = n := by
  unfold ar
  rw [h]
  rfl
theorem ar_none {l : List (Str × Nat)} {z : Str} (h : valV (dkv l) (.inr z : Key) = none) : ar l z = 0 := by
  unfold ar
  rw [h]
theorem val_mem_iff {l : List (Str × Nat)} {z : Str} : (valV (dkv l) (.inr z : Key)).isSome = true ↔ z ∈ l.map (·.1) := by
  constructor
  · intro h
    cases e : valV (dkv l) (.inr z : Key) with
    | none => rw [e] at h; cases h
    | some v =>
      obtain ⟨n, _, m⟩ := val_nat e
      exact List.mem_map.mpr ⟨_, m, rfl⟩
  · intro h
    cases e : valV (dkv l) (.inr z : Key) with
    | none =>
      exfalso
      have key : ∀ {l : List (Str × Nat)}, z ∈ l.map (·.1) → valV (dkv l) (.inr z : Key) ≠ none := by
        intro l
        induction l with
        | nil => exact fun m => nomatch m
        | cons p l ih =>
          intro m q
          have q' : valV ((.inr p.1, .int (p.2 : Int)) :: dkv l) (.inr z : Key) = none := q
          by_cases c : (.inr p.1 : Key) = .inr z
          · rw [valV_pos c] at q'
            cases q'
          · rw [valV_neg c] at q'
            rcases List.mem_cons.mp m with rfl | m
            · exact c rfl
            · exact ih m q'
      exact key h e
    | some v => rfl
/-- what the arity of a word is asked for -/
theorem ar_getD (l : List (Str × Nat)) (z : Str) : (valV (dkv l) (.inr z : Key)).getD (.int 0) = .int (ar l z : Int) := by
  cases e : valV (dkv l) (.inr z : Key) with
  | none => rw [ar_none e]; rfl
  | some v =>
    obtain ⟨n, rfl, _⟩ := val_nat e
    rw [ar_of e]
    rfl
theorem val_mergeL (x : Str) : ∀ (more acc : List (Str × Nat)), (more.map (·.1)).Nodup → valV (dkv (mergeL acc more)) (.inr x : Key) = (valV (dkv more) (.inr x : Key)).or (valV (dkv acc) (.inr x : Key))
  | [], acc, _ => rfl
  | p :: more, acc, nd => by
    obtain ⟨n1, n2⟩ := List.nodup_cons.mp nd
    show valV (dkv (mergeL (putL acc p.1 p.2) more)) (.inr x : Key) = (valV ((.inr p.1, .int (p.2 : Int)) :: dkv more) (.inr x : Key)).or _
    rw [val_mergeL x more _ n2, val_putL]
    by_cases e : x = p.1
    · rw [valV_pos (by rw [e]), if_pos e]
      have : valV (dkv more) (.inr x : Key) = none := by
        cases q : valV (dkv more) (.inr x : Key) with
        | none => rfl
        | some v => exact absurd (val_mem_iff.mp (by rw [q]; rfl)) (by rw [e]; exact n1)
      rw [this]
      rfl
    · rw [valV_neg fun c => e (Sum.inr.inj c).symm, if_neg e]
/-- each word with 0 -/
def zl (ws : List Str) : List (Str × Nat) := ws.foldl (fun acc z => putL acc z 0) []
theorem val_zl (x : Str) : ∀ (ws : List Str) (acc : List (Str × Nat)), (x ∈ ws ∨ valV (dkv acc) (.inr x : Key) = some (.int 0)) → valV (dkv (ws.foldl (fun acc z => putL acc z 0) acc)) (.inr x : Key) = some (.int 0)
  | [], acc, h => h.elim (fun m => nomatch m) id
  | z :: ws, acc, h => by
    refine val_zl x ws (putL acc z 0) ?_
    rw [val_putL]
    by_cases e : x = z
    · exact .inr (by rw [if_pos e]; rfl)
    · rw [if_neg e]
      rcases h with h | h
      · rcases List.mem_cons.mp h with c | m
        · exact absurd c e
        · exact .inl m
      · exact .inr h
theorem putL_few (l : List (Str × Nat)) (z : Str) (k : Nat) : (putL l z k).length ≤ l.length + 1 := by
  unfold putL
  split
  · rw [List.length_map]; omega
  · rw [List.length_append]; simp
theorem zl_few : ∀ (ws : List Str) (acc : List (Str × Nat)), (ws.foldl (fun acc z => putL acc z 0) acc).length ≤ acc.length + ws.length
  | [], acc => Nat.le_refl _
  | z :: ws, acc => by
    have a := zl_few ws (putL acc z 0)
    have b := putL_few acc z 0
    show (ws.foldl (fun acc z => putL acc z 0) (putL acc z 0)).length ≤ acc.length + (ws.length + 1)
    omega
theorem wgo_of {l' l : List (Str × Nat)} : ∀ (ws : List Str) (n : Nat), (∀ z ∈ ws, arity l' (.str z) = some (ar l z : Int)) → Wh (ar l) n ws → wgo l' (n : Int) (ws.map V.str) = true
  | [], n, _, h => by
    have h' : n = 0 := h
    rw [h']
    rfl
  | z :: ws, 0, _, h => h.elim
  | z :: ws, n + 1, ha, h => by
    have h' : Wh (ar l) (n + ar l z) ws := h
    rw [List.map_cons, wgo_some (by omega) (ha z List.mem_cons_self)]
    have e : ((n + 1 : Nat) : Int) + ((ar l z : Int) - 1) = ((n + ar l z : Nat) : Int) := by omega
    rw [e]
    exact wgo_of ws _ (fun y m => ha y (List.mem_cons_of_mem _ m)) h'
theorem arity_merge {l : List (Str × Nat)} (nd : (l.map (·.1)).Nodup) {ws : List Str} {z : Str} (m : z ∈ ws) : arity (mergeL (zl ws) l) (.str z) = some (ar l z : Int) := by
  show (match valV (dkv (mergeL (zl ws) l)) (.inr z : Key) with | some (.int a) => some a | _ => none) = _
  rw [val_mergeL z l (zl ws) nd]
  cases e : valV (dkv l) (.inr z : Key) with
  | none =>
    rw [ar_none e]
    have : valV (dkv (zl ws)) (.inr z : Key) = some (.int 0) := val_zl z ws [] (.inl m)
    rw [this]
    rfl
  | some v =>
    obtain ⟨n, rfl, _⟩ := val_nat e
    rw [ar_of e]
    rfl
/-! ### the program's small defs -/
/-- the program's small defs -/
structure Low (K : PySem.W.Frag) (mg : Str → Option Value) (fN fI fA fW : Addr) (dN dI dA dW : FuncData) (tk tk9 tk7 : Tok) : Prop where
  FN : Fun K "is_name" "is_name" sName fN dN
  bN : Binds K dN ["value"] []
  gN : mg "is_name" = some (.ref fN)
  FI : Fun K "is_integer" "is_integer" sInteger fI dI
  bI : Binds K dI ["value"] []
  gI : mg "is_integer" = some (.ref fI)
  FA : Fun K "are_names" "are_names" sNames fA dA
  bA : Binds K dA ["value"] []
  gA : mg "are_names" = some (.ref fA)
  FW : Fun K "is_whole" "is_whole" sWhole fW dW
  bW : Binds K dW ["words", "arities"] []
  gW : mg "is_whole" = some (.ref fW)
  l8 : mg "MAX_LETTERS" = some (.int 8 tk)
  p9 : mg "MAX_PRICE" = some (.int 9 tk9)
  p7 : mg "MAX_PATTERN" = some (.int 7 tk7)
theorem int_small {n : Nat} (h : n ≤ 1000) : isIntO (.int (n : Int)) = true := by
  rw [isIntO_eq]
  show decide ((if (n : Int) < 0 then -(n : Int) else n) < 10 ^ (60 : Int).toNat) = true
  have e : ((10 : Int) ^ (60 : Int).toNat) = ((10 ^ 60 : Nat) : Int) := by decide +kernel
  rw [if_neg (by omega), e, decide_eq_true (by omega)]
end Pr
namespace Pr
open PySem PySem.Spec PyProof.Rows L2 Gd
/-! ### is_rule -/
def spRule : Sp := fun vs H Q _ => ∃ (a d : Addr) (l : List (Str × Nat)) (r : Rl), vs = [.ref a, .ref d] ∧ RuleAt H a r ∧ H d = some (.dK (dkv l)) ∧ OpsOk l ∧ RlOk l r ∧ ∀ H', Same H H' → Q (.bl true) H'
section
variable {P : Program} {w : World} {K : PySem.W.Frag} {mg : Str → Option Value} {base : Heap} {fN fI fA fW : Addr} {dN dI dA dW : FuncData} {tk tk9 tk7 : Tok}
theorem scRule : FnScope ["value", "arities", "nonterminal", "price", "pattern", "word"] ["value", "arities"] (defScope sRule) := ⟨rfl, rfl, rfl, by decide +kernel, rfl, by decide +kernel, by decide +kernel⟩
theorem ok_rule {f : Addr} {fd : FuncData} (F : Fun K "is_rule" "is_rule" sRule f fd) (T : Free mg) (L : Low K mg fN fI fA fW dN dI dA dW tk tk9 tk7) : FnOk P w K mg base CX0 3 f fd ["value", "arities"] spRule := by
  have GN : FnOk P w K mg base CX0 1 fN dN ["value"] spName := ok_name L.FN T L.l8
  have GI : FnOk P w K mg base CX0 1 fI dI ["value"] spIntO := ok_integerO L.FI T
  have GA : FnOk P w K mg base CX0 2 fA dA ["value"] spNames := ok_names L.FA T L.l8 L.FN L.bN L.gN
  have GW : FnOk P w K mg base CX0 1 fW dW ["words", "arities"] spWhole := ok_whole L.FW T
  refine F.ok scRule (fun vs H Q E h => ?_) (fun cdv A outer s H vs Q E hr h => ?_)
  · obtain ⟨a, d, l, r, rfl, _⟩ := h
    rfl
  · obtain ⟨a, d, l, r, rfl, ra, hd, oo, ok, q⟩ := h
    have hu := hr.units
    have hu1 : ∀ {u : Nat}, u + 64 < cLine → u + 1 < cLine := fun h => by omega
    have r1 : Room 1 _ := hr.mono (by decide)
    have r2 : Room 2 _ := hr.mono (by decide)
    refine ⟨_, (pss_cons (ps_if (PW.pt (pw_or (pt_not (pt_val (pe_callB call_isi (by rfl) T.isi (by decide +kernel) (pa_cons (pv 0) (pa_cons (pe_bltn (v := .ty "tuple") (by rfl) T.tuple (by decide +kernel) rfl) pa_nil))))) (pw_or1 (pt_cmpR op_ne (pe_callB call_len_seq (by rfl) T.len PySem.boot_len (pa_cons (pv 0) pa_nil)) pe_int (nomark _))))) (pss_one (ps_ret pe_bl)) pss_nil) (pss_cons (ps_asg (pv 0) (pg_tup rfl (pgs_cons (pg_name (i := 2) scRule.nd rfl (.inl rfl)) (pgs_cons (pg_name (i := 3) scRule.nd rfl (.inl rfl)) (pgs_cons (pg_name (i := 4) scRule.nd rfl (.inl rfl)) pgs_nil))))) (pss_cons (ps_if (PW.pt (pw_or (pt_not (pt_val (pe_call GN r1 (by rfl) L.gN L.FN.kp L.bN .nil pass0 (pa_cons (pv 2) pa_nil)))) (pw_or (pt_cmp (pc_din (hu1 hu) (pv 2) (pv 1))) (pw_or (pt_not (pt_val (pe_call GI r1 (by rfl) L.gI L.FI.kp L.bI .nil pass0 (pa_cons (pv 3) pa_nil)))) (pw_or1 (pt_not (pt_chain op_le op_le pe_int (pv 3) (pe_glob (v := .int 9) (by rfl) L.p9 ⟨_, rfl⟩)))))))) (pss_one (ps_ret pe_bl)) pss_nil) (pss_cons (ps_if (PW.pt (pw_or (pt_not (pt_val (pe_call GA r2 (by rfl) L.gA L.FA.kp L.bA .nil pass0 (pa_cons (pv 4) pa_nil)))) (pw_or (pt_not (pt_chain op_le op_le pe_int (pe_callB call_len_seq (by rfl) T.len PySem.boot_len (pa_cons (pv 4) pa_nil)) (pe_glob (v := .int 7) (by rfl) L.p7 ⟨_, rfl⟩))) (pw_or1 (pt_cmpR (op_eqD hu) (pv 4) (pe_tup (pa_cons (pv 2) pa_nil)) (nomark _)))))) (pss_one (ps_ret pe_bl)) pss_nil) (pss_one (ps_ret (pe_call GW r1 (by rfl) L.gW L.FW.kp L.bW .nil pass0 (pa_cons (pv 4) (pa_cons (Du.pe_dunp2 (pe_dc (own := [("word", 5)]) (g := gName 5) (by rfl) scRule.nd (pi_tup (pv 4)) (blkOk_by (own := [("word", 5)]) (N := ["value", "arities", "nonterminal", "price", "pattern", "word"]) (sc := defScope sRule) (by decide +kernel)) (fun _ _ _ _ _ => pg_name (i := 5) scRule.nd rfl (.inl rfl)) (fun _ _ _ _ _ => pts_nil) (fun _ _ _ _ _ => pv 5) (fun _ _ _ _ _ => pe_int)) (pv 1)) pa_nil))))))))), ?_⟩
    obtain ⟨t, ha, ht⟩ := ra
    obtain ⟨h, p, ws⟩ := r
    have ok_h : azB h = true := ok.head
    have ok_new : h ∉ l.map (·.1) := ok.new
    have ok_p : p ≤ 9 := ok.price
    have ok_s : 1 ≤ ws.length := ok.some_
    have ok_f : ws.length ≤ 7 := ok.few
    have ok_n : ∀ z ∈ ws, azB z = true := ok.names
    have ok_o : ws ≠ [h] := ok.other
    have ok_w : Wh (ar l) 1 ws := ok.whole
    refine ⟨_, rfl, .ref a, _, _, _, true, rfl, .ty "tuple", tyR (.inl ha), kit_ty (r := true) (by decide +kernel), _, rfl, if_false_of rfl ?_⟩
    have kn : ∀ y, V.str h = .str y → y.length ≤ 1000000 := fun y e => by
      cases e
      have := az_len ok_h
      omega
    refine ⟨_, rfl, a, _, rfl, .inr (SqT.of ha), rfl, _, rfl, if_false_of rfl ?_⟩
    refine ⟨_, rfl, a, _, rfl, SqT.of ha, rfl, _, _, rfl, _, _, rfl, _, _, rfl, rfl, ?_⟩
    have nh : (valV (dkv l) (.inr h : Key)).isSome = false := by
      cases e : (valV (dkv l) (.inr h : Key)).isSome with
      | false => rfl
      | true => exact absurd (val_mem_iff.mp e) ok_new
    have ip : isIntO (.int (p : Int)) = true := int_small (by omega)
    refine ⟨_, rfl, .str h, "str", rfl, .str h, kn, _, rfl, if_false_of (by rw [show nameB (.str h) = true from ok_h]; rfl) ?_⟩
    refine ⟨_, rfl, _, rfl, d, _, rfl, DGet.k (k := .inr h) hd, _, rfl, if_false_of nh ?_⟩
    refine ⟨_, rfl, .int (p : Int), "int", rfl, .int _, _, rfl, if_false_of (by rw [ip]; rfl) ?_⟩
    refine ⟨_, rfl, _, _, rfl, rfl, _, rfl, if_true_of (decide_eq_true (by show (0 : Int) ≤ (p : Int); omega)) ⟨_, _, rfl, rfl, _, rfl, if_false_of (by rw [decide_eq_true (show ((h, p, ws).2.1 : Int) ≤ 9 by show (p : Int) ≤ 9; omega)]; rfl) ?_⟩⟩
    refine ⟨_, rfl, t, ws, rfl, ht, ok_n, by omega, fun H1 s1 => ⟨_, rfl, if_false_of rfl ?_⟩⟩
    have ht1 := s1 _ _ ht
    have hd1 := s1 _ _ hd
    have lw : (ws.map V.str).length = ws.length := List.length_map _
    refine ⟨_, rfl, t, _, rfl, .inr (SqT.of ht1), _, _, rfl, rfl, _, rfl, if_true_of (decide_eq_true (by rw [lw]; omega)) ⟨_, _, rfl, rfl, _, rfl, if_false_of (by rw [lw, decide_eq_true (by omega)]; rfl) ?_⟩⟩
    refine ⟨_, rfl, _, rfl, by show 1 ≤ sizeLine; decide, fun p1 np1 => ?_⟩
    refine eqTx (xs := ws) (ys := [h]) (SqT.of ((Same.new np1) _ _ ht1)) (SqT.of upd_same) ok_n (fun z m => by rw [List.mem_singleton.mp m]; exact ok_h) ⟨_, rfl, if_false_of (decide_eq_false ok_o) ?_⟩
    have ht2 := (Same.new np1 (o := .tup [.str h])) _ _ ht1
    have hd2 := (Same.new np1 (o := .tup [.str h])) _ _ hd1
    have s2 := s1.trans (Same.new np1 (o := .tup [.str h]))
    generalize upd H1 p1 (.tup [.str h]) = H2 at ht2 hd2 s2 ⊢
    refine ⟨_, rfl, fun m nm => ?_⟩
    have s3 := s2.trans (Same.new nm (o := .dK []))
    have hm3 : (upd H2 m (.dK [])) m = some (.dK []) := upd_same
    generalize upd H2 m (.dK []) = H3 at s3 hm3 ⊢
    have ht3 := s3 _ _ ht
    refine ⟨_, rfl, t, rfl, ⟨_, SqT.of ht3⟩, fun D nD => ?_⟩
    refine dc_tup (K := K) (a := t) (xs := ws.map V.str) (fun i G => G D = some (.dK (dkv (zl (ws.take i)))) ∧ Same H3 G) ⟨upd_same, Same.new nD⟩ (fun i G _ ⟨_, s⟩ => SqT.of (s _ _ ht3)) ?_ ?_
    · rintro i x G hx ⟨eD, s⟩
      obtain ⟨z, hz, rfl⟩ : ∃ z, ws[i]? = some z ∧ x = .str z := by
        rw [List.getElem?_map] at hx
        cases e : ws[i]? with
        | none => rw [e] at hx; cases hx
        | some z => rw [e] at hx; exact ⟨z, rfl, (Option.some.inj hx).symm⟩
      have hi := (List.getElem?_eq_some_iff.mp hz).1
      refine ⟨rfl, _, rfl, _, .inr z, rfl, eD, ?_, ?_, fun b o q => by rw [upd_ne (ne_of_none q nD)]; exact s b o q⟩
      · have e1 := zl_few (ws.take i) []
        have e2 : (dkv (zl (ws.take i))).length = (zl (ws.take i)).length := List.length_map _
        have e3 : (ws.take i).length ≤ ws.length := by rw [List.length_take]; omega
        have e4 : (zl (ws.take i)).length ≤ 0 + (ws.take i).length := e1
        rw [e2, sizeLine_eq]
        omega
      · rw [upd_same, show (V.int 0) = V.int ((0 : Nat) : Int) from rfl, put_dkv, List.take_add_one, hz]
        unfold zl
        rw [List.foldl_append]
        rfl
    · rintro G ⟨eD, s⟩
      rw [List.take_of_length_le (by rw [lw]; exact Nat.le_refl _)] at eD
      have dm : D ≠ m := fun e => by
        rw [e, hm3] at nD
        cases nD
      have gm_ := s _ _ hm3
      refine ⟨D, _, rfl, dm, gm_, eD, ?_⟩
      have hdm : d ≠ m := fun e => by
        rw [← e, hd2] at nm
        cases nm
      have hd4 : (upd G m (.dK (dkv (zl ws)))) d = some (.dK (dkv l)) := by
        rw [upd_ne hdm]
        exact s _ _ (s3 _ _ hd)
      refine ⟨_, rfl, d, _, rfl, hdm, upd_same, hd4, ?_, ?_⟩
      · have e1 := zl_few ws []
        have e2 : (dkv (zl ws)).length = (zl ws).length := List.length_map _
        have e3 : (dkv l).length = l.length := List.length_map _
        have e4 : (zl ws).length ≤ 0 + ws.length := e1
        have e5 := oo.few
        omega
      rw [merge_dkv]
      have s5 : Same H (upd (upd G m (.dK (dkv (zl ws)))) m (.dK (dkv (mergeL (zl ws) l)))) := fun b u e => by
        have nb : b ≠ m := fun c => by
          rw [← c] at nm
          have := s2 _ _ e
          rw [this] at nm
          cases nm
        rw [upd_ne nb, upd_ne nb]
        exact s _ _ (s3 _ _ e)
      have hm5 : (upd (upd G m (.dK (dkv (zl ws)))) m (.dK (dkv (mergeL (zl ws) l)))) m = some (.dK (dkv (mergeL (zl ws) l))) := upd_same
      generalize upd (upd G m (.dK (dkv (zl ws)))) m (.dK (dkv (mergeL (zl ws) l))) = H5 at s5 hm5 ⊢
      refine ⟨t, m, ws.map V.str, mergeL (zl ws) l, rfl, .inl (s5 _ _ ht), fun x mx => ?_, hm5, ?_⟩
      · obtain ⟨z, _, rfl⟩ := List.mem_map.mp mx
        exact ⟨_, .str z⟩
      · have e := wgo_of (l' := mergeL (zl ws) l) (l := l) ws 1 (fun z mz => arity_merge oo.nd mz) ok_w
        rw [show ((1 : Nat) : Int) = 1 from rfl] at e
        rw [e]
        exact q H5 s5
end
end Pr
namespace Pr
open PySem PySem.Spec PyProof.Rows L2 Gd
/-! ### nonterminals_of -/
/-- words as the keys of a dict of True -/
def kd (ys : List Str) : List (Key × V) := ys.map fun z => (.inr z, .bl true)
theorem kd_len (ys : List Str) : (kd ys).length = ys.length := List.length_map _
theorem kd_put {ys : List Str} {z : Str} : putK (kd ys) (.inr z) (.bl true) = if z ∈ ys then kd ys else kd (ys ++ [z]) := by
  have ea : ((kd ys).any fun kv => decide (kv.1 = (.inr z : Key))) = decide (z ∈ ys) := by
    unfold kd
    rw [List.any_map, Bool.eq_iff_iff, List.any_eq_true, decide_eq_true_eq]
    constructor
    · rintro ⟨y, m, e⟩
      have e' : (Sum.inr y : Key) = .inr z := of_decide_eq_true e
      rw [← Sum.inr.inj e']
      exact m
    · intro m
      exact ⟨z, m, decide_eq_true rfl⟩
  unfold putK
  rw [ea]
  by_cases m : z ∈ ys
  · rw [if_pos (decide_eq_true m), if_pos m]
    unfold kd
    rw [List.map_map]
    refine List.map_congr_left fun y _ => ?_
    show (if (Sum.inr y : Key) = .inr z then ((Sum.inr y : Key), V.bl true) else (.inr y, .bl true)) = _
    split <;> rfl
  · rw [if_neg (by rw [decide_eq_false m]; exact Bool.false_ne_true), if_neg m]
    unfold kd
    rw [List.map_append]
    rfl
theorem isNt_of_at {l : List (Str × Nat)} {g : Str} {rs : List Rl} {i : Nat} {z : Str} (h : isNt l g (rs.take i) z) : isNt l g rs z := by
  rcases h with h | ⟨r, m, k⟩
  · exact .inl h
  · exact .inr ⟨r, List.mem_of_mem_take m, k⟩
/-- the rules at a, in a tuple -/
structure RulesAt (H : Hp) (a : Addr) (rs : List Rl) : Prop where
  ex : ∃ as : List Addr, H a = some (.tup (as.map V.ref)) ∧ Paired (fun b r => RuleAt H b r) as rs
theorem RulesAt.same {H H' : Hp} {a : Addr} {rs : List Rl} (h : RulesAt H a rs) (s : Same H H') : RulesAt H' a rs := let ⟨as, x, y⟩ := h.ex; ⟨as, s _ _ x, paired_map (fun _ _ k => k.same s) y⟩
theorem pget9 {α β : Type} {F : α → β → Prop} : ∀ {xs : List α} {ys : List β} {i : Nat} {x : α}, Paired F xs ys → xs[i]? = some x → ∃ y, ys[i]? = some y ∧ F x y
  | _, _, i, x, .nil, h => by simp at h
  | _, _, 0, x, .cons f _, h => by
    simp only [List.getElem?_cons_zero] at h
    cases h
    exact ⟨_, rfl, f⟩
  | _, _, i + 1, x, .cons _ t, h => by
    simp only [List.getElem?_cons_succ] at h
    obtain ⟨y, h1, h2⟩ := pget9 t h
    exact ⟨y, by rw [List.getElem?_cons_succ]; exact h1, h2⟩
theorem ref_at {as : List Addr} {i : Nat} {x : V} (h : (as.map V.ref)[i]? = some x) : ∃ b, as[i]? = some b ∧ x = .ref b := by
  rw [List.getElem?_map] at h
  cases e : as[i]? with
  | none => rw [e] at h; cases h
  | some b => rw [e] at h; exact ⟨b, rfl, (Option.some.inj h).symm⟩
theorem str_at {zs : List Str} {i : Nat} {x : V} (h : (zs.map V.str)[i]? = some x) : ∃ z, zs[i]? = some z ∧ x = .str z := by
  rw [List.getElem?_map] at h
  cases e : zs[i]? with
  | none => rw [e] at h; cases h
  | some b => rw [e] at h; exact ⟨b, rfl, (Option.some.inj h).symm⟩
def spNonts : Sp := fun vs H Q _ => ∃ (g : Str) (ra d : Addr) (l : List (Str × Nat)) (rs : List Rl), vs = [.str g, .ref ra, .ref d] ∧ RulesAt H ra rs ∧ H d = some (.dK (dkv l)) ∧ BkOk l g rs ∧
  ∀ (ys : List Str) (p : Addr) (H' : Hp), sortedS ys = true → ys.Nodup → (∀ z, z ∈ ys ↔ isNt l g rs z) → H p = none → Same H H' → H' p = some (.tup (ys.map V.str)) → Q (.ref p) H'
section
variable {P : Program} {w : World} {K : PySem.W.Frag} {mg : Str → Option Value} {base : Heap}
theorem scNonts : FnScope ["goal", "rules", "arities", "found", "nonterminal", "_", "pattern", "word"] ["goal", "rules", "arities"] (defScope sNonts) := ⟨rfl, rfl, rfl, by decide +kernel, rfl, by decide +kernel, by decide +kernel⟩
theorem ok_nonts {f : Addr} {fd : FuncData} (F : Fun K "nonterminals_of" "nonterminals_of" sNonts f fd) (T : Free mg) : FnOk P w K mg base CX0 1 f fd ["goal", "rules", "arities"] spNonts := by
  refine F.ok scNonts (fun vs H Q E h => ?_) (fun cdv A outer s H vs Q E hr h => ?_)
  · obtain ⟨g, ra, d, l, rs, rfl, _⟩ := h
    rfl
  · obtain ⟨g, ra, d, l, rs, rfl, hra, hd, ok, q⟩ := h
    have hu := hr.units
    have hu1 : ∀ {u : Nat}, u + 64 < cLine → u + 1 < cLine := fun h => by omega
    refine ⟨_, (pss_cons (ps_set (i := 3) scNonts.nd rfl (.inl rfl) (pe_disp (pps_cons (pv 0) pe_bl pps_nil) (by rfl) (by rfl) (fun z => by cases z) (by decide))) (pss_cons (ps_for PassesOwn.never rfl (pi_tup (pv 1)) (pg_tup rfl (pgs_cons (pg_name (i := 4) scNonts.nd rfl (.inl rfl)) (pgs_cons (pg_name (i := 5) scNonts.nd rfl (.inl rfl)) (pgs_cons (pg_name (i := 6) scNonts.nd rfl (.inl rfl)) pgs_nil)))) (pss_one (ps_for PassesOwn.never rfl (pi_tup (pe_tup (pa_cons (pv 4) (StX.pa_star (pv 6) pa_nil)))) (pg_name (i := 7) scNonts.nd rfl (.inl rfl)) (pss_one (ps_if (pt_cmp (pc_dnotin (hu1 hu) (pv 7) (pv 2))) (pss_one (ps_asg pe_bl (pg_sub (pv 3) (pv 7) (set_dict (Nat.lt_of_le_of_lt (Nat.add_le_add_left (by decide : 1 ≤ 64) _) hu))))) pss_nil))))) (pss_one (ps_ret (pe_callTy call_tuple_of (by rfl) T.tuple (by decide +kernel) (pa_cons (pe_callB (call_sortedD (by rfl)) (by rfl) T.sorted (by decide +kernel) (pa_cons (pv 3) pa_nil)) pa_nil)))))), ?_⟩
    obtain ⟨D6, hD6, inD⟩ := ok.six
    obtain ⟨as, hra0, pr⟩ := hra.ex
    refine fun fa nfa => ⟨_, rfl, upd_same, [(.inr g, .bl true)], rfl, Nat.le_of_ble_eq_true rfl, ?_⟩
    rw [upd_upd]
    have sA : ∀ {G : Hp} {u : HO}, Same H G → Same H (upd G fa u) := fun {G u} s b o e => by rw [upd_ne (ne_of_none e nfa)]; exact s b o e
    have s0 : Same H H := Same.refl H
    refine ⟨_, rfl, ra, rfl, ⟨_, SqT.of ((sA s0) _ _ hra0)⟩, ?_⟩
    refine for_tup (K := K) (a := ra) (xs := as.map V.ref) (fun i σ G => ∃ (v4 v5 v6 v7 : Option V) (ys : List Str), σ = [some (.str g), some (.ref ra), some (.ref d), some (.ref fa), v4, v5, v6, v7] ∧ G fa = some (.dK (kd ys)) ∧ ys.Nodup ∧ (∀ z, z ∈ ys ↔ isNt l g (rs.take i) z) ∧ Same H G)
      ⟨none, none, none, none, [g], rfl, upd_same, by simp, fun z => ?_, sA s0⟩ (fun i σ G _ ⟨_, _, _, _, _, _, _, _, _, s⟩ => SqT.of (s _ _ hra0)) ?_ ?_
    · rw [List.mem_singleton]
      constructor
      · exact .inl
      · rintro (h | ⟨r, m, _⟩)
        · exact h
        · simp at m
    · rintro i x σ G hx ⟨v4, v5, v6, v7, ys, rfl, eF, nd, mem, s⟩
      obtain ⟨b, hb, rfl⟩ := ref_at hx
      obtain ⟨r, hr', rat⟩ := pget9 pr hb
      have rok := ok.rules r (List.mem_of_getElem? hr')
      obtain ⟨t, hbt, htt⟩ := rat.same s
      refine ⟨b, _, rfl, SqT.of hbt, rfl, _, _, rfl, _, _, rfl, _, _, rfl, rfl, ?_⟩
      have lt : (r.2.2.map V.str).length = r.2.2.length := List.length_map _
      have few := rok.few
      refine ⟨_, rfl, _, rfl, t, _, rfl, .inl (SqT.of htt), by show (r.2.2.map V.str ++ []).length + 1 ≤ sizeLine; rw [List.append_nil, lt, sizeLine_eq]; omega, fun tw ntw => ?_⟩
      rw [List.append_nil]
      have etw : V.str r.1 :: r.2.2.map V.str = (r.1 :: r.2.2).map V.str := rfl
      rw [etw]
      have s1 := Same.new ntw (o := .tup ((r.1 :: r.2.2).map V.str))
      have htw : (upd G tw (.tup ((r.1 :: r.2.2).map V.str))) tw = some (.tup ((r.1 :: r.2.2).map V.str)) := upd_same
      have eF1 := s1 _ _ eF
      have s2 := s.trans s1
      have twf : tw ≠ fa := fun e => by
        rw [e, eF] at ntw
        cases ntw
      generalize upd G tw (.tup ((r.1 :: r.2.2).map V.str)) = G1 at s1 htw eF1 s2 ⊢
      refine ⟨tw, rfl, ⟨_, SqT.of htw⟩, ?_⟩
      refine for_tup (K := K) (a := tw) (xs := (r.1 :: r.2.2).map V.str) (fun j σ G => ∃ (v7 : Option V) (ys : List Str), σ = [some (.str g), some (.ref ra), some (.ref d), some (.ref fa), some (.str r.1), some (.int (r.2.1 : Int)), some (.ref t), v7] ∧ G fa = some (.dK (kd ys)) ∧ ys.Nodup ∧
          (∀ z, z ∈ ys ↔ isNt l g (rs.take i) z ∨ (z ∈ (r.1 :: r.2.2).take j ∧ z ∉ l.map (·.1))) ∧ Same H G ∧ G tw = some (.tup ((r.1 :: r.2.2).map V.str)))
        ⟨v7, ys, rfl, eF1, nd, fun z => ?_, s2, htw⟩ (fun i σ G _ ⟨_, _, _, _, _, _, _, h⟩ => SqT.of h) ?_ ?_
      · rw [mem z, List.take_zero]
        simp
      · rintro j y σ G2 hy ⟨v7, ys, rfl, eF, nd, mem, s, htw⟩
        obtain ⟨z, hz, rfl⟩ := str_at hy
        have step : ∀ x, x ∈ (r.1 :: r.2.2).take (j + 1) ↔ x ∈ (r.1 :: r.2.2).take j ∨ x = z := fun x => by
          rw [List.take_add_one, hz, List.mem_append]
          simp
        refine ⟨_, rfl, _, rfl, d, _, rfl, DGet.k (k := .inr z) (s _ _ hd), _, rfl, ?_⟩
        by_cases c : z ∈ l.map (·.1)
        · have e := val_mem_iff.mpr c
          refine if_false_of (by rw [e]; rfl) ⟨_, _, rfl, eF, nd, fun x => ?_, s, htw⟩
          rw [mem x, step x]
          constructor
          · rintro (h | ⟨h, n⟩)
            · exact .inl h
            · exact .inr ⟨.inl h, n⟩
          · rintro (h | ⟨h | h, n⟩)
            · exact .inl h
            · exact .inr ⟨h, n⟩
            · exact absurd (h ▸ c) n
        · have e : (valV (dkv l) (.inr z : Key)).isSome = false := by
            cases q : (valV (dkv l) (.inr z : Key)).isSome with
            | false => rfl
            | true => exact absurd (val_mem_iff.mp q) c
          refine if_true_of (by rw [e]; rfl) ?_
          have lys : ys.length ≤ 6 := Nat.le_trans (nodup_few nd fun x m => inD x (by
            rcases (mem x).mp m with h | ⟨h, n⟩
            · exact isNt_of_at h
            · refine .inr ⟨r, List.mem_of_getElem? hr', ?_, n⟩
              have := List.mem_of_mem_take h
              rcases List.mem_cons.mp this with k | k
              · exact .inl k
              · exact .inr k)) hD6
          refine ⟨_, rfl, _, rfl, fa, _, rfl, .inl ⟨kd ys, .inr z, eF, rfl, by rw [kd_len, sizeLine_eq]; omega, rfl⟩, ?_⟩
          rw [kd_put]
          by_cases m : z ∈ ys
          · rw [if_pos m]
            refine ⟨_, ys, rfl, upd_same, nd, fun x => ?_, sA s, by rw [upd_ne twf]; exact htw⟩
            rw [mem x, step x]
            constructor
            · rintro (h | ⟨h, n⟩)
              · exact .inl h
              · exact .inr ⟨.inl h, n⟩
            · rintro (h | ⟨h | h, n⟩)
              · exact .inl h
              · exact .inr ⟨h, n⟩
              · rw [h]
                exact (mem z).mp m
          · rw [if_neg m]
            refine ⟨_, ys ++ [z], rfl, upd_same, ?_, fun x => ?_, sA s, by rw [upd_ne twf]; exact htw⟩
            · rw [List.nodup_append]
              refine ⟨nd, by simp, fun x mx y my e => m ?_⟩
              rw [List.mem_singleton] at my
              rw [← my, ← e]
              exact mx
            · rw [List.mem_append, mem x, step x, List.mem_singleton]
              constructor
              · rintro ((h | ⟨h, n⟩) | h)
                · exact .inl h
                · exact .inr ⟨.inl h, n⟩
                · exact .inr ⟨.inr h, h ▸ c⟩
              · rintro (h | ⟨h | h, n⟩)
                · exact .inl (.inl h)
                · exact .inl (.inr ⟨h, n⟩)
                · exact .inr h
      · rintro σ G2 ⟨v7, ys, rfl, eF, nd, mem, s, htw⟩
        refine ⟨_, _, _, _, ys, rfl, eF, nd, fun z => ?_, s⟩
        have et : (r.1 :: r.2.2).take ((r.1 :: r.2.2).map V.str).length = r.1 :: r.2.2 := List.take_of_length_le (by rw [List.length_map]; exact Nat.le_refl _)
        rw [mem z, et]
        unfold isNt
        rw [List.take_add_one, hr']
        constructor
        · rintro ((h | ⟨r2, m2, k⟩) | ⟨h, n⟩)
          · exact .inl h
          · exact .inr ⟨r2, List.mem_append_left _ m2, k⟩
          · refine .inr ⟨r, List.mem_append_right _ (by simp), ?_, n⟩
            rcases List.mem_cons.mp h with k | k
            · exact .inl k
            · exact .inr k
        · rintro (h | ⟨r2, m2, k, n⟩)
          · exact .inl (.inl h)
          · rcases List.mem_append.mp m2 with m2 | m2
            · exact .inl (.inr ⟨r2, m2, k, n⟩)
            · have e2 : r2 = r := by simpa using m2
              rw [e2] at k
              refine .inr ⟨?_, n⟩
              rcases k with k | k
              · rw [k]; exact List.mem_cons_self
              · exact List.mem_cons_of_mem _ k
    · rintro σ G ⟨v4, v5, v6, v7, ys, rfl, eF, nd, mem, s⟩
      have la : as.length = rs.length := Paired.length pr
      rw [List.take_of_length_le (by rw [List.length_map, la]; exact Nat.le_refl _)] at mem
      have lys : ys.length ≤ 6 := Nat.le_trans (nodup_few nd fun x m => inD x ((mem x).mp m)) hD6
      refine ⟨_, rfl, fa, kd ys, ys, rfl, .inl eF, by unfold kd; rw [List.map_map]; rfl, by omega, fun zs lp pm srt nlp => ?_⟩
      refine ⟨lp, _, rfl, .inl ⟨SqL.of upd_same, fun tp ntp => ?_⟩⟩
      have nH : H lp = none := Same.free s nlp
      have s3 := (s.trans (Same.new nlp (o := .lst (zs.map V.str)))).trans (Same.new ntp (o := .tup (zs.map V.str)))
      refine q zs tp _ srt (pm.nodup_iff.mpr nd) (fun z => by rw [pm.mem_iff, mem z]) ?_ s3 upd_same
      exact Same.free (s.trans (Same.new nlp (o := .lst (zs.map V.str)))) ntp
end
end Pr
namespace Ns
open PySem PySem.Spec PyProof.Rows L2
theorem set_tup {K : PySem.W.Frag} {w : World} {a : Addr} {xs : List V} {g : TG} {tt : TT} {te : TE} {vs : List Nat} {σ : L2.St} {H1 : Hp} {D : Addr} {Qd : Hp → Prop} (Pv : Nat → Hp → Prop) (h0 : Pv 0 (upd H1 D (SetO w D []))) (hl : ∀ i H, i ≤ xs.length → Pv i H → SqT K H a xs)
    (hs : ∀ i x H, xs[i]? = some x → Pv i H → g x (wipe σ vs) H fun σ2 H2 => wipe σ2 vs = wipe σ vs ∧ tt σ2 H2 fun b H3 => if b = true then te σ2 H3 (tElt K w D (Pv (i + 1))) else Pv (i + 1) H3) (hd : ∀ H, Pv xs.length H → Qd H) :
    ∃ W : Nat → Nat → Hp → Prop, (∃ m, W 0 m (upd H1 D (SetO w D []))) ∧ ∀ i m H, W i m H →
      ((Itt K a).stop i H ∧ Qd H) ∨ ((Itt K a).go i H ∧ ∃ Nx : Hp → Prop, (∀ H', Nx H' → ∃ m', m' < m ∧ W (i + 1) m' H') ∧ ∀ x H', (Itt K a).yld i H x H' → g x (wipe σ vs) H' fun σ2 H2 => wipe σ2 vs = wipe σ vs ∧ tt σ2 H2 fun b H3 =>
        if b = true then te σ2 H3 (tElt K w D Nx) else Nx H3) := by
  refine ⟨fun i m H => m = xs.length - i ∧ i ≤ xs.length ∧ Pv i H, ⟨xs.length, by simp, Nat.zero_le _, h0⟩, ?_⟩
  rintro i m H ⟨rfl, hi, p⟩
  have q := hl i H hi p
  by_cases hlt : i < xs.length
  · refine .inr ⟨⟨xs, xs[i], q, by simp [hlt]⟩, Pv (i + 1), fun H' p' => ⟨xs.length - (i + 1), by omega, rfl, hlt, p'⟩, fun x H' y => ?_⟩
    obtain ⟨e, y⟩ := y
    subst e
    exact hs i x _ (y xs q) p
  · have e : i = xs.length := by omega
    subst e
    exact .inl ⟨⟨xs, q, Nat.le_refl _⟩, hd H p⟩
/-- tuples stay where only a set changes -/
theorem sqT_set {K : PySem.W.Frag} {w : World} {H : Hp} {D a : Addr} {L : List El} {o : HO} {xs : List V} (hD : H D = some (SetO w D L)) (h : SqT K H a xs) : SqT K (upd H D o) a xs := by
  rcases h with h | h
  · have ne : a ≠ D := fun e => by
      rw [e] at h
      rcases h with h | ⟨_, h⟩ <;> (rw [hD] at h; cases h)
    rcases h with h | ⟨od, h⟩
    · exact .inl (.inl (by rw [upd_ne ne]; exact h))
    · exact .inl (.inr ⟨od, by rw [upd_ne ne]; exact h⟩)
  · exact .inr h
theorem elK_set {K : PySem.W.Frag} {w : World} {H : Hp} {D : Addr} {L : List El} {o : HO} {p : El} (hD : H D = some (SetO w D L)) (h : ElK K H p) : ElK K (upd H D o) p := ⟨KV.up (fun _ _ q => sqT_set hD q) h.1, h.2⟩
theorem elK_same {K : PySem.W.Frag} {H H' : Hp} {p : El} (s : Same H H') (h : ElK K H p) : ElK K H' p := ⟨KV.up (fun _ _ q => sqT_same q s) h.1, h.2⟩
end Ns
namespace Pr
open PySem PySem.Spec PyProof.Rows L2 Gd Ns
/-! ### is_book -/
/-- the key of a rule's head with its pattern -/
def keyR (r : Rl) : NestedKey := .tup [.text r.1, .tup (r.2.2.map .text)]
theorem keyR_inj {r q : Rl} (h : keyR r = keyR q) : (r.1, r.2.2) = (q.1, q.2.2) := by
  unfold keyR at h
  injection h with h
  injection h with h1 h2
  injection h1 with h1
  injection h2 with h2 _
  injection h2 with h2
  rw [h1, text_inj h2]
def spIsBook : Sp := fun vs H Q _ => ∃ (g : Str) (ra d : Addr) (l : List (Str × Nat)) (rs : List Rl), vs = [.str g, .ref ra, .ref d] ∧ RulesAt H ra rs ∧ H d = some (.dK (dkv l)) ∧ BkOk l g rs ∧ ∀ H', Same H H' → Q (.bl true) H'
/-- the program's defs of books -/
structure Mid (K : PySem.W.Frag) (mg : Str → Option Value) (fR fT : Addr) (dR dT : FuncData) (tk12 tk6 : Tok) : Prop where
  FR : Fun K "is_rule" "is_rule" sRule fR dR
  bR : Binds K dR ["value", "arities"] []
  gR : mg "is_rule" = some (.ref fR)
  FT : Fun K "nonterminals_of" "nonterminals_of" sNonts fT dT
  bT : Binds K dT ["goal", "rules", "arities"] []
  gT : mg "nonterminals_of" = some (.ref fT)
  r12 : mg "MAX_RULES" = some (.int 12 tk12)
  n6 : mg "MAX_NONTERMINALS" = some (.int 6 tk6)
section
variable {P : Program} {w : World} {K : PySem.W.Frag} {mg : Str → Option Value} {base : Heap} {fN fI fA fW fR fT : Addr} {dN dI dA dW dR dT : FuncData} {tk tk9 tk7 tk12 tk6 : Tok}
theorem scIsBook : FnScope ["goal", "rules", "arities", "rule", "nonterminal", "_", "pattern"] ["goal", "rules", "arities"] (defScope sIsBook) := ⟨rfl, rfl, rfl, by decide +kernel, rfl, by decide +kernel, by decide +kernel⟩
theorem ok_isBook {f : Addr} {fd : FuncData} (F : Fun K "is_book" "is_book" sIsBook f fd) (T : Free mg) (L : Low K mg fN fI fA fW dN dI dA dW tk tk9 tk7) (M : Mid K mg fR fT dR dT tk12 tk6) : FnOk P w K mg base CX0 4 f fd ["goal", "rules", "arities"] spIsBook := by
  have GN : FnOk P w K mg base CX0 1 fN dN ["value"] spName := ok_name L.FN T L.l8
  have GR : FnOk P w K mg base CX0 3 fR dR ["value", "arities"] spRule := ok_rule M.FR T L
  have GT : FnOk P w K mg base CX0 1 fT dT ["goal", "rules", "arities"] spNonts := ok_nonts M.FT T
  refine F.ok scIsBook (fun vs H Q E h => ?_) (fun cdv A outer s H vs Q E hr h => ?_)
  · obtain ⟨g, ra, d, l, rs, rfl, _⟩ := h
    rfl
  · obtain ⟨g, ra, d, l, rs, rfl, hra, hd, ok, q⟩ := h
    have hu := hr.units
    have hu1 : ∀ {u : Nat}, u + 64 < cLine → u + 1 < cLine := fun h => by omega
    have r1 : Room 1 _ := hr.mono (by decide)
    have r3 : Room 3 _ := hr.mono (by decide)
    refine ⟨_, (pss_cons (ps_if (PW.pt (pw_or (pt_not (pt_val (pe_call GN r1 (by rfl) L.gN L.FN.kp L.bN .nil pass0 (pa_cons (pv 0) pa_nil)))) (pw_or (pt_cmp (pc_din (hu1 hu) (pv 0) (pv 2))) (pw_or (pt_not (pt_val (pe_callB call_isi (by rfl) T.isi (by decide +kernel) (pa_cons (pv 1) (pa_cons (pe_bltn (v := .ty "tuple") (by rfl) T.tuple (by decide +kernel) rfl) pa_nil))))) (pw_or1 (pt_cmpR op_gt (pe_callB call_len_seq (by rfl) T.len PySem.boot_len (pa_cons (pv 1) pa_nil)) (pe_glob (v := .int 12) (by rfl) M.r12 ⟨_, rfl⟩) (nomark _))))))) (pss_one (ps_ret pe_bl)) pss_nil) (pss_cons (ps_if (pt_not (pt_val (pe_callB (cr_all rfl) (by rfl) T.all (by decide +kernel) (pa_cons (pe_lc (own := [("rule", 3)]) (g := gName 3) (by rfl) scIsBook.nd (pi_tup (pv 1)) (blkOk_by (own := [("rule", 3)]) (N := ["goal", "rules", "arities", "rule", "nonterminal", "_", "pattern"]) (sc := defScope sIsBook) (by decide +kernel)) (fun _ _ _ _ _ => pg_name (i := 3) scIsBook.nd rfl (.inl rfl)) (fun _ _ _ _ _ => pts_nil) (fun _ _ _ _ _ => pe_call GR r3 (by rfl) M.gR M.FR.kp M.bR .nil pass0 (pa_cons (pv 3) (pa_cons (pv 2) pa_nil)))) pa_nil)))) (pss_one (ps_ret pe_bl)) pss_nil) (pss_cons (ps_if (pt_cmpR op_lt (pe_callB Ns.cr_lenSet (by rfl) T.len PySem.boot_len (pa_cons (Ns.pe_set (own := [("nonterminal", 4), ("_", 5), ("pattern", 6)]) (g := gTup K 3 (gCons (gName 4) (gCons (gName 5) (gCons (gName 6) gNil)))) hu (by rfl) scIsBook.nd (pi_tup (pv 1)) (blkOk_by (own := [("nonterminal", 4), ("_", 5), ("pattern", 6)]) (N := ["goal", "rules", "arities", "rule", "nonterminal", "_", "pattern"]) (sc := defScope sIsBook) (by decide +kernel)) (fun _ _ _ _ _ => pg_tup rfl (pgs_cons (pg_name (i := 4) scIsBook.nd rfl (.inl rfl)) (pgs_cons (pg_name (i := 5) scIsBook.nd rfl (.inl rfl)) (pgs_cons (pg_name (i := 6) scIsBook.nd rfl (.inl rfl)) pgs_nil)))) (fun _ _ _ _ _ => pts_nil) (fun _ _ _ _ _ => pe_tup (pa_cons (pv 4) (pa_cons (pv 6) pa_nil)))) pa_nil)) (pe_callB call_len_seq (by rfl) T.len PySem.boot_len (pa_cons (pv 1) pa_nil)) (nomark _)) (pss_one (ps_ret pe_bl)) pss_nil) (pss_one (ps_ret (pe_cmpR op_le (pe_callB call_len_seq (by rfl) T.len PySem.boot_len (pa_cons (pe_call GT r1 (by rfl) M.gT M.FT.kp M.bT .nil pass0 (pa_cons (pv 0) (pa_cons (pv 1) (pa_cons (pv 2) pa_nil)))) pa_nil)) (pe_glob (v := .int 6) (by rfl) M.n6 ⟨_, rfl⟩) (nomark _))))))), ?_⟩
    obtain ⟨as, hra0, pr⟩ := hra.ex
    have la : as.length = rs.length := Paired.length pr
    have lm : (as.map V.ref).length = rs.length := by rw [List.length_map, la]
    have few := ok.few
    have kn : ∀ y, V.str g = .str y → y.length ≤ 1000000 := fun y e => by
      cases e
      have := az_len ok.goal
      omega
    have ng : (valV (dkv l) (.inr g : Key)).isSome = false := by
      cases e : (valV (dkv l) (.inr g : Key)).isSome with
      | false => rfl
      | true => exact absurd (val_mem_iff.mp e) ok.gnew
    refine ⟨_, rfl, .str g, "str", rfl, .str g, kn, _, rfl, if_false_of (by rw [show nameB (.str g) = true from ok.goal]; rfl) ?_⟩
    refine ⟨_, rfl, _, rfl, d, _, rfl, DGet.k (k := .inr g) hd, _, rfl, if_false_of ng ?_⟩
    refine ⟨_, rfl, .ref ra, _, _, _, true, rfl, .ty "tuple", tyR (.inl hra0), kit_ty (r := true) (by decide +kernel), _, rfl, if_false_of rfl ?_⟩
    refine ⟨_, rfl, ra, _, rfl, .inr (SqT.of hra0), _, _, rfl, rfl, _, rfl, if_false_of (decide_eq_false (by rw [lm]; omega)) ?_⟩
    -- all rules
    refine ⟨_, rfl, ra, rfl, ⟨_, SqT.of hra0⟩, fun D nD => ?_⟩
    refine lc_tup (K := K) (a := ra) (xs := as.map V.ref) (fun i G => G D = some (.lst (List.replicate i (V.bl true))) ∧ Same H G) ⟨upd_same, Same.new nD⟩ (fun i G _ ⟨_, s⟩ => SqT.of (s _ _ hra0)) ?_ ?_
    · rintro i x G hx ⟨eD, s⟩
      obtain ⟨b, hb, rfl⟩ := ref_at hx
      obtain ⟨r, hr', rat⟩ := pget9 pr hb
      have hi := (List.getElem?_eq_some_iff.mp hr').1
      refine ⟨rfl, _, rfl, _, rfl, b, d, l, r, rfl, rat.same s, s _ _ hd, ok.ops, ok.rules r (List.mem_of_getElem? hr'), fun G' s' => ⟨_, s' _ _ eD, by rw [List.length_replicate, sizeLine_eq]; omega, ?_, fun b o q => by rw [upd_ne (ne_of_none q nD)]; exact s' _ _ (s b o q)⟩⟩
      rw [upd_same, List.replicate_succ']
    rintro G ⟨eD, s1⟩
    refine ⟨D, List.replicate (as.map V.ref).length true, rfl, SqL.of (by rw [eD, List.map_replicate]), ?_⟩
    have eall : (List.replicate (as.map V.ref).length true).all id = true := by
      rw [List.all_eq_true]
      intro b m
      exact (List.mem_replicate.mp m).2
    rw [eall]
    refine ⟨_, rfl, if_false_of rfl ?_⟩
    -- heads with their patterns
    have hra1 := s1 _ _ hra0
    refine ⟨_, rfl, ra, rfl, ⟨_, SqT.of hra1⟩, fun D2 nD2 => ?_⟩
    refine set_tup (K := K) (w := w) (a := ra) (xs := as.map V.ref) (fun i G2 => ∃ L : List El, G2 D2 = some (SetO w D2 L) ∧ (L.map (·.2)).Perm ((rs.take i).map keyR) ∧ (∀ p ∈ L, ElK K G2 p) ∧ Kp D2 G G2)
      ⟨[], upd_same, .refl _, fun p m => (nomatch m), Kp.upd⟩ (fun i G2 _ ⟨_, _, _, _, k⟩ => SqT.of (k _ _ (ne_of_none hra1 nD2) hra1)) ?_ ?_
    · rintro i x G2 hx ⟨L, eS, pm, els, k⟩
      obtain ⟨b, hb, rfl⟩ := ref_at hx
      obtain ⟨r, hr', rat⟩ := pget9 pr hb
      have hi := (List.getElem?_eq_some_iff.mp hr').1
      obtain ⟨t, hbt, htt⟩ := rat.same s1
      have hbt2 := k _ _ (ne_of_none hbt nD2) hbt
      have htt2 := k _ _ (ne_of_none htt nD2) htt
      refine ⟨b, _, rfl, SqT.of hbt2, rfl, _, _, rfl, _, _, rfl, _, _, rfl, rfl, rfl, ?_⟩
      refine ⟨_, rfl, _, rfl, by show 2 ≤ sizeLine; decide, fun e ne => ?_⟩
      have se := Same.new ne (o := .tup [.str r.1, .ref t])
      have lL : L.length = i := by
        have e1 := pm.length_eq
        rw [List.length_map, List.length_map, List.length_take] at e1
        omega
      have eS2 := se _ _ eS
      have kb : ElK K (upd G2 e (.tup [.str r.1, .ref t])) (e, keyR r) := by
        refine ⟨.tup (SqT.of upd_same) (.cons (.text _) (.cons (.tup (SqT.of (se _ _ htt2)) (kvs_words _)) .nil)), ?_⟩
        show NestedKey.depthAll [.text r.1, .tup (r.2.2.map .text)] + 1 ≤ 8
        have e1 := depth_words r.2.2
        have e2 : NestedKey.depthAll [.text r.1, .tup (r.2.2.map .text)] = max 0 (max (NestedKey.depthAll (r.2.2.map .text) + 1) 0) := rfl
        rw [e2]
        omega
      have els2 : ∀ p ∈ L, ElK K (upd G2 e (.tup [.str r.1, .ref t])) p := fun p m => elK_same se (els p m)
      have new : keyR r ∉ L.map (·.2) := fun m => by
        have m2 := pm.mem_iff.mp m
        obtain ⟨r2, mr2, e2⟩ := List.mem_map.mp m2
        obtain ⟨j, hj⟩ := List.mem_iff_getElem?.mp mr2
        rw [List.getElem?_take] at hj
        split at hj
        · rename_i lt
          have nd := ok.nd
          have x1 : (rs.map fun r => (r.1, r.2.2))[j]? = some (r.1, r.2.2) := by rw [List.getElem?_map, hj]; exact congrArg some (keyR_inj e2)
          have x2 : (rs.map fun r => (r.1, r.2.2))[i]? = some (r.1, r.2.2) := by rw [List.getElem?_map, hr']; rfl
          have e3 : j = i := (List.getElem?_inj (List.getElem?_eq_some_iff.mp x1).1 nd).mp (x1.trans x2.symm)
          omega
        · cases hj
      refine ⟨e, keyR r, L, rfl, eS2, kb, els2, by omega, fun L' _ c2 => ?_⟩
      have pl := c2 new
      refine ⟨L', upd_same, ?_, fun p m => elK_set eS2 ?_, fun c u nc hc => ?_⟩
      · refine (pl.map (·.2)).trans ?_
        rw [List.take_add_one, hr', List.map_cons, List.map_append]
        exact (pm.cons _).trans (List.perm_append_singleton _ _).symm
      · rcases List.mem_cons.mp (pl.mem_iff.mp m) with z | z
        · rw [z]; exact kb
        · exact els2 p z
      · rw [upd_ne nc]
        exact se _ _ (k c u nc hc)
    rintro G2 ⟨L, eS, pm, els, k⟩
    have lL : L.length = rs.length := by
      have e1 := pm.length_eq
      rw [List.length_map, List.length_map, List.length_take, lm] at e1
      omega
    have hra2 := k _ _ (ne_of_none hra1 nD2) hra1
    have s2 : Same H G2 := fun b o e => k _ _ (ne_of_none (s1 b o e) nD2) (s1 b o e)
    refine ⟨D2, L, rfl, eS, _, rfl, ra, _, rfl, .inr (SqT.of hra2), _, _, rfl, rfl, _, rfl, if_false_of (decide_eq_false (by rw [lL, lm]; omega)) ?_⟩
    refine ⟨_, rfl, _, rfl, _, rfl, g, ra, d, l, rs, rfl, hra.same s2, s2 _ _ hd, ok, fun ys p H3 srt nd mem np s3 hp => ?_⟩
    refine ⟨p, _, rfl, .inr (SqT.of hp), _, _, rfl, rfl, ?_⟩
    obtain ⟨D6, hD6, inD⟩ := ok.six
    have lys : ys.length ≤ 6 := Nat.le_trans (nodup_few nd fun x m => inD x ((mem x).mp m)) hD6
    have e6 : decide (((ys.map V.str).length : Int) ≤ 6) = true := decide_eq_true (by rw [List.length_map]; omega)
    show Q (.bl (decide (((ys.map V.str).length : Int) ≤ 6))) H3
    rw [e6]
    exact q H3 (s2.trans s3)
end
end Pr
namespace Pr
open PySem PySem.Spec PyProof.Rows L2 Gd
/-! ### values that a judge of rules may meet -/
/-- what is of a known kind, nested n deep in tuples; its names are among D -/
def Tx1 (D : List Str) (v : V) : Prop := ∀ z, v = .str z → z.length ≤ 100000 ∧ (azB z = true → z ∈ D)
def Jv (D : List Str) (H : Hp) : Nat → V → Prop
  | 0, v => (∃ ty, Kd H v ty) ∧ Tx1 D v
  | n + 1, v => (∃ ty, Kd H v ty) ∧ Tx1 D v ∧ ∀ a xs, v = .ref a → H a = some (.tup xs) → xs.length ≤ 1000 ∧ ∀ x ∈ xs, Jv D H n x
section
variable {D : List Str}
theorem Jv.kd {H : Hp} {n : Nat} {v : V} (h : Jv D H n v) : ∃ ty, Kd H v ty := by
  cases n with
  | zero => exact h.1
  | succ n => exact h.1
theorem Jv.tx {H : Hp} {n : Nat} {v : V} (h : Jv D H n v) : Tx1 D v := by
  cases n with
  | zero => exact h.2
  | succ n => exact h.2.1
theorem Jv.str_ {H : Hp} {n : Nat} {v : V} (h : Jv D H n v) : ∀ z, v = .str z → z.length ≤ 100000 := fun z e => (h.tx z e).1
theorem Jv.items {H : Hp} {n : Nat} {a : Addr} {xs : List V} (h : Jv D H (n + 1) (.ref a)) (e : H a = some (.tup xs)) : xs.length ≤ 1000 ∧ ∀ x ∈ xs, Jv D H n x := h.2.2 a xs rfl e
theorem Kd.back {H H' : Hp} {a : Addr} {xs : List V} {ty : String} (k : Kd H (.ref a) ty) (s : Same H H') (e : H' a = some (.tup xs)) : H a = some (.tup xs) := by
  cases k with
  | lst e2 =>
    rw [s _ _ e2] at e
    cases e
  | tup e2 =>
    have e3 := s _ _ e2
    rw [e3] at e
    cases e
    exact e2
  | dK e2 =>
    rw [s _ _ e2] at e
    cases e
theorem Jv.same {H H' : Hp} (s : Same H H') : ∀ {n : Nat} {v : V}, Jv D H n v → Jv D H' n v
  | 0, v, h => ⟨let ⟨ty, k⟩ := h.1; ⟨ty, k.same s⟩, h.2⟩
  | n + 1, v, h => ⟨let ⟨ty, k⟩ := h.1; ⟨ty, k.same s⟩, h.2.1, fun a xs e e2 => by
      subst e
      obtain ⟨ty, k⟩ := h.1
      obtain ⟨l, j⟩ := h.2.2 a xs rfl (k.back s e2)
      exact ⟨l, fun x m => Jv.same s (j x m)⟩⟩
theorem Jv.less {H : Hp} : ∀ {n : Nat} {v : V}, Jv D H (n + 1) v → Jv D H n v
  | 0, v, h => ⟨h.1, h.2.1⟩
  | n + 1, v, h => ⟨h.1, h.2.1, fun a xs e e2 => let ⟨l, j⟩ := h.2.2 a xs e e2; ⟨l, fun x m => Jv.less (j x m)⟩⟩
/-- what is no tuple is of any depth -/
theorem Jv.flat {H : Hp} {n : Nat} {v : V} {ty : String} (k : Kd H v ty) (ne : ty ≠ "tuple") (l : Tx1 D v) : Jv D H n v := by
  cases n with
  | zero => exact ⟨⟨_, k⟩, l⟩
  | succ n =>
    refine ⟨⟨_, k⟩, l, fun a xs e e2 => ?_⟩
    subst e
    cases k with
    | lst e3 =>
      rw [e3] at e2
      cases e2
    | tup e3 => exact absurd rfl ne
    | dK e3 =>
      rw [e3] at e2
      cases e2
theorem Jv.tup {H : Hp} {n : Nat} {a : Addr} {xs : List V} (e : H a = some (.tup xs)) (l : xs.length ≤ 1000) (h : ∀ x ∈ xs, Jv D H n x) : Jv D H (n + 1) (.ref a) :=
  ⟨⟨_, .tup e⟩, (fun z q => (nomatch q)), fun b ys q e2 => by
    cases q
    rw [e] at e2
    cases e2
    exact ⟨l, h⟩⟩
theorem Jv.non {H : Hp} {n : Nat} : Jv D H n .non := .flat .non (by decide) fun z q => nomatch q
theorem Jv.bl {H : Hp} {n : Nat} (b : Bool) : Jv D H n (.bl b) := .flat (.bl b) (by decide) fun z q => nomatch q
theorem Jv.int {H : Hp} {n : Nat} (i : Int) : Jv D H n (.int i) := .flat (.int i) (by decide) fun z q => nomatch q
theorem Jv.text {H : Hp} {n : Nat} {z : Str} (l : z.length ≤ 100000) (h : azB z = true → z ∈ D) : Jv D H n (.str z) := .flat (.str z) (by decide) fun y q => by cases q; exact ⟨l, h⟩
theorem Jv.lst {H : Hp} {n : Nat} {a : Addr} {xs : List V} (e : H a = some (.lst xs)) : Jv D H n (.ref a) := .flat (.lst e) (by decide) fun z q => nomatch q
theorem Jv.dct {H : Hp} {n : Nat} {a : Addr} {kvs : List (Key × V)} (e : H a = some (.dK kvs)) : Jv D H n (.ref a) := .flat (.dK e) (by decide) fun z q => nomatch q
theorem Jv.words {H : Hp} {n : Nat} {a : Addr} {ws : List Str} (e : H a = some (.tup (ws.map V.str))) (l : ws.length ≤ 1000) (h : ∀ z ∈ ws, z.length ≤ 100000 ∧ (azB z = true → z ∈ D)) : Jv D H (n + 1) (.ref a) := .tup e (by rw [List.length_map]; exact l) fun x m => by
  obtain ⟨z, mz, rfl⟩ := List.mem_map.mp m
  exact .text (h z mz).1 (h z mz).2
end
/-- v is the rule r -/
def RuleR (H : Hp) (v : V) (r : Rl) : Prop := ∃ a, v = .ref a ∧ RuleAt H a r
theorem RuleR.same {H H' : Hp} {v : V} {r : Rl} (h : RuleR H v r) (s : Same H H') : RuleR H' v r := let ⟨a, e, k⟩ := h; ⟨a, e, k.same s⟩
theorem RuleAt.one {H : Hp} {a : Addr} {r q : Rl} (h : RuleAt H a r) (k : RuleAt H a q) : r = q := by
  obtain ⟨t, x, y⟩ := h
  obtain ⟨t', x', y'⟩ := k
  rw [x] at x'
  injection x' with x'
  injection x' with x'
  injection x' with e1 x'
  injection x' with e2 x'
  injection x' with e3 _
  cases e3
  rw [y] at y'
  injection y' with y'
  injection y' with y'
  have e4 : r.2.2 = q.2.2 := (List.map_inj_right (fun a b h => V.str.inj h)).mp y'
  have e5 : r.1 = q.1 := V.str.inj e1
  have e6 : r.2.1 = q.2.1 := by
    have := V.int.inj e2
    omega
  obtain ⟨a1, b1, c1⟩ := r
  obtain ⟨a2, b2, c2⟩ := q
  simp only at e4 e5 e6
  rw [e4, e5, e6]
/-- a rule at b, where only more stands, stood there before if it was known -/
theorem RuleAt.back {H H' : Hp} {v : V} {r : Rl} {D : List Str} (j : Jv D H 2 v) (s : Same H H') (h : RuleR H' v r) : RuleR H v r := by
  obtain ⟨a, rfl, t, x, y⟩ := h
  obtain ⟨ty, k⟩ := j.kd
  have x' := k.back s x
  obtain ⟨ty2, k2⟩ := (j.items x').2 (.ref t) (by simp) |>.kd
  exact ⟨a, rfl, t, x', k2.back s y⟩
/-- v is the tuple of the rules rs -/
def RulesR (H : Hp) (v : V) (rs : List Rl) : Prop := ∃ a, v = .ref a ∧ RulesAt H a rs
/-- a promise out of two -/
theorem fn_or {P : Program} {w : World} {K : PySem.W.Frag} {mg : Str → Option Value} {base : Heap} {CX : CXT} {k : Nat} {f : Addr} {fd : FuncData} {ps : List Str} {sp sp2 : Sp} (a : FnOk P w K mg base CX k f fd ps sp) (b : FnOk P w K mg base CX k f fd ps sp2) :
    FnOk P w K mg base CX k f fd ps (fun vs H Q E => sp vs H Q E ∨ sp2 vs H Q E) where
  len := fun vs H Q E h => h.elim (a.len vs H Q E) (b.len vs H Q E)
  run := fun A outer s H args us vs Q E hr env bind rel h => h.elim (a.run A outer s H args us vs Q E hr env bind rel) (b.run A outer s H args us vs Q E hr env bind rel)
theorem fn_imp {P : Program} {w : World} {K : PySem.W.Frag} {mg : Str → Option Value} {base : Heap} {CX : CXT} {k : Nat} {f : Addr} {fd : FuncData} {ps : List Str} {sp sp2 : Sp} (a : FnOk P w K mg base CX k f fd ps sp) (h : ∀ vs H Q E, sp2 vs H Q E → sp vs H Q E) :
    FnOk P w K mg base CX k f fd ps sp2 where
  len := fun vs H Q E q => a.len vs H Q E (h vs H Q E q)
  run := fun A outer s H args us vs Q E hr env bind rel q => a.run A outer s H args us vs Q E hr env bind rel (h vs H Q E q)
end Pr
namespace Pr
open PySem PySem.Spec PyProof.Rows L2 Gd
/-! ### are_names of any value -/
/-- v is the tuple of the words ws -/
def WordsR (H : Hp) (v : V) (ws : List Str) : Prop := ∃ a, v = .ref a ∧ H a = some (.tup (ws.map V.str))
def NamesV (H : Hp) (v : V) : Prop := ∃ ws, WordsR H v ws ∧ ∀ z ∈ ws, azB z = true
theorem Kd.no_tup {H : Hp} {v : V} {ty : String} (k : Kd H v ty) (ne : ty ≠ "tuple") {a : Addr} {xs : List V} (e : v = .ref a) (h : H a = some (.tup xs)) : False := by
  subst e
  cases k with
  | lst e3 => rw [e3] at h; cases h
  | tup e3 => exact absurd rfl ne
  | dK e3 => rw [e3] at h; cases h
theorem kit_tupB {K : PySem.W.Frag} {H : Hp} {v : V} {t : String} (k : Kd H v t) : PySem.W.kitOne K (.type t) (.type "tuple") = some (t == "tuple") := by
  cases k <;> first | exact kit_ty (r := true) (by decide +kernel) | exact kit_ty (r := false) (by decide +kernel)
theorem tup_one {H : Hp} {a : Addr} {xs ys : List V} (h : H a = some (.tup xs)) (k : H a = some (.tup ys)) : xs = ys := by
  rw [h] at k
  injection k with k
  injection k with k
/-- a value is a tuple or none -/
theorem Kd.split {H : Hp} {v : V} {ty : String} (k : Kd H v ty) : (ty ≠ "tuple") ∨ (ty = "tuple" ∧ ∃ a xs, v = .ref a ∧ H a = some (.tup xs)) := by
  cases k with
  | tup e => exact .inr ⟨rfl, _, _, rfl, e⟩
  | _ => exact .inl (by decide)
theorem names_of : ∀ {xs : List V}, (∀ x ∈ xs, nameB x = true) → ∃ ws : List Str, xs = ws.map V.str ∧ ∀ z ∈ ws, azB z = true
  | [], _ => ⟨[], rfl, fun z m => nomatch m⟩
  | x :: xs, h => by
    obtain ⟨ws, e, k⟩ := names_of (xs := xs) fun y m => h y (List.mem_cons_of_mem _ m)
    have hx := h x List.mem_cons_self
    cases x with
    | str z => exact ⟨z :: ws, by rw [e]; rfl, fun y m => (List.mem_cons.mp m).elim (fun e => by rw [e]; exact hx) (k y)⟩
    | _ => cases hx
def spNamesG : Sp := fun vs H Q _ => ∃ (v : V) (D : List Str), vs = [v] ∧ Jv D H 1 v ∧ ∀ b H', Same H H' → (b = true ↔ NamesV H v) → Q (.bl b) H'
section
variable {P : Program} {w : World} {K : PySem.W.Frag} {mg : Str → Option Value} {base : Heap} {fN : Addr} {dN : FuncData} {tk : Tok}
theorem ok_namesG {f : Addr} {fd : FuncData} (F : Fun K "are_names" "are_names" sNames f fd) (T : Free mg) (gm : mg "MAX_LETTERS" = some (.int 8 tk)) (FN : Fun K "is_name" "is_name" sName fN dN) (bN : Binds K dN ["value"] []) (gN : mg "is_name" = some (.ref fN)) : FnOk P w K mg base CX0 2 f fd ["value"] spNamesG := by
  have GN : FnOk P w K mg base CX0 1 fN dN ["value"] spName := ok_name FN T gm
  refine F.ok scNames (fun vs H Q E h => ?_) (fun cdv A outer s H vs Q E hr h => ?_)
  · obtain ⟨v, D, rfl, _⟩ := h
    rfl
  · obtain ⟨v, D0, rfl, j, q⟩ := h
    have hu := hr.units
    have hu1 : ∀ {u : Nat}, u + 64 < cLine → u + 1 < cLine := fun h => by omega
    refine ⟨_, (pss_one (ps_ret (pe_and (pe_callB call_isi (by rfl) T.isi (by decide +kernel) (pa_cons (pv 0) (pa_cons (pe_bltn (v := .ty "tuple") (by rfl) T.tuple (by decide +kernel) rfl) pa_nil))) (pe_one (pe_callB (cr_all rfl) (by rfl) T.all (by decide +kernel) (pa_cons (pe_lc (own := [("word", 1)]) (g := gName 1) (by rfl) scNames.nd (pi_tup (pv 0)) (blkOk_by (own := [("word", 1)]) (N := ["value", "word"]) (sc := defScope sNames) (by decide +kernel)) (fun _ _ _ _ _ => pg_name (i := 1) scNames.nd rfl (.inl rfl)) (fun _ _ _ _ _ => pts_nil) (fun _ _ _ _ _ => pe_call GN hr (by rfl) gN FN.kp bN .nil pass0 (pa_cons (pv 1) pa_nil))) pa_nil)))))), ?_⟩
    obtain ⟨ty, kd⟩ := j.kd
    rcases kd.split with ne | ⟨rfl, a, xs, rfl, ha⟩
    · refine ⟨_, rfl, v, _, _, _, _, rfl, .ty "tuple", kd.ty, kit_tupB kd, _, rfl, ?_⟩
      rw [beq_eq_false_iff_ne.mpr ne]
      refine iteF (q false H (Same.refl H) ⟨fun e => (nomatch e), fun ⟨ws, ⟨a, e, h⟩, _⟩ => (kd.no_tup ne e h).elim⟩)
    · refine ⟨_, rfl, .ref a, _, _, _, true, rfl, .ty "tuple", tyR (.inl ha), kit_ty (r := true) (by decide +kernel), _, rfl, iteT ?_⟩
      refine ⟨_, rfl, a, rfl, ⟨_, SqT.of ha⟩, fun D nD => ?_⟩
      have few := (j.items ha).1
      refine lc_tup (K := K) (a := a) (xs := xs) (fun i G => G D = some (.lst ((xs.take i).map fun x => V.bl (nameB x))) ∧ Same H G) ⟨upd_same, Same.new nD⟩ (fun i G _ ⟨_, s⟩ => SqT.of (s _ _ ha)) ?_ ?_
      · rintro i x G hx ⟨eD, s⟩
        have jx := (j.items ha).2 x (List.mem_of_getElem? hx)
        obtain ⟨tx, kx⟩ := jx.kd
        refine ⟨rfl, _, rfl, x, tx, rfl, kx.same s, fun y e => Nat.le_trans (jx.str_ y e) (by decide), _, eD, ?_, ?_, fun b o q => by rw [upd_ne (ne_of_none q nD)]; exact s b o q⟩
        · rw [List.length_map, List.length_take, sizeLine_eq]
          omega
        · rw [upd_same, List.take_add_one, hx, List.map_append]
          rfl
      · rintro G ⟨eD, s⟩
        rw [List.take_length] at eD
        refine ⟨D, xs.map nameB, rfl, SqL.of (by rw [eD, List.map_map]; rfl), q _ G s ?_⟩
        rw [List.all_map, List.all_eq_true]
        constructor
        · intro h
          obtain ⟨ws, e, k⟩ := names_of h
          exact ⟨ws, ⟨a, rfl, by rw [ha, e]⟩, k⟩
        · rintro ⟨ws, ⟨a', e, h⟩, k⟩ x m
          cases e
          rw [tup_one ha h] at m
          obtain ⟨z, mz, rfl⟩ := List.mem_map.mp m
          exact k z mz
end
end Pr
namespace Pr
open PySem PySem.Spec PyProof.Rows L2 Gd
/-! ### is_rule of any value -/
theorem wgo_iff {l' l : List (Str × Nat)} : ∀ (ws : List Str) (n : Nat), (∀ z ∈ ws, arity l' (.str z) = some (ar l z : Int)) → (wgo l' (n : Int) (ws.map V.str) = true ↔ Wh (ar l) n ws)
  | [], n, _ => by
    show decide ((n : Int) = 0) = true ↔ n = 0
    rw [decide_eq_true_eq]
    omega
  | z :: ws, 0, _ => by
    rw [List.map_cons, show (((0 : Nat) : Int)) = 0 from rfl, wgo_zero rfl]
    exact ⟨fun e => (nomatch e), fun h => h.elim⟩
  | z :: ws, n + 1, ha => by
    rw [List.map_cons, wgo_some (by omega) (ha z List.mem_cons_self)]
    have e : ((n + 1 : Nat) : Int) + ((ar l z : Int) - 1) = ((n + ar l z : Nat) : Int) := by omega
    rw [e, wgo_iff ws _ (fun y m => ha y (List.mem_cons_of_mem _ m))]
    exact Iff.rfl
/-- v is a rule over the operators l -/
def RuleV (H : Hp) (l : List (Str × Nat)) (v : V) : Prop := ∃ r, RuleR H v r ∧ RlOk l r
theorem WordsR.one {H : Hp} {v : V} {ws us : List Str} (h : WordsR H v ws) (k : WordsR H v us) : ws = us := by
  obtain ⟨a, rfl, h⟩ := h
  obtain ⟨b, e, k⟩ := k
  cases e
  exact (List.map_inj_right (fun a b h => V.str.inj h)).mp (tup_one h k)
/-- the three items of a rule -/
theorem RuleV.items {H : Hp} {l : List (Str × Nat)} {a : Addr} {xs : List V} (ha : H a = some (.tup xs)) (h : RuleV H l (.ref a)) : ∃ z n ws t, xs = [.str z, .int ((n : Nat) : Int), .ref t] ∧ H t = some (.tup (ws.map V.str)) ∧ RlOk l (z, n, ws) := by
  obtain ⟨r, ⟨b, e, t, hb, ht⟩, ok⟩ := h
  cases e
  exact ⟨r.1, r.2.1, r.2.2, t, tup_one ha hb, ht, ok⟩
def spRuleG : Sp := fun vs H Q _ => ∃ (v : V) (D : List Str) (d : Addr) (l : List (Str × Nat)), vs = [v, .ref d] ∧ Jv D H 2 v ∧ H d = some (.dK (dkv l)) ∧ OpsOk l ∧ ∀ b H', Same H H' → (b = true ↔ RuleV H l v) → Q (.bl b) H'
section
variable {P : Program} {w : World} {K : PySem.W.Frag} {mg : Str → Option Value} {base : Heap} {fN fI fA fW : Addr} {dN dI dA dW : FuncData} {tk tk9 tk7 : Tok}
theorem ok_ruleG {f : Addr} {fd : FuncData} (F : Fun K "is_rule" "is_rule" sRule f fd) (T : Free mg) (L : Low K mg fN fI fA fW dN dI dA dW tk tk9 tk7) : FnOk P w K mg base CX0 3 f fd ["value", "arities"] spRuleG := by
  have GN : FnOk P w K mg base CX0 1 fN dN ["value"] spName := ok_name L.FN T L.l8
  have GI : FnOk P w K mg base CX0 1 fI dI ["value"] spIntO := ok_integerO L.FI T
  have GA : FnOk P w K mg base CX0 2 fA dA ["value"] spNamesG := ok_namesG L.FA T L.l8 L.FN L.bN L.gN
  have GW : FnOk P w K mg base CX0 1 fW dW ["words", "arities"] spWhole := ok_whole L.FW T
  refine F.ok scRule (fun vs H Q E h => ?_) (fun cdv A outer s H vs Q E hr h => ?_)
  · obtain ⟨v, D0, d, l, rfl, _⟩ := h
    rfl
  · obtain ⟨v, D0, d, l, rfl, j, hd, oo, q⟩ := h
    have hu := hr.units
    have hu1 : ∀ {u : Nat}, u + 64 < cLine → u + 1 < cLine := fun h => by omega
    have r1 : Room 1 _ := hr.mono (by decide)
    have r2 : Room 2 _ := hr.mono (by decide)
    refine ⟨_, (pss_cons (ps_if (PW.pt (pw_or (pt_not (pt_val (pe_callB call_isi (by rfl) T.isi (by decide +kernel) (pa_cons (pv 0) (pa_cons (pe_bltn (v := .ty "tuple") (by rfl) T.tuple (by decide +kernel) rfl) pa_nil))))) (pw_or1 (pt_cmpR op_ne (pe_callB call_len_seq (by rfl) T.len PySem.boot_len (pa_cons (pv 0) pa_nil)) pe_int (nomark _))))) (pss_one (ps_ret pe_bl)) pss_nil) (pss_cons (ps_asg (pv 0) (pg_tup rfl (pgs_cons (pg_name (i := 2) scRule.nd rfl (.inl rfl)) (pgs_cons (pg_name (i := 3) scRule.nd rfl (.inl rfl)) (pgs_cons (pg_name (i := 4) scRule.nd rfl (.inl rfl)) pgs_nil))))) (pss_cons (ps_if (PW.pt (pw_or (pt_not (pt_val (pe_call GN r1 (by rfl) L.gN L.FN.kp L.bN .nil pass0 (pa_cons (pv 2) pa_nil)))) (pw_or (pt_cmp (pc_din (hu1 hu) (pv 2) (pv 1))) (pw_or (pt_not (pt_val (pe_call GI r1 (by rfl) L.gI L.FI.kp L.bI .nil pass0 (pa_cons (pv 3) pa_nil)))) (pw_or1 (pt_not (pt_chain op_le op_le pe_int (pv 3) (pe_glob (v := .int 9) (by rfl) L.p9 ⟨_, rfl⟩)))))))) (pss_one (ps_ret pe_bl)) pss_nil) (pss_cons (ps_if (PW.pt (pw_or (pt_not (pt_val (pe_call GA r2 (by rfl) L.gA L.FA.kp L.bA .nil pass0 (pa_cons (pv 4) pa_nil)))) (pw_or (pt_not (pt_chain op_le op_le pe_int (pe_callB call_len_seq (by rfl) T.len PySem.boot_len (pa_cons (pv 4) pa_nil)) (pe_glob (v := .int 7) (by rfl) L.p7 ⟨_, rfl⟩))) (pw_or1 (pt_cmpR (op_eqD hu) (pv 4) (pe_tup (pa_cons (pv 2) pa_nil)) (nomark _)))))) (pss_one (ps_ret pe_bl)) pss_nil) (pss_one (ps_ret (pe_call GW r1 (by rfl) L.gW L.FW.kp L.bW .nil pass0 (pa_cons (pv 4) (pa_cons (Du.pe_dunp2 (pe_dc (own := [("word", 5)]) (g := gName 5) (by rfl) scRule.nd (pi_tup (pv 4)) (blkOk_by (own := [("word", 5)]) (N := ["value", "arities", "nonterminal", "price", "pattern", "word"]) (sc := defScope sRule) (by decide +kernel)) (fun _ _ _ _ _ => pg_name (i := 5) scRule.nd rfl (.inl rfl)) (fun _ _ _ _ _ => pts_nil) (fun _ _ _ _ _ => pv 5) (fun _ _ _ _ _ => pe_int)) (pv 1)) pa_nil))))))))), ?_⟩
    obtain ⟨ty, kd⟩ := j.kd
    have no : ¬ RuleV H l v → ∀ H', Same H H' → Q (.bl false) H' := fun n H' s => q false H' s ⟨fun e => (nomatch e), fun h => (n h).elim⟩
    rcases kd.split with ne | ⟨rfl, a, xs, rfl, ha⟩
    · refine ⟨_, rfl, v, _, _, _, _, rfl, .ty "tuple", kd.ty, kit_tupB kd, _, rfl, ?_⟩
      rw [beq_eq_false_iff_ne.mpr ne]
      exact if_true_of rfl (no (fun ⟨r, ⟨b, e, t, h, _⟩, _⟩ => kd.no_tup ne e h) H (Same.refl H))
    refine ⟨_, rfl, .ref a, _, _, _, true, rfl, .ty "tuple", tyR (.inl ha), kit_ty (r := true) (by decide +kernel), _, rfl, if_false_of rfl ?_⟩
    refine ⟨_, rfl, a, _, rfl, .inr (SqT.of ha), rfl, _, rfl, ?_⟩
    have it := j.items ha
    by_cases c3 : xs.length = 3
    case neg =>
      refine if_true_of (by rw [decide_eq_false (fun e => c3 (by have := V.int.inj e; omega))]; rfl) (no (fun h => ?_) H (Same.refl H))
      obtain ⟨z, n, ws, t, e, _⟩ := h.items ha
      exact c3 (by rw [e]; rfl)
    obtain ⟨x0, x1, x2, rfl⟩ : ∃ a b c, xs = [a, b, c] := by
      match xs, c3 with
      | [a, b, c], _ => exact ⟨a, b, c, rfl⟩
    refine if_false_of rfl ?_
    refine ⟨_, rfl, a, _, rfl, SqT.of ha, rfl, _, _, rfl, _, _, rfl, _, _, rfl, rfl, ?_⟩
    have j0 := it.2 x0 (by simp)
    have j1 := it.2 x1 (by simp)
    have j2 := it.2 x2 (by simp)
    obtain ⟨t0, k0⟩ := j0.kd
    obtain ⟨t1, k1⟩ := j1.kd
    refine ⟨_, rfl, x0, t0, rfl, k0, fun y e => Nat.le_trans (j0.str_ y e) (by decide), _, rfl, ?_⟩
    cases c0 : nameB x0 with
    | false =>
      refine if_true_of rfl (no (fun h => ?_) H (Same.refl H))
      obtain ⟨z, n, ws, t, e, _, ok⟩ := h.items ha
      injection e with e _
      rw [e] at c0
      have : azB z = true := ok.head
      rw [show nameB (.str z) = azB z from rfl, this] at c0
      cases c0
    | true => ?_
    obtain ⟨h, rfl, ok_h⟩ : ∃ h, x0 = .str h ∧ azB h = true := by
      cases x0 with
      | str z => exact ⟨z, rfl, c0⟩
      | _ => cases c0
    refine if_false_of rfl ?_
    refine ⟨_, rfl, _, rfl, d, _, rfl, DGet.k (k := .inr h) hd, _, rfl, ?_⟩
    cases cn : (valV (dkv l) (.inr h : Key)).isSome with
    | true =>
      refine if_true_of rfl (no (fun hh => ?_) H (Same.refl H))
      obtain ⟨z, n, ws, t, e, _, ok⟩ := hh.items ha
      injection e with e _
      cases e
      exact ok.new (val_mem_iff.mp cn)
    | false => ?_
    have ok_new : h ∉ l.map (·.1) := fun m => by
      rw [val_mem_iff.mpr m] at cn
      cases cn
    refine if_false_of rfl ?_
    refine ⟨_, rfl, x1, t1, rfl, k1, _, rfl, ?_⟩
    cases ci : isIntO x1 with
    | false =>
      refine if_true_of rfl (no (fun hh => ?_) H (Same.refl H))
      obtain ⟨z, n, ws, t, e, _, ok⟩ := hh.items ha
      injection e with _ e
      injection e with e _
      have l9 : n ≤ 9 := ok.price
      rw [e, int_small (by omega)] at ci
      cases ci
    | true => ?_
    obtain ⟨p, rfl⟩ : ∃ p, x1 = .int p := by
      rw [isIntO_eq] at ci
      cases x1 with
      | int p => exact ⟨p, rfl⟩
      | _ => cases ci
    refine if_false_of rfl ?_
    refine ⟨_, rfl, _, _, rfl, rfl, _, rfl, ?_⟩
    by_cases cp : (0 : Int) ≤ p ∧ p ≤ 9
    case neg =>
      have nr : ¬ RuleV H l (.ref a) := fun hh => by
        obtain ⟨z, n, ws, t, e, _, ok⟩ := hh.items ha
        injection e with _ e
        injection e with e _
        have l9 : n ≤ 9 := ok.price
        have := V.int.inj e
        omega
      by_cases c00 : (0 : Int) ≤ p
      · exact if_true_of (decide_eq_true c00) ⟨_, _, rfl, rfl, _, rfl, if_true_of (by rw [decide_eq_false (show ¬ p ≤ 9 by omega)]; rfl) (no nr H (Same.refl H))⟩
      · exact if_false_of (decide_eq_false c00) ⟨_, rfl, if_true_of rfl (no nr H (Same.refl H))⟩
    obtain ⟨cp0, cp9⟩ := cp
    obtain ⟨n, rfl⟩ : ∃ n : Nat, p = (n : Int) := ⟨p.toNat, by omega⟩
    refine if_true_of (decide_eq_true cp0) ⟨_, _, rfl, rfl, _, rfl, if_false_of (by rw [decide_eq_true cp9]; rfl) ?_⟩
    refine ⟨_, rfl, x2, D0, rfl, j2, fun b H1 s1 hb => ⟨_, rfl, ?_⟩⟩
    cases b with
    | false =>
      refine if_true_of rfl (no (fun hh => ?_) H1 s1)
      obtain ⟨z, m, ws, t, e, ht, ok⟩ := hh.items ha
      injection e with _ e
      injection e with _ e
      injection e with e _
      have := hb.mpr ⟨ws, ⟨t, e, ht⟩, ok.names⟩
      cases this
    | true => ?_
    obtain ⟨ws, ⟨t, rfl, ht⟩, ok_n⟩ := hb.mp rfl
    -- what a rule is, once its items are known
    have iff1 : RuleV H l (.ref a) ↔ RlOk l (h, n, ws) := by
      constructor
      · intro hh
        obtain ⟨z, m, us, t', e, ht', ok⟩ := hh.items ha
        injection e with e1 e
        injection e with e2 e
        injection e with e3 _
        cases e1
        cases e3
        have e4 : n = m := by have := V.int.inj e2; omega
        have e5 : ws = us := WordsR.one ⟨t, rfl, ht⟩ ⟨t, rfl, ht'⟩
        rw [e4, e5]
        exact ok
      · intro ok
        exact ⟨(h, n, ws), ⟨a, rfl, t, ha, ht⟩, ok⟩
    refine if_false_of rfl ?_
    have ht1 := s1 _ _ ht
    have hd1 := s1 _ _ hd
    have lw : (ws.map V.str).length = ws.length := List.length_map _
    refine ⟨_, rfl, t, _, rfl, .inr (SqT.of ht1), _, _, rfl, rfl, _, rfl, ?_⟩
    by_cases cl : 1 ≤ ws.length ∧ ws.length ≤ 7
    case neg =>
      have nr : ¬ RuleV H l (.ref a) := fun hh => by
        have ok := iff1.mp hh
        exact cl ⟨ok.some_, ok.few⟩
      by_cases c00 : 1 ≤ ws.length
      · exact if_true_of (decide_eq_true (by rw [lw]; omega)) ⟨_, _, rfl, rfl, _, rfl, if_true_of (by rw [lw, decide_eq_false (by omega)]; rfl) (no nr H1 s1)⟩
      · exact if_false_of (decide_eq_false (by rw [lw]; omega)) ⟨_, rfl, if_true_of rfl (no nr H1 s1)⟩
    obtain ⟨ok_s, ok_f⟩ := cl
    refine if_true_of (decide_eq_true (by rw [lw]; omega)) ⟨_, _, rfl, rfl, _, rfl, if_false_of (by rw [lw, decide_eq_true (by omega)]; rfl) ?_⟩
    refine ⟨_, rfl, _, rfl, by show 1 ≤ sizeLine; decide, fun p1 np1 => ?_⟩
    have ht2 := (Same.new np1 (o := .tup [.str h])) _ _ ht1
    have hd2 := (Same.new np1 (o := .tup [.str h])) _ _ hd1
    have s2 := s1.trans (Same.new np1 (o := .tup [.str h]))
    refine eqTx (xs := ws) (ys := [h]) (SqT.of ht2) (SqT.of upd_same) ok_n (fun z m => by rw [List.mem_singleton.mp m]; exact ok_h) ⟨_, rfl, ?_⟩
    generalize upd H1 p1 (.tup [.str h]) = H2 at ht2 hd2 s2 ⊢
    by_cases co : ws = [h]
    · exact if_true_of (decide_eq_true co) (no (fun hh => (iff1.mp hh).other co) H2 s2)
    refine if_false_of (decide_eq_false co) ?_
    refine ⟨_, rfl, fun m nm => ?_⟩
    have s3 := s2.trans (Same.new nm (o := .dK []))
    have hm3 : (upd H2 m (.dK [])) m = some (.dK []) := upd_same
    generalize upd H2 m (.dK []) = H3 at s3 hm3 ⊢
    have ht3 := s3 _ _ ht
    refine ⟨_, rfl, t, rfl, ⟨_, SqT.of ht3⟩, fun D nD => ?_⟩
    refine dc_tup (K := K) (a := t) (xs := ws.map V.str) (fun i G => G D = some (.dK (dkv (zl (ws.take i)))) ∧ Same H3 G) ⟨upd_same, Same.new nD⟩ (fun i G _ ⟨_, s⟩ => SqT.of (s _ _ ht3)) ?_ ?_
    · rintro i x G hx ⟨eD, s⟩
      obtain ⟨z, hz, rfl⟩ : ∃ z, ws[i]? = some z ∧ x = .str z := by
        rw [List.getElem?_map] at hx
        cases e : ws[i]? with
        | none => rw [e] at hx; cases hx
        | some z => rw [e] at hx; exact ⟨z, rfl, (Option.some.inj hx).symm⟩
      have hi := (List.getElem?_eq_some_iff.mp hz).1
      refine ⟨rfl, _, rfl, _, .inr z, rfl, eD, ?_, ?_, fun b o q => by rw [upd_ne (ne_of_none q nD)]; exact s b o q⟩
      · have e1 := zl_few (ws.take i) []
        have e2 : (dkv (zl (ws.take i))).length = (zl (ws.take i)).length := List.length_map _
        have e3 : (ws.take i).length ≤ ws.length := by rw [List.length_take]; omega
        have e4 : (zl (ws.take i)).length ≤ 0 + (ws.take i).length := e1
        rw [e2, sizeLine_eq]
        omega
      · rw [upd_same, show (V.int 0) = V.int ((0 : Nat) : Int) from rfl, put_dkv, List.take_add_one, hz]
        unfold zl
        rw [List.foldl_append]
        rfl
    · rintro G ⟨eD, s⟩
      rw [List.take_of_length_le (by rw [lw]; exact Nat.le_refl _)] at eD
      have dm : D ≠ m := fun e => by
        rw [e, hm3] at nD
        cases nD
      have gm_ := s _ _ hm3
      refine ⟨D, _, rfl, dm, gm_, eD, ?_⟩
      have hdm : d ≠ m := fun e => by
        rw [← e, hd2] at nm
        cases nm
      have hd4 : (upd G m (.dK (dkv (zl ws)))) d = some (.dK (dkv l)) := by
        rw [upd_ne hdm]
        exact s _ _ (s3 _ _ hd)
      refine ⟨_, rfl, d, _, rfl, hdm, upd_same, hd4, ?_, ?_⟩
      · have e1 := zl_few ws []
        have e2 : (dkv (zl ws)).length = (zl ws).length := List.length_map _
        have e3 : (dkv l).length = l.length := List.length_map _
        have e4 : (zl ws).length ≤ 0 + ws.length := e1
        have e5 := oo.few
        omega
      rw [merge_dkv]
      have s5 : Same H (upd (upd G m (.dK (dkv (zl ws)))) m (.dK (dkv (mergeL (zl ws) l)))) := fun b u e => by
        have nb : b ≠ m := fun c => by
          rw [← c] at nm
          have := s2 _ _ e
          rw [this] at nm
          cases nm
        rw [upd_ne nb, upd_ne nb]
        exact s _ _ (s3 _ _ e)
      have hm5 : (upd (upd G m (.dK (dkv (zl ws)))) m (.dK (dkv (mergeL (zl ws) l)))) m = some (.dK (dkv (mergeL (zl ws) l))) := upd_same
      generalize upd (upd G m (.dK (dkv (zl ws)))) m (.dK (dkv (mergeL (zl ws) l))) = H5 at s5 hm5 ⊢
      refine ⟨t, m, ws.map V.str, mergeL (zl ws) l, rfl, .inl (s5 _ _ ht), fun x mx => ?_, hm5, q _ H5 s5 ?_⟩
      · obtain ⟨z, _, rfl⟩ := List.mem_map.mp mx
        exact ⟨_, .str z⟩
      · have e := wgo_iff (l' := mergeL (zl ws) l) (l := l) ws 1 (fun z mz => arity_merge oo.nd mz)
        rw [show ((1 : Nat) : Int) = 1 from rfl] at e
        rw [e, iff1]
        exact ⟨fun wh => ⟨ok_h, ok_new, by show n ≤ 9; omega, ok_s, ok_f, ok_n, co, wh⟩, fun ok => ok.whole⟩
end
end Pr
namespace Pr
open PySem PySem.Spec PyProof.Rows L2 Gd
/-! ### nonterminals_of any row of rules -/
structure NtOk (l : List (Str × Nat)) (rs : List Rl) : Prop where
  few : rs.length ≤ 12
  rules : ∀ r ∈ rs, RlOk l r
  six : ∃ D : List Str, D.length ≤ 60 ∧ ∀ r ∈ rs, r.1 ∈ D ∧ ∀ z ∈ r.2.2, z ∈ D
theorem NtOk.all {l : List (Str × Nat)} {rs : List Rl} (h : NtOk l rs) (g : Str) : ∃ D : List Str, D.length ≤ 61 ∧ ∀ z, isNt l g rs z → z ∈ D := by
  obtain ⟨D, hl, hd⟩ := h.six
  refine ⟨g :: D, by rw [List.length_cons]; omega, fun z hz => ?_⟩
  rcases hz with rfl | ⟨r, m, k, _⟩
  · exact List.mem_cons_self
  · refine List.mem_cons_of_mem _ ?_
    rcases k with k | k
    · rw [k]; exact (hd r m).1
    · exact (hd r m).2 z k
def spNontsG : Sp := fun vs H Q _ => ∃ (g : Str) (ra d : Addr) (l : List (Str × Nat)) (rs : List Rl), vs = [.str g, .ref ra, .ref d] ∧ RulesAt H ra rs ∧ H d = some (.dK (dkv l)) ∧ NtOk l rs ∧
  ∀ (ys : List Str) (p : Addr) (H' : Hp), sortedS ys = true → ys.Nodup → (∀ z, z ∈ ys ↔ isNt l g rs z) → H p = none → Same H H' → H' p = some (.tup (ys.map V.str)) → Q (.ref p) H'
section
variable {P : Program} {w : World} {K : PySem.W.Frag} {mg : Str → Option Value} {base : Heap}
theorem ok_nontsG {f : Addr} {fd : FuncData} (F : Fun K "nonterminals_of" "nonterminals_of" sNonts f fd) (T : Free mg) : FnOk P w K mg base CX0 1 f fd ["goal", "rules", "arities"] spNontsG := by
  refine F.ok scNonts (fun vs H Q E h => ?_) (fun cdv A outer s H vs Q E hr h => ?_)
  · obtain ⟨g, ra, d, l, rs, rfl, _⟩ := h
    rfl
  · obtain ⟨g, ra, d, l, rs, rfl, hra, hd, ok, q⟩ := h
    have hu := hr.units
    have hun := hr.un
    have hu1 : ∀ {u : Nat}, u + 64 < cLine → u + 1 < cLine := fun h => by omega
    refine ⟨_, (pss_cons (ps_set (i := 3) scNonts.nd rfl (.inl rfl) (pe_disp (pps_cons (pv 0) pe_bl pps_nil) (by rfl) (by rfl) (fun z => by cases z) (by decide))) (pss_cons (ps_for PassesOwn.never rfl (pi_tup (pv 1)) (pg_tup rfl (pgs_cons (pg_name (i := 4) scNonts.nd rfl (.inl rfl)) (pgs_cons (pg_name (i := 5) scNonts.nd rfl (.inl rfl)) (pgs_cons (pg_name (i := 6) scNonts.nd rfl (.inl rfl)) pgs_nil)))) (pss_one (ps_for PassesOwn.never rfl (pi_tup (pe_tup (pa_cons (pv 4) (StX.pa_star (pv 6) pa_nil)))) (pg_name (i := 7) scNonts.nd rfl (.inl rfl)) (pss_one (ps_if (pt_cmp (pc_dnotin (hu1 hu) (pv 7) (pv 2))) (pss_one (ps_asg pe_bl (pg_sub (pv 3) (pv 7) (set_dict (Nat.lt_of_le_of_lt (Nat.add_le_add_left (by decide : 1 ≤ 64) _) hu))))) pss_nil))))) (pss_one (ps_ret (pe_callTy call_tuple_of (by rfl) T.tuple (by decide +kernel) (pa_cons (pe_callB (call_sortedD (by rfl)) (by rfl) T.sorted (by decide +kernel) (pa_cons (pv 3) pa_nil)) pa_nil)))))), ?_⟩
    obtain ⟨D6, hD6, inD⟩ := ok.all g
    obtain ⟨as, hra0, pr⟩ := hra.ex
    refine fun fa nfa => ⟨_, rfl, upd_same, [(.inr g, .bl true)], rfl, Nat.le_of_ble_eq_true rfl, ?_⟩
    rw [upd_upd]
    have sA : ∀ {G : Hp} {u : HO}, Same H G → Same H (upd G fa u) := fun {G u} s b o e => by rw [upd_ne (ne_of_none e nfa)]; exact s b o e
    have s0 : Same H H := Same.refl H
    refine ⟨_, rfl, ra, rfl, ⟨_, SqT.of ((sA s0) _ _ hra0)⟩, ?_⟩
    refine for_tup (K := K) (a := ra) (xs := as.map V.ref) (fun i σ G => ∃ (v4 v5 v6 v7 : Option V) (ys : List Str), σ = [some (.str g), some (.ref ra), some (.ref d), some (.ref fa), v4, v5, v6, v7] ∧ G fa = some (.dK (kd ys)) ∧ ys.Nodup ∧ (∀ z, z ∈ ys ↔ isNt l g (rs.take i) z) ∧ Same H G)
      ⟨none, none, none, none, [g], rfl, upd_same, by simp, fun z => ?_, sA s0⟩ (fun i σ G _ ⟨_, _, _, _, _, _, _, _, _, s⟩ => SqT.of (s _ _ hra0)) ?_ ?_
    · rw [List.mem_singleton]
      constructor
      · exact .inl
      · rintro (h | ⟨r, m, _⟩)
        · exact h
        · simp at m
    · rintro i x σ G hx ⟨v4, v5, v6, v7, ys, rfl, eF, nd, mem, s⟩
      obtain ⟨b, hb, rfl⟩ := ref_at hx
      obtain ⟨r, hr', rat⟩ := pget9 pr hb
      have rok := ok.rules r (List.mem_of_getElem? hr')
      obtain ⟨t, hbt, htt⟩ := rat.same s
      refine ⟨b, _, rfl, SqT.of hbt, rfl, _, _, rfl, _, _, rfl, _, _, rfl, rfl, ?_⟩
      have lt : (r.2.2.map V.str).length = r.2.2.length := List.length_map _
      have few := rok.few
      refine ⟨_, rfl, _, rfl, t, _, rfl, .inl (SqT.of htt), by show (r.2.2.map V.str ++ []).length + 1 ≤ sizeLine; rw [List.append_nil, lt, sizeLine_eq]; omega, fun tw ntw => ?_⟩
      rw [List.append_nil]
      have etw : V.str r.1 :: r.2.2.map V.str = (r.1 :: r.2.2).map V.str := rfl
      rw [etw]
      have s1 := Same.new ntw (o := .tup ((r.1 :: r.2.2).map V.str))
      have htw : (upd G tw (.tup ((r.1 :: r.2.2).map V.str))) tw = some (.tup ((r.1 :: r.2.2).map V.str)) := upd_same
      have eF1 := s1 _ _ eF
      have s2 := s.trans s1
      have twf : tw ≠ fa := fun e => by
        rw [e, eF] at ntw
        cases ntw
      generalize upd G tw (.tup ((r.1 :: r.2.2).map V.str)) = G1 at s1 htw eF1 s2 ⊢
      refine ⟨tw, rfl, ⟨_, SqT.of htw⟩, ?_⟩
      refine for_tup (K := K) (a := tw) (xs := (r.1 :: r.2.2).map V.str) (fun j σ G => ∃ (v7 : Option V) (ys : List Str), σ = [some (.str g), some (.ref ra), some (.ref d), some (.ref fa), some (.str r.1), some (.int (r.2.1 : Int)), some (.ref t), v7] ∧ G fa = some (.dK (kd ys)) ∧ ys.Nodup ∧
          (∀ z, z ∈ ys ↔ isNt l g (rs.take i) z ∨ (z ∈ (r.1 :: r.2.2).take j ∧ z ∉ l.map (·.1))) ∧ Same H G ∧ G tw = some (.tup ((r.1 :: r.2.2).map V.str)))
        ⟨v7, ys, rfl, eF1, nd, fun z => ?_, s2, htw⟩ (fun i σ G _ ⟨_, _, _, _, _, _, _, h⟩ => SqT.of h) ?_ ?_
      · rw [mem z, List.take_zero]
        simp
      · rintro j y σ G2 hy ⟨v7, ys, rfl, eF, nd, mem, s, htw⟩
        obtain ⟨z, hz, rfl⟩ := str_at hy
        have step : ∀ x, x ∈ (r.1 :: r.2.2).take (j + 1) ↔ x ∈ (r.1 :: r.2.2).take j ∨ x = z := fun x => by
          rw [List.take_add_one, hz, List.mem_append]
          simp
        refine ⟨_, rfl, _, rfl, d, _, rfl, DGet.k (k := .inr z) (s _ _ hd), _, rfl, ?_⟩
        by_cases c : z ∈ l.map (·.1)
        · have e := val_mem_iff.mpr c
          refine if_false_of (by rw [e]; rfl) ⟨_, _, rfl, eF, nd, fun x => ?_, s, htw⟩
          rw [mem x, step x]
          constructor
          · rintro (h | ⟨h, n⟩)
            · exact .inl h
            · exact .inr ⟨.inl h, n⟩
          · rintro (h | ⟨h | h, n⟩)
            · exact .inl h
            · exact .inr ⟨h, n⟩
            · exact absurd (h ▸ c) n
        · have e : (valV (dkv l) (.inr z : Key)).isSome = false := by
            cases q : (valV (dkv l) (.inr z : Key)).isSome with
            | false => rfl
            | true => exact absurd (val_mem_iff.mp q) c
          refine if_true_of (by rw [e]; rfl) ?_
          have lys : ys.length ≤ 61 := Nat.le_trans (nodup_few nd fun x m => inD x (by
            rcases (mem x).mp m with h | ⟨h, n⟩
            · exact isNt_of_at h
            · refine .inr ⟨r, List.mem_of_getElem? hr', ?_, n⟩
              have := List.mem_of_mem_take h
              rcases List.mem_cons.mp this with k | k
              · exact .inl k
              · exact .inr k)) hD6
          refine ⟨_, rfl, _, rfl, fa, _, rfl, .inl ⟨kd ys, .inr z, eF, rfl, by rw [kd_len, sizeLine_eq]; omega, rfl⟩, ?_⟩
          rw [kd_put]
          by_cases m : z ∈ ys
          · rw [if_pos m]
            refine ⟨_, ys, rfl, upd_same, nd, fun x => ?_, sA s, by rw [upd_ne twf]; exact htw⟩
            rw [mem x, step x]
            constructor
            · rintro (h | ⟨h, n⟩)
              · exact .inl h
              · exact .inr ⟨.inl h, n⟩
            · rintro (h | ⟨h | h, n⟩)
              · exact .inl h
              · exact .inr ⟨h, n⟩
              · rw [h]
                exact (mem z).mp m
          · rw [if_neg m]
            refine ⟨_, ys ++ [z], rfl, upd_same, ?_, fun x => ?_, sA s, by rw [upd_ne twf]; exact htw⟩
            · rw [List.nodup_append]
              refine ⟨nd, by simp, fun x mx y my e => m ?_⟩
              rw [List.mem_singleton] at my
              rw [← my, ← e]
              exact mx
            · rw [List.mem_append, mem x, step x, List.mem_singleton]
              constructor
              · rintro ((h | ⟨h, n⟩) | h)
                · exact .inl h
                · exact .inr ⟨.inl h, n⟩
                · exact .inr ⟨.inr h, h ▸ c⟩
              · rintro (h | ⟨h | h, n⟩)
                · exact .inl (.inl h)
                · exact .inl (.inr ⟨h, n⟩)
                · exact .inr h
      · rintro σ G2 ⟨v7, ys, rfl, eF, nd, mem, s, htw⟩
        refine ⟨_, _, _, _, ys, rfl, eF, nd, fun z => ?_, s⟩
        have et : (r.1 :: r.2.2).take ((r.1 :: r.2.2).map V.str).length = r.1 :: r.2.2 := List.take_of_length_le (by rw [List.length_map]; exact Nat.le_refl _)
        rw [mem z, et]
        unfold isNt
        rw [List.take_add_one, hr']
        constructor
        · rintro ((h | ⟨r2, m2, k⟩) | ⟨h, n⟩)
          · exact .inl h
          · exact .inr ⟨r2, List.mem_append_left _ m2, k⟩
          · refine .inr ⟨r, List.mem_append_right _ (by simp), ?_, n⟩
            rcases List.mem_cons.mp h with k | k
            · exact .inl k
            · exact .inr k
        · rintro (h | ⟨r2, m2, k, n⟩)
          · exact .inl (.inl h)
          · rcases List.mem_append.mp m2 with m2 | m2
            · exact .inl (.inr ⟨r2, m2, k, n⟩)
            · have e2 : r2 = r := by simpa using m2
              rw [e2] at k
              refine .inr ⟨?_, n⟩
              rcases k with k | k
              · rw [k]; exact List.mem_cons_self
              · exact List.mem_cons_of_mem _ k
    · rintro σ G ⟨v4, v5, v6, v7, ys, rfl, eF, nd, mem, s⟩
      have la : as.length = rs.length := Paired.length pr
      rw [List.take_of_length_le (by rw [List.length_map, la]; exact Nat.le_refl _)] at mem
      have lys : ys.length ≤ 61 := Nat.le_trans (nodup_few nd fun x m => inD x ((mem x).mp m)) hD6
      refine ⟨_, rfl, fa, kd ys, ys, rfl, .inl eF, by unfold kd; rw [List.map_map]; rfl, by omega, fun zs lp pm srt nlp => ?_⟩
      refine ⟨lp, _, rfl, .inl ⟨SqL.of upd_same, fun tp ntp => ?_⟩⟩
      have nH : H lp = none := Same.free s nlp
      have s3 := (s.trans (Same.new nlp (o := .lst (zs.map V.str)))).trans (Same.new ntp (o := .tup (zs.map V.str)))
      refine q zs tp _ srt (pm.nodup_iff.mpr nd) (fun z => by rw [pm.mem_iff, mem z]) ?_ s3 upd_same
      exact Same.free (s.trans (Same.new nlp (o := .lst (zs.map V.str)))) ntp
end
end Pr
namespace Pr
open PySem PySem.Spec PyProof.Rows L2 Gd Ns
/-! ### is_book of any values -/
theorem rules_of_all {H : Hp} {l : List (Str × Nat)} : ∀ {xs : List V}, (∀ x ∈ xs, RuleV H l x) → ∃ (as : List Addr) (rs : List Rl), xs = as.map V.ref ∧ Paired (fun b r => RuleAt H b r) as rs ∧ ∀ r ∈ rs, RlOk l r
  | [], _ => ⟨[], [], rfl, .nil, fun r m => nomatch m⟩
  | x :: xs, h => by
    obtain ⟨as, rs, e, p, k⟩ := rules_of_all (xs := xs) fun y m => h y (List.mem_cons_of_mem _ m)
    obtain ⟨r, ⟨b, rfl, hb⟩, ok⟩ := h x List.mem_cons_self
    refine ⟨b :: as, r :: rs, by rw [e]; rfl, .cons hb p, fun q m => ?_⟩
    rcases List.mem_cons.mp m with e | m
    · rw [e]; exact ok
    · exact k q m
theorem rules_one {H : Hp} : ∀ {as : List Addr} {rs qs : List Rl}, Paired (fun b r => RuleAt H b r) as rs → Paired (fun b r => RuleAt H b r) as qs → rs = qs
  | _, _, _, .nil, .nil => rfl
  | _, _, _, .cons a r, .cons b q => by rw [a.one b, rules_one r q]
theorem refs_inj {as bs : List Addr} (h : as.map V.ref = bs.map V.ref) : as = bs := (List.map_inj_right (fun a b h => V.ref.inj h)).mp h
theorem RulesAt.one {H : Hp} {a : Addr} {rs qs : List Rl} (h : RulesAt H a rs) (k : RulesAt H a qs) : rs = qs := by
  obtain ⟨as, x, p⟩ := h.ex
  obtain ⟨bs, y, q⟩ := k.ex
  cases refs_inj (tup_one x y)
  exact rules_one p q
theorem Jv.rule_words {D : List Str} {H : Hp} {l : List (Str × Nat)} {b : Addr} {r : Rl} (j : Jv D H 2 (.ref b)) (h : RuleAt H b r) (ok : RlOk l r) : r.1 ∈ D ∧ ∀ z ∈ r.2.2, z ∈ D := by
  obtain ⟨t, hb, ht⟩ := h
  have it := (j.items hb).2
  have j0 := it (.str r.1) (by simp)
  have j2 := it (.ref t) (by simp)
  refine ⟨(j0.tx _ rfl).2 ok.head, fun z m => ?_⟩
  exact (((j2.items ht).2 (.str z) (List.mem_map.mpr ⟨z, m, rfl⟩)).tx _ rfl).2 (ok.names z m)
def BookV (H : Hp) (l : List (Str × Nat)) (gv rv : V) : Prop := ∃ g rs, gv = .str g ∧ RulesR H rv rs ∧ BkOk l g rs
/-- what a book is, once its items are known -/
theorem BookV.iff {H : Hp} {l : List (Str × Nat)} {g : Str} {a : Addr} {rs : List Rl} (h : RulesAt H a rs) : BookV H l (.str g) (.ref a) ↔ BkOk l g rs := by
  constructor
  · rintro ⟨g', rs', e, ⟨b, e2, h2⟩, ok⟩
    cases e
    cases e2
    rw [h.one h2]
    exact ok
  · exact fun ok => ⟨g, rs, rfl, ⟨a, rfl, h⟩, ok⟩
theorem Jv.rules_few {D : List Str} (hD : D.length ≤ 60) {H : Hp} {l : List (Str × Nat)} {a : Addr} {as : List Addr} {rs : List Rl} (j : Jv D H 3 (.ref a)) (ha : H a = some (.tup (as.map V.ref))) (p : Paired (fun b r => RuleAt H b r) as rs) (ok : ∀ r ∈ rs, RlOk l r) :
    ∃ D : List Str, D.length ≤ 60 ∧ ∀ r ∈ rs, r.1 ∈ D ∧ ∀ z ∈ r.2.2, z ∈ D := by
  refine ⟨D, hD, fun r m => ?_⟩
  obtain ⟨i, hi⟩ := List.mem_iff_getElem?.mp m
  have la : as.length = rs.length := Paired.length p
  have lt := (List.getElem?_eq_some_iff.mp hi).1
  have hb : as[i]? = some as[i] := List.getElem?_eq_getElem (by omega)
  obtain ⟨r', hr', ra⟩ := pget9 p hb
  rw [hi] at hr'
  cases hr'
  exact ((j.items ha).2 (.ref as[i]) (List.mem_map.mpr ⟨_, List.getElem_mem _, rfl⟩)).rule_words ra (ok r m)
theorem nodup_fewA {α : Type} [DecidableEq α] : ∀ {l D : List α}, l.Nodup → (∀ x ∈ l, x ∈ D) → l.length ≤ D.length
  | [], _, _, _ => Nat.zero_le _
  | x :: l, D, hn, hs => by
    obtain ⟨h1, h2⟩ := List.nodup_cons.mp hn
    have hx : x ∈ D := hs x List.mem_cons_self
    have ih := nodup_fewA (l := l) (D := D.erase x) h2 fun y hy => by
      have hne : y ≠ x := fun e => h1 (e ▸ hy)
      exact (List.mem_erase_of_ne hne).2 (hs y (List.mem_cons_of_mem _ hy))
    have e := List.length_erase_of_mem hx
    have hp : 0 < D.length := List.length_pos_of_mem hx
    rw [List.length_cons]
    omega
theorem nodup_back {α : Type} [DecidableEq α] : ∀ {ks ls : List α}, ls.Nodup → (∀ k ∈ ls, k ∈ ks) → ks.length ≤ ls.length → ks.Nodup
  | [], _, _, _, _ => List.nodup_nil
  | k :: ks, ls, nd, mem, le => by
    rw [List.length_cons] at le
    have n : k ∉ ks := fun m => by
      have := nodup_fewA (l := ls) (D := ks) nd fun x hx => (List.mem_cons.mp (mem x hx)).elim (fun e => e ▸ m) id
      omega
    refine List.nodup_cons.mpr ⟨n, nodup_back (ls := ls.erase k) (nd.erase k) (fun x hx => ?_) ?_⟩
    · have h := (List.Nodup.mem_erase_iff nd).mp hx
      exact (List.mem_cons.mp (mem x h.2)).elim (fun e => absurd e h.1) id
    · have := @List.length_erase_of_mem _ _ _ k ls
      by_cases c : k ∈ ls
      · have := this c
        omega
      · rw [List.erase_of_not_mem c]
        omega
theorem nodup_len {α : Type} [DecidableEq α] {ks ls : List α} (nd : ls.Nodup) (mem : ∀ k, k ∈ ls ↔ k ∈ ks) : ls.length < ks.length ↔ ¬ ks.Nodup := by
  constructor
  · intro lt ndk
    have := nodup_fewA ndk fun x hx => (mem x).mpr hx
    omega
  · intro n
    rcases Nat.lt_or_ge ls.length ks.length with c | c
    · exact c
    · exact absurd (nodup_back nd (fun k hk => (mem k).mp hk) c) n

def spIsBookG : Sp := fun vs H Q _ => ∃ (gv rv : V) (D : List Str) (d : Addr) (l : List (Str × Nat)), vs = [gv, rv, .ref d] ∧ D.length ≤ 60 ∧ Jv D H 1 gv ∧ Jv D H 3 rv ∧ H d = some (.dK (dkv l)) ∧ OpsOk l ∧ ∀ b H', Same H H' → (b = true ↔ BookV H l gv rv) → Q (.bl b) H'
theorem keyR_nd {rs : List Rl} : (rs.map keyR).Nodup ↔ (rs.map fun r => (r.1, r.2.2)).Nodup := by
  induction rs with
  | nil => exact ⟨fun _ => List.nodup_nil, fun _ => List.nodup_nil⟩
  | cons r rs ih =>
    rw [List.map_cons, List.map_cons, List.nodup_cons, List.nodup_cons, ih]
    refine and_congr (not_congr ?_) Iff.rfl
    rw [List.mem_map, List.mem_map]
    constructor
    · rintro ⟨q, m, e⟩
      exact ⟨q, m, keyR_inj e⟩
    · rintro ⟨q, m, e⟩
      refine ⟨q, m, ?_⟩
      obtain ⟨e1, e2⟩ := Prod.mk.inj e
      unfold keyR
      rw [e1, e2]
section
variable {P : Program} {w : World} {K : PySem.W.Frag} {mg : Str → Option Value} {base : Heap} {fN fI fA fW fR fT : Addr} {dN dI dA dW dR dT : FuncData} {tk tk9 tk7 tk12 tk6 : Tok}
theorem ok_isBookG {f : Addr} {fd : FuncData} (F : Fun K "is_book" "is_book" sIsBook f fd) (T : Free mg) (L : Low K mg fN fI fA fW dN dI dA dW tk tk9 tk7) (M : Mid K mg fR fT dR dT tk12 tk6) : FnOk P w K mg base CX0 4 f fd ["goal", "rules", "arities"] spIsBookG := by
  have GN : FnOk P w K mg base CX0 1 fN dN ["value"] spName := ok_name L.FN T L.l8
  have GR : FnOk P w K mg base CX0 3 fR dR ["value", "arities"] spRuleG := ok_ruleG M.FR T L
  have GT : FnOk P w K mg base CX0 1 fT dT ["goal", "rules", "arities"] spNontsG := ok_nontsG M.FT T
  refine F.ok scIsBook (fun vs H Q E h => ?_) (fun cdv A outer s H vs Q E hr h => ?_)
  · obtain ⟨gv, rv, D, d, l, rfl, _⟩ := h
    rfl
  · obtain ⟨gv, rv, D0, d, l, rfl, hD0, jg, jr, hd, oo, q⟩ := h
    have hu := hr.units
    have hu1 : ∀ {u : Nat}, u + 64 < cLine → u + 1 < cLine := fun h => by omega
    have r1 : Room 1 _ := hr.mono (by decide)
    have r3 : Room 3 _ := hr.mono (by decide)
    refine ⟨_, (pss_cons (ps_if (PW.pt (pw_or (pt_not (pt_val (pe_call GN r1 (by rfl) L.gN L.FN.kp L.bN .nil pass0 (pa_cons (pv 0) pa_nil)))) (pw_or (pt_cmp (pc_din (hu1 hu) (pv 0) (pv 2))) (pw_or (pt_not (pt_val (pe_callB call_isi (by rfl) T.isi (by decide +kernel) (pa_cons (pv 1) (pa_cons (pe_bltn (v := .ty "tuple") (by rfl) T.tuple (by decide +kernel) rfl) pa_nil))))) (pw_or1 (pt_cmpR op_gt (pe_callB call_len_seq (by rfl) T.len PySem.boot_len (pa_cons (pv 1) pa_nil)) (pe_glob (v := .int 12) (by rfl) M.r12 ⟨_, rfl⟩) (nomark _))))))) (pss_one (ps_ret pe_bl)) pss_nil) (pss_cons (ps_if (pt_not (pt_val (pe_callB (cr_all rfl) (by rfl) T.all (by decide +kernel) (pa_cons (pe_lc (own := [("rule", 3)]) (g := gName 3) (by rfl) scIsBook.nd (pi_tup (pv 1)) (blkOk_by (own := [("rule", 3)]) (N := ["goal", "rules", "arities", "rule", "nonterminal", "_", "pattern"]) (sc := defScope sIsBook) (by decide +kernel)) (fun _ _ _ _ _ => pg_name (i := 3) scIsBook.nd rfl (.inl rfl)) (fun _ _ _ _ _ => pts_nil) (fun _ _ _ _ _ => pe_call GR r3 (by rfl) M.gR M.FR.kp M.bR .nil pass0 (pa_cons (pv 3) (pa_cons (pv 2) pa_nil)))) pa_nil)))) (pss_one (ps_ret pe_bl)) pss_nil) (pss_cons (ps_if (pt_cmpR op_lt (pe_callB Ns.cr_lenSet (by rfl) T.len PySem.boot_len (pa_cons (Ns.pe_set (own := [("nonterminal", 4), ("_", 5), ("pattern", 6)]) (g := gTup K 3 (gCons (gName 4) (gCons (gName 5) (gCons (gName 6) gNil)))) hu (by rfl) scIsBook.nd (pi_tup (pv 1)) (blkOk_by (own := [("nonterminal", 4), ("_", 5), ("pattern", 6)]) (N := ["goal", "rules", "arities", "rule", "nonterminal", "_", "pattern"]) (sc := defScope sIsBook) (by decide +kernel)) (fun _ _ _ _ _ => pg_tup rfl (pgs_cons (pg_name (i := 4) scIsBook.nd rfl (.inl rfl)) (pgs_cons (pg_name (i := 5) scIsBook.nd rfl (.inl rfl)) (pgs_cons (pg_name (i := 6) scIsBook.nd rfl (.inl rfl)) pgs_nil)))) (fun _ _ _ _ _ => pts_nil) (fun _ _ _ _ _ => pe_tup (pa_cons (pv 4) (pa_cons (pv 6) pa_nil)))) pa_nil)) (pe_callB call_len_seq (by rfl) T.len PySem.boot_len (pa_cons (pv 1) pa_nil)) (nomark _)) (pss_one (ps_ret pe_bl)) pss_nil) (pss_one (ps_ret (pe_cmpR op_le (pe_callB call_len_seq (by rfl) T.len PySem.boot_len (pa_cons (pe_call GT r1 (by rfl) M.gT M.FT.kp M.bT .nil pass0 (pa_cons (pv 0) (pa_cons (pv 1) (pa_cons (pv 2) pa_nil)))) pa_nil)) (pe_glob (v := .int 6) (by rfl) M.n6 ⟨_, rfl⟩) (nomark _))))))), ?_⟩
    have no : ¬ BookV H l gv rv → ∀ H', Same H H' → Q (.bl false) H' := fun n H' s => q false H' s ⟨fun e => (nomatch e), fun h => (n h).elim⟩
    obtain ⟨tg, kg⟩ := jg.kd
    refine ⟨_, rfl, gv, tg, rfl, kg, fun y e => Nat.le_trans (jg.str_ y e) (by decide), _, rfl, ?_⟩
    cases c0 : nameB gv with
    | false =>
      refine if_true_of rfl (no (fun ⟨g, rs, e, _, ok⟩ => ?_) H (Same.refl H))
      rw [e, show nameB (.str g) = azB g from rfl, ok.goal] at c0
      cases c0
    | true => ?_
    obtain ⟨g, rfl, gok⟩ : ∃ h, gv = .str h ∧ azB h = true := by
      cases gv with
      | str z => exact ⟨z, rfl, c0⟩
      | _ => cases c0
    refine if_false_of rfl ?_
    refine ⟨_, rfl, _, rfl, d, _, rfl, DGet.k (k := .inr g) hd, _, rfl, ?_⟩
    cases cn : (valV (dkv l) (.inr g : Key)).isSome with
    | true =>
      refine if_true_of rfl (no (fun ⟨g', rs, e, _, ok⟩ => ?_) H (Same.refl H))
      cases e
      exact ok.gnew (val_mem_iff.mp cn)
    | false => ?_
    have gnew : g ∉ l.map (·.1) := fun m => by
      rw [val_mem_iff.mpr m] at cn
      cases cn
    refine if_false_of rfl ?_
    obtain ⟨tr, kr⟩ := jr.kd
    rcases kr.split with ne | ⟨rfl, ra, xs, rfl, hra0⟩
    · refine ⟨_, rfl, rv, _, _, _, _, rfl, .ty "tuple", kr.ty, kit_tupB kr, _, rfl, ?_⟩
      rw [beq_eq_false_iff_ne.mpr ne]
      refine if_true_of rfl (no (fun ⟨g', rs, _, ⟨a, e, hh⟩, _⟩ => ?_) H (Same.refl H))
      obtain ⟨as, h1, _⟩ := hh.ex
      exact kr.no_tup ne e h1
    refine ⟨_, rfl, .ref ra, _, _, _, true, rfl, .ty "tuple", tyR (.inl hra0), kit_ty (r := true) (by decide +kernel), _, rfl, if_false_of rfl ?_⟩
    refine ⟨_, rfl, ra, _, rfl, .inr (SqT.of hra0), _, _, rfl, rfl, _, rfl, ?_⟩
    -- what the items of a book are
    have inv : BookV H l (.str g) (.ref ra) → xs.length ≤ 12 ∧ ∀ x ∈ xs, RuleV H l x := fun ⟨g', rs, _, ⟨a, e, hh⟩, ok⟩ => by
      cases e
      obtain ⟨as, h1, p⟩ := hh.ex
      have e1 := tup_one hra0 h1
      have la : as.length = rs.length := Paired.length p
      refine ⟨by rw [e1, List.length_map, la]; exact ok.few, fun x m => ?_⟩
      rw [e1] at m
      obtain ⟨b, mb, rfl⟩ := List.mem_map.mp m
      obtain ⟨i, hi⟩ := List.mem_iff_getElem?.mp mb
      obtain ⟨r, hr', k⟩ := pget9 p hi
      exact ⟨r, ⟨b, rfl, k⟩, ok.rules r (List.mem_of_getElem? hr')⟩
    by_cases few : xs.length ≤ 12
    case neg => exact if_true_of (decide_eq_true (by omega)) (no (fun h => few (inv h).1) H (Same.refl H))
    refine if_false_of (decide_eq_false (by omega)) ?_
    -- all rules
    refine ⟨_, rfl, ra, rfl, ⟨_, SqT.of hra0⟩, fun D nD => ?_⟩
    refine lc_tup (K := K) (a := ra) (xs := xs) (fun i G => ∃ bs : List Bool, G D = some (.lst (bs.map V.bl)) ∧ bs.length = i ∧ (bs.all id = true ↔ ∀ x ∈ xs.take i, RuleV H l x) ∧ Same H G) ⟨[], upd_same, rfl, ⟨fun _ x m => (nomatch m), fun _ => rfl⟩, Same.new nD⟩ (fun i G _ ⟨_, _, _, _, s⟩ => SqT.of (s _ _ hra0)) ?_ ?_
    · rintro i x G hx ⟨bs, eD, lb, ib, s⟩
      have jx := (jr.items hra0).2 x (List.mem_of_getElem? hx)
      have lt := (List.getElem?_eq_some_iff.mp hx).1
      refine ⟨rfl, _, rfl, _, rfl, x, D0, d, l, rfl, jx.same s, s _ _ hd, oo, fun b G' s' hb => ⟨_, s' _ _ eD, by rw [List.length_map, sizeLine_eq]; omega, bs ++ [b], ?_, by rw [List.length_append]; simp [lb], ?_, fun b o q => by rw [upd_ne (ne_of_none q nD)]; exact s' _ _ (s b o q)⟩⟩
      · rw [upd_same, List.map_append]
        rfl
      · have hb2 : b = true ↔ RuleV H l x := by
          rw [hb]
          constructor
          · rintro ⟨r, h1, h2⟩
            exact ⟨r, RuleAt.back jx s h1, h2⟩
          · rintro ⟨r, h1, h2⟩
            exact ⟨r, h1.same s, h2⟩
        rw [List.all_append, Bool.and_eq_true, ib, List.take_add_one, hx]
        constructor
        · rintro ⟨h1, h2⟩ y m
          rcases List.mem_append.mp m with m | m
          · exact h1 y m
          · have e : y = x := by simpa using m
            rw [e]
            exact hb2.mp (by simpa using h2)
        · intro h
          refine ⟨fun y m => h y (List.mem_append_left _ m), ?_⟩
          have := hb2.mpr (h x (List.mem_append_right _ (by simp)))
          simpa using this
    rintro G ⟨bs, eD, lb, ib, s1⟩
    rw [List.take_length] at ib
    refine ⟨D, bs, rfl, SqL.of eD, ?_⟩
    cases ca : bs.all id with
    | false =>
      refine ⟨_, rfl, if_true_of rfl (no (fun h => ?_) G s1)⟩
      rw [ib.mpr (inv h).2] at ca
      cases ca
    | true => ?_
    refine ⟨_, rfl, if_false_of rfl ?_⟩
    obtain ⟨as, rs, rfl, pr, rok⟩ := rules_of_all (ib.mp ca)
    have la : as.length = rs.length := Paired.length pr
    have lm : (as.map V.ref).length = rs.length := by rw [List.length_map, la]
    rw [lm] at few
    have hra : RulesAt H ra rs := ⟨as, hra0, pr⟩
    have iff1 : BookV H l (.str g) (.ref ra) ↔ BkOk l g rs := BookV.iff hra
    have nt : NtOk l rs := ⟨few, rok, Jv.rules_few hD0 jr hra0 pr rok⟩
    -- heads with their patterns
    have hra1 := s1 _ _ hra0
    refine ⟨_, rfl, ra, rfl, ⟨_, SqT.of hra1⟩, fun D2 nD2 => ?_⟩
    refine set_tup (K := K) (w := w) (a := ra) (xs := as.map V.ref) (fun i G2 => ∃ L : List El, G2 D2 = some (SetO w D2 L) ∧ (L.map (·.2)).Nodup ∧ (∀ k, k ∈ L.map (·.2) ↔ k ∈ (rs.take i).map keyR) ∧ L.length ≤ i ∧ (∀ p ∈ L, ElK K G2 p) ∧ Kp D2 G G2)
      ⟨[], upd_same, List.nodup_nil, fun k => by rw [List.take_zero]; exact Iff.rfl, Nat.le_refl _, fun p m => (nomatch m), Kp.upd⟩ (fun i G2 _ ⟨_, _, _, _, _, _, k⟩ => SqT.of (k _ _ (ne_of_none hra1 nD2) hra1)) ?_ ?_
    · rintro i x G2 hx ⟨L, eS, nd, mem, ll, els, k⟩
      obtain ⟨b, hb, rfl⟩ := ref_at hx
      obtain ⟨r, hr', rat⟩ := pget9 pr hb
      have hi := (List.getElem?_eq_some_iff.mp hr').1
      obtain ⟨t, hbt, htt⟩ := rat.same s1
      have hbt2 := k _ _ (ne_of_none hbt nD2) hbt
      have htt2 := k _ _ (ne_of_none htt nD2) htt
      refine ⟨b, _, rfl, SqT.of hbt2, rfl, _, _, rfl, _, _, rfl, _, _, rfl, rfl, rfl, ?_⟩
      refine ⟨_, rfl, _, rfl, by show 2 ≤ sizeLine; decide, fun e ne => ?_⟩
      have se := Same.new ne (o := .tup [.str r.1, .ref t])
      have eS2 := se _ _ eS
      have kb : ElK K (upd G2 e (.tup [.str r.1, .ref t])) (e, keyR r) := by
        refine ⟨.tup (SqT.of upd_same) (.cons (.text _) (.cons (.tup (SqT.of (se _ _ htt2)) (kvs_words _)) .nil)), ?_⟩
        show NestedKey.depthAll [.text r.1, .tup (r.2.2.map .text)] + 1 ≤ 8
        have e1 := depth_words r.2.2
        have e2 : NestedKey.depthAll [.text r.1, .tup (r.2.2.map .text)] = max 0 (max (NestedKey.depthAll (r.2.2.map .text) + 1) 0) := rfl
        rw [e2]
        omega
      have els2 : ∀ p ∈ L, ElK K (upd G2 e (.tup [.str r.1, .ref t])) p := fun p m => elK_same se (els p m)
      have step : ∀ z, z ∈ (rs.take (i + 1)).map keyR ↔ z ∈ (rs.take i).map keyR ∨ z = keyR r := fun z => by
        rw [List.take_add_one, hr', List.map_append, List.mem_append]
        simp
      have kpp : ∀ o, Kp D2 G (upd (upd G2 e (.tup [.str r.1, .ref t])) D2 o) := fun o c u nc hc => by
        rw [upd_ne nc]
        exact se _ _ (k c u nc hc)
      refine ⟨e, keyR r, L, rfl, eS2, kb, els2, by omega, fun L' c1 c2 => ?_⟩
      by_cases mk : keyR r ∈ L.map (·.2)
      · rw [c1 mk]
        refine ⟨L, upd_same, nd, fun z => ?_, by omega, fun p m => elK_set eS2 (els2 p m), kpp _⟩
        rw [mem z, step z]
        constructor
        · exact .inl
        · rintro (h | h)
          · exact h
          · rw [h]; exact (mem _).mp mk
      · have pl := c2 mk
        refine ⟨L', upd_same, ?_, fun z => ?_, by have := pl.length_eq; rw [List.length_cons] at this; omega, fun p m => elK_set eS2 ?_, kpp _⟩
        · exact ((pl.map (·.2)).nodup_iff).mpr (List.nodup_cons.mpr ⟨mk, nd⟩)
        · rw [(pl.map (·.2)).mem_iff, List.map_cons, List.mem_cons, mem z, step z]
          exact or_comm
        · rcases List.mem_cons.mp (pl.mem_iff.mp m) with z | z
          · rw [z]; exact kb
          · exact els2 p z
    rintro G2 ⟨L, eS, nd, mem, ll, els, k⟩
    rw [lm, List.take_length] at mem
    have hra2 := k _ _ (ne_of_none hra1 nD2) hra1
    have s2 : Same H G2 := fun b o e => k _ _ (ne_of_none (s1 b o e) nD2) (s1 b o e)
    have key := nodup_len nd mem
    rw [List.length_map, List.length_map, keyR_nd] at key
    refine ⟨D2, L, rfl, eS, _, rfl, ra, _, rfl, .inr (SqT.of hra2), _, _, rfl, rfl, _, rfl, ?_⟩
    by_cases dbl : L.length < rs.length
    · exact if_true_of (decide_eq_true (by rw [lm]; omega)) (no (fun h => key.mp dbl (iff1.mp h).nd) G2 s2)
    refine if_false_of (decide_eq_false (by rw [lm]; omega)) ?_
    have ndk : (rs.map fun r => (r.1, r.2.2)).Nodup := Decidable.not_not.mp fun n => dbl (key.mpr n)
    refine ⟨_, rfl, _, rfl, _, rfl, g, ra, d, l, rs, rfl, hra.same s2, s2 _ _ hd, nt, fun ys p H3 srt nd mem np s3 hp => ?_⟩
    refine ⟨p, _, rfl, .inr (SqT.of hp), _, _, rfl, rfl, ?_⟩
    refine q _ H3 (s2.trans s3) ?_
    rw [decide_eq_true_eq, List.length_map, iff1]
    constructor
    · intro h
      exact ⟨oo, gok, gnew, few, rok, ndk, ys, by omega, fun z hz => (mem z).mpr hz⟩
    · intro ok
      obtain ⟨D6, hD6, inD⟩ := ok.six
      have lys : ys.length ≤ 6 := Nat.le_trans (nodup_few nd fun x m => inD x ((mem x).mp m)) hD6
      omega
end
end Pr
namespace Pr
open PySem PySem.Spec PyProof.Rows L2 Gd
/-! ### ends_of -/
/-- where the tree at p ends -/
def eN (f : Str → Nat) (zs : List Str) (p : Nat) : Nat := p + fin f 1 (zs.drop p)
/-- the list of the ends, the last i places told -/
def endsAt (f : Str → Nat) (zs : List Str) (i : Nat) : List V := (List.range zs.length).map fun q => if zs.length - i ≤ q then V.int (eN f zs q : Int) else V.int 0
theorem ends_step {f : Str → Nat} {zs : List Str} {i p : Nat} (hi : i < zs.length) (hp : zs.length - 1 - i = p) : (endsAt f zs i).set p (V.int (eN f zs p : Int)) = endsAt f zs (i + 1) := by
  unfold endsAt
  refine List.ext_getElem? fun q => ?_
  rw [List.getElem?_set]
  by_cases c : p = q
  · subst c
    rw [if_pos rfl, if_pos (by rw [List.length_map, List.length_range]; omega), List.getElem?_map, List.getElem?_range (by omega)]
    show _ = some (if zs.length - (i + 1) ≤ p then _ else _)
    rw [if_pos (by omega)]
  · rw [if_neg c, List.getElem?_map, List.getElem?_map]
    by_cases d : q < zs.length
    · rw [List.getElem?_range d]
      show some (if zs.length - i ≤ q then _ else _) = some (if zs.length - (i + 1) ≤ q then _ else _)
      by_cases e : zs.length - i ≤ q
      · rw [if_pos e, if_pos (by omega)]
      · rw [if_neg e, if_neg (by omega)]
    · rw [List.getElem?_eq_none (by rw [List.length_range]; omega)]
      rfl
theorem flat_one {α : Type} (x : α) : ∀ n : Nat, (List.replicate n [x]).flatten = List.replicate n x
  | 0 => rfl
  | n + 1 => by rw [List.replicate_succ, List.flatten_cons, flat_one x n, List.replicate_succ]; rfl
def spEnds (K : PySem.W.Frag) : Sp := fun vs H Q _ => ∃ (t d : Addr) (l : List (Str × Nat)) (zs : List Str), vs = [.ref t, .ref d] ∧ H t = some (.tup (zs.map V.str)) ∧ H d = some (.dK (dkv l)) ∧ zs.length ≤ 100 ∧ (∀ z ∈ zs, ar l z ≤ 2) ∧ Wh (ar l) 1 zs ∧
  ∀ (p : Addr) (H' : Hp), H p = none → Same H H' → H' p = some (.lst ((List.range zs.length).map fun i => V.int (eN (ar l) zs i : Int))) → Q (.ref p) H'
section
variable {P : Program} {w : World} {K : PySem.W.Frag} {mg : Str → Option Value} {base : Heap}
theorem scEnds : FnScope ["words", "arities", "ends", "place", "end", "_"] ["words", "arities"] (defScope sEnds) := ⟨rfl, rfl, rfl, by decide +kernel, rfl, by decide +kernel, by decide +kernel⟩
theorem ok_ends {f : Addr} {fd : FuncData} (F : Fun K "ends_of" "ends_of" sEnds f fd) (T : Free mg) : FnOk P w K mg base CX0 1 f fd ["words", "arities"] (spEnds K) := by
  refine F.ok scEnds (fun vs H Q E h => ?_) (fun cdv A outer s H vs Q E hr h => ?_)
  · obtain ⟨t, d, l, zs, rfl, _⟩ := h
    rfl
  · obtain ⟨t, d, l, zs, rfl, ht, hd, few, two, wh, q⟩ := h
    have hu := hr.units
    have hu1 : ∀ {u : Nat}, u + 64 < cLine → u + 1 < cLine := fun h => by omega
    refine ⟨_, (pss_cons (ps_set (i := 2) scEnds.nd rfl (.inl rfl) (pe_op op_rep (pe_lst (pa_cons pe_int pa_nil)) (pe_callB call_len_seq (by rfl) T.len PySem.boot_len (pa_cons (pv 0) pa_nil)))) (pss_cons (ps_for PassesOwn.never rfl (pi_range3 rfl T.range (pa_cons (pe_op op_sub (pe_callB call_len_seq (by rfl) T.len PySem.boot_len (pa_cons (pv 0) pa_nil)) pe_int) (pa_cons (pe_un un_neg pe_int) (pa_cons (pe_un un_neg pe_int) pa_nil)))) (pg_name (i := 3) scEnds.nd rfl (.inl rfl)) (pss_cons (ps_set (i := 4) scEnds.nd rfl (.inl rfl) (pe_op op_add (pv 3) pe_int)) (pss_cons (ps_for PassesOwn.never rfl (pi_range1 rfl T.range (pa_cons (pe_dget2 (hu1 hu) (pv 1) (pe_ix ix_tup (pv 0) (pv 3) (fun _ _ => rfl)) pe_int ⟨by rfl, by rfl, by rfl, by rfl⟩) pa_nil)) (pg_name (i := 5) scEnds.nd rfl (.inl rfl)) (pss_one (ps_set (i := 4) scEnds.nd rfl (.inl rfl) (pe_ix ix_list (pv 2) (pv 4) (fun _ _ => rfl))))) (pss_one (ps_asg (pv 4) (pg_sub (pv 2) (pv 3) set_list)))))) (pss_one (ps_ret (pv 2))))), ?_⟩
    have lz : (zs.map V.str).length = zs.length := List.length_map _
    refine ⟨by show 1 ≤ sizeLine; decide, fun l0 nl0 => ?_⟩
    have s0 := Same.new nl0 (o := .lst [V.int 0])
    refine ⟨_, rfl, t, _, rfl, .inr (SqT.of (s0 _ _ ht)), l0, ((zs.map V.str).length : Int), [V.int 0], rfl, rfl, upd_same, by omega, by rw [lz]; omega, by rw [sizeLine_eq, lz]; simp only [List.length_cons, List.length_nil]; omega, fun e0 ne0 => ?_⟩
    have ne0H : H e0 = none := Same.free s0 ne0
    have se := s0.trans (Same.new ne0 (o := .lst (List.replicate ((zs.map V.str).length : Int).toNat [V.int 0]).flatten))
    have erep : (List.replicate ((zs.map V.str).length : Int).toNat [V.int 0]).flatten = endsAt (ar l) zs 0 := by
      rw [lz, Int.toNat_natCast, flat_one]
      unfold endsAt
      refine List.ext_getElem? fun i => ?_
      rw [List.getElem?_map]
      by_cases c : i < zs.length
      · rw [List.getElem?_replicate, if_pos c, List.getElem?_range c]
        show some (V.int 0) = some (if zs.length - 0 ≤ i then _ else V.int 0)
        rw [if_neg (by omega)]
      · rw [List.getElem?_replicate, if_neg c, List.getElem?_eq_none (by rw [List.length_range]; omega)]
        rfl
    rw [erep] at se ⊢
    have he0 : (upd (upd H l0 (.lst [V.int 0])) e0 (.lst (endsAt (ar l) zs 0))) e0 = some (.lst (endsAt (ar l) zs 0)) := upd_same
    generalize upd (upd H l0 (.lst [V.int 0])) e0 (.lst (endsAt (ar l) zs 0)) = H1 at se he0 ⊢
    refine ⟨_, rfl, t, _, rfl, .inr (SqT.of (se _ _ ht)), _, _, rfl, rfl, _, rfl, _, rfl, ((zs.map V.str).length : Int) - 1, -1, -1, zs.length, rfl, ?_, ?_⟩
    · have e := RgC.neg (i := ((zs.map V.str).length : Int) - 1) (j := -1) (by omega) (by rw [lz]; omega) (by decide) (by decide)
      have e2 : (((zs.map V.str).length : Int) - 1 - -1).toNat = zs.length := by rw [lz]; omega
      rw [e2] at e
      exact e
    refine for_rangeC (fun i σ G => ∃ v3 v4 v5 : Option V, σ = [some (.ref t), some (.ref d), some (.ref e0), v3, v4, v5] ∧ G e0 = some (.lst (endsAt (ar l) zs i)) ∧ Same H G) ⟨none, none, none, rfl, he0, se⟩ ?_ ?_
    · rintro i σ G hi ⟨v3, v4, v5, rfl, eE, s⟩
      have ep : ((zs.map V.str).length : Int) - 1 + (i : Nat) * -1 = ((zs.length - 1 - i : Nat) : Int) := by rw [lz]; omega
      rw [ep]
      generalize hp : zs.length - 1 - i = p
      have pl : p < zs.length := by omega
      have dz : zs.drop p = zs[p] :: zs.drop (p + 1) := List.drop_eq_getElem_cons pl
      obtain ⟨m, wm⟩ := wh.at pl
      rw [dz] at wm
      have wm' : Wh (ar l) (m + ar l zs[p]) (zs.drop (p + 1)) := wm
      have a2 := two zs[p] (List.getElem_mem pl)
      refine ⟨_, rfl, _, _, rfl, rfl, ?_⟩
      refine ⟨_, rfl, d, rfl, .inl ⟨_, .inl (s _ _ hd)⟩, _, rfl, _, rfl, t, _, (p : Int), V.str zs[p], rfl, rfl, SqT.of (s _ _ ht), atI_nat (by rw [List.getElem?_map, List.getElem?_eq_getElem pl]; rfl), valV (dkv l) (.inr zs[p] : Key), DGet.k (k := .inr zs[p]) (s _ _ hd), ?_⟩
      rw [ar_getD]
      refine ⟨_, rfl, by omega, by omega, ?_⟩
      refine for_range (lo := 0) (n := (ar l zs[p] : Int).toNat) (fun k σ G => ∃ v5 : Option V, σ = [some (.ref t), some (.ref d), some (.ref e0), some (.int (p : Int)), some (.int ((p + 1 + fin (ar l) k (zs.drop (p + 1)) : Nat) : Int)), v5] ∧ G e0 = some (.lst (endsAt (ar l) zs i)) ∧ Same H G)
        ⟨v5, by rw [fin_zero]; rfl, eE, s⟩ ?_ ?_
      · rintro k σ G hk ⟨v5, rfl, eE, s⟩
        have hk' : k < ar l zs[p] := by omega
        have e1 : m + ar l zs[p] = k + ((m + ar l zs[p] - k - 1) + 1) := by omega
        rw [e1] at wm'
        have lt := wm'.lt
        rw [List.length_drop] at lt
        have q1 : p + 1 + fin (ar l) k (zs.drop (p + 1)) < zs.length := by omega
        refine ⟨_, rfl, _, rfl, e0, _, _, V.int (eN (ar l) zs (p + 1 + fin (ar l) k (zs.drop (p + 1))) : Int), rfl, rfl, SqL.of eE, atI_nat ?_, ?_⟩
        · unfold endsAt
          rw [List.getElem?_map, List.getElem?_range q1]
          show some (if zs.length - i ≤ _ then _ else V.int 0) = _
          rw [if_pos (by omega)]
        · refine ⟨some (.int (0 + (k : Int))), ?_, eE, s⟩
          have e3 : eN (ar l) zs (p + 1 + fin (ar l) k (zs.drop (p + 1))) = p + 1 + fin (ar l) (k + 1) (zs.drop (p + 1)) := by
            unfold eN
            rw [fin_add, List.drop_drop]
            omega
          rw [e3]
          rfl
      · rintro σ G ⟨v5, rfl, eE, s⟩
        rw [Int.toNat_natCast]
        refine ⟨_, rfl, _, rfl, _, rfl, e0, _, (p : Int), p, rfl, rfl, eE, ?_, ?_⟩
        · have ll : (endsAt (ar l) zs i).length = zs.length := by unfold endsAt; rw [List.length_map, List.length_range]
          unfold ixN
          rw [if_pos (by omega), if_pos (by rw [ll]; omega)]
          simp
        · refine ⟨_, _, _, rfl, ?_, fun b u e => by rw [upd_ne (ne_of_none e ne0H)]; exact s b u e⟩
          rw [upd_same]
          have e4 : p + 1 + fin (ar l) (ar l zs[p]) (zs.drop (p + 1)) = eN (ar l) zs p := by
            unfold eN
            rw [dz]
            show _ = p + (fin (ar l) (0 + ar l zs[p]) (zs.drop (p + 1)) + 1)
            rw [Nat.zero_add]
            omega
          rw [e4, ends_step hi hp]
    · rintro σ G ⟨v3, v4, v5, rfl, eE, s⟩
      refine ⟨_, rfl, q e0 G ne0H s ?_⟩
      rw [eE]
      unfold endsAt
      congr 2
      refine List.map_congr_left fun i _ => ?_
      rw [if_pos (by omega)]
end
end Pr
namespace Pr
open PySem PySem.Spec PyProof.Rows L2 Gd
/-! ### parts_of -/
def kt (wss : List (List Str)) : List (List Key × V) := wss.map fun ws => (ws.map Sum.inr, .bl true)
theorem kt_len (wss : List (List Str)) : (kt wss).length = wss.length := List.length_map _
theorem inr_inj : ∀ {a b : List Str}, a.map (Sum.inr : Str → Key) = b.map Sum.inr → a = b
  | [], [], _ => rfl
  | [], _ :: _, h => by cases h
  | _ :: _, [], h => by cases h
  | x :: a, y :: b, h => by
    have h' : (Sum.inr x : Key) :: a.map Sum.inr = Sum.inr y :: b.map Sum.inr := h
    injection h' with h1 h2
    rw [Sum.inr.inj h1, inr_inj h2]
theorem kt_put {wss : List (List Str)} {ws : List Str} : putK (kt wss) (ws.map Sum.inr) (.bl true) = if ws ∈ wss then kt wss else kt (wss ++ [ws]) := by
  have ea : ((kt wss).any fun kv => decide (kv.1 = ws.map Sum.inr)) = decide (ws ∈ wss) := by
    unfold kt
    rw [List.any_map, Bool.eq_iff_iff, List.any_eq_true, decide_eq_true_eq]
    constructor
    · rintro ⟨y, m, e⟩
      have e' : y.map (Sum.inr : Str → Key) = ws.map Sum.inr := of_decide_eq_true e
      rw [← inr_inj e']
      exact m
    · intro m
      exact ⟨ws, m, decide_eq_true rfl⟩
  unfold putK
  rw [ea]
  by_cases m : ws ∈ wss
  · rw [if_pos (decide_eq_true m), if_pos m]
    unfold kt
    rw [List.map_map]
    refine List.map_congr_left fun y _ => ?_
    show (if y.map (Sum.inr : Str → Key) = ws.map Sum.inr then (y.map (Sum.inr : Str → Key), V.bl true) else (y.map Sum.inr, .bl true)) = _
    split <;> rfl
  · rw [if_neg (by rw [decide_eq_false m]; exact Bool.false_ne_true), if_neg m]
    unfold kt
    rw [List.map_append]
    rfl
def subW (l : List (Str × Nat)) (zs : List Str) (i : Nat) : List Str := (zs.drop i).take (fin (ar l) 1 (zs.drop i))
/-- t[at:end] of a row of names -/
theorem slW {K : PySem.W.Frag} {H : Hp} {t : Addr} {l : List (Str × Nat)} {zs : List Str} {p : Nat} {Q : VK} (hp : p < zs.length) (ht : H t = some (.tup (zs.map V.str)))
    (q : ∀ a H', Same H H' → H' a = some (.tup ((subW l zs p).map V.str)) → Q (.ref a) H') : rSlA K (.ref t) (some (p : Int)) (some ((eN (ar l) zs p : Nat) : Int)) H Q := by
  have el := fin_le (f := ar l) (zs.drop p) 1
  rw [List.length_drop] at el
  have lz : (zs.map V.str).length = zs.length := List.length_map _
  have es : eN (ar l) zs p = p + fin (ar l) 1 (zs.drop p) := rfl
  obtain ⟨c, i1, i2⟩ := cut_strs (zs := zs) (p := p) (e := eN (ar l) zs p) (by omega) (by omega) (by omega)
  have c' : cutV (zs.map V.str) (some (p : Int)) (some ((eN (ar l) zs p : Nat) : Int)) = (subW l zs p).map V.str := by
    rw [c, es, Nat.add_sub_cancel_left]
    rfl
  refine ⟨t, _, rfl, SqT.of ht, fun hw => ?_, fun _ a na => ?_⟩
  · rw [i1, i2, lz] at hw
    have p0 : p = 0 := hw.1
    subst p0
    refine q t H (Same.refl H) ?_
    have e := hw.2
    rw [es, Nat.zero_add] at e
    unfold subW
    rw [e, List.drop_zero, List.take_length]
    exact ht
  · rw [c']
    exact q a _ (Same.new na) upd_same
/-- the parts at a -/
structure PartsAt (K : PySem.W.Frag) (H : Hp) (a : Addr) (l : List (Str × Nat)) (rs : List Rl) : Prop where
  ex : ∃ M : List (Addr × List Str), H a = some (.tup (M.map fun q => V.ref q.1)) ∧ (∀ q ∈ M, SqT K H q.1 (q.2.map V.str)) ∧ Ns.sortedW (M.map (·.2)) ∧ (M.map (·.2)).Nodup ∧ ∀ ws, ws ∈ M.map (·.2) ↔ isPart l rs ws
theorem PartsAt.same {K : PySem.W.Frag} {H H' : Hp} {a : Addr} {l : List (Str × Nat)} {rs : List Rl} (h : PartsAt K H a l rs) (s : Same H H') : PartsAt K H' a l rs := let ⟨M, x, y, z⟩ := h.ex; ⟨M, s _ _ x, fun q m => Ns.sqT_same (y q m) s, z⟩
theorem part_ne {l : List (Str × Nat)} {rs : List Rl} {ws : List Str} (h : isPart l rs ws) : ws ≠ [] := by
  obtain ⟨r, _, i, z, hz, _, rfl⟩ := h
  obtain ⟨hi, e⟩ := List.getElem?_eq_some_iff.mp hz
  rw [List.drop_eq_getElem_cons hi]
  show (_ :: _).take (fin (ar l) (0 + ar l _) _ + 1) ≠ []
  rw [List.take_succ_cons]
  exact List.cons_ne_nil _ _
def spParts (K : PySem.W.Frag) : Sp := fun vs H Q _ => ∃ (pa d : Addr) (l : List (Str × Nat)) (g : Str) (rs : List Rl) (ts : List Addr), vs = [.ref pa, .ref d] ∧ H pa = some (.lst (ts.map V.ref)) ∧ Paired (fun t r => H t = some (.tup (r.2.2.map V.str))) ts rs ∧ H d = some (.dK (dkv l)) ∧ BkOk l g rs ∧
  ∀ (p : Addr) (H' : Hp), H p = none → Same H H' → PartsAt K H' p l rs → Q (.ref p) H'
section
variable {P : Program} {w : World} {K : PySem.W.Frag} {mg : Str → Option Value} {base : Heap} {fE : Addr} {dE : FuncData}
theorem ops_two {l : List (Str × Nat)} (ok : OpsOk l) (z : Str) : ar l z ≤ 2 := by
  cases e : valV (dkv l) (.inr z : Key) with
  | none => rw [ar_none e]; omega
  | some v =>
    obtain ⟨n, rfl, m⟩ := val_nat e
    rw [ar_of e]
    exact ok.two _ m
theorem scParts : FnScope ["patterns", "arities", "found", "pattern", "ends", "at", "word"] ["patterns", "arities"] (defScope sParts) := ⟨rfl, rfl, rfl, by decide +kernel, rfl, by decide +kernel, by decide +kernel⟩
theorem ok_parts {f : Addr} {fd : FuncData} (F : Fun K "parts_of" "parts_of" sParts f fd) (T : Free mg) (FE : Fun K "ends_of" "ends_of" sEnds fE dE) (bE : Binds K dE ["words", "arities"] []) (gE : mg "ends_of" = some (.ref fE)) : FnOk P w K mg base CX0 2 f fd ["patterns", "arities"] (spParts K) := by
  have GE : FnOk P w K mg base CX0 1 fE dE ["words", "arities"] (spEnds K) := ok_ends FE T
  refine F.ok scParts (fun vs H Q E h => ?_) (fun cdv A outer s H vs Q E hr h => ?_)
  · obtain ⟨pa, d, l, g, rs, ts, rfl, _⟩ := h
    rfl
  · obtain ⟨pa, d, l, g, rs, ts, rfl, hpa, pr, hd, ok, q⟩ := h
    have hu := hr.units
    have hu1 : ∀ {u : Nat}, u + 64 < cLine → u + 1 < cLine := fun h => by omega
    refine ⟨_, (pss_cons (ps_set (i := 2) scParts.nd rfl (.inl rfl) pe_dnewT) (pss_cons (ps_for PassesOwn.never rfl (pi_list (pv 0)) (pg_name (i := 3) scParts.nd rfl (.inl rfl)) (pss_cons (ps_set (i := 4) scParts.nd rfl (.inl rfl) (pe_call GE hr (by rfl) gE FE.kp bE .nil pass0 (pa_cons (pv 3) (pa_cons (pv 1) pa_nil)))) (pss_one (ps_for PassesOwn.never rfl (pi_enumT (by rfl) T.enum (pa_cons (pv 3) pa_nil)) (pg_tup rfl (pgs_cons (pg_name (i := 5) scParts.nd rfl (.inl rfl)) (pgs_cons (pg_name (i := 6) scParts.nd rfl (.inl rfl)) pgs_nil))) (pss_one (ps_if (pt_cmp (pc_din (hu1 hu) (pv 6) (pv 1))) (pss_one (ps_asg pe_bl (pg_sub (pv 2) (pe_slice sl_tupA (pv 3) (po_some (pv 5)) (po_some (pe_ix ix_list (pv 4) (pv 5) (fun _ _ => rfl)))) (set_dict (Nat.lt_of_le_of_lt (Nat.add_le_add_left (by decide : 1 ≤ 64) _) hu))))) pss_nil)))))) (pss_one (ps_ret (pe_callTy call_tuple_of (by rfl) T.tuple (by decide +kernel) (pa_cons (pe_callB (Ns.cr_sortedDW (by rfl)) (by rfl) T.sorted (by decide +kernel) (pa_cons (pv 2) pa_nil)) pa_nil)))))), ?_⟩
    refine fun fa nfa => ?_
    have sA : ∀ {G : Hp} {u : HO}, Same H G → Same H (upd G fa u) := fun {G u} s b o e => by rw [upd_ne (ne_of_none e nfa)]; exact s b o e
    have s0 := sA (u := .dT []) (Same.refl H)
    have lt : ts.length = rs.length := Paired.length pr
    have lm : (ts.map V.ref).length = rs.length := by rw [List.length_map, lt]
    have few := ok.few
    refine ⟨_, rfl, pa, rfl, ⟨_, SqL.of (s0 _ _ hpa)⟩, ?_⟩
    refine for_list (K := K) (a := pa) (xs := ts.map V.ref) (fun i σ G => ∃ (v3 v4 v5 v6 : Option V) (wss : List (List Str)), σ = [some (.ref pa), some (.ref d), some (.ref fa), v3, v4, v5, v6] ∧ G fa = some (.dT (kt wss)) ∧ wss.Nodup ∧ wss.length ≤ 7 * i ∧ (∀ ws, ws ∈ wss ↔ isPart l (rs.take i) ws) ∧ Same H G)
      ⟨none, none, none, none, [], rfl, upd_same, .nil, Nat.zero_le _, fun ws => ?_, s0⟩ (fun i σ G _ ⟨_, _, _, _, _, _, _, _, _, _, s⟩ => SqL.of (s _ _ hpa)) ?_ ?_
    · constructor
      · exact fun m => nomatch m
      · rintro ⟨r, m, _⟩
        simp at m
    · rintro i x σ G hx ⟨v3, v4, v5, v6, wss, rfl, eF, nd, ln, mem, s⟩
      obtain ⟨t, ht, rfl⟩ := ref_at hx
      obtain ⟨r, hr', hrt⟩ := pget9 pr ht
      have rok := ok.rules r (List.mem_of_getElem? hr')
      have htt := s _ _ hrt
      have ilt : i < rs.length := (List.getElem?_eq_some_iff.mp hr').1
      have rf := rok.few
      refine ⟨_, rfl, _, rfl, t, d, l, r.2.2, rfl, htt, s _ _ hd, by omega, fun z _ => ops_two ok.ops z, rok.whole, fun ep G1 nep s1 hep => ?_⟩
      have htt1 := s1 _ _ htt
      have eF1 := s1 _ _ eF
      have s2 := s.trans s1
      have lz : (r.2.2.map V.str).length = r.2.2.length := List.length_map _
      refine ⟨_, rfl, t, _, rfl, SqT.of htt1, ?_⟩
      refine for_it (walk_enumT (K := K) (a := t) (xs := r.2.2.map V.str)) (fun j σ G => ∃ (v5 v6 : Option V) (wss : List (List Str)), σ = [some (.ref pa), some (.ref d), some (.ref fa), some (.ref t), some (.ref ep), v5, v6] ∧ G fa = some (.dT (kt wss)) ∧ wss.Nodup ∧ wss.length ≤ 7 * i + j ∧
          (∀ ws, ws ∈ wss ↔ isPart l (rs.take i) ws ∨ ∃ j' z, j' < j ∧ r.2.2[j']? = some z ∧ z ∈ l.map (·.1) ∧ ws = subW l r.2.2 j') ∧ Same H G ∧ G ep = some (.lst ((List.range r.2.2.length).map fun i => V.int (eN (ar l) r.2.2 i : Int))))
        ⟨v5, v6, wss, rfl, eF1, nd, by omega, fun ws => ?_, s2, hep⟩ (fun i σ G _ ⟨_, _, _, _, _, _, _, _, s, _⟩ => SqT.of (s _ _ hrt)) ?_ ?_
      · rw [mem ws]
        constructor
        · exact .inl
        · rintro (h | ⟨j', z, h, _⟩)
          · exact h
          · exact absurd h (Nat.not_lt_zero _)
      · rintro j x σ G2 G3 hj ⟨v5, v6, wss, rfl, eF, nd, ln, mem, s, hep⟩ ⟨U, x1, x2, rfl, nU, rfl, e1, e2⟩
        cases e1
        obtain ⟨z, hz, rfl⟩ := str_at e2
        have jl : j < r.2.2.length := (List.getElem?_eq_some_iff.mp hz).1
        have sU := Same.new nU (o := .tup [V.int (j : Nat), V.str z])
        have s3 := s.trans sU
        have eF3 := sU _ _ eF
        have hep3 := sU _ _ hep
        have hU : (upd G2 U (.tup [V.int (j : Nat), V.str z])) U = some (.tup [V.int (j : Nat), V.str z]) := upd_same
        generalize upd G2 U (.tup [V.int (j : Nat), V.str z]) = G3 at sU s3 eF3 hep3 hU ⊢
        have step : ∀ ws, (∃ j' y, j' < j + 1 ∧ r.2.2[j']? = some y ∧ y ∈ l.map (·.1) ∧ ws = subW l r.2.2 j') ↔ (∃ j' y, j' < j ∧ r.2.2[j']? = some y ∧ y ∈ l.map (·.1) ∧ ws = subW l r.2.2 j') ∨ (z ∈ l.map (·.1) ∧ ws = subW l r.2.2 j) := fun ws => by
          constructor
          · rintro ⟨j', y, h1, h2, h3, h4⟩
            by_cases e : j' = j
            · subst e
              rw [hz] at h2
              cases h2
              exact .inr ⟨h3, h4⟩
            · exact .inl ⟨j', y, by omega, h2, h3, h4⟩
          · rintro (⟨j', y, h1, h2, h3, h4⟩ | ⟨h3, h4⟩)
            · exact ⟨j', y, by omega, h2, h3, h4⟩
            · exact ⟨j, z, by omega, hz, h3, h4⟩
        refine ⟨U, _, rfl, SqT.of hU, rfl, _, _, rfl, _, _, rfl, rfl, ?_⟩
        refine ⟨_, rfl, _, rfl, d, _, rfl, DGet.k (k := .inr z) (s3 _ _ hd), _, rfl, ?_⟩
        by_cases c : z ∈ l.map (·.1)
        · have e := val_mem_iff.mpr c
          refine if_true_of e ?_
          refine ⟨_, rfl, _, rfl, _, rfl, _, rfl, _, rfl, _, rfl, ep, _, (j : Int), V.int (eN (ar l) r.2.2 j : Int), rfl, rfl, SqL.of hep3, atI_nat (by rw [List.getElem?_map, List.getElem?_range jl]; rfl), _, rfl, ?_⟩
          refine slW (l := l) jl (s3 _ _ hrt) fun b G4 s4 hb => ?_
          have eF4 := s4 _ _ eF3
          have s5 := s3.trans s4
          refine ⟨fa, _, rfl, .inr ⟨kt wss, (subW l r.2.2 j).map Sum.inr, b, eF4, rfl, by rw [hb, List.map_map]; rfl, by rw [kt_len, sizeLine_eq]; omega, rfl⟩, ?_⟩
          rw [kt_put]
          have epf : ep ≠ fa := fun e => by
            have h4 := s4 _ _ hep3
            rw [e, eF4] at h4
            cases h4
          by_cases m : subW l r.2.2 j ∈ wss
          · rw [if_pos m]
            refine ⟨_, _, wss, rfl, upd_same, nd, by omega, fun ws => ?_, sA s5, by rw [upd_ne epf]; exact s4 _ _ hep3⟩
            rw [mem ws, step ws]
            constructor
            · rintro (h | h)
              · exact .inl h
              · exact .inr (.inl h)
            · rintro (h | h | ⟨_, h⟩)
              · exact .inl h
              · exact .inr h
              · rw [h]
                exact (mem _).mp m
          · rw [if_neg m]
            refine ⟨_, _, wss ++ [subW l r.2.2 j], rfl, upd_same, ?_, by rw [List.length_append]; simp only [List.length_cons, List.length_nil]; omega, fun ws => ?_, sA s5, by rw [upd_ne epf]; exact s4 _ _ hep3⟩
            · rw [List.nodup_append]
              refine ⟨nd, by simp, fun x mx y my e => m ?_⟩
              rw [List.mem_singleton] at my
              rw [← my, ← e]
              exact mx
            · rw [List.mem_append, mem ws, step ws, List.mem_singleton]
              constructor
              · rintro ((h | h) | h)
                · exact .inl h
                · exact .inr (.inl h)
                · exact .inr (.inr ⟨c, h⟩)
              · rintro (h | h | ⟨_, h⟩)
                · exact .inl (.inl h)
                · exact .inl (.inr h)
                · exact .inr h
        · have e : (valV (dkv l) (.inr z : Key)).isSome = false := by
            cases q : (valV (dkv l) (.inr z : Key)).isSome with
            | false => rfl
            | true => exact absurd (val_mem_iff.mp q) c
          refine if_false_of e ⟨_, _, wss, rfl, eF3, nd, by omega, fun ws => ?_, s3, hep3⟩
          rw [mem ws, step ws]
          constructor
          · rintro (h | h)
            · exact .inl h
            · exact .inr (.inl h)
          · rintro (h | h | ⟨n, _⟩)
            · exact .inl h
            · exact .inr h
            · exact absurd n c
      · rintro σ G2 ⟨v5, v6, wss, rfl, eF, nd, ln, mem, s, hep⟩
        refine ⟨_, _, _, _, wss, rfl, eF, nd, by rw [lz] at ln; omega, fun ws => ?_, s⟩
        rw [mem ws]
        unfold isPart
        rw [List.take_add_one, hr']
        constructor
        · rintro (⟨r2, m2, k⟩ | ⟨j', z, h1, h2, h3, h4⟩)
          · exact ⟨r2, List.mem_append_left _ m2, k⟩
          · exact ⟨r, List.mem_append_right _ (by simp), j', z, h2, h3, h4⟩
        · rintro ⟨r2, m2, j', z, h2, h3, h4⟩
          rcases List.mem_append.mp m2 with m2 | m2
          · exact .inl ⟨r2, m2, j', z, h2, h3, h4⟩
          · have e2 : r2 = r := by simpa using m2
            rw [e2] at h2 h4
            refine .inr ⟨j', z, ?_, h2, h3, h4⟩
            rw [lz]
            exact (List.getElem?_eq_some_iff.mp h2).1
    · rintro σ G ⟨v3, v4, v5, v6, wss, rfl, eF, nd, ln, mem, s⟩
      rw [List.take_of_length_le (by rw [lm]; exact Nat.le_refl _)] at mem
      rw [lm] at ln
      refine ⟨_, rfl, fa, kt wss, wss, rfl, eF, by unfold kt; rw [List.map_map]; rfl, by omega, fun ws m => part_ne ((mem ws).mp m), fun M lp G2 pm srt hk nlp s2 hlp => ?_⟩
      refine ⟨lp, _, rfl, .inl ⟨SqL.of hlp, fun tp ntp => ?_⟩⟩
      have s3 := (s.trans s2).trans (Same.new ntp (o := .tup (M.map fun q => V.ref q.1)))
      exact q tp _ (Same.free (s.trans s2) ntp) s3 ⟨M, upd_same, fun q m => Ns.sqT_same (hk q m) (Same.new ntp), srt, pm.nodup_iff.mpr nd, fun ws => by rw [pm.mem_iff, mem ws]⟩
end
end Pr
namespace Pr
open PySem PySem.Spec PyProof.Rows L2 Gd
/-! ### rules whose K is given (for comprehensions) -/
def rJoin (K : PySem.W.Frag) : V → List V → Hp → VK → Prop := fun x xs H Q => ∃ a p, ∃ ys : List Str, x = .str a ∧ xs = [.ref p] ∧ (SqL K H p (ys.map V.str) ∨ SqT K H p (ys.map V.str)) ∧ (ys.map (·.length)).sum + ys.length * a.length ≤ 16777216 ∧ Q (.str (Txt.join a ys)) H
section
variable {X : Cx} {K : PySem.W.Frag}
theorem pe_joinK {o e : Expr} {to te : TE} {apos pos : Pos} (h : X.K = K) (ho : PE X o to) (he : PE X e te) (hs : starEach [e] X.env = [(false, eval e X.env)] := by rfl) (hbase : attributeBase o "join" X.env (eval o X.env) = eval o X.env := by rfl) (hline : (apos.endLine == pos.line) = true := by rfl) :
    PE X (.Call (.Attribute o "join" apos) [e] [] pos) (tM1 (rJoin K) to te) := by
  subst h
  exact pe_join ho he hs hbase hline
theorem pa_starK {e : Expr} {es : List Expr} {te : TE} {t : TA} {p : Pos} (h : X.K = K) (he : PE X e te) (hr : PA X es t) (hs : starEach (.Starred e p :: es) X.env = (true, eval e X.env) :: starEach es X.env := by rfl) : PA X (.Starred e p :: es) (StX.tStar K te t) := by
  subst h
  exact StX.pa_star he hr hs
def rLenK (K : PySem.W.Frag) : List V → Hp → VK → Prop := fun xs H Q => ∃ p ys, xs = [.ref p] ∧ (SqL K H p ys ∨ SqT K H p ys) ∧ Q (.int (ys.length : Int)) H
end
end Pr
namespace Pr
open PySem PySem.Spec PyProof.Rows L2 Gd
/-! ### Book(operators, goal, rules) -/
/-- what isinstance looks up of the class -/
structure IsF (K : PySem.W.Frag) (mg : Str → Option Value) (nm : Str) (C : Addr) : Prop where
  g : mg nm = some (.ref C)
  cl : PySem.W.findIn K (.ref C) "__class__" = some (some (.builtin "object.__class__"))
  sp : PySem.W.specialIn K (.builtin "object.__class__") "__get__" = some (some (.builtin "getset_descriptor.__get__"))
  tk : PySem.W.takesIn K (.builtin "object.__class__") = some true
  ob : PySem.W.mroIn K C (.type "object") = some true
  k1 : PySem.W.kitOne K (.ref C) (.ref C) = some true
/-- what is known of the class Book -/
structure BkF (K : PySem.W.Frag) (B : Addr) : Prop where
  cls : Cls K B
  n1 : NoAttr K B "_operators"
  n2 : NoAttr K B "_goal"
  n3 : NoAttr K B "_rules"
  n4 : NoAttr K B "_nonterminals"
  n5 : NoAttr K B "_parts"
  n6 : NoAttr K B "_lines"
  n7 : NoAttr K B "_sides"
  n8 : NoAttr K B "_kept"
/-- the line of a rule -/
def rlS (r : Rl) : Str := Txt.join " " (("rule" : Str) :: r.1 :: (Str.ofString (toString (r.2.1 : Int))) :: r.2.2)
def goS (g : Str) : Str := Str.empty ++ ("goal " : Str) ++ g
def bkLines (l : List (Str × Nat)) (g : Str) (rs : List Rl) : List Str := l.map lnS ++ goS g :: rs.map rlS
structure NtsAt (H : Hp) (a : Addr) (l : List (Str × Nat)) (g : Str) (rs : List Rl) : Prop where
  ex : ∃ ys : List Str, H a = some (.tup (ys.map V.str)) ∧ sortedS ys = true ∧ ys.Nodup ∧ ∀ z, z ∈ ys ↔ isNt l g rs z
theorem NtsAt.same {H H' : Hp} {a : Addr} {l : List (Str × Nat)} {g : Str} {rs : List Rl} (h : NtsAt H a l g rs) (s : Same H H') : NtsAt H' a l g rs := let ⟨ys, x, y⟩ := h.ex; ⟨ys, s _ _ x, y⟩
/-- the book at o -/
structure BookAt (K : PySem.W.Frag) (H : Hp) (C B o : Addr) (l : List (Str × Nat)) (g : Str) (rs : List Rl) : Prop where
  ex : ∃ dx oo ra na pa la kk : Addr, H o = some (.ins B dx [("_operators", .ref oo), ("_goal", .str g), ("_rules", .ref ra), ("_nonterminals", .ref na), ("_parts", .ref pa), ("_lines", .ref la), ("_sides", .non), ("_kept", .ref kk)]) ∧
    OpsAt H C oo l ∧ RulesAt H ra rs ∧ NtsAt H na l g rs ∧ PartsAt K H pa l rs ∧ H la = some (.tup ((bkLines l g rs).map V.str))
theorem BookAt.same {K : PySem.W.Frag} {H H' : Hp} {C B o : Addr} {l : List (Str × Nat)} {g : Str} {rs : List Rl} (h : BookAt K H C B o l g rs) (s : Same H H') : BookAt K H' C B o l g rs :=
  let ⟨dx, oo, ra, na, pa, la, kk, h1, h2, h3, h4, h5, h6⟩ := h.ex
  ⟨dx, oo, ra, na, pa, la, kk, s _ _ h1, h2.same s, h3.same s, h4.same s, h5.same s, s _ _ h6⟩
theorem rules_ts {H : Hp} : ∀ {as : List Addr} {rs : List Rl}, Paired (fun b r => RuleAt H b r) as rs → ∃ ts : List Addr, Paired (fun t r => H t = some (.tup (r.2.2.map V.str))) ts rs ∧ ts.length = as.length ∧
    ∀ (i : Nat) (b : Addr), as[i]? = some b → ∃ t r, ts[i]? = some t ∧ rs[i]? = some r ∧ H b = some (.tup [.str r.1, .int (r.2.1 : Int), .ref t])
  | _, _, .nil => ⟨[], .nil, rfl, fun i b h => by simp at h⟩
  | _, _, .cons (a := a) (b := r) f p => by
    obtain ⟨ts, h1, h2, h3⟩ := rules_ts p
    obtain ⟨t, ht, htt⟩ := f
    refine ⟨t :: ts, .cons htt h1, by rw [List.length_cons, List.length_cons, h2], fun i b h => ?_⟩
    cases i with
    | zero =>
      simp only [List.getElem?_cons_zero] at h
      cases h
      exact ⟨t, r, rfl, rfl, ht⟩
    | succ i =>
      simp only [List.getElem?_cons_succ] at h
      obtain ⟨t', r', x, y, z⟩ := h3 i b h
      exact ⟨t', r', by rw [List.getElem?_cons_succ]; exact x, by rw [List.getElem?_cons_succ]; exact y, z⟩
theorem sum_az : ∀ {zs : List Str}, (∀ z ∈ zs, azB z = true) → (zs.map (·.length)).sum ≤ 8 * zs.length
  | [], _ => Nat.le_refl _
  | z :: zs, h => by
    have a := az_len (h z List.mem_cons_self)
    have b := sum_az (zs := zs) fun y m => h y (List.mem_cons_of_mem _ m)
    rw [List.map_cons, List.sum_cons, List.length_cons]
    omega
/-- the program's defs that a book asks -/
structure Top (P : Program) (w : World) (K : PySem.W.Frag) (mg : Str → Option Value) (base : Heap) (C fB fT fP pA gA pL gL : Addr) (dB dT dP dA dL : FuncData) : Prop where
  cf : OpF K C
  is : IsF K mg "Operators" C
  GB : FnOk P w K mg base CX0 4 fB dB ["goal", "rules", "arities"] spIsBook
  bB : Binds K dB ["goal", "rules", "arities"] []
  gB : mg "is_book" = some (.ref fB)
  kB : PySem.W.keepIn K (.ref fB) = true
  GT : FnOk P w K mg base CX0 1 fT dT ["goal", "rules", "arities"] spNonts
  bT : Binds K dT ["goal", "rules", "arities"] []
  gT : mg "nonterminals_of" = some (.ref fT)
  kT : PySem.W.keepIn K (.ref fT) = true
  GP : FnOk P w K mg base CX0 2 fP dP ["patterns", "arities"] (spParts K)
  bP : Binds K dP ["patterns", "arities"] []
  gP : mg "parts_of" = some (.ref fP)
  kP : PySem.W.keepIn K (.ref fP) = true
  prA : PropOf K C "arities" pA gA
  GA : FnOk P w K mg base CX0 1 gA dA ["self"] (spPA C)
  bA : Binds K dA ["self"] []
  prL : PropOf K C "lines" pL gL
  GL : FnOk P w K mg base CX0 1 gL dL ["self"] (spPL C)
  bL : Binds K dL ["self"] []
def spBInit (K : PySem.W.Frag) (C B : Addr) : Sp := fun vs H Q _ => ∃ (x dx oo ra : Addr) (g : Str) (l : List (Str × Nat)) (rs : List Rl), vs = [.ref x, .ref oo, .str g, .ref ra] ∧ H x = some (.ins B dx []) ∧ OpsAt H C oo l ∧ RulesAt H ra rs ∧ BkOk l g rs ∧
  ∀ H', Kp x H H' → BookAt K H' C B x l g rs → FldAt H' x "_operators" (.ref oo) → Q .non H'
section
variable {P : Program} {w : World} {K : PySem.W.Frag} {mg : Str → Option Value} {base : Heap} {C B fB fT fP pA gA pL gL : Addr} {dB dT dP dA dL : FuncData}
theorem scBInit : FnScope ["self", "operators", "goal", "rules", "arities", "told", "_", "pattern", "word", "price"] ["self", "operators", "goal", "rules"] (defScope bInit) := ⟨rfl, rfl, rfl, by decide +kernel, rfl, by decide +kernel, by decide +kernel⟩
theorem ok_binit {f : Addr} {fd : FuncData} (F : Fun K "__init__" "Book.__init__" bInit f fd) (T : Free mg) (Z : Top P w K mg base C fB fT fP pA gA pL gL dB dT dP dA dL) (bf : BkF K B) : FnOk P w K mg base CX0 5 f fd ["self", "operators", "goal", "rules"] (spBInit K C B) := by
  refine F.ok scBInit (fun vs H Q E h => ?_) (fun cdv A outer s H vs Q E hr h => ?_)
  · obtain ⟨x, dx, oo, ra, g, l, rs, rfl, _⟩ := h
    rfl
  · obtain ⟨x, dx, oo, ra, g, l, rs, rfl, hx, hoo, hra, ok, q⟩ := h
    have hu := hr.units
    have hu1 : ∀ {u : Nat}, u + 64 < cLine → u + 1 < cLine := fun h => by omega
    have r1 : Room 1 _ := hr.mono (by decide)
    have r2 : Room 2 _ := hr.mono (by decide)
    have r4 : Room 4 _ := hr.mono (by decide)
    refine ⟨_, (pss_cons (ps_if (pt_not (pt_val (pe_callB call_isi (by rfl) T.isi (by decide +kernel) (pa_cons (pv 1) (pa_cons (pe_glob (v := .ref C) (by rfl) Z.is.g rfl) pa_nil))))) (pss_one ps_never) pss_nil) (pss_cons (ps_set (i := 4) scBInit.nd rfl (.inl rfl) (pe_prop (pv 1) Z.cf.cls Z.prA Z.GA r2 Z.bA .nil pass0 rfl)) (pss_cons (ps_if (pt_not (pt_val (pe_call Z.GB r4 (by rfl) Z.gB Z.kB Z.bB .nil pass0 (pa_cons (pv 2) (pa_cons (pv 3) (pa_cons (pv 4) pa_nil)))))) (pss_one ps_never) pss_nil) (pss_cons (ps_fld (pv 0) (pv 1) rfl) (pss_cons (ps_fld (pv 0) (pv 2) rfl) (pss_cons (ps_fld (pv 0) (pv 3) rfl) (pss_cons (ps_fld (pv 0) (pe_call Z.GT r1 (by rfl) Z.gT Z.kT Z.bT .nil pass0 (pa_cons (pv 2) (pa_cons (pv 3) (pa_cons (pv 4) pa_nil)))) rfl) (pss_cons (ps_fld (pv 0) (pe_call Z.GP r2 (by rfl) Z.gP Z.kP Z.bP .nil pass0 (pa_cons (pe_lc (own := [("_", 6), ("pattern", 7)]) (g := gTup K 3 (gCons (gName 6) (gCons (gName 6) (gCons (gName 7) gNil)))) (by rfl) scBInit.nd (pi_tup (pv 3)) (blkOk_by (own := [("_", 6), ("pattern", 7)]) (N := ["self", "operators", "goal", "rules", "arities", "told", "_", "pattern", "word", "price"]) (sc := defScope bInit) (by decide +kernel)) (fun _ _ _ _ _ => pg_tup rfl (pgs_cons (pg_name (i := 6) scBInit.nd rfl (.inl rfl)) (pgs_cons (pg_name (i := 6) scBInit.nd rfl (.inl rfl)) (pgs_cons (pg_name (i := 7) scBInit.nd rfl (.inl rfl)) pgs_nil)))) (fun _ _ _ _ _ => pts_nil) (fun _ _ _ _ _ => pv 7)) (pa_cons (pv 4) pa_nil))) rfl) (pss_cons (ps_setLc (i := 5) (own := [("word", 8), ("price", 9), ("pattern", 7)]) (g := gTup K 3 (gCons (gName 8) (gCons (gName 9) (gCons (gName 7) gNil)))) (by rfl) scBInit.nd rfl rfl (sw_true rfl rfl rfl (by decide +kernel)) (pi_tup (pv 3)) (blkOk_by (own := [("word", 8), ("price", 9), ("pattern", 7)]) (N := ["self", "operators", "goal", "rules", "arities", "told", "_", "pattern", "word", "price"]) (sc := defScope bInit) (by decide +kernel)) (fun _ _ _ _ _ => pg_tup rfl (pgs_cons (pg_name (i := 8) scBInit.nd rfl (.inl rfl)) (pgs_cons (pg_name (i := 9) scBInit.nd rfl (.inl rfl)) (pgs_cons (pg_name (i := 7) scBInit.nd rfl (.inl rfl)) pgs_nil)))) (fun _ _ _ _ _ => pts_nil) (fun _ _ _ _ _ => pe_joinK (K := K) rfl pe_str (pe_lst (pa_cons pe_str (pa_cons (pv 8) (pa_cons (pe_callTy call_str_int (by rfl) T.str (by decide +kernel) (pa_cons (pv 9) pa_nil)) (pa_starK (K := K) rfl (pv 7) pa_nil))))))) (pss_cons (ps_fld (pv 0) (pe_tup (StX.pa_star (pe_prop (pv 1) Z.cf.cls Z.prL Z.GL r2 Z.bL .nil pass0 rfl) (pa_cons (pe_joined (.cons pe_str (.cons (pe_fmt (pv 2)) .nil))) (StX.pa_star (pv 5) pa_nil)))) rfl) (pss_cons (ps_fld (pv 0) pe_non rfl) (pss_one (ps_fld (pv 0) pe_dnewK rfl))))))))))))), ?_⟩
    have hooM : OpsAt (Hm x H) C oo l := by
      obtain ⟨dx2, tn, ta, tl, a1, a2, a3, a4⟩ := hoo.ex
      have ne : ∀ {b : Addr} {u : HO}, H b = some u → (∀ B dx, u ≠ .ins B dx []) → b ≠ x := fun {b u} e n c => by
        rw [c, hx] at e
        cases e
        exact n _ _ rfl
      exact ⟨dx2, tn, ta, tl, Hm.of a1 (ne a1 fun _ _ => by intro h; cases h), Hm.of a2 (ne a2 fun _ _ => by intro h; cases h), Hm.of a3 (ne a3 fun _ _ => by intro h; cases h), Hm.of a4 (ne a4 fun _ _ => by intro h; cases h)⟩
    have net : ∀ {b : Addr} {xs : List V}, H b = some (.tup xs) → b ≠ x := fun {b xs} e c => by
      rw [c, hx] at e
      cases e
    have hraM : RulesAt (Hm x H) ra rs := by
      obtain ⟨as, a1, a2⟩ := hra.ex
      exact ⟨as, Hm.of a1 (net a1), paired_map (fun b r ⟨t, u, v⟩ => ⟨t, Hm.of u (net u), Hm.of v (net v)⟩) a2⟩
    have le : ∀ G : Hp, Same (Hm x G) G := fun G b o h => (Hm.some_of h).1
    obtain ⟨dx2, tn, ta, tl, ho, _⟩ := hoo.ex
    refine ⟨_, rfl, .ref oo, _, _, _, true, rfl, .own C, .base (.ins ho Z.cf.cls Z.is.cl Z.is.sp Z.is.tk Z.is.ob), Z.is.k1, _, rfl, if_false_of rfl ?_⟩
    -- arities
    refine ⟨_, rfl, oo, _, _, rfl, ho, oo, l, rfl, hoo, fun d nd => ?_⟩
    have k1 := Kp.same (d := x) (Same.new nd (o := .dK (dkv l)))
    have dx_ : d ≠ x := fun c => by
      rw [c, hx] at nd
      cases nd
    have hx1 := (Same.new nd (o := .dK (dkv l))) _ _ hx
    have hd1 : Hm x (upd H d (.dK (dkv l))) d = some (.dK (dkv l)) := Hm.of upd_same dx_
    generalize upd H d (.dK (dkv l)) = H1 at k1 hx1 hd1 ⊢
    have S1 := k1.hm
    -- is_book
    refine ⟨_, rfl, _, rfl, _, rfl, g, ra, d, l, rs, rfl, hraM.same (S1.trans (le _)), le _ _ _ hd1, ok, fun H2 s2 => ⟨_, rfl, if_false_of rfl ?_⟩⟩
    have k2 := k1.trans (Kp.same s2)
    have hx2 := s2 _ _ hx1
    have hd2 := Same.hm (d := x) s2 _ _ hd1
    -- three fields
    refine ⟨_, rfl, _, rfl, x, B, dx, _, rfl, hx2, bf.cls, bf.n1, by decide, ?_⟩
    have k3 := k2.trans (Kp.upd (o := .ins B dx (putF "_operators" (.ref oo) [])))
    have hx3 : (upd H2 x (.ins B dx (putF "_operators" (.ref oo) []))) x = some (.ins B dx [("_operators", .ref oo)]) := upd_same
    have hd3 := (Kp.upd (o := .ins B dx (putF "_operators" (.ref oo) []))).hm _ _ hd2
    generalize upd H2 x (.ins B dx (putF "_operators" (.ref oo) [])) = H3 at k3 hx3 hd3 ⊢
    refine ⟨_, rfl, _, rfl, x, B, dx, _, rfl, hx3, bf.cls, bf.n2, Nat.le_of_ble_eq_true rfl, ?_⟩
    have k4 := k3.trans (Kp.upd (o := .ins B dx (putF "_goal" (.str g) [("_operators", .ref oo)])))
    have hx4 : (upd H3 x (.ins B dx (putF "_goal" (.str g) [("_operators", .ref oo)]))) x = some (.ins B dx [("_operators", .ref oo), ("_goal", .str g)]) := upd_same
    have hd4 := (Kp.upd (o := .ins B dx (putF "_goal" (.str g) [("_operators", .ref oo)]))).hm _ _ hd3
    generalize upd H3 x (.ins B dx (putF "_goal" (.str g) [("_operators", .ref oo)])) = H4 at k4 hx4 hd4 ⊢
    refine ⟨_, rfl, _, rfl, x, B, dx, _, rfl, hx4, bf.cls, bf.n3, Nat.le_of_ble_eq_true rfl, ?_⟩
    have k5 := k4.trans (Kp.upd (o := .ins B dx (putF "_rules" (.ref ra) [("_operators", .ref oo), ("_goal", .str g)])))
    have hx5 : (upd H4 x (.ins B dx (putF "_rules" (.ref ra) [("_operators", .ref oo), ("_goal", .str g)]))) x = some (.ins B dx [("_operators", .ref oo), ("_goal", .str g), ("_rules", .ref ra)]) := upd_same
    have hd5 := (Kp.upd (o := .ins B dx (putF "_rules" (.ref ra) [("_operators", .ref oo), ("_goal", .str g)]))).hm _ _ hd4
    generalize upd H4 x (.ins B dx (putF "_rules" (.ref ra) [("_operators", .ref oo), ("_goal", .str g)])) = H5 at k5 hx5 hd5 ⊢
    -- nonterminals
    refine ⟨_, rfl, _, rfl, _, rfl, g, ra, d, l, rs, rfl, hraM.same (k5.hm.trans (le _)), le _ _ _ hd5, ok, fun ys na H6 srt ndy mem nna s6 hna => ?_⟩
    have nax : na ≠ x := fun c => by
      rw [c, hx5] at nna
      cases nna
    have k6 := k5.trans (Kp.same s6)
    have hx6 := s6 _ _ hx5
    have hd6 := Same.hm (d := x) s6 _ _ hd5
    have nt6 : NtsAt (Hm x H6) na l g rs := ⟨ys, Hm.of hna nax, srt, ndy, mem⟩
    refine ⟨_, rfl, x, B, dx, _, rfl, hx6, bf.cls, bf.n4, Nat.le_of_ble_eq_true rfl, ?_⟩
    have u7 := (Kp.upd (H := H6) (d := x) (o := .ins B dx (putF "_nonterminals" (.ref na) [("_operators", .ref oo), ("_goal", .str g), ("_rules", .ref ra)])))
    have k7 := k6.trans u7
    have hx7 : (upd H6 x (.ins B dx (putF "_nonterminals" (.ref na) [("_operators", .ref oo), ("_goal", .str g), ("_rules", .ref ra)]))) x = some (.ins B dx [("_operators", .ref oo), ("_goal", .str g), ("_rules", .ref ra), ("_nonterminals", .ref na)]) := upd_same
    have hd7 := u7.hm _ _ hd6
    have nt7 := nt6.same u7.hm
    generalize upd H6 x (.ins B dx (putF "_nonterminals" (.ref na) [("_operators", .ref oo), ("_goal", .str g), ("_rules", .ref ra)])) = H7 at k7 hx7 hd7 nt7 ⊢
    -- patterns
    have hra7 := hraM.same (k7.hm.trans (le _))
    obtain ⟨as, hras, pr⟩ := hra7.ex
    obtain ⟨ts, prt, lts, tsat⟩ := rules_ts pr
    have las : as.length = rs.length := Paired.length pr
    have few := ok.few
    have lm : (as.map V.ref).length = rs.length := by rw [List.length_map, las]
    refine ⟨_, rfl, ra, rfl, ⟨_, SqT.of hras⟩, fun D nD => ?_⟩
    refine lc_tup (K := K) (a := ra) (xs := as.map V.ref) (fun i G => G D = some (.lst ((ts.take i).map V.ref)) ∧ Same H7 G) ⟨upd_same, Same.new nD⟩ (fun i G _ ⟨_, s⟩ => SqT.of (s _ _ hras)) ?_ ?_
    · rintro i y G hy ⟨eD, s⟩
      obtain ⟨b, hb, rfl⟩ := ref_at hy
      obtain ⟨t, r, ht, hr', hbt⟩ := tsat i b hb
      have il := (List.getElem?_eq_some_iff.mp hr').1
      refine ⟨b, _, rfl, SqT.of (s _ _ hbt), rfl, _, _, rfl, _, _, rfl, _, _, rfl, rfl, rfl, _, rfl, _, eD, by rw [List.length_map, List.length_take, sizeLine_eq]; omega, ?_, fun b o q => by rw [upd_ne (ne_of_none q nD)]; exact s b o q⟩
      rw [upd_same, List.take_add_one, ht, List.map_append]
      rfl
    rintro H8 ⟨eD, s8⟩
    rw [List.take_of_length_le (by rw [List.length_map]; omega)] at eD
    have Dx : D ≠ x := fun c => by
      rw [c, hx7] at nD
      cases nD
    have k8 := k7.trans (Kp.same s8)
    have hx8 := s8 _ _ hx7
    have hd8 := Same.hm (d := x) s8 _ _ hd7
    have nt8 := nt7.same (Same.hm (d := x) s8)
    refine ⟨_, rfl, D, d, l, g, rs, ts, rfl, eD, paired_map (fun t r e => s8 _ _ e) prt, le _ _ _ hd8, ok, fun pa H9 npa s9 hpa => ?_⟩
    have pax : pa ≠ x := fun c => by
      rw [c, hx8] at npa
      cases npa
    have k9 := k8.trans (Kp.same s9)
    have hx9 := s9 _ _ hx8
    have nt9 := nt8.same (Same.hm (d := x) s9)
    have pt9 : PartsAt K (Hm x H9) pa l rs := by
      obtain ⟨M, m1, m2, m3⟩ := hpa.ex
      refine ⟨M, Hm.of m1 pax, fun q mq => ?_, m3⟩
      rcases m2 q mq with h | h
      · have nx : q.1 ≠ x := fun c => by
          rw [c] at h
          rcases h with h | ⟨_, h⟩ <;> (rw [hx9] at h; cases h)
        rcases h with h | ⟨od, h⟩
        · exact .inl (.inl (Hm.of h nx))
        · exact .inl (.inr ⟨od, Hm.of h nx⟩)
      · exact .inr h
    refine ⟨_, rfl, x, B, dx, _, rfl, hx9, bf.cls, bf.n5, Nat.le_of_ble_eq_true rfl, ?_⟩
    have uA := (Kp.upd (H := H9) (d := x) (o := .ins B dx (putF "_parts" (.ref pa) [("_operators", .ref oo), ("_goal", .str g), ("_rules", .ref ra), ("_nonterminals", .ref na)])))
    have kA := k9.trans uA
    have hxA : (upd H9 x (.ins B dx (putF "_parts" (.ref pa) [("_operators", .ref oo), ("_goal", .str g), ("_rules", .ref ra), ("_nonterminals", .ref na)]))) x = some (.ins B dx [("_operators", .ref oo), ("_goal", .str g), ("_rules", .ref ra), ("_nonterminals", .ref na), ("_parts", .ref pa)]) := upd_same
    have ntA := nt9.same uA.hm
    have ptA := pt9.same uA.hm
    generalize upd H9 x (.ins B dx (putF "_parts" (.ref pa) [("_operators", .ref oo), ("_goal", .str g), ("_rules", .ref ra), ("_nonterminals", .ref na)])) = HA at kA hxA ntA ptA ⊢
    -- lines of the rules
    have hraA := hraM.same (kA.hm.trans (le _))
    obtain ⟨as, hras, pr⟩ := hraA.ex
    have las : as.length = rs.length := Paired.length pr
    have lm : (as.map V.ref).length = rs.length := by rw [List.length_map, las]
    refine ⟨_, rfl, ra, rfl, ⟨_, SqT.of hras⟩, fun E2 nE => ?_⟩
    refine lc_tup (K := K) (a := ra) (xs := as.map V.ref) (fun i G => G E2 = some (.lst (((rs.take i).map rlS).map V.str)) ∧ Same HA G) ⟨upd_same, Same.new nE⟩ (fun i G _ ⟨_, s⟩ => SqT.of (s _ _ hras)) ?_ ?_
    · rintro i y G hy ⟨eE, s⟩
      obtain ⟨b, hb, rfl⟩ := ref_at hy
      obtain ⟨r, hr', t, hbt, htt⟩ := pget9 pr hb
      have rok := ok.rules r (List.mem_of_getElem? hr')
      have il := (List.getElem?_eq_some_iff.mp hr').1
      have lg : ((r.2.1 : Int)).natAbs.log2 < 1920 := by
        have := rok.price
        exact Nat.lt_of_le_of_lt (Nat.log2_le_self _) (by omega)
      have rf := rok.few
      have lz : (r.2.2.map V.str).length = r.2.2.length := List.length_map _
      refine ⟨b, _, rfl, SqT.of (s _ _ hbt), rfl, _, _, rfl, _, _, rfl, _, _, rfl, rfl, rfl, ?_⟩
      refine ⟨⟨_, rfl⟩, _, rfl, _, rfl, _, rfl, lg, _, rfl, t, _, rfl, .inl (SqT.of (s _ _ htt)), by rw [List.append_nil]; show (r.2.2.map V.str).length + 1 + 1 + 1 ≤ sizeLine; rw [lz, sizeLine_eq]; omega, fun lp nlp => ?_⟩
      have sl := Same.new nlp (o := .lst (V.str "rule" :: V.str r.1 :: V.str (toString (r.2.1 : Int)) :: (r.2.2.map V.str ++ [])))
      refine ⟨" ", lp, ("rule" : Str) :: r.1 :: (Str.ofString (toString (r.2.1 : Int))) :: r.2.2, rfl, rfl, .inl (SqL.of (by rw [upd_same, List.append_nil]; rfl)), ?_, ?_⟩
      · have t1 : (Str.ofString (toString (r.2.1 : Int))).length ≤ 1921 := PyProof.Rows.int_text_len_1921 lg
        have t2 := az_len rok.head
        have t3 : (r.2.2.map (·.length)).sum ≤ 8 * r.2.2.length := sum_az rok.names
        simp only [List.map_cons, List.sum_cons, List.length_cons, show ("rule" : Str).length = 4 from rfl, show (" " : Str).length = 1 from rfl]
        omega
      · refine ⟨_, sl _ _ eE, by rw [List.length_map, List.length_map, List.length_take, sizeLine_eq]; omega, ?_, fun b o q => by rw [upd_ne (ne_of_none q nE)]; exact sl _ _ (s b o q)⟩
        rw [upd_same, List.take_add_one, hr', List.map_append, List.map_append]
        rfl
    rintro HB ⟨eE, sB⟩
    rw [lm, List.take_of_length_le (Nat.le_refl _)] at eE
    have kB := kA.trans (Kp.same sB)
    have hxB := sB _ _ hxA
    have ntB := ntA.same (Same.hm (d := x) sB)
    have ptB := ptA.same (Same.hm (d := x) sB)
    -- all lines
    have hooB := hooM.same (kB.hm.trans (le _))
    obtain ⟨dx3, tn3, ta3, tl3, ho3, _, _, hl3⟩ := hooB.ex
    have o8 := ok.ops.few
    have ga := az_len ok.goal
    refine ⟨_, rfl, oo, _, _, rfl, ho3, oo, l, rfl, hooB, fun tn4 hl4 => ?_⟩
    refine ⟨tn4, _, rfl, .inl (SqT.of hl4), _, rfl, by rw [sizeLine_eq]; exact Nat.le_of_ble_eq_true rfl, _, rfl, .inl ⟨g, rfl, by rw [sizeLine_eq]; omega, _, rfl, by rw [strLen_append, sizeLine_eq, show (Str.empty ++ ("goal " : Str)).length = 5 from rfl]; omega, ?_⟩⟩
    refine ⟨_, rfl, E2, _, rfl, .inr (SqL.of eE), ?_, fun la nla => ?_⟩
    · rw [sizeLine_eq]
      simp only [List.length_append, List.length_cons, List.length_nil, List.length_map]
      omega
    have hla : (upd HB la (.tup (l.map lnV ++ V.str (Str.empty ++ ("goal " : Str) ++ g) :: (((rs.map rlS).map V.str) ++ [])))) la = some (.tup ((bkLines l g rs).map V.str)) := by
      rw [upd_same]
      unfold bkLines goS
      have e : (l.map lnS).map V.str = l.map lnV := by rw [List.map_map]; rfl
      rw [List.map_append, e, List.map_cons, List.append_nil]
    have sC := Same.new nla (o := .tup (l.map lnV ++ V.str (Str.empty ++ ("goal " : Str) ++ g) :: (((rs.map rlS).map V.str) ++ [])))
    have lax : la ≠ x := fun c => by
      rw [c, hxB] at nla
      cases nla
    have kC := kB.trans (Kp.same sC)
    have hxC := sC _ _ hxB
    have ntC := ntB.same (Same.hm (d := x) sC)
    have ptC := ptB.same (Same.hm (d := x) sC)
    have hlC := Hm.of hla lax
    refine ⟨_, rfl, x, B, dx, _, rfl, hxC, bf.cls, bf.n6, Nat.le_of_ble_eq_true rfl, ?_⟩
    generalize upd HB la (.tup (l.map lnV ++ V.str (Str.empty ++ ("goal " : Str) ++ g) :: (((rs.map rlS).map V.str) ++ []))) = HC at kC hxC ntC ptC hlC ⊢
    have uD := (Kp.upd (H := HC) (d := x) (o := .ins B dx (putF "_lines" (.ref la) [("_operators", .ref oo), ("_goal", .str g), ("_rules", .ref ra), ("_nonterminals", .ref na), ("_parts", .ref pa)])))
    have kD := kC.trans uD
    have hxD : (upd HC x (.ins B dx (putF "_lines" (.ref la) [("_operators", .ref oo), ("_goal", .str g), ("_rules", .ref ra), ("_nonterminals", .ref na), ("_parts", .ref pa)]))) x = some (.ins B dx [("_operators", .ref oo), ("_goal", .str g), ("_rules", .ref ra), ("_nonterminals", .ref na), ("_parts", .ref pa), ("_lines", .ref la)]) := upd_same
    have ntD := ntC.same uD.hm
    have ptD := ptC.same uD.hm
    have hlD := uD.hm _ _ hlC
    generalize upd HC x (.ins B dx (putF "_lines" (.ref la) [("_operators", .ref oo), ("_goal", .str g), ("_rules", .ref ra), ("_nonterminals", .ref na), ("_parts", .ref pa)])) = HD at kD hxD ntD ptD hlD ⊢
    refine ⟨_, rfl, x, B, dx, _, rfl, hxD, bf.cls, bf.n7, Nat.le_of_ble_eq_true rfl, ?_⟩
    have uE := (Kp.upd (H := HD) (d := x) (o := .ins B dx (putF "_sides" .non [("_operators", .ref oo), ("_goal", .str g), ("_rules", .ref ra), ("_nonterminals", .ref na), ("_parts", .ref pa), ("_lines", .ref la)])))
    have kE := kD.trans uE
    have hxE : (upd HD x (.ins B dx (putF "_sides" .non [("_operators", .ref oo), ("_goal", .str g), ("_rules", .ref ra), ("_nonterminals", .ref na), ("_parts", .ref pa), ("_lines", .ref la)]))) x = some (.ins B dx [("_operators", .ref oo), ("_goal", .str g), ("_rules", .ref ra), ("_nonterminals", .ref na), ("_parts", .ref pa), ("_lines", .ref la), ("_sides", .non)]) := upd_same
    have ntE := ntD.same uE.hm
    have ptE := ptD.same uE.hm
    have hlE := uE.hm _ _ hlD
    generalize upd HD x (.ins B dx (putF "_sides" .non [("_operators", .ref oo), ("_goal", .str g), ("_rules", .ref ra), ("_nonterminals", .ref na), ("_parts", .ref pa), ("_lines", .ref la)])) = HE at kE hxE ntE ptE hlE ⊢
    refine fun kk nkk => ?_
    have sF := Same.new nkk (o := .dK [])
    refine ⟨_, rfl, x, B, dx, _, rfl, sF _ _ hxE, bf.cls, bf.n8, Nat.le_of_ble_eq_true rfl, ?_⟩
    have uF := (Kp.same (d := x) sF).trans (Kp.upd (H := upd HE kk (.dK [])) (d := x) (o := .ins B dx (putF "_kept" (.ref kk) [("_operators", .ref oo), ("_goal", .str g), ("_rules", .ref ra), ("_nonterminals", .ref na), ("_parts", .ref pa), ("_lines", .ref la), ("_sides", .non)])))
    have kF := kE.trans uF
    refine q _ kF ⟨dx, oo, ra, na, pa, la, kk, upd_same, hooM.same (kF.hm.trans (le _)), hraM.same (kF.hm.trans (le _)), ntE.same (uF.hm.trans (le _)), ptE.same (uF.hm.trans (le _)), le _ _ _ (uF.hm _ _ hlE)⟩ ⟨B, dx, _, upd_same, rfl⟩
end
end Pr
namespace Pr
open PySem PySem.Spec PyProof.Rows L2 Gd
/-! ### what a book tells -/
def spGet (B : Addr) (f : Str) : Sp := fun vs H Q _ => ∃ (o dx : Addr) (fs : List (Str × V)) (v : V), vs = [.ref o] ∧ H o = some (.ins B dx fs) ∧ fs.lookup f = some v ∧ Q v H
theorem ix_tupK {X : Cx} {K : PySem.W.Frag} (h : X.K = K) : IxR X (rIxT K) := h ▸ ix_tup
section
variable {P : Program} {w : World} {K : PySem.W.Frag} {mg : Str → Option Value} {base : Heap} {C B : Addr}
theorem sc_bRules : FnScope ["self"] ["self"] (defScope bRules) := ⟨rfl, rfl, rfl, by decide +kernel, rfl, by decide +kernel, by decide +kernel⟩
theorem ok_bRules {f : Addr} {fd : FuncData} (F : Fun K "rules" "Book.rules" bRules f fd) (bf : BkF K B) : FnOk P w K mg base CX0 1 f fd ["self"] (spGet B "_rules") := by
  refine F.ok sc_bRules (fun vs H Q E h => ?_) (fun cdv A outer s H vs Q E hr h => ?_)
  · obtain ⟨o, dx, fs, v, rfl, _⟩ := h
    rfl
  · obtain ⟨o, dx, fs, v, rfl, ho, hf, q⟩ := h
    exact ⟨_, pss_one (ps_ret (pe_fld (pv 0) rfl)), _, rfl, o, B, dx, fs, v, rfl, ho, bf.cls, bf.n3, hf, q⟩
end
end Pr
namespace Pr
open PySem PySem.Spec PyProof.Rows L2 Gd
/-! ### Book(operators, goal, rules) where it is refused -/
/-- what is known of an own exception -/
structure ExF (K : PySem.W.Frag) (mg : Str → Option Value) (nm : Str) (CE : Addr) : Prop where
  x : PySem.W.excIn K CE [.type "ValueError", .type "Exception", .type "BaseException", .type "object"] "ValueError.__new__" = true
  g : mg nm = some (.ref CE)
  k : PySem.W.keepIn K (.ref CE) = true
  b : PySem.W.subIn K (.ref CE) (.type "BaseException") = some true
  t : PySem.W.typeIn K (.ref CE) = some (.type "type")
/-- a plain value is no instance of the class -/
def NoIns (K : PySem.W.Frag) (C : Addr) : Prop := ∀ ty ∈ (["NoneType", "bool", "int", "str", "list", "tuple", "dict"] : List String), PySem.W.kitOne K (.type ty) (.ref C) = some false
theorem NoIns.of {K : PySem.W.Frag} {C : Addr} (n : NoIns K C) {H : Hp} {v : V} {ty : String} (k : Kd H v ty) : PySem.W.kitOne K (.type ty) (.ref C) = some false := by
  cases k <;> exact n _ (by decide)
theorem RulesR.back {D : List Str} {H H' : Hp} {v : V} {rs : List Rl} (j : Jv D H 3 v) (s : Same H H') (h : RulesR H' v rs) : RulesR H v rs := by
  obtain ⟨a, rfl, hh⟩ := h
  obtain ⟨as, x, p⟩ := hh.ex
  obtain ⟨ty, k⟩ := j.kd
  have x' := k.back s x
  refine ⟨a, rfl, as, x', ?_⟩
  have it := (j.items x').2
  have key : ∀ {as : List Addr} {rs : List Rl}, Paired (fun b r => RuleAt H' b r) as rs → (∀ b ∈ as, Jv D H 2 (.ref b)) → Paired (fun b r => RuleAt H b r) as rs := by
    intro as rs p
    induction p with
    | nil => exact fun _ => .nil
    | @cons b r as rs h p ih =>
      intro k
      obtain ⟨b', e, h'⟩ := RuleAt.back (k b List.mem_cons_self) s ⟨b, rfl, h⟩
      cases e
      exact .cons h' (ih fun c m => k c (List.mem_cons_of_mem _ m))
  exact key p fun b m => it _ (List.mem_map.mpr ⟨b, m, rfl⟩)
theorem BookV.back {D : List Str} {H H' : Hp} {l : List (Str × Nat)} {gv rv : V} (jr : Jv D H 3 rv) (s : Same H H') (h : BookV H' l gv rv) : BookV H l gv rv :=
  let ⟨g, rs, e, r, ok⟩ := h; ⟨g, rs, e, r.back jr s, ok⟩
def spBIno (CO : Addr) : Sp := fun vs H _ E => ∃ (x : Addr) (ov gv rv : V) (ty : String), vs = [.ref x, ov, gv, rv] ∧ Kd H ov ty ∧ ∀ H', Same H H' → E (.ref CO) none H'
def spBIbad (C CB : Addr) : Sp := fun vs H _ E => ∃ (x oo : Addr) (gv rv : V) (D : List Str) (l : List (Str × Nat)), vs = [.ref x, .ref oo, gv, rv] ∧ OpsAt H C oo l ∧ OpsOk l ∧ D.length ≤ 60 ∧ Jv D H 1 gv ∧ Jv D H 3 rv ∧ ¬ BookV H l gv rv ∧ ∀ H', Same H H' → E (.ref CB) none H'
/-- a promise without errors is one with them -/
theorem fn_lift {P : Program} {w : World} {K : PySem.W.Frag} {mg : Str → Option Value} {base : Heap} {CX : CXT} {k : Nat} {f : Addr} {fd : FuncData} {ps : List Str} {sp : Sp} (F : FnOk P w K mg base CX0 k f fd ps sp) : FnOk P w K mg base CX k f fd ps sp where
  len := F.len
  run := fun A outer s H args us vs Q E hr env bind rel h => codeAny_mono (F.run A outer s H args us vs Q E hr env bind rel h) fun r s' q => by
    cases r with
    | error e => exact False.elim q
    | ok fl => cases fl <;> exact q
section
variable {P : Program} {w : World} {K : PySem.W.Frag} {mg : Str → Option Value} {base : Heap} {C B CO CB fB pA gA : Addr} {dB dA : FuncData}
theorem ok_binitno {f : Addr} {fd : FuncData} (F : Fun K "__init__" "Book.__init__" bInit f fd) (T : Free mg) (gO : mg "Operators" = some (.ref C)) (no : NoIns K C) (XO : ExF K mg "InvalidOperators" CO) : FnOk P w K mg base (L2.CX P w) 5 f fd ["self", "operators", "goal", "rules"] (spBIno CO) := by
  refine F.okX scBInit (fun vs H Q E h => ?_) (fun cdv A outer s H vs Q E hr h => ?_)
  · obtain ⟨x, ov, gv, rv, ty, rfl, _⟩ := h
    rfl
  · obtain ⟨x, ov, gv, rv, ty, rfl, kd, q⟩ := h
    refine ⟨_, pss_cons (ps_if (pt_not (pt_val (pe_callB call_isi (by rfl) T.isi (by decide +kernel) (pa_cons (pv 1) (pa_cons (pe_glob (v := .ref C) (by rfl) gO rfl) pa_nil))))) (pss_one (ps_raise rfl (takes_of rfl rfl rfl rfl) (pmk_own PySem.F.excBase_ValueError XO.x XO.g XO.k (raises_own XO.b XO.t) rfl))) pss_nil)
      (pss_cons ps_never (pss_cons ps_never (pss_cons ps_never (pss_cons ps_never (pss_cons ps_never (pss_cons ps_never (pss_cons ps_never (pss_cons ps_never (pss_cons ps_never (pss_cons ps_never (pss_one ps_never))))))))))), ?_⟩
    refine ⟨_, rfl, ov, _, _, _, false, rfl, .own C, kd.ty, no.of kd, _, rfl, if_true_of rfl (q H (Same.refl H))⟩
theorem ok_binitbad {f : Addr} {fd : FuncData} (F : Fun K "__init__" "Book.__init__" bInit f fd) (T : Free mg) (cf : OpF K C) (is : IsF K mg "Operators" C) (GB : FnOk P w K mg base CX0 4 fB dB ["goal", "rules", "arities"] spIsBookG) (bB : Binds K dB ["goal", "rules", "arities"] []) (gB : mg "is_book" = some (.ref fB)) (kB : PySem.W.keepIn K (.ref fB) = true)
    (prA : PropOf K C "arities" pA gA) (GA : FnOk P w K mg base CX0 1 gA dA ["self"] (spPA C)) (bA : Binds K dA ["self"] []) (XB : ExF K mg "InvalidBook" CB) : FnOk P w K mg base (L2.CX P w) 5 f fd ["self", "operators", "goal", "rules"] (spBIbad C CB) := by
  refine F.okX scBInit (fun vs H Q E h => ?_) (fun cdv A outer s H vs Q E hr h => ?_)
  · obtain ⟨x, oo, gv, rv, D, l, rfl, _⟩ := h
    rfl
  · obtain ⟨x, oo, gv, rv, D, l, rfl, hoo, ok, hD, jg, jr, nb, q⟩ := h
    have r2 : Room 2 _ := hr.mono (by decide)
    have r4 : Room 4 _ := hr.mono (by decide)
    refine ⟨_, pss_cons (ps_if (pt_not (pt_val (pe_callB call_isi (by rfl) T.isi (by decide +kernel) (pa_cons (pv 1) (pa_cons (pe_glob (v := .ref C) (by rfl) is.g rfl) pa_nil))))) (pss_one ps_never) pss_nil)
      (pss_cons (ps_set (i := 4) scBInit.nd rfl (.inl rfl) (pe_prop (pv 1) cf.cls prA GA r2 bA .nil pass0 rfl))
      (pss_cons (ps_if (pt_not (pt_val (pe_call GB r4 (by rfl) gB kB bB .nil pass0 (pa_cons (pv 2) (pa_cons (pv 3) (pa_cons (pv 4) pa_nil)))))) (pss_one (ps_raise rfl (takes_of rfl rfl rfl rfl) (pmk_own PySem.F.excBase_ValueError XB.x XB.g XB.k (raises_own XB.b XB.t) rfl))) pss_nil)
      (pss_cons ps_never (pss_cons ps_never (pss_cons ps_never (pss_cons ps_never (pss_cons ps_never (pss_cons ps_never (pss_cons ps_never (pss_cons ps_never (pss_one ps_never))))))))))), ?_⟩
    obtain ⟨dx2, tn, ta, tl, ho, _⟩ := hoo.ex
    refine ⟨_, rfl, .ref oo, _, _, _, true, rfl, .own C, .base (.ins ho cf.cls is.cl is.sp is.tk is.ob), is.k1, _, rfl, if_false_of rfl ?_⟩
    refine ⟨_, rfl, oo, _, _, rfl, ho, oo, l, rfl, hoo, fun d nd => ?_⟩
    have s1 := Same.new nd (o := .dK (dkv l))
    have hd1 : (upd H d (.dK (dkv l))) d = some (.dK (dkv l)) := upd_same
    generalize upd H d (.dK (dkv l)) = H1 at s1 hd1 ⊢
    refine ⟨_, rfl, _, rfl, _, rfl, gv, rv, D, d, l, rfl, hD, jg.same s1, jr.same s1, hd1, ok, fun b H2 s2 hb => ⟨_, rfl, ?_⟩⟩
    cases b with
    | true => exact absurd (BookV.back jr s1 (hb.mp rfl)) nb
    | false => exact if_true_of rfl (q H2 (s1.trans s2))
end
end Pr
namespace Pr
open PySem PySem.Spec PyProof.Rows L2 Gd
/-- a new object, made in a try -/
def tMakeS (C : Addr) (sp : Sp) (E : L2.St → XK) (t : TA) : TE := fun σ H Q => t σ H fun vs H1 => ∀ x dx, H1 x = none → H1 dx = none → dx ≠ x → sp (.ref x :: (vs ++ [])) (upd (upd H1 dx (.own x)) x (.ins C dx [])) (fun v H2 => v = .non ∧ Q (.ref x) H2) (E σ)
section
variable {X : Cx} {CX : CXT} {k : Nat} {C f : Addr} {fd : FuncData} {ps : List Str} {sp : Sp} {x : Str} {p pos : Pos} {e : Expr} {es : List Expr} {t : TA}
theorem run_makeS {pins : List (Addr × Obj)} {σ : L2.St} {H : Hp} {s : Shared} {Q : VK} {E : XK} {us ds : List Value} {vs dvs : List V} (M : Mk X.K C f) (F : FnOk X.prog X.w X.K X.mg X.base CX k f fd ps sp) (hr : Room (k + 1) X.A) (hb : Binds X.K fd ps ds) (hd : Vals dvs ds)
    (hx : PassesAt CX X σ E) (I : Inv X pins σ H s) (r : Vals vs us)
    (h : ∀ x dx, H x = none → H dx = none → dx ≠ x → sp (.ref x :: (vs ++ dvs)) (upd (upd H dx (.own x)) x (.ins C dx [])) (fun v H2 => v = .non ∧ Q (.ref x) H2) E) : wpAny (model X.prog X.w) X.A (call (.ref C) us) (EP X pins σ Q) X.xe s := by
  have hq := h (s.heap.objs.size + 1) s.heap.objs.size (I.hok.fresh (Nat.le_succ _)) (I.hok.fresh (Nat.le_refl _)) (Nat.ne_of_lt (Nat.lt_succ_self _))
  have I2 := Inv.made (C := C) I
  have r2 : Vals (V.ref (s.heap.objs.size + 1) :: (vs ++ dvs)) (Value.ref (s.heap.objs.size + 1) :: (us ++ ds)) := .cons rfl (r.append hd)
  have hl : (Value.ref (s.heap.objs.size + 1) :: us ++ ds).length = ps.length := by
    have e := r2.length
    rw [F.len _ _ _ _ hq] at e
    exact e.symm
  refine wpAny_call (make_map (f := f) I.kIn M.makes M.init (beq_iff_eq.mp M.fn) (codeAny_mono (F.run _ X.stack _ _ ⟨Value.ref (s.heap.objs.size + 1) :: us, []⟩ (Value.ref (s.heap.objs.size + 1) :: (us ++ ds)) _ _ E (hr.make C us [])
    (I2.env0.make C us []) (hb _ (Value.ref (s.heap.objs.size + 1) :: us) I2.kIn hl) r2 hq) fun r s' hq' => ?_))
  cases r with
  | error e => exact hx pins _ _ e s' I2 hq'
  | ok fl =>
    cases fl with
    | ret u =>
      obtain ⟨v, H', I3, rv, ev, q3⟩ := I2.after hq'
      subst ev
      exact ⟨rv, ⟨V.ref (s.heap.objs.size + 1), H', I3, rfl, q3⟩⟩
    | next => exact False.elim hq'
    | brk => exact False.elim hq'
    | cont => exact False.elim hq'
theorem pe_makeS {E : L2.St → XK} (M : Mk X.K C f) (F : FnOk X.prog X.w X.K X.mg X.base CX k f fd ps sp) (hr : Room (k + 1) X.A) (hg : Gl X x) (hm : X.mg x = some (.ref C)) (hb : Binds X.K fd ps []) (hx : ∀ σ, PassesAt CX X σ (E σ))
    (ha : PA X (e :: es) t) (hdb : (x == ("__debug__" : Str)) = false := by decide) (he : starEach (e :: es) X.env = (false, eval e X.env) :: starEach es X.env := by rfl) (hpl : (backTo pos (starEach es X.env)).any (·.1) = false := by rfl) :
    PE X (.Call (.Name x p) (e :: es) [] pos) (tMakeS C sp E t) := by
  refine ⟨fun pins s σ H Q I h => ?_⟩
  refine wpAny_Call_Name_kw (ld_glob I hg hm ?_ hdb)
  refine PySem.W.callWith_K (h₀ := X.base) I.ok.mod.kin M.kp (thn (ha.run pos pins s σ H _ I h) fun us s1 ⟨vs, H1, I1, r, q⟩ => ⟨I1.kIn, ?_⟩) he hpl
  exact run_makeS M F hr hb .nil (hx σ) I1 r q
end
end Pr
namespace Pr
open PySem PySem.Spec PyProof.Rows L2 Gd
/-! ### _law_met -/
def spMetNo : Sp := fun vs H Q _ => ∃ (ov gv rv : V) (ty : String), vs = [ov, gv, rv] ∧ Kd H ov ty ∧ ∀ H', Same H H' → Q (.str "operators") H'
def spMetOk (C : Addr) : Sp := fun vs H Q _ => ∃ (oo : Addr) (gv rv : V) (D : List Str) (l : List (Str × Nat)), vs = [.ref oo, gv, rv] ∧ OpsAt H C oo l ∧ OpsOk l ∧ D.length ≤ 60 ∧ Jv D H 1 gv ∧ Jv D H 3 rv ∧
  ∀ b H', (b = true ↔ BookV H l gv rv) → Same H H' → Q (.str (if b = true then "fine" else "book")) H'
/-- all that Book(..) is asked with -/
def spBAll (K : PySem.W.Frag) (C B CO CB : Addr) : Sp := fun vs H Q E => spBInit K C B vs H Q E ∨ spBIno CO vs H Q E ∨ spBIbad C CB vs H Q E
/-- the class Book in a try -/
structure BkX (P : Program) (w : World) (K : PySem.W.Frag) (mg : Str → Option Value) (base : Heap) (C B CO CB fB pR gR : Addr) (dB dR : FuncData) : Prop where
  MB : Mk K B fB
  gB : mg "Book" = some (.ref B)
  GB : FnOk P w K mg base (L2.CX P w) 5 fB dB ["self", "operators", "goal", "rules"] (spBAll K C B CO CB)
  bB : Binds K dB ["self", "operators", "goal", "rules"] []
  bf : BkF K B
  prR : PropOf K B "rules" pR gR
  GR : FnOk P w K mg base CX0 1 gR dR ["self"] (spGet B "_rules")
  bR : Binds K dR ["self"] []
  XO : ExF K mg "InvalidOperators" CO
  XB : ExF K mg "InvalidBook" CB
  oo : PySem.W.exmOne K (.ref CO) (.ref CO) = some true
  bo : PySem.W.exmOne K (.ref CB) (.ref CO) = some false
  bb : PySem.W.exmOne K (.ref CB) (.ref CB) = some true
section
variable {P : Program} {w : World} {K : PySem.W.Frag} {mg : Str → Option Value} {base : Heap} {C B CO CB fB pR gR : Addr} {dB dR : FuncData}
theorem scMet : FnScope ["operators", "goal", "rules"] ["operators", "goal", "rules"] (defScope sLMet) := ⟨rfl, rfl, rfl, by decide +kernel, rfl, by decide +kernel, by decide +kernel⟩
theorem eqRls {H : Hp} {a b : Addr} {Q : VK} {rs : List Rl} (h : RulesAt H a rs) (h2 : RulesAt H b rs) (ok : ∀ r ∈ rs, azB r.1 = true ∧ ∀ z ∈ r.2.2, azB z = true) (q : Q (.bl true) H) : rEqD K (.ref a) (.ref b) H Q := by
  obtain ⟨as, x, p⟩ := h.ex
  obtain ⟨bs, y, p2⟩ := h2.ex
  refine ⟨_, _, .tup (SqT.of x) (rls_dp p), .tup (SqT.of y) (rls_dp p2), rls_shaped ok, rls_shaped ok, ?_⟩
  rw [SeqAt.eqv_refl _ (SeqAt.canLay_of_shaped (rls_shaped ok))]
  exact q
theorem ok_met {f : Addr} {fd : FuncData} (F : Fun K "_law_met" "_law_met" sLMet f fd) (X : BkX P w K mg base C B CO CB fB pR gR dB dR) : FnOk P w K mg base CX0 7 f fd ["operators", "goal", "rules"] (fun vs H Q E => spMetNo vs H Q E ∨ spMetOk C vs H Q E) := by
  refine F.ok scMet (fun vs H Q E h => ?_) (fun cdv A outer s H vs Q E hr h => ?_)
  · rcases h with ⟨ov, gv, rv, ty, rfl, _⟩ | ⟨oo, gv, rv, D, l, rfl, _⟩ <;> rfl
  · have hu := hr.units
    have r1 : Room 2 _ := hr.mono (by decide)
    refine ⟨_, pss_one (ps_try_many (tb := fun W => tRet (tIf (tTest (tOp (rEqD K) (tProp B (spGet B "_rules") [] E0 (tMakeS B (spBAll K C B CO CB) (WE W) (tCons (tVar 0) (tCons (tVar 1) (tCons (tVar 2) tNil))))) (tVar 2))) (tC (.str "fine")) (tC (.str "other")))) (Wout := fun _ _ _ _ => False) rfl rfl takes0
      (fun W pn xe tk _ => pss_one (ps_ret (by exact (pe_ifExp (pt_cmpR (op_eqD hu) (pe_prop (pe_makeS X.MB X.GB hr rfl X.gB X.bB (fun σ => passAt tk σ) (by exact (pa_cons (pv 0) (pa_cons (pv 1) (pa_cons (pv 2) pa_nil))))) X.bf.cls X.prR X.GR r1 X.bR .nil pass0 rfl) (pv 2) (nomark _)) pe_str pe_str))))
      (.cons (c := .ref CO) ⟨rfl, by decide, Or.inl X.XO.g⟩ (fun a oe cls d pn hz hf => pss_one (ps_ret pe_str)) (.cons (c := .ref CB) ⟨rfl, by decide, Or.inl X.XB.g⟩ (fun a oe cls d pn hz hf => pss_one (ps_ret pe_str)) .nil))), ?_⟩
    rcases h with ⟨ov, gv, rv, ty, rfl, kd, q⟩ | ⟨oo, gv, rv, D, l, rfl, hoo, ok, hD, jg, jr, q⟩
    · refine ⟨_, rfl, _, rfl, _, rfl, fun x dx nx ndx ne => ?_⟩
      have s0 : Same H (upd (upd H dx (.own x)) x (.ins B dx [])) := (Same.new ndx).trans (Same.new (by rw [upd_ne ne.symm]; exact nx))
      exact .inr (.inl ⟨x, ov, gv, rv, ty, rfl, kd.same s0, fun H' s' => ⟨true, X.oo, fun _ a _ => q H' (s0.trans s'), fun z => Bool.noConfusion z⟩⟩)
    · refine ⟨_, rfl, _, rfl, _, rfl, fun x dx nx ndx ne => ?_⟩
      have s0 : Same H (upd (upd H dx (.own x)) x (.ins B dx [])) := (Same.new ndx).trans (Same.new (by rw [upd_ne ne.symm]; exact nx))
      have kx : ∀ {H' : Hp}, Kp x (upd (upd H dx (.own x)) x (.ins B dx [])) H' → Same H H' := fun {H'} k b u e => k b u (ne_of_none e nx) (s0 b u e)
      by_cases cb : BookV H l gv rv
      · obtain ⟨g, rs, rfl, ⟨ra, rfl, hra⟩, bok⟩ := id cb
        refine .inl ⟨x, dx, oo, ra, g, l, rs, rfl, upd_same, hoo.same s0, hra.same s0, bok, fun H' kp bk _ => ⟨rfl, ?_⟩⟩
        have s1 := kx kp
        obtain ⟨dx2, oo2, ra2, na, pa, la, kk, h1, h2, h3, _⟩ := bk.ex
        refine ⟨x, dx2, _, rfl, h1, x, dx2, _, .ref ra2, rfl, h1, rfl, ?_⟩
        refine ⟨_, rfl, ?_⟩
        refine eqRls h3 (hra.same s1) (fun r m => ⟨(bok.rules r m).head, (bok.rules r m).names⟩) ?_
        refine ⟨_, rfl, ?_⟩
        exact if_true_of rfl (q true H' ⟨fun _ => cb, fun _ => rfl⟩ s1)
      · refine .inr (.inr ⟨x, oo, gv, rv, D, l, rfl, hoo.same s0, ok, hD, jg.same s0, jr.same s0, fun h => cb (BookV.back jr s0 h), fun H' s' => ⟨false, X.bo, fun z => Bool.noConfusion z, fun _ => ⟨true, X.bb, fun _ a _ => ?_, fun z => Bool.noConfusion z⟩⟩⟩)
        exact q false H' ⟨fun e => (nomatch e), fun h => (cb h).elim⟩ (s0.trans s')
end
end Pr
namespace Pr
open PySem PySem.Spec PyProof.Rows L2 Gd
/-! ### lists beside lists: the same items, or another length -/
theorem eq_self {A : Around} {s : Shared} {H : Hp} {v : V} {t : String} {u u' : Value} (k : Kd H v t) (r : RelV v u) (r' : RelV v u') : SeqAt.EqAt A s u u' true := by
  cases k with
  | non => exact eqAt_same r r' rfl
  | bl b => exact eqAt_same r r' rfl
  | int i => exact eqAt_same r r' rfl
  | str z => exact eqAt_same r r' rfl
  | _ =>
    cases (show u = Value.ref _ from r)
    cases (show u' = Value.ref _ from r')
    exact SeqAt.EqAt.same _
theorem eq_items {A : Around} {s : Shared} {H : Hp} : ∀ {xs : List V} {us ws : List Value}, (∀ v ∈ xs, ∃ t, Kd H v t) → Vals xs us → Vals xs ws → ∀ j (h1 : j < us.length) (h2 : j < ws.length), SeqAt.EqAt A s us[j] ws[j] true
  | _, _, _, _, .nil, .nil, j, h1, _ => absurd h1 (Nat.not_lt_zero j)
  | _, _, _, k, .cons r _, .cons r' _, 0, _, _ => by
    obtain ⟨t, kt⟩ := k _ List.mem_cons_self
    exact eq_self kt r r'
  | _, _, _, k, .cons _ t, .cons _ t', j + 1, h1, h2 => eq_items (fun v m => k v (List.mem_cons_of_mem _ m)) t t' j (Nat.lt_of_succ_lt_succ h1) (Nat.lt_of_succ_lt_succ h2)
def rNeL (K : PySem.W.Frag) : R2 := fun x y H Q => ∃ a b xs ys, x = .ref a ∧ y = .ref b ∧ SqL K H a xs ∧ SqL K H b ys ∧ (xs.length ≠ ys.length ∧ Q (.bl true) H ∨ xs = ys ∧ (∀ v ∈ xs, ∃ t, Kd H v t) ∧ Q (.bl false) H)
def rEqL (K : PySem.W.Frag) : R2 := fun x y H Q => ∃ a b xs ys, x = .ref a ∧ y = .ref b ∧ SqL K H a xs ∧ SqL K H b ys ∧ (xs.length ≠ ys.length ∧ Q (.bl false) H ∨ xs = ys ∧ (∀ v ∈ xs, ∃ t, Kd H v t) ∧ Q (.bl true) H)
theorem op_neL {X : Cx} (hu : X.A.units + 64 < cLine) : OpR X (compareOp .NotEq) (rNeL X.K) := by
  intro pins s σ H x y v u Q I rx ry h
  obtain ⟨a, b, xs, ys, rfl, rfl, ha, hb, q⟩ := h
  cases (show v = Value.ref a from rx)
  cases (show u = Value.ref b from ry)
  obtain ⟨us, r1, p1, _⟩ := I.list ha
  obtain ⟨ws, r2, p2, _⟩ := I.list hb
  rcases q with ⟨ne, q⟩ | ⟨rfl, k, q⟩
  · have hsz : (us.toArray.size != ws.toArray.size) = true := by
      rw [List.size_toArray, List.size_toArray, ← r1.length, ← r2.length]
      exact bne_iff_ne.mpr ne
    exact SeqAt.RcNeAt.lists_lengths p1.isList p2.isList hsz (A := X.A) (s := s) (by omega) X.prog X.w _ _ ⟨.bl true, H, I, rfl, q⟩
  · have hsz : us.toArray.size = ws.toArray.size := by
      rw [List.size_toArray, List.size_toArray, ← r1.length, ← r2.length]
    have z := SeqAt.RcNeAt.lists (e := fun _ => true) p1.isList p2.isList hsz (A := X.A) (s := s) (by omega) (fun j h1 h2 => by
      have e := eq_items (A := X.A.in1) (s := s) k r1 r2 j (by simpa using h1) (by simpa using h2)
      simpa using e)
    rw [show ((List.range us.toArray.size).all fun _ => true) = true from List.all_eq_true.mpr fun _ _ => rfl] at z
    exact z X.prog X.w _ _ ⟨.bl false, H, I, rfl, q⟩
theorem op_eqL {X : Cx} (hu : X.A.units + 64 < cLine) : OpR X (compareOp .Eq) (rEqL X.K) := by
  intro pins s σ H x y v u Q I rx ry h
  obtain ⟨a, b, xs, ys, rfl, rfl, ha, hb, q⟩ := h
  cases (show v = Value.ref a from rx)
  cases (show u = Value.ref b from ry)
  obtain ⟨us, r1, p1, _⟩ := I.list ha
  obtain ⟨ws, r2, p2, _⟩ := I.list hb
  rcases q with ⟨ne, q⟩ | ⟨rfl, k, q⟩
  · have hsz : (us.toArray.size != ws.toArray.size) = true := by
      rw [List.size_toArray, List.size_toArray, ← r1.length, ← r2.length]
      exact bne_iff_ne.mpr ne
    exact SeqAt.RcAt.lists_lengths p1.isList p2.isList hsz (A := X.A) (s := s) (by omega) X.prog X.w _ _ ⟨.bl false, H, I, rfl, q⟩
  · have hsz : us.toArray.size = ws.toArray.size := by
      rw [List.size_toArray, List.size_toArray, ← r1.length, ← r2.length]
    have z := SeqAt.RcAt.lists (e := fun _ => true) p1.isList p2.isList hsz (A := X.A) (s := s) (by omega) (fun j h1 h2 => by
      have e := eq_items (A := X.A.in1) (s := s) k r1 r2 j (by simpa using h1) (by simpa using h2)
      simpa using e)
    rw [show ((List.range us.toArray.size).all fun _ => true) = true from List.all_eq_true.mpr fun _ _ => rfl] at z
    exact z X.prog X.w _ _ ⟨.bl true, H, I, rfl, q⟩
/-! ### comprehensions that choose -/
section
variable {K : PySem.W.Frag} {a D : Addr} {xs : List V} {tt : TT} {i : Nat} {σ : L2.St} {H1 : Hp} {Qd : Hp → Prop}
theorem filt_step (p : V → Bool) {k : Nat} {x : V} (h : xs[k]? = some x) : (xs.take (k + 1)).filter p = (xs.take k).filter p ++ (if p x then [x] else []) := by
  rw [List.take_add_one, h, List.filter_append]
  cases e : p x <;> simp [e]
theorem filt_len (p : V → Bool) {k : Nat} : ((xs.take k).filter p).length ≤ xs.length := by
  refine Nat.le_trans (List.length_filter_le _ _) ?_
  rw [List.length_take]
  exact Nat.min_le_right _ _
theorem filt_turn (p : V → Bool) (hi : i < σ.length) (nD : H1 D = none) (few : xs.length < sizeLine) (hs : ∀ x ∈ xs, ∀ G, Same H1 G → ∀ R : Bool → Hp → Prop, R (p x) G → tt ((σ.set i none).set i (some x)) G R) :
    ∀ k x G, xs[k]? = some x → (G D = some (.lst ((xs.take k).filter p)) ∧ Same H1 G) → gName i x (wipe σ [i]) G fun σ2 H2 => wipe σ2 [i] = wipe σ [i] ∧ tt σ2 H2 fun b H3 =>
      if b = true then tVar i σ2 H3 fun y H4 => ∃ acc, H4 D = some (.lst acc) ∧ acc.length < sizeLine ∧ ((upd H4 D (.lst (acc ++ [y]))) D = some (.lst ((xs.take (k + 1)).filter p)) ∧ Same H1 (upd H4 D (.lst (acc ++ [y])))) else (H3 D = some (.lst ((xs.take (k + 1)).filter p)) ∧ Same H1 H3) := by
  intro k x G hx h
  obtain ⟨eD, s⟩ := h
  refine ⟨?_, ?_⟩
  · show (((σ.set i none).set i (some x)).set i none) = σ.set i none
    rw [List.set_set, List.set_set]
  · refine hs x (List.mem_of_getElem? hx) G s _ ?_
    have e := filt_step (xs := xs) p hx
    by_cases c : p x = true
    · rw [if_pos c] at e ⊢
      refine ⟨x, ?_, _, eD, Nat.lt_of_le_of_lt (filt_len p) few, ?_, ?_⟩
      · show ((σ.set i none).set i (some x))[i]? = some (some x)
        rw [List.getElem?_set_self (by rw [List.length_set]; exact hi)]
      · rw [upd_same, e]
      · exact fun b u q => by
          rw [upd_ne (ne_of_none q nD)]
          exact s b u q
    · rw [if_neg c] at e ⊢
      rw [e, List.append_nil]
      exact ⟨eD, s⟩
theorem lc_filtT (p : V → Bool) (hi : i < σ.length) (ht : ∀ G, Same H1 G → SqT K G a xs) (nD : H1 D = none) (few : xs.length < sizeLine)
    (hs : ∀ x ∈ xs, ∀ G, Same H1 G → ∀ R : Bool → Hp → Prop, R (p x) G → tt ((σ.set i none).set i (some x)) G R) (hd : ∀ G, G D = some (.lst (xs.filter p)) → Same H1 G → Qd G) :
    ∃ W : Nat → Nat → Hp → Prop, (∃ m, W 0 m (upd H1 D (.lst []))) ∧ ∀ k m H, W k m H →
      ((Itt K a).stop k H ∧ Qd H) ∨ ((Itt K a).go k H ∧ ∃ Nx : Hp → Prop, (∀ H', Nx H' → ∃ m', m' < m ∧ W (k + 1) m' H') ∧ ∀ x H', (Itt K a).yld k H x H' → gName i x (wipe σ [i]) H' fun σ2 H2 => wipe σ2 [i] = wipe σ [i] ∧ tt σ2 H2 fun b H3 =>
        if b = true then tVar i σ2 H3 fun y H4 => ∃ acc, H4 D = some (.lst acc) ∧ acc.length < sizeLine ∧ Nx (upd H4 D (.lst (acc ++ [y]))) else Nx H3) := by
  refine lc_tup (K := K) (a := a) (xs := xs) (fun k G => G D = some (.lst ((xs.take k).filter p)) ∧ Same H1 G) ⟨upd_same, Same.new nD⟩ (fun k G _ ⟨_, s⟩ => ht G s) (filt_turn p hi nD few hs) ?_
  rintro G ⟨eD, s⟩
  rw [List.take_length] at eD
  exact hd G eD s
theorem lc_filtL (p : V → Bool) (hi : i < σ.length) (ht : ∀ G, Same H1 G → SqL K G a xs) (nD : H1 D = none) (few : xs.length < sizeLine)
    (hs : ∀ x ∈ xs, ∀ G, Same H1 G → ∀ R : Bool → Hp → Prop, R (p x) G → tt ((σ.set i none).set i (some x)) G R) (hd : ∀ G, G D = some (.lst (xs.filter p)) → Same H1 G → Qd G) :
    ∃ W : Nat → Nat → Hp → Prop, (∃ m, W 0 m (upd H1 D (.lst []))) ∧ ∀ k m H, W k m H →
      ((Itl K a).stop k H ∧ Qd H) ∨ ((Itl K a).go k H ∧ ∃ Nx : Hp → Prop, (∀ H', Nx H' → ∃ m', m' < m ∧ W (k + 1) m' H') ∧ ∀ x H', (Itl K a).yld k H x H' → gName i x (wipe σ [i]) H' fun σ2 H2 => wipe σ2 [i] = wipe σ [i] ∧ tt σ2 H2 fun b H3 =>
        if b = true then tVar i σ2 H3 fun y H4 => ∃ acc, H4 D = some (.lst acc) ∧ acc.length < sizeLine ∧ Nx (upd H4 D (.lst (acc ++ [y]))) else Nx H3) := by
  refine lc_list (K := K) (a := a) (xs := xs) (fun k G => G D = some (.lst ((xs.take k).filter p)) ∧ Same H1 G) ⟨upd_same, Same.new nD⟩ (fun k G _ ⟨_, s⟩ => ht G s) (filt_turn p hi nD few hs) ?_
  rintro G ⟨eD, s⟩
  rw [List.take_length] at eD
  exact hd G eD s
end
end Pr
namespace Pr
open PySem PySem.Spec PyProof.Rows L2 Gd
theorem take_all {l : List Nat} {p : Nat → Bool} {i c : Nat} (h : l[i]? = some c) : (l.take (i + 1)).all p = ((l.take i).all p && p c) := by
  rw [List.take_add_one, h, List.all_append]
  simp
/-- the signs that are no small letters -/
def offs (l : List Nat) : List V := (l.filter fun c => !azC c).map fun c => .str ⟨#[c]⟩
theorem offs_len (l : List Nat) : (offs l).length ≤ l.length := by
  unfold offs
  rw [List.length_map]
  exact List.length_filter_le _ _
theorem offs_more {l : List Nat} {i c : Nat} (h : l[i]? = some c) : offs (l.take (i + 1)) = offs (l.take i) ++ (if azC c then [] else [.str ⟨#[c]⟩]) := by
  unfold offs
  rw [List.take_add_one, h, List.filter_append, List.map_append]
  cases e : azC c <;> simp [e]
theorem offs_empty (l : List Nat) : l.all azC = (offs l).isEmpty := by
  unfold offs
  induction l with
  | nil => rfl
  | cons c r ih =>
    cases e : azC c
    · simp [e]
    · simp only [List.all_cons, e, Bool.true_and, ih]
      simp [e]
/-! ### list('..') -/
def signsV (z : Str) : List V := z.cps.toList.map fun c => .str ⟨#[c]⟩
theorem vals_at : ∀ {xs : List V} {us : List Value}, xs.length = us.length → (∀ (i : Nat) (x : V) (u : Value), xs[i]? = some x → us[i]? = some u → RelV x u) → Vals xs us
  | [], [], _, _ => .nil
  | [], _ :: _, h, _ => by simp at h
  | _ :: _, [], h, _ => by simp at h
  | x :: xs, u :: us, h, k => .cons (k 0 x u rfl rfl) (vals_at (by simpa using h) fun i y v a b => k (i + 1) y v (by simpa using a) (by simpa using b))
theorem call_list_text {X : Cx} (hc : X.calm = true) : CallR X (.type "list") (fun vs H Q => ∃ z, vs = [.str z] ∧ z.length ≤ 1000 ∧ ∀ l, H l = none → Q (.ref l) (upd H l (.lst (signsV z)))) := by
  intro pins s σ H vs us Q I r h
  obtain ⟨z, rfl, hz, q⟩ := h
  obtain ⟨u, rfl, t, rfl⟩ := vals1 r
  have hz2 : z.cps.size ≤ 1000 := hz
  refine call_list_str (I.ok.hd hc) z t (fun h' tk acc c keep at_ items => ?_) (by rw [sizeLine_eq]; omega)
  have hf : H s.heap.objs.size = none := I.hok.fresh (Nat.le_refl _)
  refine ⟨.ref s.heap.objs.size, upd H s.heap.objs.size (.lst (signsV z)), I.laid keep (Nat.le_refl _) ?_, rfl, q _ hf⟩
  refine ⟨by rw [sizeLine_eq]; simp [signsV]; omega, acc.toList, c, vals_at (by simp [signsV, items.1]) fun i x u a b => ?_, by simpa using at_⟩
  obtain ⟨k, u', hk, rfl⟩ := items.2 i u (by simpa using b)
  have e : (signsV z)[i]? = some (.str ⟨#[k]⟩) := by
    unfold signsV
    rw [List.getElem?_map, Array.getElem?_toList, hk]
    rfl
  rw [e] at a
  cases a
  exact ⟨u', rfl⟩
end Pr
namespace Pr
open PySem PySem.Spec PyProof.Rows L2 Gd
/-! ### _law_is_word, _law_is_figure, _law_pattern_end -/
theorem op_notIn_seqK {X : Cx} {K : PySem.W.Frag} (h : X.K = K) : OpR X (compareOp .NotIn) (rIn K true) := h ▸ op_notIn_seq
def spLWord : Sp := fun vs H Q _ => ∃ (v : V) (t : String), vs = [v] ∧ Kd H v t ∧ (∀ z, v = .str z → z.length ≤ 1000000) ∧ ∀ H', Same H H' → Q (.bl (nameB v)) H'
def abc : Str := "abcdefghijklmnopqrstuvwxyz"
theorem abc_in (c : Nat) : inV (.str ⟨#[c]⟩) (signsV abc) = azC c := by
  have e : inV (.str ⟨#[c]⟩) (signsV abc) = (abc.cps.toList.contains c) := by
    unfold inV signsV
    rw [List.any_map, List.contains_eq_any_beq]
    congr 1
    funext d
    show ((⟨#[d]⟩ : Str) == ⟨#[c]⟩) = (c == d)
    by_cases k : c = d
    · rw [k]; simp
    · rw [beq_eq_false_iff_ne.mpr k]
      refine beq_eq_false_iff_ne.mpr fun h => k ?_
      injection h with h
      injection h with h
      injection h with h
      exact h.symm
  rw [e, show abc.cps.toList = (List.range 26).map (97 + ·) by decide +kernel]
  unfold azC
  by_cases h1 : 97 ≤ c ∧ c ≤ 122
  · rw [decide_eq_true h1.1, decide_eq_true h1.2, Bool.and_true, List.contains_iff_mem]
    exact List.mem_map.mpr ⟨c - 97, List.mem_range.mpr (by omega), by omega⟩
  · have e2 : (decide (97 ≤ c) && decide (c ≤ 122)) = false := by
      rw [Bool.and_eq_false_iff, decide_eq_false_iff_not, decide_eq_false_iff_not]
      omega
    rw [e2, Bool.eq_false_iff]
    intro h
    obtain ⟨k, mk, ek⟩ := List.mem_map.mp (List.contains_iff_mem.mp h)
    have := List.mem_range.mp mk
    omega
section
variable {P : Program} {w : World} {K : PySem.W.Frag} {mg : Str → Option Value} {base : Heap}
theorem scLWord : FnScope ["value", "letter"] ["value"] (defScope sLIsWord) := ⟨rfl, rfl, rfl, by decide +kernel, rfl, by decide +kernel, by decide +kernel⟩
theorem ok_lword {f : Addr} {fd : FuncData} (F : Fun K "_law_is_word" "_law_is_word" sLIsWord f fd) (T : Free mg) : FnOk P w K mg base CX0 1 f fd ["value"] spLWord := by
  refine F.ok scLWord (fun vs H Q E h => ?_) (fun cdv A outer s H vs Q E hr h => ?_)
  · obtain ⟨v, t, rfl, _⟩ := h
    rfl
  · obtain ⟨v, t, rfl, kd, hz, q⟩ := h
    have hu := hr.units
    have hu1 : ∀ {u : Nat}, u + 64 < cLine → u + 1 < cLine := fun h => by omega
    refine ⟨_, (pss_cons (ps_if (PW.pt (pw_or (pt_not (pt_val (pe_callB call_isi (by rfl) T.isi (by decide +kernel) (pa_cons (pv 0) (pa_cons (pe_bltn (v := .ty "str") (by rfl) T.str (by decide +kernel) rfl) pa_nil))))) (pw_or1 (pt_not (pt_chain op_lt op_lt pe_int (pe_callB call_len_str (by rfl) T.len PySem.boot_len (pa_cons (pv 0) pa_nil)) pe_int))))) (pss_one (ps_ret pe_bl)) pss_nil) (pss_one (ps_ret (pe_cmpR (op_eqE hu) (pe_lc (own := [("letter", 1)]) (g := gName 1) (by rfl) scLWord.nd (pi_str (pv 0)) (blkOk_by (own := [("letter", 1)]) (N := ["value", "letter"]) (sc := defScope sLIsWord) (by decide +kernel)) (fun _ _ _ _ _ => pg_name (i := 1) scLWord.nd rfl (.inl rfl)) (fun _ _ _ _ _ => pts_one (pt_cmpR (op_notIn_seqK (K := K) rfl) (pv 1) (pe_callTy (call_list_text rfl) (by rfl) T.list (by decide +kernel) (pa_cons pe_str pa_nil)) (by with_unfolding_all rfl))) (fun _ _ _ _ _ => pv 1)) (pe_lst pa_nil) (nomark _))))), ?_⟩
    refine ⟨_, rfl, v, _, _, _, _, rfl, .ty "str", kd.ty, kit_str kd, _, rfl, ?_⟩
    cases kd with
    | str z =>
      have l := hz z rfl
      refine if_false_of rfl ⟨_, rfl, z, rfl, by rw [sizeLine_eq]; omega, _, _, rfl, rfl, _, rfl, ite2 (fun c1 => ?_) (fun c1 => ?_)⟩
      · have l1 : 1 ≤ z.length := by
          have := of_decide_eq_true c1
          omega
        refine ⟨_, _, rfl, rfl, _, rfl, ite2 (fun c2 => ?_) (fun c2 => ?_)⟩
        · have l8 : ¬ z.length ≤ 8 := fun h => by
            rw [decide_eq_true (show (z.length : Int) < 9 by omega)] at c2
            cases c2
          have e : nameB (.str z) = false := by
            show (_ && _ && _) = false
            rw [decide_eq_false l8, Bool.and_false, Bool.false_and]
          rw [e] at q
          exact q _ (Same.refl _)
        · have l8 : z.length ≤ 8 := by
            rcases Nat.lt_or_ge 8 z.length with h | h
            · exact absurd (by rw [decide_eq_false (show ¬ (z.length : Int) < 9 by omega)]; rfl) c2
            · exact h
          -- the signs that are none
          refine ⟨_, rfl, z, rfl, fun D nD => lc_signs (x := z) (fun i H' => H' D = some (.lst (offs (z.cps.toList.take i))) ∧ Same H H') ⟨upd_same, Same.new nD⟩ ?_ ?_⟩
          · rintro i c H' hc ⟨e, s'⟩
            have hc' : z.cps.toList[i]? = some c := by simpa using hc
            have il : i < z.length := (Array.getElem?_eq_some_iff.mp hc).1
            have az := abc_in c
            refine ⟨rfl, _, rfl, _, rfl, by decide, fun p np => ⟨p, _, rfl, .inl (SqL.of upd_same), rfl, ?_, _, rfl, ?_⟩⟩
            · unfold signsV
              rw [List.all_map]
              exact List.all_eq_true.mpr fun _ _ => rfl
            have sp := Same.new np (o := .lst (signsV abc))
            have e1 := sp _ _ e
            have s1 := s'.trans sp
            show (if (if true = true then !inV (.str ⟨#[c]⟩) (signsV abc) else inV (.str ⟨#[c]⟩) (signsV abc)) = true then _ else _)
            rw [if_pos rfl, az]
            cases ea : azC c with
            | true =>
              refine if_false_of rfl ⟨?_, s1⟩
              rw [offs_more hc', ea]
              rw [if_pos rfl, List.append_nil]
              exact e1
            | false =>
              refine if_true_of rfl ⟨_, rfl, _, e1, Nat.lt_of_le_of_lt (offs_len _) (small1000 (by rw [List.length_take]; omega)), ?_, fun b u h => ?_⟩
              · rw [upd_same, offs_more hc', ea]
                rfl
              · rw [upd_ne (ne_of_none h nD)]
                exact s1 b u h
          · rintro H' ⟨e, s'⟩
            have et : z.cps.toList.take z.cps.size = z.cps.toList := List.take_of_length_le (by simp)
            rw [et] at e
            refine ⟨by decide, fun p np => ⟨D, p, _, rfl, rfl, SqL.of ((Same.new np) _ _ e), SqL.of upd_same, ?_⟩⟩
            have e2 : nameB (.str z) = (offs z.cps.toList).isEmpty := by
              show (_ && _ && _) = _
              rw [decide_eq_true l1, decide_eq_true l8, Bool.true_and, Bool.true_and, offs_empty]
            rw [← e2]
            exact q _ (s'.trans (Same.new np))
      · have e : nameB (.str z) = false := by
          show (_ && _ && _) = false
          rw [decide_eq_false (show ¬ 1 ≤ z.length from fun h => c1 (decide_eq_true (by omega))), Bool.false_and, Bool.false_and]
        rw [e] at q
        exact ⟨_, rfl, iteT (q _ (Same.refl _))⟩
    | _ => exact if_true_of rfl (q _ (Same.refl _))
/-- a figure from 0 to top -/
def figB (v : V) (top : Int) : Bool := match v with
  | .int i => decide (0 ≤ i) && decide (i ≤ top)
  | _ => false
def spFig : Sp := fun vs H Q _ => ∃ (v : V) (t : String) (n : Int), vs = [v, .int n] ∧ Kd H v t ∧ Q (.bl (figB v n)) H
theorem scFig : FnScope ["value", "top"] ["value", "top"] (defScope sLIsFigure) := ⟨rfl, rfl, rfl, by decide +kernel, rfl, by decide +kernel, by decide +kernel⟩
theorem ok_fig {f : Addr} {fd : FuncData} (F : Fun K "_law_is_figure" "_law_is_figure" sLIsFigure f fd) (T : Free mg) : FnOk P w K mg base CX0 1 f fd ["value", "top"] spFig := by
  refine F.ok scFig (fun vs H Q E h => ?_) (fun cdv A outer s H vs Q E hr h => ?_)
  · obtain ⟨v, t, n, rfl, _⟩ := h
    rfl
  · obtain ⟨v, t, n, rfl, kd, q⟩ := h
    have hu := hr.units
    refine ⟨_, (pss_one (ps_ret (pe_and (pe_callB call_isi (by rfl) T.isi (by decide +kernel) (pa_cons (pv 0) (pa_cons (pe_bltn (v := .ty "int") (by rfl) T.int (by decide +kernel) rfl) pa_nil))) (pe_and (pe_not (pe_callB call_isi (by rfl) T.isi (by decide +kernel) (pa_cons (pv 0) (pa_cons (pe_bltn (v := .ty "bool") (by rfl) T.bool (by decide +kernel) rfl) pa_nil)))) (pe_one (pe_chain op_le op_le pe_int (pv 0) (pv 1))))))), ?_⟩
    refine ⟨_, rfl, v, _, _, _, _, rfl, .ty "int", kd.ty, kit_int kd, _, rfl, ?_⟩
    cases kd with
    | int i =>
      refine iteT ⟨_, rfl, _, _, _, _, _, rfl, .ty "bool", (Kd.int i).ty, kit_bool (Kd.int (H := H) i), _, rfl, _, rfl, iteT ?_⟩
      refine ⟨_, rfl, 0, i, rfl, rfl, _, rfl, ?_⟩
      by_cases c : (0 : Int) ≤ i
      · refine if_true_of (decide_eq_true c) ⟨_, rfl, i, n, rfl, rfl, ?_⟩
        have e : figB (.int i) n = decide (i ≤ n) := by
          show (decide (0 ≤ i) && decide (i ≤ n)) = _
          rw [decide_eq_true c, Bool.true_and]
        rw [e] at q
        exact q
      · refine if_false_of (decide_eq_false c) ?_
        have e : figB (.int i) n = false := by
          show (decide (0 ≤ i) && decide (i ≤ n)) = _
          rw [decide_eq_false c, Bool.false_and]
        rw [e] at q
        exact q
    | bl b => exact iteT ⟨_, rfl, _, _, _, _, _, rfl, .ty "bool", (Kd.bl b).ty, kit_bool (Kd.bl (H := H) b), _, rfl, _, rfl, iteF q⟩
    | _ => exact iteF q
end
end Pr
namespace Pr
open PySem PySem.Spec PyProof.Rows L2 Gd
/-! ### _law_pattern_end, _law_is_rule -/
def spLPE : Sp := fun vs H Q _ => ∃ (d t : Addr) (l : List (Str × Nat)) (ws : List Str), vs = [.ref d, .ref t] ∧ H d = some (.dK (dkv l)) ∧ H t = some (.tup (ws.map V.str)) ∧ ∀ i : Int, (i = 0 ↔ Wh (ar l) 1 ws) → Q (.int i) H
def spLRuleG : Sp := fun vs H Q _ => ∃ (v : V) (D : List Str) (d : Addr) (l : List (Str × Nat)), vs = [.ref d, v] ∧ Jv D H 2 v ∧ H d = some (.dK (dkv l)) ∧ OpsOk l ∧ ∀ b H', Same H H' → (b = true ↔ RuleV H l v) → Q (.bl b) H'
/-- the words of a value that are none -/
def noNames (xs : List V) : List V := xs.filter fun x => !nameB x
theorem noNames_step {xs : List V} {i : Nat} {x : V} (h : xs[i]? = some x) : noNames (xs.take (i + 1)) = noNames (xs.take i) ++ (if nameB x then [] else [x]) := by
  unfold noNames
  rw [List.take_add_one, h, List.filter_append]
  cases e : nameB x <;> simp [e]
theorem noNames_nil {xs : List V} : noNames xs = [] ↔ ∀ x ∈ xs, nameB x = true := by
  unfold noNames
  rw [List.filter_eq_nil_iff]
  refine forall_congr' fun x => imp_congr_right fun _ => ?_
  cases nameB x <;> simp
section
variable {P : Program} {w : World} {K : PySem.W.Frag} {mg : Str → Option Value} {base : Heap}
theorem scLPE : FnScope ["arities", "words", "wanted", "word"] ["arities", "words"] (defScope sLPatternEnd) := ⟨rfl, rfl, rfl, by decide +kernel, rfl, by decide +kernel, by decide +kernel⟩
theorem ok_lpe {f : Addr} {fd : FuncData} (F : Fun K "_law_pattern_end" "_law_pattern_end" sLPatternEnd f fd) : FnOk P w K mg base CX0 1 f fd ["arities", "words"] spLPE := by
  refine F.ok scLPE (fun vs H Q E h => ?_) (fun cdv A outer s H vs Q E hr h => ?_)
  · obtain ⟨d, t, l, ws, rfl, _⟩ := h
    rfl
  · obtain ⟨d, t, l, ws, rfl, hd, ht, q⟩ := h
    have hu := hr.units
    have hu1 : ∀ {u : Nat}, u + 64 < cLine → u + 1 < cLine := fun h => by omega
    refine ⟨_, (pss_cons (ps_set (i := 2) scLPE.nd rfl (.inl rfl) pe_int) (pss_cons (ps_for PassesOwn.never rfl (pi_tup (pv 1)) (pg_name (i := 3) scLPE.nd rfl (.inl rfl)) (pss_cons (ps_if (pt_cmpR op_eq (pv 2) pe_int (nomark _)) (pss_one (ps_ret (pe_op op_sub pe_int pe_int))) pss_nil) (pss_one (ps_set (i := 2) scLPE.nd rfl (.inl rfl) (pe_op op_add (pe_op op_sub (pv 2) pe_int) (pe_dget2 (hu1 hu) (pv 0) (pv 3) pe_int ⟨by rfl, by rfl, by rfl, by rfl⟩)))))) (pss_one (ps_ret (pv 2))))), ?_⟩
    refine ⟨_, rfl, t, rfl, ⟨_, SqT.of ht⟩, ?_⟩
    have lw : (ws.map V.str).length = ws.length := List.length_map _
    refine for_tup (K := K) (a := t) (xs := ws.map V.str) (fun i σ G => ∃ (m : Nat) (v3 : Option V), σ = [some (.ref d), some (.ref t), some (.int (m : Int)), v3] ∧ G = H ∧ (Wh (ar l) 1 ws ↔ Wh (ar l) m (ws.drop i)))
      ⟨1, none, rfl, rfl, by rw [List.drop_zero]⟩ (fun i σ G _ ⟨_, _, _, e, _⟩ => by rw [e]; exact SqT.of ht) ?_ ?_
    · rintro i x σ G hx ⟨m, v3, rfl, rfl, iff⟩
      obtain ⟨z, hz, rfl⟩ := str_at hx
      have lt := (List.getElem?_eq_some_iff.mp hz).1
      have ed : ws.drop i = z :: ws.drop (i + 1) := by
        rw [List.drop_eq_getElem_cons lt]
        congr 1
        exact (List.getElem?_eq_some_iff.mp hz).2
      rw [ed] at iff
      refine ⟨_, rfl, rfl, _, rfl, ?_⟩
      cases m with
      | zero => exact if_true_of rfl ⟨0, 1, rfl, rfl, q (0 - 1) ⟨fun e => absurd e (by decide), fun h => (iff.mp h).elim⟩⟩
      | succ m =>
        refine if_false_of (decide_eq_false fun e => by have := V.int.inj e; omega) ?_
        refine ⟨_, rfl, _, _, rfl, rfl, _, rfl, d, rfl, .inl ⟨_, .inl hd⟩, _, rfl, _, DGet.k (k := .inr z) hd, ?_⟩
        rw [ar_getD]
        refine ⟨_, _, rfl, rfl, m + ar l z, some (.str z), ?_, rfl, iff⟩
        show ([some (V.ref d), some (V.ref t), some (V.int (((m + 1 : Nat) : Int) - 1 + (ar l z : Int))), some (V.str z)] : L2.St) = _
        rw [show ((m + 1 : Nat) : Int) - 1 + (ar l z : Int) = ((m + ar l z : Nat) : Int) by omega]
    · rintro σ G ⟨m, v3, rfl, rfl, iff⟩
      rw [lw, List.drop_length] at iff
      exact ⟨_, rfl, q _ (by rw [iff]; show ((m : Int) = 0) ↔ (m = 0); omega)⟩
variable {fW fI fE : Addr} {dW dI dE : FuncData}
/-- the law's small judges -/
structure LJ (K : PySem.W.Frag) (mg : Str → Option Value) (fW fI fE : Addr) (dW dI dE : FuncData) : Prop where
  FW : Fun K "_law_is_word" "_law_is_word" sLIsWord fW dW
  bW : Binds K dW ["value"] []
  gW : mg "_law_is_word" = some (.ref fW)
  FI : Fun K "_law_is_figure" "_law_is_figure" sLIsFigure fI dI
  bI : Binds K dI ["value", "top"] []
  gI : mg "_law_is_figure" = some (.ref fI)
  FE : Fun K "_law_pattern_end" "_law_pattern_end" sLPatternEnd fE dE
  bE : Binds K dE ["arities", "words"] []
  gE : mg "_law_pattern_end" = some (.ref fE)
theorem scLRule : FnScope ["arities", "value", "word"] ["arities", "value"] (defScope sLIsRule) := ⟨rfl, rfl, rfl, by decide +kernel, rfl, by decide +kernel, by decide +kernel⟩
theorem ok_lrule {f : Addr} {fd : FuncData} (F : Fun K "_law_is_rule" "_law_is_rule" sLIsRule f fd) (T : Free mg) (L : LJ K mg fW fI fE dW dI dE) : FnOk P w K mg base CX0 2 f fd ["arities", "value"] spLRuleG := by
  have GW : FnOk P w K mg base CX0 1 fW dW ["value"] spLWord := ok_lword L.FW T
  have GI : FnOk P w K mg base CX0 1 fI dI ["value", "top"] spFig := ok_fig L.FI T
  have GE : FnOk P w K mg base CX0 1 fE dE ["arities", "words"] spLPE := ok_lpe L.FE
  refine F.ok scLRule (fun vs H Q E h => ?_) (fun cdv A outer s H vs Q E hr h => ?_)
  · obtain ⟨v, D, d, l, rfl, _⟩ := h
    rfl
  · obtain ⟨v, D0, d, l, rfl, j, hd, oo, q⟩ := h
    have hu := hr.units
    have hu1 : ∀ {u : Nat}, u + 64 < cLine → u + 1 < cLine := fun h => by omega
    refine ⟨_, (pss_cons (ps_if (PW.pt (pw_or (pt_not (pt_val (pe_callB call_isi (by rfl) T.isi (by decide +kernel) (pa_cons (pv 1) (pa_cons (pe_bltn (v := .ty "tuple") (by rfl) T.tuple (by decide +kernel) rfl) pa_nil))))) (pw_or (pt_cmpR op_ne (pe_callB call_len_seq (by rfl) T.len PySem.boot_len (pa_cons (pv 1) pa_nil)) pe_int (nomark _)) (pw_or (pt_not (pt_val (pe_call GW hr (by rfl) L.gW L.FW.kp L.bW .nil pass0 (pa_cons (pe_ix (ix_tupK (K := K) rfl) (pv 1) pe_int (fun _ _ => rfl)) pa_nil)))) (pw_or1 (pt_cmp (pc_din (hu1 hu) (pe_ix (ix_tupK (K := K) rfl) (pv 1) pe_int (fun _ _ => rfl)) (pv 0)))))))) (pss_one (ps_ret pe_bl)) pss_nil) (pss_cons (ps_if (PW.pt (pw_or (pt_not (pt_val (pe_call GI hr (by rfl) L.gI L.FI.kp L.bI .nil pass0 (pa_cons (pe_ix (ix_tupK (K := K) rfl) (pv 1) pe_int (fun _ _ => rfl)) (pa_cons pe_int pa_nil))))) (pw_or (pt_not (pt_val (pe_callB call_isi (by rfl) T.isi (by decide +kernel) (pa_cons (pe_ix (ix_tupK (K := K) rfl) (pv 1) pe_int (fun _ _ => rfl)) (pa_cons (pe_bltn (v := .ty "tuple") (by rfl) T.tuple (by decide +kernel) rfl) pa_nil))))) (pw_or1 (pt_not (pt_chain op_lt op_lt pe_int (pe_callB call_len_seq (by rfl) T.len PySem.boot_len (pa_cons (pe_ix (ix_tupK (K := K) rfl) (pv 1) pe_int (fun _ _ => rfl)) pa_nil)) pe_int)))))) (pss_one (ps_ret pe_bl)) pss_nil) (pss_cons (ps_if (PW.pt (pw_or (pt_cmpR (op_neL hu) (pe_lc (own := [("word", 2)]) (g := gName 2) (by rfl) scLRule.nd (pi_tup (pe_ix (ix_tupK (K := K) rfl) (pv 1) pe_int (fun _ _ => rfl))) (blkOk_by (own := [("word", 2)]) (N := ["arities", "value", "word"]) (sc := defScope sLIsRule) (by decide +kernel)) (fun _ _ _ _ _ => pg_name (i := 2) scLRule.nd rfl (.inl rfl)) (fun _ _ _ _ _ => pts_one (pt_not (pt_val (pe_call GW hr (by rfl) L.gW L.FW.kp L.bW .nil pass0 (pa_cons (pv 2) pa_nil))))) (fun _ _ _ _ _ => pv 2)) (pe_lst pa_nil) (nomark _)) (pw_or1 (pt_cmpR (op_eqD hu) (pe_ix (ix_tupK (K := K) rfl) (pv 1) pe_int (fun _ _ => rfl)) (pe_tup (pa_cons (pe_ix (ix_tupK (K := K) rfl) (pv 1) pe_int (fun _ _ => rfl)) pa_nil)) (nomark _))))) (pss_one (ps_ret pe_bl)) pss_nil) (pss_one (ps_ret (pe_cmpR op_eq (pe_call GE hr (by rfl) L.gE L.FE.kp L.bE .nil pass0 (pa_cons (pv 0) (pa_cons (pe_ix (ix_tupK (K := K) rfl) (pv 1) pe_int (fun _ _ => rfl)) pa_nil))) pe_int (nomark _))))))), ?_⟩
    obtain ⟨ty, kd⟩ := j.kd
    have no : ¬ RuleV H l v → ∀ H', Same H H' → Q (.bl false) H' := fun n H' s => q false H' s ⟨fun e => (nomatch e), fun h => (n h).elim⟩
    rcases kd.split with ne | ⟨rfl, a, xs, rfl, ha⟩
    · refine ⟨_, rfl, v, _, _, _, _, rfl, .ty "tuple", kd.ty, kit_tupB kd, _, rfl, ?_⟩
      rw [beq_eq_false_iff_ne.mpr ne]
      exact if_true_of rfl (no (fun ⟨r, ⟨b, e, t, h, _⟩, _⟩ => kd.no_tup ne e h) H (Same.refl H))
    refine ⟨_, rfl, .ref a, _, _, _, true, rfl, .ty "tuple", tyR (.inl ha), kit_ty (r := true) (by decide +kernel), _, rfl, if_false_of rfl ?_⟩
    refine ⟨_, rfl, a, _, rfl, .inr (SqT.of ha), rfl, _, rfl, ?_⟩
    have it := j.items ha
    by_cases c3 : xs.length = 3
    case neg =>
      refine if_true_of (by rw [decide_eq_false (fun e => c3 (by have := V.int.inj e; omega))]; rfl) (no (fun h => ?_) H (Same.refl H))
      obtain ⟨z, n, ws, t, e, _⟩ := h.items ha
      exact c3 (by rw [e]; rfl)
    obtain ⟨x0, x1, x2, rfl⟩ : ∃ a b c, xs = [a, b, c] := by
      match xs, c3 with
      | [a, b, c], _ => exact ⟨a, b, c, rfl⟩
    refine if_false_of rfl ?_
    have j0 := it.2 x0 (by simp)
    have j1 := it.2 x1 (by simp)
    have j2 := it.2 x2 (by simp)
    obtain ⟨t0, k0⟩ := j0.kd
    obtain ⟨t1, k1⟩ := j1.kd
    obtain ⟨t2, k2⟩ := j2.kd
    -- value[0]
    refine ⟨_, rfl, a, _, 0, x0, rfl, rfl, SqT.of ha, rfl, x0, t0, rfl, k0, fun y e => Nat.le_trans (j0.str_ y e) (by decide), fun H1 s1 => ⟨_, rfl, ?_⟩⟩
    cases c0 : nameB x0 with
    | false =>
      refine if_true_of rfl (no (fun h => ?_) H1 s1)
      obtain ⟨z, n, ws, t, e, _, ok⟩ := h.items ha
      injection e with e _
      rw [e] at c0
      have : azB z = true := ok.head
      rw [show nameB (.str z) = azB z from rfl, this] at c0
      cases c0
    | true => ?_
    obtain ⟨h, rfl, ok_h⟩ : ∃ h, x0 = .str h ∧ azB h = true := by
      cases x0 with
      | str z => exact ⟨z, rfl, c0⟩
      | _ => cases c0
    refine if_false_of rfl ?_
    have ha1 := s1 _ _ ha
    have hd1 := s1 _ _ hd
    refine ⟨_, rfl, a, _, 0, .str h, rfl, rfl, SqT.of ha1, rfl, _, rfl, d, _, rfl, DGet.k (k := .inr h) hd1, _, rfl, ?_⟩
    cases cn : (valV (dkv l) (.inr h : Key)).isSome with
    | true =>
      refine if_true_of rfl (no (fun hh => ?_) H1 s1)
      obtain ⟨z, n, ws, t, e, _, ok⟩ := hh.items ha
      injection e with e _
      cases e
      exact ok.new (val_mem_iff.mp cn)
    | false => ?_
    have ok_new : h ∉ l.map (·.1) := fun m => by
      rw [val_mem_iff.mpr m] at cn
      cases cn
    refine if_false_of rfl ?_
    -- value[1]
    refine ⟨_, rfl, a, _, 1, x1, rfl, rfl, SqT.of ha1, rfl, x1, t1, 9, rfl, k1.same s1, _, rfl, ?_⟩
    cases ci : figB x1 9 with
    | false =>
      refine if_true_of rfl (no (fun hh => ?_) H1 s1)
      obtain ⟨z, n, ws, t, e, _, ok⟩ := hh.items ha
      injection e with _ e
      injection e with e _
      have l9 : n ≤ 9 := ok.price
      rw [e] at ci
      have : (decide ((0 : Int) ≤ (n : Int)) && decide ((n : Int) ≤ 9)) = true := by
        rw [decide_eq_true (by omega), decide_eq_true (by omega)]
        rfl
      rw [show figB (.int (n : Int)) 9 = (decide ((0 : Int) ≤ (n : Int)) && decide ((n : Int) ≤ 9)) from rfl, this] at ci
      cases ci
    | true => ?_
    obtain ⟨n, rfl, n9⟩ : ∃ n : Nat, x1 = .int n ∧ n ≤ 9 := by
      cases x1 with
      | int i =>
        have : (decide ((0 : Int) ≤ i) && decide (i ≤ 9)) = true := ci
        rw [Bool.and_eq_true, decide_eq_true_eq, decide_eq_true_eq] at this
        exact ⟨i.toNat, by rw [Int.toNat_of_nonneg this.1], by omega⟩
      | _ => cases ci
    refine if_false_of rfl ?_
    -- value[2]
    refine ⟨_, rfl, a, _, 2, x2, rfl, rfl, SqT.of ha1, rfl, x2, _, _, _, _, rfl, .ty "tuple", (k2.same s1).ty, kit_tupB (k2.same s1), _, rfl, ?_⟩
    rcases k2.split with ne | ⟨rfl, t, ys, rfl, ht⟩
    · rw [beq_eq_false_iff_ne.mpr ne]
      refine if_true_of rfl (no (fun hh => ?_) H1 s1)
      obtain ⟨z, m, ws, t, e, ht, ok⟩ := hh.items ha
      injection e with _ e
      injection e with _ e
      injection e with e _
      exact k2.no_tup ne e ht
    refine if_false_of rfl ?_
    have ht1 := s1 _ _ ht
    -- what a rule is, once its items are known
    have iff0 : RuleV H l (.ref a) ↔ ∃ ws, ys = ws.map V.str ∧ RlOk l (h, n, ws) := by
      constructor
      · intro hh
        obtain ⟨z, m, us, t', e, ht', ok⟩ := hh.items ha
        injection e with e1 e
        injection e with e2 e
        injection e with e3 _
        cases e1
        cases e3
        have e4 : n = m := by have := V.int.inj e2; omega
        exact ⟨us, tup_one ht ht', by rw [e4]; exact ok⟩
      · rintro ⟨ws, rfl, ok⟩
        exact ⟨(h, n, ws), ⟨a, rfl, t, ha, ht⟩, ok⟩
    refine ⟨_, rfl, a, _, 2, .ref t, rfl, rfl, SqT.of ha1, rfl, t, _, rfl, .inr (SqT.of ht1), _, _, rfl, rfl, _, rfl, ?_⟩
    by_cases cl : 1 ≤ ys.length ∧ ys.length ≤ 7
    case neg =>
      have nr : ¬ RuleV H l (.ref a) := fun hh => by
        obtain ⟨ws, rfl, ok⟩ := iff0.mp hh
        rw [List.length_map] at cl
        exact cl ⟨ok.some_, ok.few⟩
      by_cases c00 : 1 ≤ ys.length
      · exact if_true_of (decide_eq_true (by omega)) ⟨_, _, rfl, rfl, _, rfl, if_true_of (by rw [decide_eq_false (by omega)]; rfl) (no nr H1 s1)⟩
      · exact if_false_of (decide_eq_false (by omega)) ⟨_, rfl, if_true_of rfl (no nr H1 s1)⟩
    obtain ⟨ok_s, ok_f⟩ := cl
    refine if_true_of (decide_eq_true (by omega)) ⟨_, _, rfl, rfl, _, rfl, if_false_of (by rw [decide_eq_true (by omega)]; rfl) ?_⟩
    -- its words
    refine ⟨_, rfl, a, _, 2, .ref t, rfl, rfl, SqT.of ha1, rfl, t, rfl, ⟨_, SqT.of ht1⟩, fun D nD => ?_⟩
    refine lc_tup (K := K) (a := t) (xs := ys) (fun i G => G D = some (.lst (noNames (ys.take i))) ∧ Same H1 G) ⟨upd_same, Same.new nD⟩ (fun i G _ ⟨_, s⟩ => SqT.of (s _ _ ht1)) ?_ ?_
    · rintro i x G hx ⟨eD, s⟩
      have jx := (j2.items ht).2 x (List.mem_of_getElem? hx)
      obtain ⟨tx, kx⟩ := jx.kd
      refine ⟨rfl, _, rfl, x, tx, rfl, (kx.same s1).same s, fun y e => Nat.le_trans (jx.str_ y e) (by decide), fun G' s' => ⟨_, rfl, ?_⟩⟩
      cases e : nameB x with
      | true => exact if_false_of rfl ⟨by rw [noNames_step hx, e]; simpa using s' _ _ eD, s.trans s'⟩
      | false =>
        refine if_true_of rfl ⟨_, rfl, _, s' _ _ eD, ?_, by rw [upd_same, noNames_step hx, e]; rfl, fun b u q => by rw [upd_ne (ne_of_none q nD)]; exact s' _ _ (s b u q)⟩
        have := List.length_filter_le (fun x => !nameB x) (ys.take i)
        rw [List.length_take] at this
        refine small1000 (Nat.le_trans this ?_)
        omega
    rintro G ⟨eD, s2⟩
    rw [List.take_length] at eD
    refine ⟨by decide, fun p np => ?_⟩
    have eD' := (Same.new np (o := .lst [])) _ _ eD
    have s3 := (s1.trans s2).trans (Same.new np (o := .lst []))
    have hp : (upd G p (.lst [])) p = some (.lst []) := upd_same
    generalize upd G p (.lst []) = H3 at eD' s3 hp ⊢
    by_cases nn : noNames ys = []
    case neg =>
      refine ⟨D, p, _, _, rfl, rfl, SqL.of eD', SqL.of hp, .inl ⟨fun e => nn (List.eq_nil_of_length_eq_zero e), _, rfl, if_true_of rfl (no (fun hh => ?_) H3 s3)⟩⟩
      obtain ⟨ws, rfl, ok⟩ := iff0.mp hh
      refine nn (noNames_nil.mpr fun x m => ?_)
      obtain ⟨z, mz, rfl⟩ := List.mem_map.mp m
      exact ok.names z mz
    refine ⟨D, p, _, _, rfl, rfl, SqL.of eD', SqL.of hp, .inr ⟨nn, (fun v m => by rw [nn] at m; cases m), _, rfl, if_false_of rfl ?_⟩⟩
    obtain ⟨ws, rfl, ok_n⟩ := names_of (noNames_nil.mp nn)
    rw [List.length_map] at ok_s ok_f
    have iff1 : RuleV H l (.ref a) ↔ RlOk l (h, n, ws) := by
      rw [iff0]
      constructor
      · rintro ⟨us, e, ok⟩
        rw [(List.map_inj_right (fun a b h => V.str.inj h)).mp e]
        exact ok
      · exact fun ok => ⟨ws, rfl, ok⟩
    have ha3 := s3 _ _ ha
    have ht3 := s3 _ _ ht
    have hd3 := s3 _ _ hd
    refine ⟨_, rfl, a, _, 2, .ref t, rfl, rfl, SqT.of ha3, rfl, _, rfl, a, _, 0, .str h, rfl, rfl, SqT.of ha3, rfl, by show 1 ≤ sizeLine; decide, fun p1 np1 => ?_⟩
    have n1 := Same.new np1 (o := .tup [.str h])
    have s4 := s3.trans n1
    refine eqTx (xs := ws) (ys := [h]) (SqT.of (n1 _ _ ht3)) (SqT.of upd_same) ok_n (fun z m => by rw [List.mem_singleton.mp m]; exact ok_h) ⟨_, rfl, ?_⟩
    generalize upd H3 p1 (.tup [.str h]) = H4 at n1 s4 ⊢
    by_cases co : ws = [h]
    · exact if_true_of (decide_eq_true co) (no (fun hh => (iff1.mp hh).other co) H4 s4)
    refine if_false_of (decide_eq_false co) ?_
    refine ⟨_, rfl, _, rfl, a, _, 2, .ref t, rfl, rfl, SqT.of (s4 _ _ ha), rfl, d, t, l, ws, rfl, s4 _ _ hd, s4 _ _ ht, fun i hi => ⟨rfl, q _ H4 s4 ?_⟩⟩
    rw [decide_eq_true_eq, iff1]
    constructor
    · intro e
      exact ⟨ok_h, ok_new, by show n ≤ 9; omega, ok_s, ok_f, ok_n, co, hi.mp (V.int.inj e)⟩
    · intro ok
      rw [hi.mpr ok.whole]
end
end Pr
namespace Pr
open PySem PySem.Spec PyProof.Rows L2 Gd
/-! ### a book as the law's own dict -/
def plK (la : Addr) (g : Str) (ra : Addr) : List (Key × V) := [((.inr ("arities" : Str) : Key), V.ref la), (.inr ("goal" : Str), .str g), (.inr ("rules" : Str), .ref ra)]
theorem key_ag : ¬ (Sum.inr (Str.ofString "arities") : Key) = .inr (Str.ofString "goal") := by decide +kernel
theorem key_ar : ¬ (Sum.inr (Str.ofString "arities") : Key) = .inr (Str.ofString "rules") := by decide +kernel
theorem key_gr : ¬ (Sum.inr (Str.ofString "goal") : Key) = .inr (Str.ofString "rules") := by decide +kernel
theorem pl_ar {la ra : Addr} {g : Str} : valV (plK la g ra) (.inr ("arities" : Str) : Key) = some (.ref la) := valV_pos rfl
theorem pl_go {la ra : Addr} {g : Str} : valV (plK la g ra) (.inr ("goal" : Str) : Key) = some (.str g) := by
  unfold plK
  rw [valV_neg key_ag, valV_pos rfl]
theorem pl_ru {la ra : Addr} {g : Str} : valV (plK la g ra) (.inr ("rules" : Str) : Key) = some (.ref ra) := by
  unfold plK
  rw [valV_neg key_ar, valV_neg key_gr, valV_pos rfl]
theorem pl_put {la ra : Addr} {g g' : Str} : putK (plK la g ra) (.inr ("goal" : Str) : Key) (.str g') = plK la g' ra := by
  unfold putK plK
  refine Eq.trans (if_pos (List.any_eq_true.mpr ⟨((.inr (Str.ofString "goal") : Key), V.str g), List.mem_cons_of_mem _ List.mem_cons_self, decide_eq_true rfl⟩)) ?_
  show [(if (Sum.inr (Str.ofString "arities") : Key) = .inr (Str.ofString "goal") then ((Sum.inr (Str.ofString "arities") : Key), V.str g') else (.inr (Str.ofString "arities"), .ref la)), (if (Sum.inr (Str.ofString "goal") : Key) = .inr (Str.ofString "goal") then ((Sum.inr (Str.ofString "goal") : Key), V.str g') else (.inr (Str.ofString "goal"), .str g)),
    (if (Sum.inr (Str.ofString "rules") : Key) = .inr (Str.ofString "goal") then ((Sum.inr (Str.ofString "rules") : Key), V.str g') else (.inr (Str.ofString "rules"), .ref ra))] = _
  rw [if_neg key_ag, if_pos rfl, if_neg fun e => key_gr e.symm]
structure PlainAt (H : Hp) (d : Addr) (l : List (Str × Nat)) (g : Str) (rs : List Rl) : Prop where
  ex : ∃ (la ra : Addr) (as : List Addr), H d = some (.dK (plK la g ra)) ∧ H la = some (.dK (dkv l)) ∧ H ra = some (.lst (as.map V.ref)) ∧ Paired (fun b r => RuleAt H b r) as rs
theorem PlainAt.same {H H' : Hp} {d : Addr} {l : List (Str × Nat)} {g : Str} {rs : List Rl} (h : PlainAt H d l g rs) (s : Same H H') : PlainAt H' d l g rs := let ⟨la, ra, as, a, b, c, e⟩ := h.ex; ⟨la, ra, as, s _ _ a, s _ _ b, s _ _ c, paired_map (fun _ _ k => k.same s) e⟩
/-! ### books do not hang on the order of the operators -/
theorem val_perm {l l' : List (Str × Nat)} (nd : (l.map (·.1)).Nodup) (p : l'.Perm l) (z : Str) : valV (dkv l') (.inr z : Key) = valV (dkv l) (.inr z : Key) := by
  have nd' : (l'.map (·.1)).Nodup := (p.map _).nodup_iff.mpr nd
  cases e : valV (dkv l) (.inr z : Key) with
  | none =>
    have n : z ∉ l.map (·.1) := fun m => by
      have := val_mem_iff.mpr m
      rw [e] at this
      cases this
    exact val_none fun m => n ((p.map _).mem_iff.mp m)
  | some v =>
    obtain ⟨n, rfl, m⟩ := val_nat e
    exact val_some nd' (p.mem_iff.mpr m)
theorem ar_perm {l l' : List (Str × Nat)} (nd : (l.map (·.1)).Nodup) (p : l'.Perm l) : ar l' = ar l := funext fun z => by
  unfold ar
  rw [val_perm nd p]
theorem isNt_perm {l l' : List (Str × Nat)} (p : l'.Perm l) {g : Str} {rs : List Rl} {z : Str} : isNt l' g rs z ↔ isNt l g rs z := by
  unfold isNt
  rw [(p.map (·.1)).mem_iff]
theorem isPart_perm {l l' : List (Str × Nat)} (nd : (l.map (·.1)).Nodup) (p : l'.Perm l) {rs : List Rl} {ws : List Str} : isPart l' rs ws ↔ isPart l rs ws := by
  unfold isPart
  rw [ar_perm nd p]
  constructor
  · rintro ⟨r, m, i, z, h, k, e⟩
    exact ⟨r, m, i, z, h, (p.map (·.1)).mem_iff.mp k, e⟩
  · rintro ⟨r, m, i, z, h, k, e⟩
    exact ⟨r, m, i, z, h, (p.map (·.1)).mem_iff.mpr k, e⟩
theorem BkOk.perm {l l' : List (Str × Nat)} {g : Str} {rs : List Rl} (h : BkOk l g rs) (p : l'.Perm l) : BkOk l' g rs := by
  have mm : ∀ z, z ∈ l'.map (·.1) ↔ z ∈ l.map (·.1) := fun z => (p.map (·.1)).mem_iff
  refine ⟨⟨by rw [p.length_eq]; exact h.ops.few, (p.map _).nodup_iff.mpr h.ops.nd, fun x m => h.ops.name x (p.mem_iff.mp m), fun x m => h.ops.two x (p.mem_iff.mp m)⟩, h.goal, fun m => h.gnew ((mm _).mp m), h.few, fun r m => ?_, h.nd, ?_⟩
  · have k := h.rules r m
    exact ⟨k.head, fun m => k.new ((mm _).mp m), k.price, k.some_, k.few, k.names, k.other, by rw [ar_perm h.ops.nd p]; exact k.whole⟩
  · obtain ⟨D, a, b⟩ := h.six
    exact ⟨D, a, fun z q => b z ((isNt_perm p).mp q)⟩
end Pr
namespace Pr
open PySem PySem.Spec PyProof.Rows L2 Gd
/-! ### Operators(arities), arities that are let -/
def spInitV (C : Addr) : Sp := fun vs H Q _ => ∃ (x dx a : Addr) (l : List (Str × Nat)), vs = [.ref x, .ref a] ∧ H x = some (.ins C dx []) ∧ H a = some (.dK (dkv l)) ∧ OpsOk l ∧
  ∀ (l' : List (Str × Nat)) (ta : Addr) (H' : Hp), l'.Perm l → sortedS (l'.map (·.1)) = true → Kp x H H' → OpsAt H' C x l' → FldAt H' x "_arities" (.ref ta) → H ta = none → Q .non H'
section
variable {P : Program} {w : World} {K : PySem.W.Frag} {mg : Str → Option Value} {base : Heap} {C fA : Addr} {dA : FuncData}
theorem ok_initV {f : Addr} {fd : FuncData} (F : Fun K "__init__" "Operators.__init__" mInit f fd) (T : Free mg) (CF : OpF K C) (GA : FnOk P w K mg base CX0 2 fA dA ["value"] spAre7) (FA : Fun K "are_arities" "are_arities" sAre fA dA) (bA : Binds K dA ["value"] []) (gA : mg "are_arities" = some (.ref fA)) :
    FnOk P w K mg base CX0 3 f fd ["self", "arities"] (spInitV C) := by
  refine F.ok scInit (fun vs H Q E h => ?_) (fun cdv A outer s H vs Q E hr h => ?_)
  · obtain ⟨x, dx, a, l, rfl, _⟩ := h
    rfl
  · obtain ⟨x, dx, a, l, rfl, hx, ha, ok, q0⟩ := h
    have hu := hr.units
    have hu1 : ∀ {u : Nat}, u + 64 < cLine → u + 1 < cLine := fun h => by omega
    refine ⟨_, pss_cons (ps_if (pt_not (pt_val (pe_call GA hr (by rfl) gA FA.kp bA .nil pass0 (pa_cons (pv 1) pa_nil)))) (pss_one ps_never) pss_nil) (pss_cons (ps_fld (pv 0) (pe_callTy call_tuple_of (by rfl) T.tuple (by decide +kernel) (pa_cons (pe_callB (call_sortedD (by rfl)) (by rfl) T.sorted (by decide +kernel) (pa_cons (pv 1) pa_nil)) pa_nil)) rfl) (pss_cons (ps_fld (pv 0) (pe_dc (own := [("name", 2)]) (g := gName 2) (by rfl) scInit.nd (pi_tup (pe_fld (pv 0) rfl)) (blkOk_by (own := [("name", 2)]) (N := ["self", "arities", "name", "told"]) (sc := defScope mInit) (by decide +kernel)) (fun _ _ _ _ _ => pg_name (i := 2) scInit.nd rfl (Or.inl rfl)) (fun _ _ _ _ _ => pts_nil) (fun _ _ _ _ _ => pv 2) (fun _ _ _ _ _ => pe_dget (hu1 hu) (pv 1) (pv 2) (fun _ _ => rfl))) rfl) (pss_cons (ps_fld (pv 0) (pe_callTy call_tuple_of (by rfl) T.tuple (by decide +kernel) (pa_cons (pe_lc (own := [("name", 2)]) (g := gName 2) (by rfl) scInit.nd (pi_tup (pe_fld (pv 0) rfl)) (blkOk_by (own := [("name", 2)]) (N := ["self", "arities", "name", "told"]) (sc := defScope mInit) (by decide +kernel)) (fun _ _ _ _ _ => pg_name (i := 2) scInit.nd rfl (Or.inl rfl)) (fun _ _ _ _ _ => pts_nil) (fun _ _ _ _ _ => pe_joined (.cons pe_str (.cons (pe_fmt (pv 2)) (.cons pe_str (.cons (pe_fmt (pe_dget (hu1 hu) (pv 1) (pv 2) (fun _ _ => rfl))) .nil)))))) pa_nil)) rfl) (pss_cons (ps_set (i := 3) scInit.nd rfl (.inl rfl) (Lv.pe_listVals rfl (pv 1) (by rfl) T.list (by decide +kernel))) (pss_cons (ps_fld (pv 0) (pe_tup (pa_cons (pe_bm PySem.F.plainAttrs_list PySem.F.slot_list_count PySem.F.type_list_count mt_lcount (pv 3) (pa_cons pe_int pa_nil)) (pa_cons (pe_bm PySem.F.plainAttrs_list PySem.F.slot_list_count PySem.F.type_list_count mt_lcount (pv 3) (pa_cons pe_int pa_nil)) (pa_cons (pe_bm PySem.F.plainAttrs_list PySem.F.slot_list_count PySem.F.type_list_count mt_lcount (pv 3) (pa_cons pe_int pa_nil)) pa_nil)))) rfl) (pss_cons (ps_fld (pv 0) (pe_lst (pa_cons pe_int (pa_cons (pe_ix ix_tup (pe_fld (pv 0) rfl) pe_int (fun _ _ => rfl)) pa_nil))) rfl) (pss_one (ps_fld (pv 0) (pe_lst pa_nil) rfl)))))))), ?_⟩
    refine ⟨_, rfl, .ref a, goodK (dkv l), rfl, .dict ha (good_of ok).1, fun H1 s1 => ⟨_, rfl, ?_⟩⟩
    rw [(good_of ok).2]
    refine if_false_of rfl ?_
    have few := ok.few
    have xa : x ≠ a := fun e => by
      rw [e, ha] at hx
      cases hx
    refine ⟨_, rfl, a, dkv l, l.map (·.1), rfl, Rd.of (s1 _ _ ha), by unfold dkv; rw [List.map_map, List.map_map]; rfl, by rw [List.length_map]; omega, fun ks ns pk srt nns => ?_⟩
    obtain ⟨l', pl, rfl⟩ := perm_map pk
    refine ⟨ns, _, rfl, .inl ⟨SqL.of upd_same, fun t nt => ?_⟩⟩
    have s2 := (s1.trans (Same.new nns (o := .lst ((l'.map (·.1)).map V.str)))).trans (Same.new nt (o := .tup ((l'.map (·.1)).map V.str)))
    have ht2 : (upd (upd H1 ns (.lst ((l'.map (·.1)).map V.str))) t (.tup ((l'.map (·.1)).map V.str))) t = some (.tup ((l'.map (·.1)).map V.str)) := upd_same
    generalize upd (upd H1 ns (.lst ((l'.map (·.1)).map V.str))) t (.tup ((l'.map (·.1)).map V.str)) = H2 at s2 ht2 ⊢
    have hx2 := s2 _ _ hx
    have xt : x ≠ t := fun e => by
      rw [e, ht2] at hx2
      cases hx2
    refine ⟨_, rfl, x, C, dx, [], rfl, hx2, CF.cls, CF.n1, by decide, ?_⟩
    have k3 : Kp x H (upd H2 x (.ins C dx (putF "_names" (.ref t) []))) := (Kp.same s2).trans Kp.upd
    have hx3 : (upd H2 x (.ins C dx (putF "_names" (.ref t) []))) x = some (.ins C dx [("_names", .ref t)]) := upd_same
    have ht3 : (upd H2 x (.ins C dx (putF "_names" (.ref t) []))) t = some (.tup ((l'.map (·.1)).map V.str)) := by rw [upd_ne xt.symm]; exact ht2
    have ha3 := k3 a _ xa.symm ha
    have ndl : (l'.map (·.1)).Nodup := (pl.map _).nodup_iff.mpr ok.nd
    have mem : ∀ {i : Nat} {v : V}, ((l'.map (·.1)).map V.str)[i]? = some v → ∃ p, l'[i]? = some p ∧ v = .str p.1 ∧ valV (dkv l) (.inr p.1 : Key) = some (.int (p.2 : Int)) ∧ p.2 ≤ 2 ∧ azB p.1 = true := fun {i v} h => by
      rw [List.map_map, List.getElem?_map] at h
      cases e : l'[i]? with
      | none => rw [e] at h; cases h
      | some p =>
        rw [e] at h
        have mp : p ∈ l := pl.mem_iff.mp (List.mem_of_getElem? e)
        exact ⟨p, rfl, (Option.some.inj h).symm, val_some ok.nd mp, ok.two p mp, ok.name p mp⟩
    have ll : l'.length ≤ 8 := by
      rw [pl.length_eq]
      omega
    generalize upd H2 x (.ins C dx (putF "_names" (.ref t) [])) = H3 at k3 hx3 ht3 ha3 ⊢
    -- _arities
    refine ⟨_, rfl, x, C, dx, _, _, rfl, hx3, CF.cls, CF.n1, rfl, t, rfl, ⟨_, SqT.of ht3⟩, fun D nD => ?_⟩
    refine dc_tup (K := K) (a := t) (xs := (l'.map (·.1)).map V.str) (fun i G => G D = some (.dK (dkv (l'.take i))) ∧ Same H3 G) ⟨upd_same, Same.new nD⟩ (fun i G _ ⟨_, s⟩ => SqT.of (s _ _ ht3)) ?_ ?_
    · rintro i v G hv ⟨eD, s⟩
      obtain ⟨p, hp, rfl, vz, two, _⟩ := mem hv
      have nz : p.1 ∉ (l'.take i).map (·.1) := fun m => by
        obtain ⟨j, hj, e⟩ := List.mem_iff_getElem.mp m
        rw [List.length_map, List.length_take] at hj
        obtain ⟨hi, ep⟩ := List.getElem?_eq_some_iff.mp hp
        have e2 : (l'.map (·.1))[j]'(by rw [List.length_map]; omega) = (l'.map (·.1))[i]'(by rw [List.length_map]; omega) := by
          rw [List.getElem_map, List.getElem_map, ep, ← e, List.getElem_map, List.getElem_take]
        have := (List.getElem_inj ndl).mp e2
        omega
      refine ⟨rfl, _, rfl, _, rfl, _, rfl, a, _, rfl, vz ▸ DGet.k (k := .inr p.1) (s _ _ ha3), dkv (l'.take i), .inr p.1, rfl, eD, ?_, ?_, fun b o q => by rw [upd_ne (ne_of_none q nD)]; exact s b o q⟩
      · have e : (dkv (l'.take i)).length = (l'.take i).length := List.length_map _
        rw [e, List.length_take, sizeLine_eq]
        omega
      · rw [upd_same, put_end nz, List.take_add_one, hp]
        rfl
    rintro G ⟨eD, s3⟩
    have eD : G D = some (.dK (dkv l')) := by
      have t0 := List.take_of_length_le (l := l') (i := ((l'.map (·.1)).map V.str).length) (by rw [List.length_map, List.length_map]; exact Nat.le_refl _)
      rw [t0] at eD
      exact eD
    refine ⟨_, rfl, x, C, dx, _, rfl, s3 _ _ hx3, CF.cls, CF.n2, Nat.le_of_ble_eq_true rfl, ?_⟩
    have xD : x ≠ D := ne_of_none hx3 nD
    have nDH : H D = none := Kp.free k3 xD.symm nD
    have k4 : Kp x H (upd G x (.ins C dx (putF "_arities" (.ref D) [("_names", .ref t)]))) := (k3.trans (Kp.same s3)).trans Kp.upd
    have hx4 : (upd G x (.ins C dx (putF "_arities" (.ref D) [("_names", .ref t)]))) x = some (.ins C dx [("_names", .ref t), ("_arities", .ref D)]) := upd_same
    have ht4 : (upd G x (.ins C dx (putF "_arities" (.ref D) [("_names", .ref t)]))) t = some (.tup ((l'.map (·.1)).map V.str)) := by rw [upd_ne xt.symm]; exact s3 _ _ ht3
    have hD4 : (upd G x (.ins C dx (putF "_arities" (.ref D) [("_names", .ref t)]))) D = some (.dK (dkv l')) := by rw [upd_ne xD.symm]; exact eD
    have ha4 := k4 a _ xa.symm ha
    generalize upd G x (.ins C dx (putF "_arities" (.ref D) [("_names", .ref t)])) = H4 at k4 hx4 ht4 hD4 ha4 ⊢
    -- _lines
    refine ⟨_, rfl, x, C, dx, _, _, rfl, hx4, CF.cls, CF.n1, rfl, t, rfl, ⟨_, SqT.of ht4⟩, fun D2 nD2 => ?_⟩
    refine lc_tup (K := K) (a := t) (xs := (l'.map (·.1)).map V.str) (tt := tYes) (g := gName 2) (te := t_line) (vs := [2]) (fun i G => G D2 = some (.lst ((l'.take i).map lnV)) ∧ Same H4 G) ⟨upd_same, Same.new nD2⟩ (fun i G _ ⟨_, s⟩ => SqT.of (s _ _ ht4)) ?_ ?_
    · rintro i v G2 hv ⟨e2, s⟩
      obtain ⟨p, hp, rfl, vz, two, az⟩ := mem hv
      have z8 : p.1.length ≤ 8 := by
        have h2 : (decide (1 ≤ p.1.length) && decide (p.1.length ≤ 8) && p.1.cps.toList.all azC) = true := az
        simp only [Bool.and_eq_true, decide_eq_true_eq] at h2
        omega
      have lg : ((p.2 : Int)).natAbs.log2 < 1920 := Nat.lt_of_le_of_lt (Nat.log2_le_self _) (by omega)
      have tl : (((toString (p.2 : Int) : String) : Str)).length ≤ 1921 := PyProof.Rows.int_text_len_1921 lg
      have il : i < 8 := by
        have := (List.getElem?_eq_some_iff.mp hp).1
        omega
      have n1 : (Str.empty ++ ("op " : Str)).length = 3 := rfl
      refine ⟨rfl, _, rfl, by rw [n1, sizeLine_eq]; decide, _, rfl, .inl ⟨p.1, rfl, by rw [sizeLine_eq]; omega, _, rfl, by rw [strLen_append, n1, sizeLine_eq]; omega, _, rfl, ?_, _, rfl, _, rfl, a, _, rfl, vz ▸ DGet.k (k := .inr p.1) (s _ _ ha4), .inr ⟨_, rfl, lg, _, rfl, ?_, _, e2, by rw [List.length_map, List.length_take, sizeLine_eq]; omega, by rw [upd_same, List.take_add_one, hp, List.map_append]; rfl, fun b o q => by rw [upd_ne (ne_of_none q nD2)]; exact s b o q⟩⟩⟩
      · rw [strLen_append, strLen_append, n1, sizeLine_eq, show (" " : Str).length = 1 from rfl]
        omega
      · rw [strLen_append, strLen_append, strLen_append, n1, sizeLine_eq, show (" " : Str).length = 1 from rfl]
        have tl' : ((Str.ofString (toString (p.2 : Int)))).length ≤ 1921 := tl
        omega
    · rintro G2 ⟨e2, s⟩
      have e2 : G2 D2 = some (.lst (l'.map lnV)) := by
        rw [List.take_of_length_le (by rw [List.length_map, List.length_map]; exact Nat.le_refl _)] at e2
        exact e2
      generalize hss : l'.map lnV = ss at e2
      refine ⟨D2, ss, rfl, .inl ⟨SqL.of e2, fun t2 nt2 => ⟨_, rfl, x, C, dx, _, rfl, (Same.new nt2) _ _ (s _ _ hx4), CF.cls, CF.n3, Nat.le_of_ble_eq_true rfl, ?_⟩⟩⟩
      have s5 := s.trans (Same.new nt2 (o := .tup ss))
      have xt2 : x ≠ t2 := ne_of_none (s _ _ hx4) nt2
      have xa4 : a ≠ x := xa.symm
      have k5 : Kp x H (upd (upd G2 t2 (.tup ss)) x (.ins C dx (putF "_lines" (.ref t2) [("_names", .ref t), ("_arities", .ref D)]))) := (k4.trans (Kp.same s5)).trans Kp.upd
      have hx5 : (upd (upd G2 t2 (.tup ss)) x (.ins C dx (putF "_lines" (.ref t2) [("_names", .ref t), ("_arities", .ref D)]))) x = some (.ins C dx [("_names", .ref t), ("_arities", .ref D), ("_lines", .ref t2)]) := upd_same
      have ht5 : (upd (upd G2 t2 (.tup ss)) x (.ins C dx (putF "_lines" (.ref t2) [("_names", .ref t), ("_arities", .ref D)]))) t = some (.tup (l'.map fun p => V.str p.1)) := by
        rw [upd_ne xt.symm]
        have := s5 _ _ ht4
        rw [List.map_map] at this
        exact this
      have hD5 : (upd (upd G2 t2 (.tup ss)) x (.ins C dx (putF "_lines" (.ref t2) [("_names", .ref t), ("_arities", .ref D)]))) D = some (.dK (dkv l')) := by
        rw [upd_ne xD.symm]
        exact s5 _ _ hD4
      have hl5 : (upd (upd G2 t2 (.tup ss)) x (.ins C dx (putF "_lines" (.ref t2) [("_names", .ref t), ("_arities", .ref D)]))) t2 = some (.tup ss) := by rw [upd_ne xt2.symm, upd_same]
      generalize upd (upd G2 t2 (.tup ss)) x (.ins C dx (putF "_lines" (.ref t2) [("_names", .ref t), ("_arities", .ref D)])) = H5 at k5 hx5 ht5 hD5 hl5 ⊢
      have ha5 := k5 a _ xa4 ha
      -- told
      refine ⟨_, rfl, a, dkv l, rfl, ha5, fun q nq => ?_⟩
      have s6 := Same.new nq (o := .lst ((dkv l).map (·.2)))
      have xq : x ≠ q := ne_of_none hx5 nq
      have hq6 : (upd H5 q (.lst ((dkv l).map (·.2)))) q = some (.lst ((l.map fun p => (p.2 : Int)).map V.int)) := by
        rw [upd_same]
        unfold dkv
        rw [List.map_map, List.map_map]
        rfl
      generalize upd H5 q (.lst ((dkv l).map (·.2))) = H6 at s6 hq6 ⊢
      have hx6 := s6 _ _ hx5
      have ht6 := s6 _ _ ht5
      have hD6 := s6 _ _ hD5
      have hl6 := s6 _ _ hl5
      have tyq : tyV K "list" (V.ref q) H6 := .inl ⟨rfl, _, SqL.of hq6⟩
      refine ⟨_, rfl, tyq, q, _, 0, rfl, rfl, SqL.of hq6, _, rfl, tyq, q, _, 1, rfl, rfl, SqL.of hq6, _, rfl, tyq, q, _, 2, rfl, rfl, SqL.of hq6, by show 3 ≤ sizeLine; decide, fun m nm => ?_⟩
      have s7 := Same.new nm (o := .tup [.int ((l.map fun p => (p.2 : Int)).count 0 : Nat), .int ((l.map fun p => (p.2 : Int)).count 1 : Nat), .int ((l.map fun p => (p.2 : Int)).count 2 : Nat)])
      have xm : x ≠ m := ne_of_none hx6 nm
      refine ⟨_, rfl, x, C, dx, _, rfl, s7 _ _ hx6, CF.cls, CF.n4, Nat.le_of_ble_eq_true rfl, ?_⟩
      have k7 : Kp x H (upd (upd H6 m (.tup [.int ((l.map fun p => (p.2 : Int)).count 0 : Nat), .int ((l.map fun p => (p.2 : Int)).count 1 : Nat), .int ((l.map fun p => (p.2 : Int)).count 2 : Nat)])) x (.ins C dx (putF "_many" (.ref m) [("_names", .ref t), ("_arities", .ref D), ("_lines", .ref t2)]))) := ((k5.trans (Kp.same s6)).trans (Kp.same s7)).trans Kp.upd
      have hx7 : (upd (upd H6 m (.tup [.int ((l.map fun p => (p.2 : Int)).count 0 : Nat), .int ((l.map fun p => (p.2 : Int)).count 1 : Nat), .int ((l.map fun p => (p.2 : Int)).count 2 : Nat)])) x (.ins C dx (putF "_many" (.ref m) [("_names", .ref t), ("_arities", .ref D), ("_lines", .ref t2)]))) x = some (.ins C dx [("_names", .ref t), ("_arities", .ref D), ("_lines", .ref t2), ("_many", .ref m)]) := upd_same
      have hm7 : (upd (upd H6 m (.tup [.int ((l.map fun p => (p.2 : Int)).count 0 : Nat), .int ((l.map fun p => (p.2 : Int)).count 1 : Nat), .int ((l.map fun p => (p.2 : Int)).count 2 : Nat)])) x (.ins C dx (putF "_many" (.ref m) [("_names", .ref t), ("_arities", .ref D), ("_lines", .ref t2)]))) m = some (.tup [.int ((l.map fun p => (p.2 : Int)).count 0 : Nat), .int ((l.map fun p => (p.2 : Int)).count 1 : Nat), .int ((l.map fun p => (p.2 : Int)).count 2 : Nat)]) := by rw [upd_ne xm.symm, upd_same]
      have ht7 : (upd (upd H6 m (.tup [.int ((l.map fun p => (p.2 : Int)).count 0 : Nat), .int ((l.map fun p => (p.2 : Int)).count 1 : Nat), .int ((l.map fun p => (p.2 : Int)).count 2 : Nat)])) x (.ins C dx (putF "_many" (.ref m) [("_names", .ref t), ("_arities", .ref D), ("_lines", .ref t2)]))) t = some (.tup (l'.map fun p => V.str p.1)) := by
        rw [upd_ne xt.symm]
        exact s7 _ _ ht6
      have hD7 : (upd (upd H6 m (.tup [.int ((l.map fun p => (p.2 : Int)).count 0 : Nat), .int ((l.map fun p => (p.2 : Int)).count 1 : Nat), .int ((l.map fun p => (p.2 : Int)).count 2 : Nat)])) x (.ins C dx (putF "_many" (.ref m) [("_names", .ref t), ("_arities", .ref D), ("_lines", .ref t2)]))) D = some (.dK (dkv l')) := by
        rw [upd_ne xD.symm]
        exact s7 _ _ hD6
      have hl7 : (upd (upd H6 m (.tup [.int ((l.map fun p => (p.2 : Int)).count 0 : Nat), .int ((l.map fun p => (p.2 : Int)).count 1 : Nat), .int ((l.map fun p => (p.2 : Int)).count 2 : Nat)])) x (.ins C dx (putF "_many" (.ref m) [("_names", .ref t), ("_arities", .ref D), ("_lines", .ref t2)]))) t2 = some (.tup ss) := by
        rw [upd_ne xt2.symm]
        exact s7 _ _ hl6
      generalize upd (upd H6 m (.tup [.int ((l.map fun p => (p.2 : Int)).count 0 : Nat), .int ((l.map fun p => (p.2 : Int)).count 1 : Nat), .int ((l.map fun p => (p.2 : Int)).count 2 : Nat)])) x (.ins C dx (putF "_many" (.ref m) [("_names", .ref t), ("_arities", .ref D), ("_lines", .ref t2)])) = H7 at k7 hx7 hm7 ht7 hD7 hl7 ⊢
      -- _counts
      refine ⟨_, rfl, x, C, dx, _, _, rfl, hx7, CF.cls, CF.n4, rfl, m, _, _, _, rfl, rfl, SqT.of hm7, rfl, by show 2 ≤ sizeLine; decide, fun c nc => ?_⟩
      have xc : x ≠ c := ne_of_none hx7 nc
      have s8 := Same.new nc (o := .lst [.int 0, .int ((l.map fun p => (p.2 : Int)).count 0 : Nat)])
      refine ⟨_, rfl, x, C, dx, _, rfl, s8 _ _ hx7, CF.cls, CF.n5, Nat.le_of_ble_eq_true rfl, ?_⟩
      have k8 : Kp x H (upd (upd H7 c (.lst [.int 0, .int ((l.map fun p => (p.2 : Int)).count 0 : Nat)])) x (.ins C dx (putF "_counts" (.ref c) [("_names", .ref t), ("_arities", .ref D), ("_lines", .ref t2), ("_many", .ref m)]))) := (k7.trans (Kp.same s8)).trans Kp.upd
      have hx8 : (upd (upd H7 c (.lst [.int 0, .int ((l.map fun p => (p.2 : Int)).count 0 : Nat)])) x (.ins C dx (putF "_counts" (.ref c) [("_names", .ref t), ("_arities", .ref D), ("_lines", .ref t2), ("_many", .ref m)]))) x = some (.ins C dx [("_names", .ref t), ("_arities", .ref D), ("_lines", .ref t2), ("_many", .ref m), ("_counts", .ref c)]) := upd_same
      have ht8 : (upd (upd H7 c (.lst [.int 0, .int ((l.map fun p => (p.2 : Int)).count 0 : Nat)])) x (.ins C dx (putF "_counts" (.ref c) [("_names", .ref t), ("_arities", .ref D), ("_lines", .ref t2), ("_many", .ref m)]))) t = some (.tup (l'.map fun p => V.str p.1)) := by
        rw [upd_ne xt.symm]
        exact s8 _ _ ht7
      have hD8 : (upd (upd H7 c (.lst [.int 0, .int ((l.map fun p => (p.2 : Int)).count 0 : Nat)])) x (.ins C dx (putF "_counts" (.ref c) [("_names", .ref t), ("_arities", .ref D), ("_lines", .ref t2), ("_many", .ref m)]))) D = some (.dK (dkv l')) := by
        rw [upd_ne xD.symm]
        exact s8 _ _ hD7
      have hl8 : (upd (upd H7 c (.lst [.int 0, .int ((l.map fun p => (p.2 : Int)).count 0 : Nat)])) x (.ins C dx (putF "_counts" (.ref c) [("_names", .ref t), ("_arities", .ref D), ("_lines", .ref t2), ("_many", .ref m)]))) t2 = some (.tup ss) := by
        rw [upd_ne xt2.symm]
        exact s8 _ _ hl7
      generalize upd (upd H7 c (.lst [.int 0, .int ((l.map fun p => (p.2 : Int)).count 0 : Nat)])) x (.ins C dx (putF "_counts" (.ref c) [("_names", .ref t), ("_arities", .ref D), ("_lines", .ref t2), ("_many", .ref m)])) = H8 at k8 hx8 ht8 hD8 hl8 ⊢
      -- _rows
      refine ⟨by show 0 ≤ sizeLine; decide, fun r nr => ?_⟩
      have s9 := Same.new nr (o := .lst [])
      refine ⟨_, rfl, x, C, dx, _, rfl, s9 _ _ hx8, CF.cls, CF.n6, Nat.le_of_ble_eq_true rfl, ?_⟩
      refine q0 l' D _ pl srt ((k8.trans (Kp.same s9)).trans Kp.upd) ⟨dx, t, D, (t2, m, c, r), upd_same, ?_, ?_, ?_⟩ ⟨C, dx, _, upd_same, rfl⟩ nDH
      · rw [upd_ne xt.symm]
        exact s9 _ _ ht8
      · rw [upd_ne xD.symm]
        exact s9 _ _ hD8
      · show (upd (upd H8 r (.lst [])) x _) t2 = _
        rw [upd_ne xt2.symm, hss]
        exact s9 _ _ hl8
end
end Pr

namespace Pr
open PySem PySem.Spec PyProof.Rows L2 Gd
/-! ### _law_nonterminals of any row of rules -/
def spLNontsG : Sp := fun vs H Q _ => ∃ (d : Addr) (l : List (Str × Nat)) (g : Str) (rs : List Rl), vs = [.ref d] ∧ PlainAt H d l g rs ∧ NtOk l rs ∧
  ∀ (ys : List Str) (p : Addr) (H' : Hp), sortedS ys = true → ys.Nodup → (∀ z, z ∈ ys ↔ isNt l g rs z) → H p = none → Same H H' → H' p = some (.lst (ys.map V.str)) → Q (.ref p) H'
section
variable {P : Program} {w : World} {K : PySem.W.Frag} {mg : Str → Option Value} {base : Heap} {fE : Addr} {dE : FuncData}
theorem scLNonts : FnScope ["plain", "found", "head", "price", "pattern", "name"] ["plain"] (defScope sLNonts) := ⟨rfl, rfl, rfl, by decide +kernel, rfl, by decide +kernel, by decide +kernel⟩
theorem ok_lnontsG {f : Addr} {fd : FuncData} (F : Fun K "_law_nonterminals" "_law_nonterminals" sLNonts f fd) (T : Free mg) : FnOk P w K mg base CX0 1 f fd ["plain"] spLNontsG := by
  refine F.ok scLNonts (fun vs H Q E h => ?_) (fun cdv A outer s H vs Q E hr h => ?_)
  · obtain ⟨d, l, g, rs, rfl, _⟩ := h
    rfl
  · obtain ⟨d, l, g, rs, rfl, pl, ok, q⟩ := h
    have hu := hr.units
    have hu1 : ∀ {u : Nat}, u + 64 < cLine → u + 1 < cLine := fun h => by omega
    refine ⟨_, (pss_cons (ps_set (i := 1) scLNonts.nd rfl (.inl rfl) (pe_lst (pa_cons (pe_dget (hu1 hu) (pv 0) pe_str (fun _ _ => rfl)) pa_nil))) (pss_cons (ps_for PassesOwn.never rfl (pi_list (pe_dget (hu1 hu) (pv 0) pe_str (fun _ _ => rfl))) (pg_tup rfl (pgs_cons (pg_name (i := 2) scLNonts.nd rfl (.inl rfl)) (pgs_cons (pg_name (i := 3) scLNonts.nd rfl (.inl rfl)) (pgs_cons (pg_name (i := 4) scLNonts.nd rfl (.inl rfl)) pgs_nil)))) (pss_one (ps_set (i := 1) scLNonts.nd rfl (.inl rfl) (pe_op op_cat (pe_op op_cat (pv 1) (pe_lst (pa_cons (pv 2) pa_nil))) (pe_lc (own := [("name", 5)]) (g := gName 5) (by rfl) scLNonts.nd (pi_tup (pv 4)) (blkOk_by (own := [("name", 5)]) (N := ["plain", "found", "head", "price", "pattern", "name"]) (sc := defScope sLNonts) (by decide +kernel)) (fun _ _ _ _ _ => pg_name (i := 5) scLNonts.nd rfl (.inl rfl)) (fun _ _ _ _ _ => pts_one (pt_cmp (pc_dnotin (hu1 hu) (pv 5) (pe_dget (hu1 hu) (pv 0) pe_str (fun _ _ => rfl))))) (fun _ _ _ _ _ => pv 5)))))) (pss_one (ps_ret (pe_callB (Ns.cr_sortedSetS (by rfl)) (by rfl) T.sorted (by decide +kernel) (pa_cons (pe_callTy (Ns.cr_setOfS (by rfl)) (by rfl) T.set (by decide +kernel) (pa_cons (pv 1) pa_nil)) pa_nil)))))), ?_⟩
    obtain ⟨la, ra, as, h1, h2, h3, h4⟩ := pl.ex
    obtain ⟨D6, hD6, inD⟩ := ok.all g
    have las : as.length = rs.length := Paired.length h4
    refine ⟨_, rfl, d, .str g, rfl, pl_go ▸ DGet.k (k := .inr ("goal" : Str)) h1, by show 1 ≤ sizeLine; decide, fun f0 nf0 => ?_⟩
    have s0 := Same.new nf0 (o := .lst [V.str g])
    refine ⟨_, rfl, d, .ref ra, rfl, pl_ru ▸ DGet.k (k := .inr ("rules" : Str)) (s0 _ _ h1), ra, rfl, ⟨_, SqL.of (s0 _ _ h3)⟩, ?_⟩
    refine for_list (K := K) (a := ra) (xs := as.map V.ref) (fun i σ G => ∃ (fa : Addr) (v2 v3 v4 v5 : Option V) (fs : List Str), σ = [some (.ref d), some (.ref fa), v2, v3, v4, v5] ∧ H fa = none ∧ G fa = some (.lst (fs.map V.str)) ∧ fs.length ≤ 1 + 8 * i ∧ (∀ z, z ∈ fs ↔ isNt l g (rs.take i) z) ∧ Same H G)
      ⟨f0, none, none, none, none, [g], rfl, nf0, upd_same, Nat.le_refl _, fun z => ?_, s0⟩ (fun i σ G _ ⟨_, _, _, _, _, _, _, _, _, _, _, s⟩ => SqL.of (s _ _ h3)) ?_ ?_
    · rw [List.mem_singleton]
      constructor
      · exact .inl
      · rintro (h | ⟨r, m, _⟩)
        · exact h
        · simp at m
    · rintro i x σ G hx ⟨fa, v2, v3, v4, v5, fs, rfl, nfa, eF, lf, mem, s⟩
      obtain ⟨b, hb, rfl⟩ := ref_at hx
      obtain ⟨r, hr', rat⟩ := pget9 h4 hb
      obtain ⟨t, hbt, htt⟩ := RuleAt.same rat s
      have rok := ok.rules r (List.mem_of_getElem? hr')
      have il := (List.getElem?_eq_some_iff.mp hr').1
      have rf := rok.few
      have ofew := ok.few
      refine ⟨b, _, rfl, SqT.of hbt, rfl, _, _, rfl, _, _, rfl, _, _, rfl, rfl, ?_⟩
      refine ⟨_, rfl, _, rfl, by show 1 ≤ sizeLine; decide, fun hl nhl => ?_⟩
      have sa := Same.new nhl (o := .lst [V.str r.1])
      refine ⟨fa, hl, _, _, rfl, rfl, sa _ _ eF, upd_same, by rw [List.length_map, sizeLine_eq]; simp only [List.length_cons, List.length_nil]; omega, fun c1 nc1 => ?_⟩
      have sb := sa.trans (Same.new nc1 (o := .lst (fs.map V.str ++ [V.str r.1])))
      have hc1 : (upd (upd G hl (.lst [V.str r.1])) c1 (.lst (fs.map V.str ++ [V.str r.1]))) c1 = some (.lst (fs.map V.str ++ [V.str r.1])) := upd_same
      generalize upd (upd G hl (.lst [V.str r.1])) c1 (.lst (fs.map V.str ++ [V.str r.1])) = G1 at sb hc1 ⊢
      have s1 := s.trans sb
      refine ⟨_, rfl, t, rfl, ⟨_, SqT.of (sb _ _ htt)⟩, fun D nD => ?_⟩
      refine lc_tup (K := K) (a := t) (xs := r.2.2.map V.str) (fun j G2 => ∃ us : List Str, G2 D = some (.lst (us.map V.str)) ∧ us.length ≤ j ∧ (∀ z, z ∈ us ↔ z ∈ r.2.2.take j ∧ z ∉ l.map (·.1)) ∧ Same G1 G2)
        ⟨[], upd_same, Nat.le_refl _, fun z => by simp, Same.new nD⟩ (fun j G2 _ ⟨_, _, _, _, s2⟩ => SqT.of (s2 _ _ (sb _ _ htt))) ?_ ?_
      · rintro j x G2 hx ⟨us, eD, lu, memu, s2⟩
        obtain ⟨z, hz, rfl⟩ := str_at hx
        have jl := (List.getElem?_eq_some_iff.mp hz).1
        have step : ∀ x, x ∈ r.2.2.take (j + 1) ↔ x ∈ r.2.2.take j ∨ x = z := fun x => by
          rw [List.take_add_one, hz, List.mem_append]
          simp
        refine ⟨rfl, _, rfl, _, rfl, d, .ref la, rfl, pl_ar ▸ DGet.k (k := .inr ("arities" : Str)) (s2 _ _ (s1 _ _ h1)), la, _, rfl, DGet.k (k := .inr z) (s2 _ _ (s1 _ _ h2)), _, rfl, ?_⟩
        by_cases c : z ∈ l.map (·.1)
        · have e := val_mem_iff.mpr c
          refine if_false_of (by rw [e]; rfl) ⟨us, eD, by omega, fun x => ?_, s2⟩
          rw [memu x, step x]
          constructor
          · rintro ⟨h, n⟩
            exact ⟨.inl h, n⟩
          · rintro ⟨h | h, n⟩
            · exact ⟨h, n⟩
            · exact absurd (h ▸ c) n
        · have e : (valV (dkv l) (.inr z : Key)).isSome = false := by
            cases q : (valV (dkv l) (.inr z : Key)).isSome with
            | false => rfl
            | true => exact absurd (val_mem_iff.mp q) c
          refine if_true_of (by rw [e]; rfl) ⟨_, rfl, _, eD, by rw [List.length_map, sizeLine_eq]; omega, us ++ [z], by rw [upd_same, List.map_append]; rfl, by rw [List.length_append]; simp only [List.length_cons, List.length_nil]; omega, fun x => ?_, fun b o q => by rw [upd_ne (ne_of_none q nD)]; exact s2 b o q⟩
          rw [List.mem_append, memu x, step x, List.mem_singleton]
          constructor
          · rintro (⟨h, n⟩ | h)
            · exact ⟨.inl h, n⟩
            · exact ⟨.inr h, h ▸ c⟩
          · rintro ⟨h | h, n⟩
            · exact .inl ⟨h, n⟩
            · exact .inr h
      · rintro G2 ⟨us, eD, lu, memu, s2⟩
        have lz : (r.2.2.map V.str).length = r.2.2.length := List.length_map _
        rw [lz] at lu memu
        rw [List.take_length] at memu
        refine ⟨c1, D, _, _, rfl, rfl, s2 _ _ hc1, eD, by rw [List.length_append, List.length_map, List.length_map, sizeLine_eq]; simp only [List.length_cons, List.length_nil]; omega, fun c2 nc2 => ?_⟩
        have s3 := s1.trans s2
        refine ⟨c2, _, _, _, _, fs ++ r.1 :: us, rfl, Same.free s3 nc2, by rw [upd_same, List.map_append, List.map_cons, List.append_assoc]; rfl, by rw [List.length_append, List.length_cons]; omega, fun z => ?_, s3.trans (Same.new nc2)⟩
        rw [List.mem_append, mem z, List.mem_cons, memu z]
        unfold isNt
        rw [List.take_add_one, hr']
        constructor
        · rintro ((h | ⟨r2, m2, k⟩) | h | ⟨h, n⟩)
          · exact .inl h
          · exact .inr ⟨r2, List.mem_append_left _ m2, k⟩
          · exact .inr ⟨r, List.mem_append_right _ (by simp), .inl h, h ▸ rok.new⟩
          · exact .inr ⟨r, List.mem_append_right _ (by simp), .inr h, n⟩
        · rintro (h | ⟨r2, m2, k, n⟩)
          · exact .inl (.inl h)
          · rcases List.mem_append.mp m2 with m2 | m2
            · exact .inl (.inr ⟨r2, m2, k, n⟩)
            · have e2 : r2 = r := by simpa using m2
              rw [e2] at k
              rcases k with k | k
              · exact .inr (.inl k)
              · exact .inr (.inr ⟨k, n⟩)
    · rintro σ G ⟨fa, v2, v3, v4, v5, fs, rfl, nfa, eF, lf, mem, s⟩
      have ofew := ok.few
      rw [List.take_of_length_le (by rw [List.length_map, las]; exact Nat.le_refl _)] at mem
      rw [List.length_map, las] at lf
      refine ⟨_, rfl, fa, fs, rfl, SqL.of eF, by unfold scanBound; omega, fun sa c nsa few => ?_⟩
      have c6 : c ≤ 61 := Nat.le_trans (few D6 fun z m => inD z ((mem z).mp m)) hD6
      refine ⟨sa, _, c, rfl, upd_same, by omega, fun ys p srt nd my _ np => ?_⟩
      have s2 := s.trans (Same.new nsa (o := Ns.SetSO P w sa (fun z => decide (z ∈ fs)) c))
      exact q ys p _ srt nd (fun z => by rw [my z, decide_eq_true_eq, mem z]) (Same.free s2 np) (s2.trans (Same.new np)) upd_same
end
end Pr
namespace Pr
open PySem PySem.Spec PyProof.Rows L2 Gd
/-! ### any book as data -/
theorem pl_merge {la ra : Addr} {g : Str} : mergeK [] (plK la g ra) = plK la g ra := by
  show putK (putK (putK [] (.inr (Str.ofString "arities") : Key) (.ref la)) (.inr (Str.ofString "goal")) (.str g)) (.inr (Str.ofString "rules")) (.ref ra) = _
  rw [putK_new (kvs := []) (k := (.inr (Str.ofString "arities") : Key)) _ rfl, List.nil_append, putK_new (kvs := [((.inr (Str.ofString "arities") : Key), V.ref la)]) (k := (.inr (Str.ofString "goal") : Key)) _ (by rw [valV_neg key_ag]; rfl),
    putK_new (kvs := [((.inr (Str.ofString "arities") : Key), V.ref la)] ++ [((.inr (Str.ofString "goal") : Key), V.str g)]) (k := (.inr (Str.ofString "rules") : Key)) _ (by show valV [((.inr (Str.ofString "arities") : Key), V.ref la), (.inr (Str.ofString "goal"), .str g)] _ = none; rw [valV_neg key_ar, valV_neg key_gr]; rfl)]
  rfl
def patLen (rs : List Rl) : Nat := (rs.map fun r => r.2.2.length).sum
theorem patLen_take {rs : List Rl} {i : Nat} {r : Rl} (h : rs[i]? = some r) : patLen (rs.take (i + 1)) = patLen (rs.take i) + r.2.2.length := by
  unfold patLen
  rw [List.take_add_one, h, List.map_append, List.sum_append]
  simp
theorem patLen_le : ∀ (rs : List Rl) (i : Nat), patLen (rs.take i) ≤ patLen rs
  | [], i => by rw [List.take_nil]; exact Nat.le_refl _
  | r :: rs, 0 => Nat.zero_le _
  | r :: rs, i + 1 => by
    have := patLen_le rs i
    unfold patLen at this ⊢
    rw [List.take_succ_cons, List.map_cons, List.map_cons, List.sum_cons, List.sum_cons]
    omega
def whB (f : Str → Nat) : Nat → List Str → Bool
  | n, [] => decide (n = 0)
  | 0, _ :: _ => false
  | n + 1, z :: zs => whB f (n + f z) zs
theorem whB_ok {f : Str → Nat} : ∀ (zs : List Str) (n : Nat), whB f n zs = true → Wh f n zs
  | [], n, h => of_decide_eq_true (p := n = 0) h
  | z :: zs, 0, h => by cases h
  | z :: zs, n + 1, h => whB_ok zs _ h
def rlB (l : List (Str × Nat)) (r : Rl) : Bool := azB r.1 && (!decide (r.1 ∈ l.map (·.1)) && (decide (r.2.1 ≤ 9) && (decide (1 ≤ r.2.2.length) && (decide (r.2.2.length ≤ 7) && (r.2.2.all azB && (!decide (r.2.2 = [r.1]) && whB (ar l) 1 r.2.2))))))
theorem rlB_ok {l : List (Str × Nat)} {r : Rl} (h : rlB l r = true) : RlOk l r := by
  unfold rlB at h
  simp only [Bool.and_eq_true, Bool.not_eq_true', decide_eq_true_eq, decide_eq_false_iff_not, List.all_eq_true] at h
  obtain ⟨a, b, c, d, e, f, g, i⟩ := h
  exact ⟨a, b, c, d, e, f, g, whB_ok _ _ i⟩
def opB (l : List (Str × Nat)) : Bool := decide (1 ≤ l.length) && (decide (l.length ≤ 8) && (decide (l.map (·.1)).Nodup && (l.all (fun p => azB p.1) && l.all fun p => decide (p.2 ≤ 2))))
theorem opB_ok {l : List (Str × Nat)} (h : opB l = true) : OpsOk l := by
  unfold opB at h
  simp only [Bool.and_eq_true, decide_eq_true_eq, List.all_eq_true] at h
  obtain ⟨a, b, c, d, e⟩ := h
  exact ⟨⟨a, b⟩, c, d, e⟩
def bkB (l : List (Str × Nat)) (g : Str) (rs : List Rl) (D : List Str) : Bool := opB l && (azB g && (!decide (g ∈ l.map (·.1)) && (decide (rs.length ≤ 12) && (rs.all (rlB l) && (decide (rs.map fun r => (r.1, r.2.2)).Nodup && (decide (D.length ≤ 6) && (decide (g ∈ D) &&
  rs.all fun r => decide (r.1 ∈ D) && r.2.2.all fun z => decide (z ∈ l.map (·.1)) || decide (z ∈ D))))))))
theorem bkB_ok {l : List (Str × Nat)} {g : Str} {rs : List Rl} {D : List Str} (h : bkB l g rs D = true) : BkOk l g rs := by
  unfold bkB at h
  simp only [Bool.and_eq_true, Bool.or_eq_true, Bool.not_eq_true', decide_eq_true_eq, decide_eq_false_iff_not, List.all_eq_true] at h
  obtain ⟨a, b, c, d, e, f, g1, g2, i⟩ := h
  refine ⟨opB_ok a, b, c, d, fun r m => rlB_ok (e r m), f, D, g1, fun z q => ?_⟩
  rcases q with rfl | ⟨r, m, k, n⟩
  · exact g2
  · rcases k with rfl | k
    · exact (i r m).1
    · exact ((i r m).2 z k).resolve_left n
structure Any (H : Hp) (p : Addr) (l : List (Str × Nat)) (g : Str) (rs : List Rl) : Prop where
  pl : PlainAt H p l g rs
  ok : BkOk l g rs
  small : patLen rs < 60
end Pr
namespace Pr
open PySem PySem.Spec PyProof.Rows L2 Gd
/-! ### _law_drawn_pattern -/
abbrev t_sm (K : PySem.W.Frag) : TE := tIf (tTest (tOp rEq (tVar 7) (tC (V.int 0)))) (tVar 6) (tOp rCat (tCB (fun xs H Q => ∃ p ys, xs = [V.ref p] ∧ (SqL K H p ys ∨ SqT K H p ys) ∧ ∀ l, H l = none → Q (.ref l) (upd H l (.lst ys))) (tCons (tVar 2) tNil))
  (tIf (tTest (tOp (rI0 fun i j => V.bl (decide (i < j))) (tOp (rI0 fun i j => V.int (i + j)) (tCB (fun xs H1 Q => ∃ p ys, xs = [V.ref p] ∧ (SqL K H1 p ys ∨ SqT K H1 p ys) ∧ Q (V.int (ys.length : Int)) H1) (tCons (tVar 4) tNil)) (tVar 5)) (tVar 3))) (tVar 6) (tLst tNil)))
def t_smB : TE := fun σ H Q => ∃ (na fa ka : Addr) (cap o i : Int) (ns ws ks : List Str), σ[2]? = some (some (.ref na)) ∧ σ[3]? = some (some (.int cap)) ∧ σ[4]? = some (some (.ref fa)) ∧ σ[5]? = some (some (.int o)) ∧ σ[6]? = some (some (.ref ka)) ∧ σ[7]? = some (some (.int i)) ∧
  H na = some (.lst (ns.map V.str)) ∧ H fa = some (.lst (ws.map V.str)) ∧ H ka = some (.lst (ks.map V.str)) ∧ ns.length ≤ 10 ∧ ks.length ≤ 10 ∧ ns ≠ [] ∧ ks ≠ [] ∧
  ∀ (sa : Addr) (cs : List Str) (H' : Hp), Same H H' → H' sa = some (.lst (cs.map V.str)) → (H sa = none ∨ sa = ka) → cs ≠ [] → cs.length ≤ 20 → (∀ z ∈ cs, (z ∈ ks ∧ (i = 0 ∨ (ws.length : Int) + o < cap)) ∨ (i ≠ 0 ∧ z ∈ ns)) → Q (.ref sa) H'
theorem sm_imp {K : PySem.W.Frag} : ∀ σ H Q, t_smB σ H Q → t_sm K σ H Q := by
  rintro σ H Q ⟨na, fa, ka, cap, o, i, ns, ws, ks, h2, h3, h4, h5, h6, h7, hn, hf, hk, ln, lk, n0, k0, q⟩
  refine ⟨_, h7, rfl, _, rfl, ?_⟩
  by_cases c : i = 0
  · refine if_true_of (decide_eq_true (by rw [c])) ⟨_, h6, q ka ks H (Same.refl H) hk (.inr rfl) k0 (by omega) fun z m => .inl ⟨m, .inl c⟩⟩
  · refine if_false_of (decide_eq_false fun e => c (V.int.inj e)) ⟨_, h2, na, _, rfl, .inl (SqL.of hn), fun l nl => ?_⟩
    have s1 := Same.new nl (o := .lst (ns.map V.str))
    have hl : (upd H l (.lst (ns.map V.str))) l = some (.lst (ns.map V.str)) := upd_same
    generalize upd H l (.lst (ns.map V.str)) = H1 at s1 hl ⊢
    refine ⟨_, h4, fa, _, rfl, .inl (SqL.of (s1 _ _ hf)), _, h5, _, _, rfl, rfl, _, h3, _, _, rfl, rfl, _, rfl, ?_⟩
    rw [List.length_map]
    by_cases c2 : (ws.length : Int) + o < cap
    · refine if_true_of (decide_eq_true c2) ⟨_, h6, l, ka, _, _, rfl, rfl, hl, s1 _ _ hk, by rw [List.length_map, List.length_map, sizeLine_eq]; omega, fun p np => ?_⟩
      refine q p (ns ++ ks) _ (s1.trans (Same.new np)) (by rw [upd_same, List.map_append]) (.inl (Same.free s1 np)) (by simp [n0]) (by rw [List.length_append]; omega) fun z m => ?_
      rcases List.mem_append.mp m with m | m
      · exact .inr ⟨c, m⟩
      · exact .inl ⟨m, .inr c2⟩
    · refine if_false_of (decide_eq_false c2) ⟨by show 0 ≤ sizeLine; decide, fun e ne => ⟨l, e, _, _, rfl, rfl, (Same.new ne) _ _ hl, upd_same, by rw [List.length_map, sizeLine_eq]; simp only [List.length_nil]; omega, fun p np => ?_⟩⟩
      refine q p ns _ ((s1.trans (Same.new ne)).trans (Same.new np)) (by rw [upd_same, List.append_nil]) (.inl (Same.free s1 (Same.free (Same.new ne) np))) n0 (by omega) fun z m => .inr ⟨c, m⟩
def spDPat : Sp := fun vs H Q _ => ∃ (d la na : Addr) (cap n : Nat) (l : List (Str × Nat)) (ns : List Str), vs = [.ref d, .ref la, .ref na, .int (cap : Int)] ∧ Dice H d n ∧ n + 30 < 1000000 ∧ la ≠ d ∧ na ≠ d ∧ H la = some (.dK (dkv l)) ∧ OpsOk l ∧ H na = some (.lst (ns.map V.str)) ∧ ns ≠ [] ∧ ns.length ≤ 10 ∧ (∀ z ∈ ns, z ∉ l.map (·.1)) ∧ cap ≤ 5 ∧
  ∀ (p : Addr) (ws : List Str) (H' : Hp), p ≠ d → H p = none → Kp d H H' → H' p = some (.tup (ws.map V.str)) → Wh (ar l) 1 ws → 1 ≤ ws.length → ws.length ≤ 6 → (∀ z ∈ ws, z ∈ l.map (·.1) ∨ z ∈ ns) → (∃ z r, ws = z :: r ∧ z ∈ l.map (·.1)) → Dice H' d (n + 30) → Q (.ref p) H'
section
variable {P : Program} {w : World} {K : PySem.W.Frag} {mg : Str → Option Value} {base : Heap} {fR fP fM : Addr} {dR dP dM : FuncData}
theorem pe_imp9 {X : Cx} {e : Expr} {t t' : TE} (h : PE X e t) (k : ∀ σ H Q, t' σ H Q → t σ H Q) : PE X e t' := ⟨fun pins s σ H Q I q => h.run pins s σ H Q I (k σ H Q q)⟩
theorem scDPat : FnScope ["dice", "arities", "nonterminals", "cap", "found", "open_ends", "names", "turn", "some", "name"] ["dice", "arities", "nonterminals", "cap"] (defScope sDPat) := ⟨rfl, rfl, rfl, by decide +kernel, rfl, by decide +kernel, by decide +kernel⟩
theorem ok_dpat {f : Addr} {fd : FuncData} (F : Fun K "_law_drawn_pattern" "_law_drawn_pattern" sDPat f fd) (D : Draws K mg fR fP fM dR dP dM) (T : Free mg) : FnOk P w K mg base CX0 3 f fd ["dice", "arities", "nonterminals", "cap"] spDPat := by
  have GP : FnOk P w K mg base CX0 2 fP dP ["dice", "items"] (spPick K) := ok_pick D T
  refine F.ok scDPat (fun vs H Q E h => ?_) (fun cdv A outer s H vs Q E hr h => ?_)
  · obtain ⟨d, la, na, cap, n, l, ns, rfl, _⟩ := h
    rfl
  · obtain ⟨d, la, na, cap, n, l, ns, rfl, di, hn, lad, nad, hla, ok, hna, ns0, nsf, nsn, hcap, q⟩ := h
    have hu := hr.units
    have hu1 : ∀ {u : Nat}, u + 64 < cLine → u + 1 < cLine := fun h => by omega
    have r2 : Room 2 _ := hr.mono (by decide)
    refine ⟨_, (pss_cons (ps_par (i := 4) (j := 5) (by rfl) scDPat.nd rfl rfl (by decide) rfl rfl (pa_cons (pe_lst pa_nil) (pa_cons pe_int pa_nil)) (by rfl)) (pss_cons (ps_set (i := 6) scDPat.nd rfl (.inl rfl) (pe_callB (call_sortedD (by rfl)) (by rfl) T.sorted (by decide +kernel) (pa_cons (pv 1) pa_nil))) (pss_cons (ps_for PassesOwn.never rfl (pi_range1 rfl T.range (pa_cons pe_int pa_nil)) (pg_name (i := 7) scDPat.nd rfl (.inl rfl)) (pss_cons (ps_if (pt_cmpR op_eq (pv 5) pe_int (nomark _)) (pss_one ps_break) pss_nil) (pss_cons (ps_set (i := 8) scDPat.nd rfl (.inl rfl) (pe_imp9 (pe_ifExp (pt_cmpR op_eq (pv 7) pe_int (nomark _)) (pv 6) (pe_op op_cat (pe_callTy call_list_of (by rfl) T.list (by decide +kernel) (pa_cons (pv 2) pa_nil)) (pe_ifExp (pt_cmpR op_lt (pe_op op_add (pe_callB call_len_seq (by rfl) T.len PySem.boot_len (pa_cons (pv 4) pa_nil)) (pv 5)) (pv 3) (nomark _)) (pv 6) (pe_lst pa_nil)))) sm_imp)) (pss_cons (ps_set (i := 9) scDPat.nd rfl (.inl rfl) (pe_call GP r2 (by rfl) D.gP D.FP.kp D.bP .nil pass0 (pa_cons (pv 0) (pa_cons (pv 8) pa_nil)))) (pss_cons (ps_expr (pe_bm PySem.F.plainAttrs_list PySem.F.slot_list_append PySem.F.type_list_append mt_append (pv 4) (pa_cons (pv 9) pa_nil))) (pss_one (ps_set (i := 5) scDPat.nd rfl (.inl rfl) (pe_op op_add (pe_op op_sub (pv 5) pe_int) (pe_dget2 (hu1 hu) (pv 1) (pv 9) pe_int ⟨by rfl, by rfl, by rfl, by rfl⟩))))))))) (pss_one (ps_ret (pe_callTy call_tuple_of (by rfl) T.tuple (by decide +kernel) (pa_cons (pv 4) pa_nil))))))), ?_⟩
    obtain ⟨ds, hd⟩ := di.there
    have few := ok.few
    refine ⟨by show 0 ≤ sizeLine; decide, fun fa nfa => ⟨_, _, rfl, ?_⟩⟩
    have s1 := Same.new nfa (o := .lst [])
    have dfa : d ≠ fa := ne_of_none hd nfa
    refine ⟨_, rfl, la, dkv l, l.map (·.1), rfl, .inl (s1 _ _ hla), keys_dkv l, by rw [List.length_map]; omega, fun ks ka pk srt nka => ?_⟩
    have s2 := s1.trans (Same.new nka (o := .lst (ks.map V.str)))
    have hf1 : (upd (upd H fa (.lst [])) ka (.lst (ks.map V.str))) fa = some (.lst []) := (Same.new nka) _ _ upd_same
    have hk1 : (upd (upd H fa (.lst [])) ka (.lst (ks.map V.str))) ka = some (.lst (ks.map V.str)) := upd_same
    have fk : fa ≠ ka := ne_of_none (upd_same (H := H) (a := fa) (o := .lst [])) nka
    have dk : d ≠ ka := ne_of_none (s1 _ _ hd) nka
    have nkaH : H ka = none := Same.free s1 nka
    generalize upd (upd H fa (.lst [])) ka (.lst (ks.map V.str)) = H1 at s2 hf1 hk1 ⊢
    have lk : ks.length = l.length := by rw [pk.length_eq, List.length_map]
    have ksn : ks ≠ [] := fun e => by
      rw [e] at lk
      have h0 : l.length = 0 := lk.symm
      omega
    have laf : la ≠ fa := ne_of_none hla nfa
    have naf : na ≠ fa := ne_of_none hna nfa
    refine ⟨20, rfl, by decide, by decide, ?_⟩
    refine for_range (lo := 0) (n := (20 : Int).toNat) (fun i σ G => ∃ (v7 v8 v9 : Option V) (ws : List Str) (o : Nat), σ = [some (.ref d), some (.ref la), some (.ref na), some (.int (cap : Int)), some (.ref fa), some (.int (o : Int)), some (.ref ka), v7, v8, v9] ∧ Kp d H G ∧
        G fa = some (.lst (ws.map V.str)) ∧ G ka = some (.lst (ks.map V.str)) ∧ ws.length = i ∧ i + o ≤ 6 ∧ (∀ zs, Wh (ar l) o zs → Wh (ar l) 1 (ws ++ zs)) ∧ (∀ z ∈ ws, z ∈ l.map (·.1) ∨ z ∈ ns) ∧ (ws ≠ [] → ∃ z r, ws = z :: r ∧ z ∈ l.map (·.1)) ∧ (i = 0 → o = 1) ∧ Dice G d (n + i))
      ⟨none, none, none, [], 1, rfl, Kp.same s2, hf1, hk1, rfl, by omega, fun zs h => h, fun z m => (nomatch m), fun h => absurd rfl h, fun _ => rfl, di.same s2⟩ ?_ ?_
    · rintro i σ G hi ⟨v7, v8, v9, ws, o, rfl, kp, hf, hk, lw, io, wh, mem, first, o1, di'⟩
      refine ⟨_, rfl, rfl, _, rfl, ?_⟩
      cases o with
      | zero =>
        refine if_true_of (decide_eq_true rfl) ⟨_, rfl, fa, _, rfl, .inl ⟨SqL.of hf, fun t nt => ?_⟩⟩
        have w1 := wh [] rfl
        rw [List.append_nil] at w1
        obtain ⟨ds', hd'⟩ := di'.there
        have td : t ≠ d := (ne_of_none hd' nt).symm
        have wne : ws ≠ [] := fun e => by
          rw [e] at w1
          have : (1 : Nat) = 0 := w1
          omega
        have i0 : i ≠ 0 := fun e => by
          rw [e] at lw
          exact wne (List.length_eq_zero_iff.mp lw)
        exact q t ws _ td (Kp.free kp td nt) (kp.trans (Kp.new nt)) upd_same w1 (by omega) (by omega) mem (first wne) ((di'.same (Same.new nt)).more (by omega) (by omega))
      | succ o =>
        refine if_false_of (decide_eq_false fun e => ?_) ?_
        · have := V.int.inj e
          omega
        refine ⟨na, fa, ka, (cap : Int), ((o + 1 : Nat) : Int), (0 + (i : Int)), ns, ws, ks, rfl, rfl, rfl, rfl, rfl, rfl, kp _ _ nad hna, hf, hk, nsf, by omega, ns0, ksn, fun sa cs G1 s3 hsa fresh cs0 lcs ccs => ?_⟩
        have di1 := di'.same s3
        obtain ⟨ds1, hd1⟩ := di'.there
        have sad : sa ≠ d := by
          rcases fresh with h | h
          · exact (ne_of_none hd1 h).symm
          · rw [h]; exact dk.symm
        refine ⟨_, rfl, _, rfl, d, sa, n + i, cs.map V.str, rfl, sad, .inl (SqL.of hsa), fun e => cs0 (List.map_eq_nil_iff.mp e), by rw [List.length_map]; omega, di1, by omega, fun v o2 mv di2 => ?_⟩
        obtain ⟨z, mz, rfl⟩ := List.mem_map.mp mv
        have k2 : Kp d G (upd G1 d o2) := (Kp.same s3).trans Kp.upd
        have hf2 := k2 _ _ dfa.symm hf
        have hk2 := k2 _ _ dk.symm hk
        have hla2 : (upd G1 d o2) la = some (.dK (dkv l)) := k2 _ _ lad (kp _ _ lad hla)
        have arz : ws.length + 1 + (o + ar l z) ≤ 6 ∧ (z ∈ l.map (·.1) ∨ z ∈ ns) ∧ (i = 0 → z ∈ l.map (·.1)) := by
          have two := ops_two ok z
          rcases ccs z mz with ⟨m, c⟩ | ⟨c, m⟩
          · have ml := pk.mem_iff.mp m
            refine ⟨?_, .inl ml, fun _ => ml⟩
            rcases c with c | c
            · have i0 : i = 0 := by omega
              have := o1 i0
              omega
            · omega
          · have nz := nsn z m
            have e : valV (dkv l) (.inr z : Key) = none := val_none nz
            refine ⟨by rw [ar_none e]; omega, .inr m, fun h => absurd (by omega) c⟩
        refine ⟨_, rfl, .inl ⟨rfl, _, SqL.of hf2⟩, _, rfl, fa, _, _, rfl, rfl, hf2, by rw [List.length_map, sizeLine_eq]; omega, ?_⟩
        have hla3 : (upd (upd G1 d o2) fa (.lst (ws.map V.str ++ [.str z]))) la = some (.dK (dkv l)) := by
          rw [upd_ne laf]
          exact hla2
        refine ⟨_, rfl, _, _, rfl, rfl, _, rfl, la, rfl, .inl ⟨_, .inl hla3⟩, _, rfl, _, DGet.k (k := .inr z) hla3, ?_⟩
        rw [ar_getD]
        refine ⟨_, _, rfl, rfl, ?_⟩
        refine ⟨some (.int (0 + (i : Int))), some (.ref sa), some (.str z), ws ++ [z], o + ar l z, ?_, fun b u nb e => ?_, by rw [upd_same, List.map_append]; rfl, ?_, by simp [lw], by omega, fun zs h => ?_, fun y m => ?_, fun _ => ?_, fun h => absurd h (by omega), (di2.kept fun u e => ?_).more (by omega) (by omega)⟩
        · have e : ((o + 1 : Nat) : Int) - 1 + (ar l z : Int) = ((o + ar l z : Nat) : Int) := by omega
          show ([some (V.ref d), some (V.ref la), some (V.ref na), some (V.int (cap : Int)), some (V.ref fa), some (V.int (((o + 1 : Nat) : Int) - 1 + (ar l z : Int))), some (V.ref ka), some (V.int (0 + (i : Int))), some (V.ref sa), some (V.str z)] : L2.St) = _
          rw [e]
        · rw [upd_ne (ne_of_none e nfa)]
          exact k2 _ _ nb (kp _ _ nb e)
        · rw [upd_ne fk.symm]
          exact hk2
        · rw [List.append_assoc]
          exact wh _ h
        · rcases List.mem_append.mp m with m | m
          · exact mem y m
          · rw [List.mem_singleton.mp m]
            exact arz.2.1
        · by_cases e : ws = []
          · subst e
            have i0 : i = 0 := lw.symm
            exact ⟨z, [], rfl, arz.2.2 i0⟩
          · obtain ⟨y, r, e1, e2⟩ := first e
            exact ⟨y, r ++ [z], by rw [e1]; rfl, e2⟩
        · rw [upd_ne dfa]
          exact e
    · rintro σ G ⟨v7, v8, v9, ws, o, rfl, kp, hf, hk, lw, io, _⟩
      have e : (20 : Int).toNat = 20 := rfl
      omega
end
end Pr
namespace Pr
open PySem PySem.Spec PyProof.Rows L2 Gd
/-! ### _law_drawn_book -/
theorem op_eqDK {X : Cx} {K : PySem.W.Frag} (h : X.K = K) (hu : X.A.units + 64 < cLine) : OpR X (compareOp .Eq) (rEqD K) := h ▸ op_eqD hu
theorem pair_snoc9 {α β : Type} {F : α → β → Prop} {a : α} {b : β} (h : F a b) : ∀ {xs : List α} {ys : List β}, Paired F xs ys → Paired F (xs ++ [a]) (ys ++ [b])
  | _, _, .nil => .cons h .nil
  | _, _, .cons k q => .cons k (pair_snoc9 h q)
def ran : List Str := ["r", "a", "n"]
def lA : List (Str × Nat) := [("c", 0), ("s", 1)]
def lB : List (Str × Nat) := [("c", 0), ("p", 2)]
def lC : List (Str × Nat) := [("c", 0), ("v", 0), ("p", 2)]
def lD : List (Str × Nat) := [("c", 0), ("s", 1), ("p", 2)]
structure DrL (l : List (Str × Nat)) : Prop where
  ok : OpsOk l
  c : Wh (ar l) 1 [("c" : Str)]
  cm : ("c" : Str) ∈ l.map (·.1)
  new : ∀ z ∈ ran, z ∉ l.map (·.1)
theorem drA : DrL lA := ⟨opB_ok (by decide +kernel), whB_ok _ _ (by decide +kernel), by decide +kernel, by decide +kernel⟩
theorem drB : DrL lB := ⟨opB_ok (by decide +kernel), whB_ok _ _ (by decide +kernel), by decide +kernel, by decide +kernel⟩
theorem drC : DrL lC := ⟨opB_ok (by decide +kernel), whB_ok _ _ (by decide +kernel), by decide +kernel, by decide +kernel⟩
theorem drD : DrL lD := ⟨opB_ok (by decide +kernel), whB_ok _ _ (by decide +kernel), by decide +kernel, by decide +kernel⟩
theorem az_ran : ∀ z ∈ ran, azB z = true := by decide +kernel
/-- what is known of a drawn rule -/
structure DrR (l : List (Str × Nat)) (r : Rl) : Prop where
  ok : RlOk l r
  head : r.1 ∈ ran
  words : ∀ z ∈ r.2.2, z ∈ l.map (·.1) ∨ z ∈ ran
  six : r.2.2.length ≤ 6
theorem patLen_six {l : List (Str × Nat)} : ∀ {rs : List Rl}, (∀ r ∈ rs, DrR l r) → patLen rs ≤ 6 * rs.length
  | [], _ => Nat.le_refl _
  | r :: rs, h => by
    have a := (h r List.mem_cons_self).six
    have b := patLen_six (rs := rs) fun q m => h q (List.mem_cons_of_mem _ m)
    unfold patLen at b ⊢
    rw [List.map_cons, List.sum_cons, List.length_cons]
    omega
theorem drawn_ok {l : List (Str × Nat)} {rs : List Rl} (D : DrL l) (h : ∀ r ∈ rs, DrR l r) (f : rs.length ≤ 8) (nd : (rs.map fun r => (r.1, r.2.2)).Nodup) : BkOk l "r" rs ∧ patLen rs < 60 := by
  refine ⟨⟨D.ok, by decide +kernel, D.new _ (by decide +kernel), by omega, fun r m => (h r m).ok, nd, ran, by decide, fun z q => ?_⟩, by have := patLen_six h; omega⟩
  rcases q with rfl | ⟨r, m, k, n⟩
  · decide +kernel
  · rcases k with rfl | k
    · exact (h r m).head
    · exact ((h r m).words z k).resolve_left n
theorem first_ok {l : List (Str × Nat)} (D : DrL l) {p : Nat} (hp : p ≤ 9) : DrR l ("r", p, ["c"]) := by
  have c1 : azB ("r" : Str) = true := by decide +kernel
  have c2 : ("r" : Str) ∈ ran := by decide +kernel
  have c3 : ∀ z ∈ [("c" : Str)], azB z = true := by decide +kernel
  have c4 : [("c" : Str)] ≠ [("r" : Str)] := by decide +kernel
  refine ⟨⟨c1, D.new _ c2, hp, Nat.le_refl 1, Nat.le_of_ble_eq_true rfl, c3, c4, D.c⟩, c2, fun z m => .inl ?_, Nat.le_of_ble_eq_true rfl⟩
  rw [List.mem_singleton.mp m]
  exact D.cm
theorem more_ok {l : List (Str × Nat)} (D : DrL l) {h : Str} {p : Nat} {ws : List Str} (hh : h ∈ ran) (hp : p ≤ 9) (wh : Wh (ar l) 1 ws) (l1 : 1 ≤ ws.length) (l6 : ws.length ≤ 6) (mem : ∀ z ∈ ws, z ∈ l.map (·.1) ∨ z ∈ ran) (ne : ws ≠ [h]) : DrR l (h, p, ws) := by
  refine ⟨⟨az_ran h hh, D.new h hh, hp, l1, by show ws.length ≤ 7; omega, fun z m => ?_, ne, wh⟩, hh, mem, l6⟩
  rcases mem z m with k | k
  · obtain ⟨q, mq, rfl⟩ := List.mem_map.mp k
    exact D.ok.name q mq
  · exact az_ran z k
theorem one_wh {l : List (Str × Nat)} (D : DrL l) {z : Str} (m : z ∈ ran) : Wh (ar l) 1 [z] := by
  show 0 + ar l z = 0
  rw [ar_none (val_none (D.new z m))]
theorem cut_to {xs : List V} {k : Nat} : cutV xs none (some (k : Int)) = xs.take k := by
  have e1 : HT.sIx xs.length 0 none = 0 := rfl
  have e2 : HT.sIx xs.length xs.length (some (k : Int)) = min k xs.length := by
    show (if (k : Int) < 0 then ((k : Int) + (xs.length : Int)).toNat else min (k : Int).toNat xs.length) = _
    rw [if_neg (by omega), Int.toNat_natCast]
  unfold cutV
  rw [e1, e2, List.drop_zero, Nat.sub_zero]
  rcases Nat.le_total k xs.length with c | c
  · rw [Nat.min_eq_left c]
  · rw [Nat.min_eq_right c, List.take_length, List.take_of_length_le c]
theorem ps_imp9 {X : Cx} {st : Stmt} {t t' : TS} (h : PS X st t) (k : ∀ D σ H, t' D σ H → t D σ H) : PS X st t' := ⟨fun pins s σ H D I q => h.run pins s σ H D I (k D σ H q)⟩
abbrev t_ip (K : PySem.W.Frag) : TS := tIfS (tTest (tOp rEq (tCall spRoll [] E0 (tCons (tVar 0) (tCons (tC (V.int 6)) tNil))) (tC (V.int 0)))) (tAsg (tTup (tCons (tCall (spPick K) [] E0 (tCons (tVar 0) (tCons (tVar 4) tNil))) tNil)) (gName 9)) tNext
def t_ipB : TS := fun D σ H => ∃ (d na pt : Addr) (n : Nat) (ns ws : List Str), σ[0]? = some (some (.ref d)) ∧ σ[4]? = some (some (.ref na)) ∧ σ.set 9 (some (.ref pt)) = σ ∧ Dice H d n ∧ n + 2 < 1000000 ∧ na ≠ d ∧ pt ≠ d ∧ H na = some (.lst (ns.map V.str)) ∧ ns ≠ [] ∧ ns.length ≤ 10 ∧ H pt = some (.tup (ws.map V.str)) ∧
  ∀ (p : Addr) (vs : List Str) (H' : Hp), p ≠ d → (vs = ws ∨ ∃ z ∈ ns, vs = [z]) → Kp d H H' → H' p = some (.tup (vs.map V.str)) → Dice H' d (n + 2) → D.nx (σ.set 9 (some (.ref p))) H'
theorem ip_imp {K : PySem.W.Frag} : ∀ D σ H, t_ipB D σ H → t_ip K D σ H := by
  rintro D σ H ⟨d, na, pt, n, ns, ws, h0, h4, hs, di, hn, nd, pd, hna, ns0, nsf, hpt, q⟩
  refine ⟨_, h0, d, 6, n, rfl, di, by omega, by decide, by decide, fun r o r0 r6 di2 => ?_⟩
  have k1 : Kp d H (upd H d o) := Kp.upd
  refine ⟨rfl, _, rfl, ?_⟩
  by_cases c : r = 0
  · refine if_true_of (decide_eq_true (by rw [c])) ⟨_, h0, _, h4, d, na, n + 1, ns.map V.str, rfl, nd, .inl (SqL.of (k1 _ _ nd hna)), fun e => ns0 (List.map_eq_nil_iff.mp e), by rw [List.length_map]; omega, di2, by omega, fun v o2 mv di3 => ?_⟩
    obtain ⟨z, mz, rfl⟩ := List.mem_map.mp mv
    have k2 := k1.trans (Kp.upd (o := o2))
    obtain ⟨ds, hd⟩ := di3.there
    refine ⟨by show 1 ≤ sizeLine; decide, fun p np => q p [z] _ (ne_of_none hd np).symm (.inr ⟨z, mz, rfl⟩) (k2.trans (Kp.new np)) upd_same (di3.same (Same.new np))⟩
  · refine if_false_of (decide_eq_false fun e => c (V.int.inj e)) ?_
    have := q pt ws _ pd (.inl rfl) k1 (k1 _ _ pd hpt) (di2.more (by omega) (by omega))
    rw [hs] at this
    exact this
def spDBook : Sp := fun vs H Q _ => ∃ (d : Addr) (a b n : Nat), vs = [.ref d, .int (a : Int), .int (b : Int)] ∧ Dice H d n ∧ n + 400 < 1000000 ∧ 1 ≤ a ∧ a ≤ 8 ∧ 1 ≤ b ∧ b ≤ 3 ∧
  ∀ (l : List (Str × Nat)) (g : Str) (rs : List Rl) (p : Addr) (H' : Hp), Any H' p l g rs → 1 ≤ rs.length → rs.length ≤ a → p ≠ d → H p = none → Kp d H H' → Dice H' d (n + 400) → Q (.ref p) H'
section
variable {P : Program} {w : World} {K : PySem.W.Frag} {mg : Str → Option Value} {base : Heap} {fR fP fM fT : Addr} {dR dP dM dT : FuncData}
theorem scDBook : FnScope ["dice", "rules", "heads", "arities", "nonterminals", "found", "turn", "head", "price", "pattern", "twins", "rule"] ["dice", "rules", "heads"] (defScope sDBook) := ⟨rfl, rfl, rfl, by decide +kernel, rfl, by decide +kernel, by decide +kernel⟩
theorem ok_dbook {f : Addr} {fd : FuncData} (F : Fun K "_law_drawn_book" "_law_drawn_book" sDBook f fd) (D : Draws K mg fR fP fM dR dP dM) (T : Free mg) (FT : Fun K "_law_drawn_pattern" "_law_drawn_pattern" sDPat fT dT) (bT : Binds K dT ["dice", "arities", "nonterminals", "cap"] []) (gT : mg "_law_drawn_pattern" = some (.ref fT)) :
    FnOk P w K mg base CX0 4 f fd ["dice", "rules", "heads"] spDBook := by
  have GR : FnOk P w K mg base CX0 1 fR dR ["dice", "total"] spRoll := ok_roll D.FR T
  have GP : FnOk P w K mg base CX0 2 fP dP ["dice", "items"] (spPick K) := ok_pick D T
  have GM : FnOk P w K mg base CX0 2 fM dM ["dice", "items"] (spMixed K) := ok_mixed D T
  have GT : FnOk P w K mg base CX0 3 fT dT ["dice", "arities", "nonterminals", "cap"] spDPat := ok_dpat FT D T
  refine F.ok scDBook (fun vs H Q E h => ?_) (fun cdv A outer s H vs Q E hr h => ?_)
  · obtain ⟨d, a, b, n, rfl, _⟩ := h
    rfl
  · obtain ⟨d, a, b, n, rfl, di, hn, a1, a8, b1, b3, q⟩ := h
    have hu := hr.units
    have hu1 : ∀ {u : Nat}, u + 64 < cLine → u + 1 < cLine := fun h => by omega
    have r1 : Room 1 _ := hr.mono (by decide)
    have r2 : Room 2 _ := hr.mono (by decide)
    have r3 : Room 3 _ := hr.mono (by decide)
    refine ⟨_, (pss_cons (ps_set (i := 3) scDBook.nd rfl (.inl rfl) (pe_call GP r2 (by rfl) D.gP D.FP.kp D.bP .nil pass0 (pa_cons (pv 0) (pa_cons (pe_lst (pa_cons (pe_disp (pps_cons pe_str pe_int (pps_cons pe_str pe_int pps_nil)) (by rfl) (by rfl) (fun z => by cases z) (by decide)) (pa_cons (pe_disp (pps_cons pe_str pe_int (pps_cons pe_str pe_int pps_nil)) (by rfl) (by rfl) (fun z => by cases z) (by decide)) (pa_cons (pe_disp (pps_cons pe_str pe_int (pps_cons pe_str pe_int (pps_cons pe_str pe_int pps_nil))) (by rfl) (by rfl) (fun z => by cases z) (by decide)) (pa_cons (pe_disp (pps_cons pe_str pe_int (pps_cons pe_str pe_int (pps_cons pe_str pe_int pps_nil))) (by rfl) (by rfl) (fun z => by cases z) (by decide)) pa_nil))))) pa_nil)))) (pss_cons (ps_set (i := 4) scDBook.nd rfl (.inl rfl) (pe_slice sl_list (pe_lst (pa_cons pe_str (pa_cons pe_str (pa_cons pe_str pa_nil)))) po_none (po_some (pe_op op_add pe_int (pe_call GR r1 (by rfl) D.gR D.FR.kp D.bR .nil pass0 (pa_cons (pv 0) (pa_cons (pv 2) pa_nil))))))) (pss_cons (ps_set (i := 5) scDBook.nd rfl (.inl rfl) (pe_lst (pa_cons (pe_tup (pa_cons pe_str (pa_cons (pe_call GR r1 (by rfl) D.gR D.FR.kp D.bR .nil pass0 (pa_cons (pv 0) (pa_cons pe_int pa_nil))) (pa_cons (pe_tup (pa_cons pe_str pa_nil)) pa_nil)))) pa_nil))) (pss_cons (ps_for PassesOwn.never rfl (pi_range1 rfl T.range (pa_cons (pe_op op_sub (pv 1) pe_int) pa_nil)) (pg_name (i := 6) scDBook.nd rfl (.inl rfl)) (pss_cons (ps_asg (pe_tup (pa_cons (pe_call GP r2 (by rfl) D.gP D.FP.kp D.bP .nil pass0 (pa_cons (pv 0) (pa_cons (pe_op op_cat (pe_lst (pa_cons pe_str pa_nil)) (pv 4)) pa_nil))) (pa_cons (pe_call GP r2 (by rfl) D.gP D.FP.kp D.bP .nil pass0 (pa_cons (pv 0) (pa_cons (pe_lst (pa_cons pe_int (pa_cons pe_int (pa_cons pe_int (pa_cons pe_int (pa_cons pe_int (pa_cons pe_int pa_nil))))))) pa_nil))) pa_nil))) (pg_tup rfl (pgs_cons (pg_name (i := 7) scDBook.nd rfl (.inr rfl)) (pgs_cons (pg_name (i := 8) scDBook.nd rfl (.inl rfl)) pgs_nil)))) (pss_cons (ps_set (i := 9) scDBook.nd rfl (.inr rfl) (pe_call GT r3 (by rfl) gT FT.kp bT .nil pass0 (pa_cons (pv 0) (pa_cons (pv 3) (pa_cons (pv 4) (pa_cons (pe_op op_add pe_int (pe_call GR r1 (by rfl) D.gR D.FR.kp D.bR .nil pass0 (pa_cons (pv 0) (pa_cons pe_int pa_nil)))) pa_nil)))))) (pss_cons (ps_imp9 (ps_if (pt_cmpR op_eq (pe_call GR r1 (by rfl) D.gR D.FR.kp D.bR .nil pass0 (pa_cons (pv 0) (pa_cons pe_int pa_nil))) pe_int (nomark _)) (pss_one (ps_set (i := 9) scDBook.nd rfl (.inr rfl) (pe_tup (pa_cons (pe_call GP r2 (by rfl) D.gP D.FP.kp D.bP .nil pass0 (pa_cons (pv 0) (pa_cons (pv 4) pa_nil))) pa_nil)))) pss_nil) ip_imp) (pss_cons (ps_setLc (i := 10) (own := [("rule", 11)]) (g := gName 11) (by rfl) scDBook.nd rfl rfl (sw_true rfl rfl rfl (by decide +kernel)) (pi_list (pv 5)) (blkOk_by (own := [("rule", 11)]) (N := ["dice", "rules", "heads", "arities", "nonterminals", "found", "turn", "head", "price", "pattern", "twins", "rule"]) (sc := defScope sDBook) (by decide +kernel)) (fun _ _ _ _ _ => pg_name (i := 11) scDBook.nd rfl (.inl rfl)) (fun _ _ _ _ _ => pts_one (PW.pt (pw_and (pt_cmpR op_eq (pe_ix (ix_tupK (K := K) rfl) (pv 11) pe_int (fun _ _ => rfl)) (pv 7) (nomark _)) (pw_and1 (pt_cmpR (op_eqDK (K := K) rfl hu) (pe_ix (ix_tupK (K := K) rfl) (pv 11) pe_int (fun _ _ => rfl)) (pv 9) (nomark _)))))) (fun _ _ _ _ _ => pv 11)) (pss_one (ps_if (PW.pt (pw_and (pt_cmpR (op_neD hu) (pv 9) (pe_tup (pa_cons (pv 7) pa_nil)) (nomark _)) (pw_and1 (pt_cmpR (op_eqL hu) (pv 10) (pe_lst pa_nil) (nomark _))))) (pss_one (ps_expr (pe_bm PySem.F.plainAttrs_list PySem.F.slot_list_append PySem.F.type_list_append mt_append (pv 5) (pa_cons (pe_tup (pa_cons (pv 7) (pa_cons (pv 8) (pa_cons (pv 9) pa_nil)))) pa_nil)))) pss_nil))))))) (pss_one (ps_ret (pe_disp (pps_cons pe_str (pv 3) (pps_cons pe_str pe_str (pps_cons pe_str (pe_call GM r2 (by rfl) D.gM D.FM.kp D.bM .nil pass0 (pa_cons (pv 0) (pa_cons (pv 5) pa_nil))) pps_nil))) (by rfl) (by rfl) (fun z => by cases z) (by decide)))))))), ?_⟩
    obtain ⟨ds, hd⟩ := di.there
    -- arities
    refine ⟨_, rfl, fun p1 n1 => ⟨upd_same, dkv lA, rfl, Nat.le_of_ble_eq_true rfl, ?_⟩⟩
    rw [upd_upd, merge_all drA.ok.nd]
    have s1 := Same.new n1 (o := .dK (dkv lA))
    have e1 : (upd H p1 (.dK (dkv lA))) p1 = some (.dK (dkv lA)) := upd_same
    generalize upd H p1 (.dK (dkv lA)) = H1 at s1 e1 ⊢
    refine fun p2 n2 => ⟨upd_same, dkv lB, rfl, Nat.le_of_ble_eq_true rfl, ?_⟩
    rw [upd_upd, merge_all drB.ok.nd]
    have s2 := Same.new n2 (o := .dK (dkv lB))
    have e2 : (upd H1 p2 (.dK (dkv lB))) p2 = some (.dK (dkv lB)) := upd_same
    generalize upd H1 p2 (.dK (dkv lB)) = H2 at s2 e2 ⊢
    refine fun p3 n3 => ⟨upd_same, dkv lC, rfl, Nat.le_of_ble_eq_true rfl, ?_⟩
    rw [upd_upd, merge_all drC.ok.nd]
    have s3 := Same.new n3 (o := .dK (dkv lC))
    have e3 : (upd H2 p3 (.dK (dkv lC))) p3 = some (.dK (dkv lC)) := upd_same
    generalize upd H2 p3 (.dK (dkv lC)) = H3 at s3 e3 ⊢
    refine fun p4 n4 => ⟨upd_same, dkv lD, rfl, Nat.le_of_ble_eq_true rfl, ?_⟩
    rw [upd_upd, merge_all drD.ok.nd]
    have s4 := Same.new n4 (o := .dK (dkv lD))
    have e4 : (upd H3 p4 (.dK (dkv lD))) p4 = some (.dK (dkv lD)) := upd_same
    generalize upd H3 p4 (.dK (dkv lD)) = H4 at s4 e4 ⊢
    refine ⟨by show 4 ≤ sizeLine; decide, fun pl npl => ?_⟩
    have s5 := Same.new npl (o := .lst [V.ref p1, V.ref p2, V.ref p3, V.ref p4])
    have h5 : (upd H4 pl (.lst [V.ref p1, V.ref p2, V.ref p3, V.ref p4])) pl = some (.lst [V.ref p1, V.ref p2, V.ref p3, V.ref p4]) := upd_same
    have sall := (((s1.trans s2).trans s3).trans s4).trans s5
    have four : ∀ v ∈ [V.ref p1, V.ref p2, V.ref p3, V.ref p4], ∃ la l, v = .ref la ∧ (upd H4 pl (.lst [V.ref p1, V.ref p2, V.ref p3, V.ref p4])) la = some (.dK (dkv l)) ∧ DrL l := fun v m => by
      rcases List.mem_cons.mp m with rfl | m
      · exact ⟨p1, lA, rfl, s5 _ _ (s4 _ _ (s3 _ _ (s2 _ _ e1))), drA⟩
      rcases List.mem_cons.mp m with rfl | m
      · exact ⟨p2, lB, rfl, s5 _ _ (s4 _ _ (s3 _ _ e2)), drB⟩
      rcases List.mem_cons.mp m with rfl | m
      · exact ⟨p3, lC, rfl, s5 _ _ (s4 _ _ e3), drC⟩
      rcases List.mem_cons.mp m with rfl | m
      · exact ⟨p4, lD, rfl, s5 _ _ e4, drD⟩
      · cases m
    have hd5 := sall _ _ hd
    generalize upd H4 pl (.lst [V.ref p1, V.ref p2, V.ref p3, V.ref p4]) = H5 at s5 h5 sall four hd5 ⊢
    have pld : pl ≠ d := fun e => by
      rw [e] at npl
      rw [((((s1.trans s2).trans s3).trans s4)) _ _ hd] at npl
      cases npl
    refine ⟨d, pl, n, _, rfl, pld, .inl (SqL.of h5), by simp, Nat.le_of_ble_eq_true rfl, di.same sall, by omega, fun v o mv di1 => ?_⟩
    obtain ⟨la, l, rfl, hla, DL⟩ := four v mv
    have lad : la ≠ d := fun e => by
      rw [e, hd5] at hla
      cases hla
    have k6 : Kp d H (upd H5 d o) := (Kp.same sall).trans Kp.upd
    have hla6 : (upd H5 d o) la = some (.dK (dkv l)) := by rw [upd_ne lad]; exact hla
    generalize upd H5 d o = H6 at k6 hla6 di1 ⊢
    -- nonterminals
    refine ⟨by show 3 ≤ sizeLine; decide, fun nl nnl => ?_⟩
    have s7 := Same.new nnl (o := .lst [V.str "r", V.str "a", V.str "n"])
    have h7 : (upd H6 nl (.lst [V.str "r", V.str "a", V.str "n"])) nl = some (.lst (ran.map V.str)) := upd_same
    obtain ⟨d6, hd6⟩ := di1.there
    have nld : nl ≠ d := (ne_of_none hd6 nnl).symm
    have di2 := di1.same s7
    have k7 := k6.trans (Kp.same s7)
    have hla7 := s7 _ _ hla6
    generalize upd H6 nl (.lst [V.str "r", V.str "a", V.str "n"]) = H7 at s7 h7 di2 k7 hla7 ⊢
    have big3 : (3 : Int) < 2 ^ 400 := by decide
    refine ⟨_, rfl, _, rfl, d, (b : Int), n + 1, rfl, di2, by omega, by omega, Int.lt_of_le_of_lt (by omega) big3, fun r o r0 rb di3 => ?_⟩
    have k8 : Kp d H (upd H7 d o) := k7.trans Kp.upd
    have h8 : (upd H7 d o) nl = some (.lst (ran.map V.str)) := by rw [upd_ne nld]; exact h7
    have hla8 : (upd H7 d o) la = some (.dK (dkv l)) := by rw [upd_ne lad]; exact hla7
    generalize upd H7 d o = H8 at k8 h8 hla8 di3 ⊢
    obtain ⟨k, rfl⟩ : ∃ k : Nat, r = (k : Int) := ⟨r.toNat, by omega⟩
    refine ⟨_, _, rfl, rfl, _, rfl, nl, _, rfl, SqL.of h8, fun na nna => ?_⟩
    have ecut : cutV (ran.map V.str) none (some (1 + (k : Int))) = (ran.take (k + 1)).map V.str := by
      have e : (1 + (k : Int)) = ((k + 1 : Nat) : Int) := by omega
      rw [e, cut_to, List.map_take]
    rw [ecut]
    have s9 := Same.new nna (o := .lst ((ran.take (k + 1)).map V.str))
    have h9 : (upd H8 na (.lst ((ran.take (k + 1)).map V.str))) na = some (.lst ((ran.take (k + 1)).map V.str)) := upd_same
    obtain ⟨d8, hd8⟩ := di3.there
    have nad : na ≠ d := (ne_of_none hd8 nna).symm
    have di4 := di3.same s9
    have k9 := k8.trans (Kp.same s9)
    have hla9 := s9 _ _ hla8
    have ns0 : ran.take (k + 1) ≠ [] := by
      show ("r" : Str) :: _ ≠ []
      exact List.cons_ne_nil _ _
    have nsl : (ran.take (k + 1)).length ≤ 3 := by
      have := List.length_take_le (k + 1) ran
      have e : ran.length = 3 := rfl
      rw [List.length_take, e]
      omega
    have nsr : ∀ z ∈ ran.take (k + 1), z ∈ ran := fun z m => List.mem_of_mem_take m
    generalize ran.take (k + 1) = ns at h9 di4 k9 hla9 s9 ns0 nsl nsr ⊢
    generalize upd H8 na (.lst (ns.map V.str)) = H9 at h9 di4 k9 hla9 s9 ⊢
    -- found
    refine ⟨_, rfl, d, 3, n + 2, rfl, di4, by omega, by decide, by decide, fun r o r0 r3 di5 => ?_⟩
    have kA : Kp d H (upd H9 d o) := k9.trans Kp.upd
    have hnA : (upd H9 d o) na = some (.lst (ns.map V.str)) := by rw [upd_ne nad]; exact h9
    have hlaA : (upd H9 d o) la = some (.dK (dkv l)) := by rw [upd_ne lad]; exact hla9
    generalize upd H9 d o = HA at kA hnA hlaA di5 ⊢
    obtain ⟨q0, rfl⟩ : ∃ q0 : Nat, r = (q0 : Int) := ⟨r.toNat, by omega⟩
    refine ⟨by show 1 ≤ sizeLine; decide, fun cp ncp => ⟨by show 3 ≤ sizeLine; decide, fun rp nrp => ⟨by show 1 ≤ sizeLine; decide, fun fa nfa => ?_⟩⟩⟩
    have sB := ((Same.new ncp (o := .tup [V.str "c"])).trans (Same.new nrp (o := .tup [V.str "r", V.int (q0 : Int), V.ref cp])))
    have r0B : RuleAt (upd (upd HA cp (.tup [V.str "c"])) rp (.tup [V.str "r", V.int (q0 : Int), V.ref cp])) rp ("r", q0, ["c"]) := ⟨cp, upd_same, (Same.new nrp) _ _ upd_same⟩
    generalize upd (upd HA cp (.tup [V.str "c"])) rp (.tup [V.str "r", V.int (q0 : Int), V.ref cp]) = HB at sB r0B nfa ⊢
    have sC := Same.new nfa (o := .lst [V.ref rp])
    have hfC : (upd HB fa (.lst [V.ref rp])) fa = some (.lst ([rp].map V.ref)) := upd_same
    have diB := di5.same sB
    obtain ⟨dB, hdB⟩ := diB.there
    have fad : fa ≠ d := (ne_of_none hdB nfa).symm
    have kB := kA.trans (Kp.same sB)
    have nfaH : H fa = none := Kp.free kB fad nfa
    have di6 := diB.same sC
    have kC := kB.trans (Kp.same sC)
    have hnC := sC _ _ (sB _ _ hnA)
    have hlaC := sC _ _ (sB _ _ hlaA)
    have r0C := r0B.same sC
    generalize upd HB fa (.lst [V.ref rp]) = HC at hfC di6 kC hnC hlaC r0C ⊢
    have naf : na ≠ fa := ne_of_none (sB _ _ hnA) nfa
    have laf : la ≠ fa := ne_of_none (sB _ _ hlaA) nfa
    have dfa : d ≠ fa := fad.symm
    refine ⟨_, rfl, _, _, rfl, rfl, _, rfl, by omega, by omega, ?_⟩
    refine for_range (lo := 0) (n := ((a : Int) - 1).toNat) (fun i σ G => ∃ (v6 v7 v8 v9 v10 v11 : Option V) (rs : List Rl) (as : List Addr), σ = [some (.ref d), some (.int (a : Int)), some (.int (b : Int)), some (.ref la), some (.ref na), some (.ref fa), v6, v7, v8, v9, v10, v11] ∧ Kp d H G ∧ G la = some (.dK (dkv l)) ∧ G na = some (.lst (ns.map V.str)) ∧ G fa = some (.lst (as.map V.ref)) ∧
        Paired (fun b r => RuleAt G b r) as rs ∧ (∀ r ∈ rs, DrR l r) ∧ (rs.map fun r => (r.1, r.2.2)).Nodup ∧ (1 ≤ rs.length ∧ rs.length ≤ 1 + i) ∧ Dice G d (n + 3 + 40 * i))
      ⟨none, none, none, none, none, none, [("r", q0, ["c"])], [rp], rfl, kC, hlaC, hnC, hfC, .cons r0C .nil, fun r m => by rw [List.mem_singleton.mp m]; exact first_ok DL (by omega), by simp, ⟨Nat.le_refl 1, Nat.le_refl 1⟩, di6⟩ ?_ ?_
    · rintro i σ G hi ⟨v6, v7, v8, v9, v10, vL, rs, as, rfl, kp, hla, hna, hfa, pr, dr, nd, lrs, di'⟩
      have las : as.length = rs.length := Paired.length pr
      obtain ⟨dg, hdg⟩ := di'.there
      -- head, price
      refine ⟨_, rfl, by show 1 ≤ sizeLine; decide, fun x1 nx1 => ?_⟩
      have t1 := Same.new nx1 (o := .lst [V.str "r"])
      refine ⟨_, rfl, x1, na, _, _, rfl, rfl, upd_same, t1 _ _ hna, by rw [List.length_map, sizeLine_eq]; simp only [List.length_cons, List.length_nil]; omega, fun x2 nx2 => ?_⟩
      have t2 := t1.trans (Same.new nx2 (o := .lst ([V.str "r"] ++ ns.map V.str)))
      have hx2 : (upd (upd G x1 (.lst [V.str "r"])) x2 (.lst ([V.str "r"] ++ ns.map V.str))) x2 = some (.lst ((("r" : Str) :: ns).map V.str)) := upd_same
      generalize upd (upd G x1 (.lst [V.str "r"])) x2 (.lst ([V.str "r"] ++ ns.map V.str)) = G1 at t2 hx2 ⊢
      have x2d : x2 ≠ d := fun e => by
        have h1 := t1 _ _ hdg
        rw [e, h1] at nx2
        cases nx2
      refine ⟨d, x2, _, _, rfl, x2d, .inl (SqL.of hx2), by simp, by rw [List.length_map, List.length_cons]; omega, di'.same t2, by omega, fun v o mv dj => ?_⟩
      obtain ⟨hd_, mh, rfl⟩ := List.mem_map.mp mv
      have hh : hd_ ∈ ran := by
        rcases List.mem_cons.mp mh with e | m
        · rw [e]; exact List.mem_cons_self
        · exact nsr _ m
      have k1 : Kp d G (upd G1 d o) := (Kp.same t2).trans Kp.upd
      generalize upd G1 d o = G2 at k1 dj ⊢
      obtain ⟨d2, hd2⟩ := dj.there
      refine ⟨_, rfl, by show 6 ≤ sizeLine; decide, fun x3 nx3 => ?_⟩
      have t3 := Same.new nx3 (o := .lst [V.int 0, V.int 1, V.int 1, V.int 2, V.int 3, V.int 4])
      have x3d : x3 ≠ d := (ne_of_none hd2 nx3).symm
      refine ⟨d, x3, _, _, rfl, x3d, .inl (SqL.of upd_same), by simp, Nat.le_of_ble_eq_true rfl, dj.same t3, by omega, fun v o mv dk => ?_⟩
      obtain ⟨pc, hpc, rfl⟩ : ∃ pc : Nat, pc ≤ 9 ∧ v = .int (pc : Int) := by
        simp only [List.mem_cons, List.not_mem_nil, or_false] at mv
        rcases mv with rfl | rfl | rfl | rfl | rfl | rfl
        · exact ⟨0, by omega, rfl⟩
        · exact ⟨1, by omega, rfl⟩
        · exact ⟨1, by omega, rfl⟩
        · exact ⟨2, by omega, rfl⟩
        · exact ⟨3, by omega, rfl⟩
        · exact ⟨4, by omega, rfl⟩
      have k2 : Kp d G (upd (upd G2 x3 (.lst [V.int 0, V.int 1, V.int 1, V.int 2, V.int 3, V.int 4])) d o) := (k1.trans (Kp.same t3)).trans Kp.upd
      generalize upd (upd G2 x3 (.lst [V.int 0, V.int 1, V.int 1, V.int 2, V.int 3, V.int 4])) d o = G3 at k2 dk ⊢
      refine ⟨by show 2 ≤ sizeLine; decide, fun tp ntp => ⟨tp, _, rfl, SqT.of upd_same, rfl, _, _, rfl, _, _, rfl, rfl, ?_⟩⟩
      have t4 := Same.new ntp (o := .tup [V.str hd_, V.int (pc : Int)])
      have k3 := k2.trans (Kp.same t4)
      have dl := dk.same t4
      generalize upd G3 tp (.tup [V.str hd_, V.int (pc : Int)]) = G4 at k3 dl ⊢
      -- pattern
      refine ⟨_, rfl, _, rfl, _, rfl, _, rfl, d, 4, _, rfl, dl, by omega, by decide, by decide, fun r o r0 r4 dm => ?_⟩
      obtain ⟨rn, rfl⟩ : ∃ rn : Nat, r = (rn : Int) := ⟨r.toNat, by omega⟩
      have k4 := k3.trans (Kp.upd (d := d) (o := o))
      refine ⟨_, _, rfl, rfl, d, la, na, 2 + rn, _, l, ns, rfl, dm, by omega, lad, nad, k4 _ _ lad hla, DL.ok, k4 _ _ nad hna, ns0, by omega, fun z m => DL.new z (nsr z m), by omega, fun pt ws G5 ptd npt k5 hpt wh w1 w6 wm wf dn => ?_⟩
      have k6 := k4.trans k5
      generalize upd G4 d o = G4' at *
      -- its other form
      refine ⟨d, na, pt, _, ns, ws, rfl, rfl, rfl, dn, by omega, nad, ptd, k6 _ _ nad hna, ns0, by omega, hpt, fun p2 vs G6 p2d hv k7 hp2 do_ => ?_⟩
      have k8 := k6.trans k7
      have vfacts : Wh (ar l) 1 vs ∧ 1 ≤ vs.length ∧ vs.length ≤ 6 ∧ ∀ z ∈ vs, z ∈ l.map (·.1) ∨ z ∈ ran := by
        rcases hv with rfl | ⟨z, mz, rfl⟩
        · exact ⟨wh, w1, w6, fun z m => (wm z m).imp id (nsr z)⟩
        · exact ⟨one_wh DL (nsr z mz), Nat.le_refl 1, Nat.le_of_ble_eq_true rfl, fun y m => .inr (by rw [List.mem_singleton.mp m]; exact nsr z mz)⟩
      obtain ⟨vw, v1, v6', vm⟩ := vfacts
      have vaz : ∀ z ∈ vs, azB z = true := fun z m => by
        rcases vm z m with h | h
        · obtain ⟨q, mq, rfl⟩ := List.mem_map.mp h
          exact DL.ok.name q mq
        · exact az_ran z h
      have hfa6 := k8 _ _ fad hfa
      have ndt : ∀ {b : Addr} {xs : List V}, G b = some (.tup xs) → b ≠ d := fun {b xs} e c => by
        rw [c, hdg] at e
        cases e
      have pr6 : Paired (fun b r => RuleAt G6 b r) as rs := paired_map (fun b r ⟨t, x, y⟩ => ⟨t, k8 _ _ (ndt x) x, k8 _ _ (ndt y) y⟩) pr
      -- twins
      refine ⟨_, rfl, fa, rfl, ⟨_, SqL.of hfa6⟩, fun D nD => ?_⟩
      refine lc_list (K := K) (a := fa) (xs := as.map V.ref) (fun j G7 => ∃ tw : List Addr, G7 D = some (.lst (tw.map V.ref)) ∧ tw.length ≤ j ∧ (tw = [] ↔ ∀ r ∈ rs.take j, (r.1, r.2.2) ≠ (hd_, vs)) ∧ Same G6 G7)
        ⟨[], upd_same, Nat.le_refl _, by simp, Same.new nD⟩ (fun j G7 _ ⟨_, _, _, _, s⟩ => SqL.of (s _ _ hfa6)) ?_ ?_
      · rintro j x G7 hx ⟨tw, eD, lt, iff, s⟩
        obtain ⟨b', hb', rfl⟩ := ref_at hx
        obtain ⟨r', hr', rat⟩ := pget9 pr6 hb'
        obtain ⟨t', hbt, htt⟩ := RuleAt.same rat s
        have jl := (List.getElem?_eq_some_iff.mp hr').1
        have drr := dr r' (List.mem_of_getElem? hr')
        have step : (∀ r ∈ rs.take (j + 1), (r.1, r.2.2) ≠ (hd_, vs)) ↔ (∀ r ∈ rs.take j, (r.1, r.2.2) ≠ (hd_, vs)) ∧ (r'.1, r'.2.2) ≠ (hd_, vs) := by
          rw [List.take_add_one, hr']
          constructor
          · intro h
            exact ⟨fun r m => h r (List.mem_append_left _ m), h r' (List.mem_append_right _ (by simp))⟩
          · rintro ⟨h1, h2⟩ r m
            rcases List.mem_append.mp m with m | m
            · exact h1 r m
            · have e : r = r' := by simpa using m
              rw [e]
              exact h2
        have no : (r'.1, r'.2.2) ≠ (hd_, vs) → ∃ tw : List Addr, G7 D = some (.lst (tw.map V.ref)) ∧ tw.length ≤ j + 1 ∧ (tw = [] ↔ ∀ r ∈ rs.take (j + 1), (r.1, r.2.2) ≠ (hd_, vs)) ∧ Same G6 G7 := fun ne => ⟨tw, eD, by omega, by rw [step, iff]; exact ⟨fun h => ⟨h, ne⟩, fun h => h.1⟩, s⟩
        refine ⟨rfl, _, rfl, _, _, 0, V.str r'.1, rfl, rfl, SqT.of hbt, atI_nat (j := 0) rfl, _, rfl, rfl, _, rfl, ?_⟩
        by_cases c : r'.1 = hd_
        · refine if_true_of (decide_eq_true (by rw [c])) ⟨_, rfl, _, _, 2, V.ref t', rfl, rfl, SqT.of hbt, atI_nat (j := 2) rfl, _, rfl, ?_⟩
          refine eqTx (xs := r'.2.2) (ys := vs) (SqT.of htt) (SqT.of (s _ _ hp2)) drr.ok.names vaz ⟨_, rfl, ?_⟩
          by_cases c2 : r'.2.2 = vs
          · refine if_true_of (decide_eq_true c2) ⟨_, rfl, _, eD, by rw [List.length_map, sizeLine_eq]; omega, tw ++ [b'], by rw [upd_same, List.map_append]; rfl, by rw [List.length_append]; simp only [List.length_cons, List.length_nil]; omega, ?_, fun b o q => by rw [upd_ne (ne_of_none q nD)]; exact s b o q⟩
            rw [step]
            constructor
            · intro h
              simp at h
            · rintro ⟨_, h⟩
              exact absurd (by rw [c, c2]) h
          · exact if_false_of (decide_eq_false c2) (no fun e => c2 (congrArg Prod.snd e))
        · exact if_false_of (decide_eq_false fun e => c (V.str.inj e)) (no fun e => c (congrArg Prod.fst e))
      rintro G7 ⟨tw, eD, lt, iff, s7⟩
      have lm : (as.map V.ref).length = rs.length := by rw [List.length_map, las]
      rw [lm, List.take_length] at iff
      have k9 := k8.trans (Kp.same s7)
      have d7 := do_.same s7
      -- is it new
      refine ⟨_, rfl, _, rfl, by show 1 ≤ sizeLine; decide, fun hp nhp => ?_⟩
      have t8 := Same.new nhp (o := .tup [V.str hd_])
      refine neTx (xs := vs) (ys := [hd_]) (SqT.of (t8 _ _ (s7 _ _ hp2))) (SqT.of upd_same) vaz (fun z m => by rw [List.mem_singleton.mp m]; exact az_ran _ hh) ⟨_, rfl, ?_⟩
      have hD8 := t8 _ _ eD
      have k10 := k9.trans (Kp.same t8)
      have d8 := d7.same t8
      have hp8 := t8 _ _ (s7 _ _ hp2)
      generalize upd G7 hp (.tup [V.str hd_]) = G8 at t8 hD8 k10 d8 hp8 ⊢
      have same_ : ∀ {G9 : Hp} {m : Nat}, Kp d G G9 → Dice G9 d m → m ≤ n + 3 + 40 * (i + 1) → ∃ (v6 v7 v8 v9 v10 v11 : Option V) (rs : List Rl) (as : List Addr), [some (V.ref d), some (.int (a : Int)), some (.int (b : Int)), some (.ref la), some (.ref na), some (.ref fa), some (.int (0 + (i : Int))), some (.str hd_), some (.int (pc : Int)), some (.ref p2), some (.ref D), vL] = [some (.ref d), some (.int (a : Int)), some (.int (b : Int)), some (.ref la), some (.ref na), some (.ref fa), v6, v7, v8, v9, v10, v11] ∧ Kp d H G9 ∧ G9 la = some (.dK (dkv l)) ∧ G9 na = some (.lst (ns.map V.str)) ∧ G9 fa = some (.lst (as.map V.ref)) ∧
          Paired (fun b r => RuleAt G9 b r) as rs ∧ (∀ r ∈ rs, DrR l r) ∧ (rs.map fun r => (r.1, r.2.2)).Nodup ∧ (1 ≤ rs.length ∧ rs.length ≤ 1 + (i + 1)) ∧ Dice G9 d (n + 3 + 40 * (i + 1)) := fun {G9 m} k9 dd le => by
        refine ⟨some (.int (0 + (i : Int))), some (.str hd_), some (.int (pc : Int)), some (.ref p2), some (.ref D), vL, rs, as, rfl, kp.trans k9, k9 _ _ lad hla, k9 _ _ nad hna, k9 _ _ fad hfa, paired_map (fun b r ⟨t, x, y⟩ => ⟨t, k9 _ _ (ndt x) x, k9 _ _ (ndt y) y⟩) pr, dr, nd, ⟨lrs.1, by omega⟩, dd.more le (by omega)⟩
      by_cases c : vs = [hd_]
      · exact if_false_of (by rw [decide_eq_true c]; rfl) (if_false_of rfl (same_ k10 d8 (by omega)))
      · refine if_true_of (by rw [decide_eq_false c]; rfl) ⟨_, rfl, by show 0 ≤ sizeLine; decide, fun ep nep => ?_⟩
        have t9 := Same.new nep (o := .lst [])
        have k11 := k10.trans (Kp.same t9)
        have d9 := d8.same t9
        refine ⟨D, ep, _, _, rfl, rfl, SqL.of (t9 _ _ hD8), SqL.of upd_same, ?_⟩
        by_cases c2 : tw = []
        · have ane := iff.mp c2
          subst c2
          refine .inr ⟨rfl, fun v m => absurd m (List.not_mem_nil), _, rfl, if_true_of rfl ?_⟩
          have hf11 := k11 _ _ fad hfa
          have tyF : tyV K "list" (V.ref fa) (upd G8 ep (.lst [])) := .inl ⟨rfl, _, SqL.of hf11⟩
          refine ⟨_, rfl, tyF, _, rfl, _, rfl, _, rfl, by show 3 ≤ sizeLine; decide, fun rp2 nrp2 => ?_⟩
          have t10 := Same.new nrp2 (o := .tup [V.str hd_, V.int (pc : Int), V.ref p2])
          have k12 := k11.trans (Kp.same t10)
          have d10 := d9.same t10
          have hf12 := t10 _ _ hf11
          have hp12 := t10 _ _ (t9 _ _ hp8)
          refine ⟨fa, _, _, rfl, rfl, hf12, by rw [List.length_map, sizeLine_eq]; omega, ?_⟩
          have upT : ∀ {b : Addr} {xs : List V}, (upd (upd G8 ep (.lst [])) rp2 (.tup [V.str hd_, V.int (pc : Int), V.ref p2])) b = some (.tup xs) → (upd (upd (upd G8 ep (.lst [])) rp2 (.tup [V.str hd_, V.int (pc : Int), V.ref p2])) fa (.lst (as.map V.ref ++ [V.ref rp2]))) b = some (.tup xs) := fun {b xs} e => by
            by_cases c3 : b = fa
            · rw [c3, hf12] at e; cases e
            · rw [upd_ne c3]; exact e
          have hrp : (upd (upd G8 ep (.lst [])) rp2 (.tup [V.str hd_, V.int (pc : Int), V.ref p2])) rp2 = some (.tup [V.str hd_, V.int (pc : Int), V.ref p2]) := upd_same
          generalize upd (upd G8 ep (.lst [])) rp2 (.tup [V.str hd_, V.int (pc : Int), V.ref p2]) = GZ at t10 k12 d10 hf12 hp12 upT hrp ⊢
          refine ⟨some (.int (0 + (i : Int))), some (.str hd_), some (.int (pc : Int)), some (.ref p2), some (.ref D), vL, rs ++ [(hd_, pc, vs)], as ++ [rp2], rfl, fun b u nb e => ?_, ?_, ?_, ?_, ?_, ?_, ?_, ?_, ?_⟩
          · rw [upd_ne (fun c => by rw [c, nfaH] at e; cases e)]
            exact kp.trans k12 _ _ nb e
          · rw [upd_ne laf]
            exact k12 _ _ lad hla
          · rw [upd_ne naf]
            exact k12 _ _ nad hna
          · rw [upd_same, List.map_append]
            rfl
          · refine pair_snoc9 ⟨p2, upT hrp, upT hp12⟩ (paired_map (fun b r ⟨t, x, y⟩ => ⟨t, upT (k12 _ _ (ndt x) x), upT (k12 _ _ (ndt y) y)⟩) pr)
          · intro r m
            rcases List.mem_append.mp m with m | m
            · exact dr r m
            · rw [List.mem_singleton.mp m]
              exact more_ok DL hh hpc vw v1 v6' vm c
          · rw [List.map_append, List.nodup_append]
            refine ⟨nd, by simp, fun x mx y my e => ?_⟩
            obtain ⟨r, mr, rfl⟩ := List.mem_map.mp mx
            exact ane r mr (e.trans (List.mem_singleton.mp my))
          · rw [List.length_append]
            simp only [List.length_cons, List.length_nil]
            exact ⟨by omega, by omega⟩
          · exact (d10.more (by omega) (by omega)).kept fun u e => by rw [upd_ne dfa]; exact e
        · refine .inl ⟨by rw [List.length_map]; intro e; exact c2 (List.length_eq_zero_iff.mp e), _, rfl, if_false_of rfl (same_ k11 d9 (by omega))⟩
    · rintro σ G ⟨v6, v7, v8, v9, v10, v11, rs, as, rfl, kp, hla, hna, hfa, pr, dr, nd, lrs, di'⟩
      have ea : ((a : Int) - 1).toNat = a - 1 := by omega
      rw [ea] at lrs di'
      have las : as.length = rs.length := Paired.length pr
      obtain ⟨dg, hdg⟩ := di'.there
      refine fun p np => ?_
      have sp := Same.new np (o := .dK [])
      have pd : p ≠ d := (ne_of_none hdg np).symm
      have hp : (upd G p (.dK [])) p = some (.dK []) := upd_same
      have dip := di'.same sp
      have nH : H p = none := Kp.free kp pd np
      refine ⟨_, rfl, _, rfl, _, rfl, d, fa, _, as.map V.ref, rfl, fad, SqL.of (sp _ _ hfa), by rw [List.length_map]; omega, dip, by rw [List.length_map]; omega, fun q' ys G2 qd nq kp2 hq pm di2 => ⟨kp2 _ _ pd hp, plK la "r" q', rfl, Nat.le_of_ble_eq_true rfl, ?_⟩⟩
      rw [pl_merge]
      obtain ⟨as', pa, rfl⟩ := perm_map pm
      obtain ⟨rs', prs, pr'⟩ := paired_perm pa pr
      have pla : la ≠ p := ne_of_none hla np
      have pq : q' ≠ p := fun e => by
        rw [e, hp] at nq
        cases nq
      have keep : ∀ {b : Addr} {u : HO}, b ≠ d → G b = some u → (upd G2 p (.dK (plK la "r" q'))) b = some u := fun {b u} nb e => by
        rw [upd_ne (ne_of_none e np)]
        exact kp2 _ _ nb (sp _ _ e)
      have ndt : ∀ {b : Addr} {xs : List V}, G b = some (.tup xs) → b ≠ d := fun {b xs} e c => by
        rw [c, hdg] at e
        cases e
      have dr' : ∀ r ∈ rs', DrR l r := fun r m => dr r (prs.mem_iff.mp m)
      obtain ⟨bk, small⟩ := drawn_ok DL dr' (by rw [prs.length_eq]; omega) ((prs.map _).nodup_iff.mpr nd)
      refine q l "r" rs' p _ ⟨⟨la, q', as', upd_same, keep lad hla, by rw [upd_ne pq]; exact hq, paired_map (fun b r ⟨t, x, y⟩ => ⟨t, keep (ndt x) x, keep (ndt y) y⟩) pr'⟩, bk, small⟩ (by rw [prs.length_eq]; exact lrs.1) (by rw [prs.length_eq]; omega) pd nH ?_ ?_
      · intro b u nb e
        have e1 := kp _ _ nb e
        exact keep nb e1
      · have := di2.more (m := n + 400) (by rw [List.length_map]; omega) (by omega)
        exact this.kept fun u e => by rw [upd_ne pd.symm]; exact e
end
end Pr
namespace Ns
open PySem PySem.Spec PyProof.Rows L2
/-! ### set(xs), xs a list of tuples that are keys; ends tracked -/
theorem refs_els : ∀ {M : List El} {us : List Value}, Vals (M.map fun q => V.ref q.1) us → us = M.map fun q => Value.ref q.1
  | [], _, .nil => rfl
  | q :: M, _, .cons r t => by
    cases r
    rw [refs_els t]
    rfl
def rSetOfK (K : PySem.W.Frag) (w : World) : List V → Hp → VK → Prop := fun vs H Q => ∃ (l : Addr) (ks : List El), vs = [V.ref l] ∧ SqL K H l (ks.map fun p => V.ref p.1) ∧ (∀ p ∈ ks, ElK K H p) ∧ ks.length < 64 ∧
  ∀ (S : Addr) (L : List El), H S = none → (∀ p ∈ L, p ∈ ks) → (∀ p ∈ ks, p.2 ∈ L.map (·.2)) → (L.map (·.2)).Nodup → Q (.ref S) (upd H S (SetO w S L))
section
variable {X : Cx}
theorem cr_setOfK (hc : X.calm = true) (hu : X.A.units + 64 < cLine) : CallR X (.type "set") (rSetOfK X.K X.w) := by
  intro pins s σ H xs us Q I r h
  obtain ⟨l, M, rfl, hl, hk, hf, q⟩ := h
  rw [Vals.ref1 r]
  obtain ⟨its, rv, pl, hz⟩ := I.list hl
  have hn : H s.heap.objs.size = none := I.hok.fresh (Nat.le_refl _)
  refine call_set_els (P := X.prog) (w := X.w) M (I.ok.hd hc) pl.isList (by simpa using refs_els rv) (fun p hp => (hk p hp).tk I) hf (by omega) fun h' tk L o es ep t R g k => ?_
  refine ⟨.ref s.heap.objs.size, upd H s.heap.objs.size (SetO X.w s.heap.objs.size L), I.laid (t' := tk) k (Nat.le_refl _) (setO_new R.set0), rfl, q _ L hn (fun p hp => List.mem_of_mem_take (g.sub p hp)) (fun p hp => g.all p (by rw [List.take_length]; exact hp)) R.nd⟩
end
/-- tuples stay where only a list changes -/
theorem sqT_lst {K : PySem.W.Frag} {H : Hp} {D a : Addr} {o : HO} {ys xs : List V} (hD : H D = some (.lst ys)) (h : SqT K H a xs) : SqT K (upd H D o) a xs := by
  rcases h with h | h
  · have ne : a ≠ D := fun e => by
      rw [e] at h
      rcases h with h | ⟨_, h⟩ <;> (rw [hD] at h; cases h)
    rcases h with h | ⟨od, h⟩
    · exact .inl (.inl (by rw [upd_ne ne]; exact h))
    · exact .inl (.inr ⟨od, by rw [upd_ne ne]; exact h⟩)
  · exact .inr h
theorem elK_lst {K : PySem.W.Frag} {H : Hp} {D : Addr} {ys : List V} {o : HO} {p : El} (hD : H D = some (.lst ys)) (h : ElK K H p) : ElK K (upd H D o) p := ⟨KV.up (fun _ _ q => sqT_lst hD q) h.1, h.2⟩
end Ns
namespace Pr
open PySem PySem.Spec PyProof.Rows L2 Gd Ns
/-! ### _law_is_plain -/
def spLPlainG : Sp := fun vs H Q _ => ∃ (gv rv : V) (D : List Str) (d : Addr) (l : List (Str × Nat)), vs = [.ref d, gv, rv] ∧ D.length ≤ 60 ∧ Jv D H 1 gv ∧ Jv D H 3 rv ∧ H d = some (.dK (dkv l)) ∧ OpsOk l ∧ ∀ b H', Same H H' → (b = true ↔ BookV H l gv rv) → Q (.bl b) H'
theorem el_rule {K : PySem.W.Frag} {H : Hp} {e t : Addr} {r : Rl} (h : SqT K H e [.str r.1, .ref t]) (ht : SqT K H t (r.2.2.map V.str)) : ElK K H (e, keyR r) := by
  refine ⟨.tup h (.cons (.text _) (.cons (.tup ht (kvs_words _)) .nil)), ?_⟩
  show NestedKey.depthAll [.text r.1, .tup (r.2.2.map .text)] + 1 ≤ 8
  have e1 := depth_words r.2.2
  have e2 : NestedKey.depthAll [.text r.1, .tup (r.2.2.map .text)] = max 0 (max (NestedKey.depthAll (r.2.2.map .text) + 1) 0) := rfl
  rw [e2]
  omega
section
variable {P : Program} {w : World} {K : PySem.W.Frag} {mg : Str → Option Value} {base : Heap} {fW fR fT : Addr} {dW dR dT : FuncData}
theorem scLPlain : FnScope ["arities", "goal", "rules", "rule"] ["arities", "goal", "rules"] (defScope sLIsPlain) := ⟨rfl, rfl, rfl, by decide +kernel, rfl, by decide +kernel, by decide +kernel⟩
theorem ok_lplain {f : Addr} {fd : FuncData} (F : Fun K "_law_is_plain" "_law_is_plain" sLIsPlain f fd) (T : Free mg) (GW : FnOk P w K mg base CX0 1 fW dW ["value"] spLWord) (bW : Binds K dW ["value"] []) (gW : mg "_law_is_word" = some (.ref fW)) (kW : PySem.W.keepIn K (.ref fW) = true)
    (GR : FnOk P w K mg base CX0 2 fR dR ["arities", "value"] spLRuleG) (bR : Binds K dR ["arities", "value"] []) (gR : mg "_law_is_rule" = some (.ref fR)) (kR : PySem.W.keepIn K (.ref fR) = true)
    (GT : FnOk P w K mg base CX0 1 fT dT ["plain"] spLNontsG) (bT : Binds K dT ["plain"] []) (gT : mg "_law_nonterminals" = some (.ref fT)) (kT : PySem.W.keepIn K (.ref fT) = true) : FnOk P w K mg base CX0 3 f fd ["arities", "goal", "rules"] spLPlainG := by
  refine F.ok scLPlain (fun vs H Q E h => ?_) (fun cdv A outer s H vs Q E hr h => ?_)
  · obtain ⟨gv, rv, D, d, l, rfl, _⟩ := h
    rfl
  · obtain ⟨gv, rv, D0, d, l, rfl, hD0, jg, jr, hd, oo, q⟩ := h
    have hu := hr.units
    have hu1 : ∀ {u : Nat}, u + 64 < cLine → u + 1 < cLine := fun h => by omega
    have r1 : Room 1 _ := hr.mono (by decide)
    refine ⟨_, (pss_cons (ps_if (PW.pt (pw_or (pt_not (pt_val (pe_call GW r1 (by rfl) gW kW bW .nil pass0 (pa_cons (pv 1) pa_nil)))) (pw_or (pt_cmp (pc_din (hu1 hu) (pv 1) (pv 0))) (pw_or (pt_not (pt_val (pe_callB call_isi (by rfl) T.isi (by decide +kernel) (pa_cons (pv 2) (pa_cons (pe_bltn (v := .ty "tuple") (by rfl) T.tuple (by decide +kernel) rfl) pa_nil))))) (pw_or1 (pt_cmpR op_gt (pe_callB call_len_seq (by rfl) T.len PySem.boot_len (pa_cons (pv 2) pa_nil)) pe_int (nomark _))))))) (pss_one (ps_ret pe_bl)) pss_nil) (pss_cons (ps_if (pt_cmpR (op_neL hu) (pe_lc (own := [("rule", 3)]) (g := gName 3) (by rfl) scLPlain.nd (pi_tup (pv 2)) (blkOk_by (own := [("rule", 3)]) (N := ["arities", "goal", "rules", "rule"]) (sc := defScope sLIsPlain) (by decide +kernel)) (fun _ _ _ _ _ => pg_name (i := 3) scLPlain.nd rfl (.inl rfl)) (fun _ _ _ _ _ => pts_one (pt_not (pt_val (pe_call GR hr (by rfl) gR kR bR .nil pass0 (pa_cons (pv 0) (pa_cons (pv 3) pa_nil)))))) (fun _ _ _ _ _ => pv 3)) (pe_lst pa_nil) (nomark _)) (pss_one (ps_ret pe_bl)) pss_nil) (pss_cons (ps_if (pt_cmpR op_ne (pe_callB Ns.cr_lenSet (by rfl) T.len PySem.boot_len (pa_cons (pe_callTy (Ns.cr_setOfK (by rfl) hu) (by rfl) T.set (by decide +kernel) (pa_cons (pe_lc (own := [("rule", 3)]) (g := gName 3) (by rfl) scLPlain.nd (pi_tup (pv 2)) (blkOk_by (own := [("rule", 3)]) (N := ["arities", "goal", "rules", "rule"]) (sc := defScope sLIsPlain) (by decide +kernel)) (fun _ _ _ _ _ => pg_name (i := 3) scLPlain.nd rfl (.inl rfl)) (fun _ _ _ _ _ => pts_nil) (fun _ _ _ _ _ => pe_tup (pa_cons (pe_ix (ix_tupK (K := K) rfl) (pv 3) pe_int (fun _ _ => rfl)) (pa_cons (pe_ix (ix_tupK (K := K) rfl) (pv 3) pe_int (fun _ _ => rfl)) pa_nil)))) pa_nil)) pa_nil)) (pe_callB call_len_seq (by rfl) T.len PySem.boot_len (pa_cons (pv 2) pa_nil)) (nomark _)) (pss_one (ps_ret pe_bl)) pss_nil) (pss_one (ps_ret (pe_cmpR op_lt (pe_callB call_len_seq (by rfl) T.len PySem.boot_len (pa_cons (pe_call GT r1 (by rfl) gT kT bT .nil pass0 (pa_cons (pe_disp (pps_cons pe_str (pv 0) (pps_cons pe_str (pv 1) (pps_cons pe_str (pe_callTy call_list_of (by rfl) T.list (by decide +kernel) (pa_cons (pv 2) pa_nil)) pps_nil))) (by rfl) (by rfl) (fun z => by cases z) (by decide)) pa_nil)) pa_nil)) pe_int (nomark _))))))), ?_⟩
    have no : ¬ BookV H l gv rv → ∀ H', Same H H' → Q (.bl false) H' := fun n H' s => q false H' s ⟨fun e => (nomatch e), fun h => (n h).elim⟩
    obtain ⟨tg, kg⟩ := jg.kd
    refine ⟨_, rfl, gv, tg, rfl, kg, fun y e => Nat.le_trans (jg.str_ y e) (by decide), fun H1 s1 => ⟨_, rfl, ?_⟩⟩
    cases c0 : nameB gv with
    | false =>
      refine if_true_of rfl (no (fun ⟨g, rs, e, _, ok⟩ => ?_) H1 s1)
      rw [e, show nameB (.str g) = azB g from rfl, ok.goal] at c0
      cases c0
    | true => ?_
    obtain ⟨g, rfl, gok⟩ : ∃ h, gv = .str h ∧ azB h = true := by
      cases gv with
      | str z => exact ⟨z, rfl, c0⟩
      | _ => cases c0
    refine if_false_of rfl ?_
    have hd1 := s1 _ _ hd
    refine ⟨_, rfl, _, rfl, d, _, rfl, DGet.k (k := .inr g) hd1, _, rfl, ?_⟩
    cases cn : (valV (dkv l) (.inr g : Key)).isSome with
    | true =>
      refine if_true_of rfl (no (fun ⟨g', rs, e, _, ok⟩ => ?_) H1 s1)
      cases e
      exact ok.gnew (val_mem_iff.mp cn)
    | false => ?_
    have gnew : g ∉ l.map (·.1) := fun m => by
      rw [val_mem_iff.mpr m] at cn
      cases cn
    refine if_false_of rfl ?_
    obtain ⟨tr, kr⟩ := jr.kd
    have kr1 := kr.same s1
    rcases kr.split with ne | ⟨rfl, ra, xs, rfl, hra⟩
    · refine ⟨_, rfl, rv, _, _, _, _, rfl, .ty "tuple", kr1.ty, kit_tupB kr1, _, rfl, ?_⟩
      rw [beq_eq_false_iff_ne.mpr ne]
      refine if_true_of rfl (no (fun ⟨g', rs, _, ⟨a, e, hh⟩, _⟩ => ?_) H1 s1)
      obtain ⟨as, h1, _⟩ := hh.ex
      exact kr.no_tup ne e h1
    have hra1 := s1 _ _ hra
    refine ⟨_, rfl, .ref ra, _, _, _, true, rfl, .ty "tuple", tyR (.inl hra1), kit_ty (r := true) (by decide +kernel), _, rfl, if_false_of rfl ?_⟩
    refine ⟨_, rfl, ra, _, rfl, .inr (SqT.of hra1), _, _, rfl, rfl, _, rfl, ?_⟩
    -- what the items of a book are
    have inv : BookV H l (.str g) (.ref ra) → xs.length ≤ 12 ∧ ∀ x ∈ xs, RuleV H l x := fun ⟨g', rs, _, ⟨a, e, hh⟩, ok⟩ => by
      cases e
      obtain ⟨as, h1, p⟩ := hh.ex
      have e1 := tup_one hra h1
      have la : as.length = rs.length := Paired.length p
      refine ⟨by rw [e1, List.length_map, la]; exact ok.few, fun x m => ?_⟩
      rw [e1] at m
      obtain ⟨b, mb, rfl⟩ := List.mem_map.mp m
      obtain ⟨i, hi⟩ := List.mem_iff_getElem?.mp mb
      obtain ⟨r, hr', k⟩ := pget9 p hi
      exact ⟨r, ⟨b, rfl, k⟩, ok.rules r (List.mem_of_getElem? hr')⟩
    by_cases few : xs.length ≤ 12
    case neg => exact if_true_of (decide_eq_true (by omega)) (no (fun h => few (inv h).1) H1 s1)
    refine if_false_of (decide_eq_false (by omega)) ?_
    -- all rules
    refine ⟨_, rfl, ra, rfl, ⟨_, SqT.of hra1⟩, fun D nD => ?_⟩
    refine lc_tup (K := K) (a := ra) (xs := xs) (fun i G => ∃ acc : List V, G D = some (.lst acc) ∧ acc.length ≤ i ∧ (acc = [] ↔ ∀ x ∈ xs.take i, RuleV H l x) ∧ Same H1 G) ⟨[], upd_same, Nat.le_refl _, ⟨fun _ x m => (nomatch m), fun _ => rfl⟩, Same.new nD⟩ (fun i G _ ⟨_, _, _, _, s⟩ => SqT.of (s _ _ hra1)) ?_ ?_
    · rintro i x G hx ⟨acc, eD, la, ib, s⟩
      have jx := (jr.items hra).2 x (List.mem_of_getElem? hx)
      have lt := (List.getElem?_eq_some_iff.mp hx).1
      have sG := s1.trans s
      have step : (∀ y ∈ xs.take (i + 1), RuleV H l y) ↔ (∀ y ∈ xs.take i, RuleV H l y) ∧ RuleV H l x := by
        rw [List.take_add_one, hx]
        constructor
        · exact fun h => ⟨fun y m => h y (List.mem_append_left _ m), h x (List.mem_append_right _ (by simp))⟩
        · rintro ⟨h1, h2⟩ y m
          rcases List.mem_append.mp m with m | m
          · exact h1 y m
          · have e : y = x := by simpa using m
            rw [e]
            exact h2
      refine ⟨rfl, _, rfl, _, rfl, x, D0, d, l, rfl, jx.same sG, sG _ _ hd, oo, fun b G' s' hb => ⟨_, rfl, ?_⟩⟩
      have hb2 : b = true ↔ RuleV H l x := by
        rw [hb]
        constructor
        · rintro ⟨r, h1, h2⟩
          exact ⟨r, RuleAt.back jx sG h1, h2⟩
        · rintro ⟨r, h1, h2⟩
          exact ⟨r, h1.same sG, h2⟩
      cases b with
      | true =>
        refine if_false_of rfl ⟨acc, s' _ _ eD, by omega, ?_, s.trans s'⟩
        rw [step, ib]
        exact ⟨fun h => ⟨h, hb2.mp rfl⟩, fun h => h.1⟩
      | false =>
        refine if_true_of rfl ⟨_, rfl, _, s' _ _ eD, small1000 (by omega), acc ++ [x], upd_same, by rw [List.length_append, List.length_singleton]; omega, ?_, fun b o q => by rw [upd_ne (ne_of_none q nD)]; exact s' _ _ (s b o q)⟩
        rw [step]
        exact ⟨fun h => absurd h (by simp), fun h => absurd (hb2.mpr h.2) Bool.false_ne_true⟩
    rintro G ⟨acc, eD, la, ib, s2⟩
    rw [List.take_length] at ib
    refine ⟨by decide, fun p np => ?_⟩
    have sp := Same.new np (o := .lst [])
    have eD' := sp _ _ eD
    have s3 := (s1.trans s2).trans sp
    have hp : (upd G p (.lst [])) p = some (.lst []) := upd_same
    generalize upd G p (.lst []) = H3 at eD' s3 hp ⊢
    by_cases nn : acc = []
    case neg => exact ⟨D, p, _, _, rfl, rfl, SqL.of eD', SqL.of hp, .inl ⟨fun e => nn (List.eq_nil_of_length_eq_zero e), _, rfl, if_true_of rfl (no (fun hh => nn (ib.mpr (inv hh).2)) H3 s3)⟩⟩
    refine ⟨D, p, _, _, rfl, rfl, SqL.of eD', SqL.of hp, .inr ⟨nn, (fun v m => by rw [nn] at m; cases m), _, rfl, if_false_of rfl ?_⟩⟩
    obtain ⟨as, rs, rfl, pr, rok⟩ := rules_of_all (ib.mp nn)
    have las : as.length = rs.length := Paired.length pr
    have lm : (as.map V.ref).length = rs.length := by rw [List.length_map, las]
    rw [lm] at few
    have hraH : RulesAt H ra rs := ⟨as, hra, pr⟩
    have iff1 : BookV H l (.str g) (.ref ra) ↔ BkOk l g rs := BookV.iff hraH
    have nt : NtOk l rs := ⟨few, rok, Jv.rules_few hD0 jr hra pr rok⟩
    have hra3 := s3 _ _ hra
    -- heads with their patterns
    refine ⟨_, rfl, ra, rfl, ⟨_, SqT.of hra3⟩, fun D2 nD2 => ?_⟩
    refine lc_tup (K := K) (a := ra) (xs := as.map V.ref) (fun i G => ∃ ks : List El, G D2 = some (.lst (ks.map fun p => V.ref p.1)) ∧ ks.map (·.2) = (rs.take i).map keyR ∧ (∀ p ∈ ks, ElK K G p) ∧ Same H3 G) ⟨[], upd_same, rfl, fun p m => (nomatch m), Same.new nD2⟩ (fun i G _ ⟨_, _, _, _, s⟩ => SqT.of (s _ _ hra3)) ?_ ?_
    · rintro i x G hx ⟨ks, eD2, ek, els, s⟩
      obtain ⟨b, hb, rfl⟩ := ref_at hx
      obtain ⟨r, hr', rat⟩ := pget9 pr hb
      have hi := (List.getElem?_eq_some_iff.mp hr').1
      have lk : ks.length = i := by
        have e := congrArg List.length ek
        rw [List.length_map, List.length_map, List.length_take] at e
        omega
      obtain ⟨t, hbt, htt⟩ := rat.same (s3.trans s)
      refine ⟨rfl, _, rfl, b, _, 0, _, rfl, rfl, SqT.of hbt, rfl, _, rfl, b, _, 2, _, rfl, rfl, SqT.of hbt, rfl, by show 2 ≤ sizeLine; decide, fun e ne => ?_⟩
      have se := Same.new ne (o := .tup [.str r.1, .ref t])
      have eD3 := se _ _ eD2
      refine ⟨_, eD3, by rw [List.length_map, sizeLine_eq]; omega, ks ++ [(e, keyR r)], by rw [upd_same, List.map_append]; rfl, ?_, fun p m => elK_lst eD3 ?_, fun c u hc => ?_⟩
      · rw [List.map_append, ek, List.take_add_one, hr', List.map_append]
        rfl
      · rcases List.mem_append.mp m with m | m
        · exact elK_same se (els p m)
        · rw [List.mem_singleton.mp m]
          exact el_rule (SqT.of upd_same) (SqT.of (se _ _ htt))
      · rw [upd_ne (ne_of_none hc nD2)]
        exact se _ _ (s _ _ hc)
    rintro G2 ⟨ks, eD2, ek, els, s4⟩
    rw [lm, List.take_length] at ek
    have lk : ks.length = rs.length := by
      have e := congrArg List.length ek
      rwa [List.length_map, List.length_map] at e
    refine ⟨D2, ks, rfl, SqL.of eD2, els, by omega, fun S L nS sub all nd => ?_⟩
    have s5 := (s3.trans s4).trans (Same.new nS (o := SetO w S L))
    have hS : (upd G2 S (SetO w S L)) S = some (SetO w S L) := upd_same
    have mem : ∀ k, k ∈ L.map (·.2) ↔ k ∈ rs.map keyR := fun k => by
      rw [← ek]
      constructor
      · intro h
        obtain ⟨p, mp, e⟩ := List.mem_map.mp h
        exact List.mem_map.mpr ⟨p, sub p mp, e⟩
      · intro h
        obtain ⟨p, mp, e⟩ := List.mem_map.mp h
        rw [← e]
        exact all p mp
    have key := nodup_len nd mem
    rw [List.length_map, List.length_map, keyR_nd] at key
    have le : L.length ≤ rs.length := by
      have := nodup_fewA nd fun k m => (mem k).mp m
      rwa [List.length_map, List.length_map] at this
    have hra5 := s5 _ _ hra
    refine ⟨S, L, rfl, hS, _, rfl, ra, _, rfl, .inr (SqT.of hra5), rfl, _, rfl, ?_⟩
    by_cases dbl : L.length < rs.length
    · refine if_true_of ?_ (no (fun h => key.mp dbl (iff1.mp h).nd) _ s5)
      rw [decide_eq_false fun e => by have := V.int.inj e; rw [lm] at this; omega]
      rfl
    refine if_false_of ?_ ?_
    · rw [decide_eq_true (by rw [lm, show L.length = rs.length by omega])]
      rfl
    have ndk : (rs.map fun r => (r.1, r.2.2)).Nodup := Decidable.not_not.mp fun n => dbl (key.mpr n)
    refine fun p2 np2 => ?_
    have n2 := Same.new np2 (o := .dK [])
    have s6 := s5.trans n2
    have hp2 : (upd (upd G2 S (SetO w S L)) p2 (.dK [])) p2 = some (.dK []) := upd_same
    refine ⟨_, rfl, _, rfl, _, rfl, ra, _, rfl, .inr (SqT.of (s6 _ _ hra)), fun l2 nl2 => ⟨(Same.new nl2) _ _ hp2, plK d g l2, rfl, Nat.le_of_ble_eq_true rfl, ?_⟩⟩
    rw [pl_merge]
    have n3 := Same.new nl2 (o := .lst (as.map V.ref))
    have l2p : l2 ≠ p2 := fun e => by
      rw [e] at nl2
      cases (hp2.symm.trans nl2)
    have np3 : H p2 = none := Same.free s5 np2
    have s8 : Same H (upd (upd (upd (upd G2 S (SetO w S L)) p2 (.dK [])) l2 (.lst (as.map V.ref))) p2 (.dK (plK d g l2))) := fun b o e => by
      rw [upd_ne (ne_of_none e np3)]
      exact n3 _ _ (s6 _ _ e)
    have hl2 : (upd (upd (upd (upd G2 S (SetO w S L)) p2 (.dK [])) l2 (.lst (as.map V.ref))) p2 (.dK (plK d g l2))) l2 = some (.lst (as.map V.ref)) := by
      rw [upd_ne l2p]
      exact upd_same
    refine ⟨p2, l, g, rs, rfl, ⟨d, l2, as, upd_same, s8 _ _ hd, hl2, paired_map (fun _ _ k => k.same s8) pr⟩, nt, fun ys yp H9 srt ndy memy nyp s9 hyp => ?_⟩
    refine ⟨yp, _, rfl, .inl (SqL.of hyp), _, _, rfl, rfl, ?_⟩
    refine q _ H9 (s8.trans s9) ?_
    rw [decide_eq_true_eq, List.length_map, iff1]
    constructor
    · intro h
      exact ⟨oo, gok, gnew, few, rok, ndk, ys, by omega, fun z hz => (memy z).mpr hz⟩
    · intro ok
      obtain ⟨D6, hD6, inD⟩ := ok.six
      have lys : ys.length ≤ 6 := Nat.le_trans (nodup_few ndy fun x m => inD x ((memy x).mp m)) hD6
      omega
end
end Pr
namespace Pr
open PySem PySem.Spec PyProof.Rows L2 Gd
/-! ### a tuple times 0, 1, 2, .. -/
theorem tuple_mul_one (l : Addr) (items : Array Value) (n : Nat) (dd : Option Addr) (sl : Array (Option Value)) (u : Tok) :
    Meets (Builtin.«tuple.__mul__» ⟨[.ref l, .int 1 u], []⟩) (fun _ R s => s.heap.get? l = some { cls := .type "tuple", dict := dd, data := .seq items n, slots := sl } ∧ R (.ok (.ret (Value.ref l))) s) :=
  .of_wp fun prog w A R s h => by
    obtain ⟨hp, g, d, tk, os⟩ := s
    obtain ⟨hl, h⟩ := h
    have f1 := AutoSeq1.idx_int
    have c1 : (items.isEmpty || (1 : Int) == 1) = true := by rw [show ((1 : Int) == 1) = true from rfl, Bool.or_true]
    have tI : (⟨hp, g, d, tk, os⟩ : Shared).TypeIs (.ref l) "tuple" := ⟨_, hl, rfl⟩
    wp_walk using wpAny_loadPart' hl
    repeat (first
      | (refine wpAny_ite_true (decide_eq_true c1) ?_; wp_walk using wpAny_loadPart' hl)
      | (refine wpAny_ite_false (decide_eq_false (by decide)) ?_; wp_walk using wpAny_loadPart' hl)
      | (refine wpAny_ite_true ?_ ?_; (first | rfl | (simp; done)); wp_walk using wpAny_loadPart' hl))
    exact ⟨_, rfl, h⟩
theorem tuple_mul_none (l : Addr) (items : Array Value) (n : Nat) (dd : Option Addr) (sl : Array (Option Value)) (u : Tok) (c : items.isEmpty = false) :
    Meets (Builtin.«tuple.__mul__» ⟨[.ref l, .int 0 u], []⟩) (fun _ R s => s.heap.get? l = some { cls := .type "tuple", dict := dd, data := .seq items n, slots := sl } ∧
      R (.ok (.ret (Value.ref s.heap.objs.size))) { s with heap := s.heap.push { cls := Value.type "tuple", data := Data.seq #[] }, toks := s.toks }) :=
  .of_wp fun prog w A R s h => by
    obtain ⟨hp, g, d, tk, os⟩ := s
    obtain ⟨hl, h⟩ := h
    have f1 := AutoSeq1.idx_int
    have c1 : (items.isEmpty || (0 : Int) == 1) = false := by rw [c]; rfl
    have c2 : (decide ((0 : Int) ≤ 0) || items.isEmpty) = true := by rw [c]; rfl
    wp_walk using wpAny_loadPart' hl
    repeat (first
      | (refine wpAny_ite_false (decide_eq_false (by rw [c1]; exact Bool.false_ne_true)) ?_; wp_walk using wpAny_loadPart' hl)
      | (refine wpAny_ite_true (decide_eq_true c2) ?_; wp_walk using wpAny_loadPart' hl)
      | (refine wpAny_ite_false (decide_eq_false (by decide)) ?_; wp_walk using wpAny_loadPart' hl))
    exact ⟨_, rfl, h⟩
def rRepZ : R2 := fun x y H Q => ∃ (a : Addr) (k : Nat) (xs : List V), x = .ref a ∧ y = .int (k : Int) ∧ H a = some (.tup xs) ∧ xs ≠ [] ∧ k ≤ 1000 ∧ xs.length ≤ 1000 ∧ ∀ p H2, Same H H2 → H2 p = some (.tup (List.replicate k xs).flatten) → Q (.ref p) H2
theorem op_repZ {X : Cx} : OpR X (binaryOp .Mult) rRepZ := by
  intro pins s σ H x y v u Q I rx ry h
  obtain ⟨a, k, xs, rfl, rfl, hx, ne, h1, hz, q⟩ := h
  by_cases k2 : 2 ≤ k
  · exact op_repT pins s σ H _ _ v u Q I rx ry ⟨a, k, xs, rfl, rfl, SqT.of hx, ne, by omega, by omega, hz, fun p np => q p _ (Same.new np) (by rw [upd_same, Int.toNat_natCast])⟩
  cases rx
  obtain ⟨tk, rfl⟩ := ry
  obtain ⟨us, rel, ⟨⟨ocl, odi, oda, osl⟩, hat, hcl, cnt, hda⟩, _⟩ := I.tuple (SqT.of hx)
  dsimp only at hcl hda
  subst hcl hda
  have other := int_rmul_tuple (k : Int) tk a us.toArray cnt odi osl
  refine wpAny_binaryOp_repeat_ref (T := "tuple") (U := "int") (by decide) ⟨_, hat, rfl⟩ (fun st => typeIs_int st (k : Int) tk) noFill_tuple_mul F.fills_int_mul F.slot_int_rmul repeat_tuple F.slot_int_index.lookup ?_
  refine call_meets F.slot_int_rmul (typeIs_int s (k : Int) tk) F.entry_int_rmul (F.args_int_rmul_2 _ _) other ⟨hat, rfl, ⟨_, hat, rfl⟩, ?_⟩
  by_cases k1 : k = 1
  · subst k1
    refine call_meets F.slot_tuple_mul ⟨_, hat, rfl⟩ F.entry_tuple_mul (F.args_tuple_mul_2 _ _) (tuple_mul_one a us.toArray cnt odi osl tk) ⟨hat, ?_⟩
    exact ⟨.ref a, H, I, rfl, q a H (Same.refl H) (by rw [hx]; simp)⟩
  · have k0 : k = 0 := by omega
    subst k0
    have full : us.toArray.isEmpty = false := by
      cases us with
      | nil => exact absurd (List.eq_nil_of_length_eq_zero rel.length) ne
      | cons _ _ => rfl
    refine call_meets F.slot_tuple_mul ⟨_, hat, rfl⟩ F.entry_tuple_mul (F.args_tuple_mul_2 _ _) (tuple_mul_none a us.toArray cnt odi osl tk full) ⟨hat, ?_⟩
    refine ⟨.ref s.heap.objs.size, _, I.laid (t' := s.toks) (o := .tup []) (fun b ob q => Heap.get?_push_of_some _ q) (Nat.le_refl _) ?_, rfl, q _ _ (Same.new (I.hok.fresh (Nat.le_refl _))) upd_same⟩
    exact ⟨by rw [sizeLine_eq]; exact Nat.zero_le _, _, .nil, IsTup.new _ _⟩
end Pr
namespace Pr
open PySem PySem.Spec PyProof.Rows L2 Gd
/-! ### plain tuples made, cut, put together: where they stand, behind a heap that is only greater -/
theorem tupU {H1 : Hp} {xs : List V} {Q : VK} (l : xs.length ≤ sizeLine) (k : ∀ p H2, H1 p = none → Same H1 H2 → H2 p = some (.tup xs) → Q (.ref p) H2) : xs.length ≤ sizeLine ∧ ∀ p, H1 p = none → Q (.ref p) (upd H1 p (.tup xs)) := ⟨l, fun p np => k p _ np (Same.new np) upd_same⟩
theorem lstU {H1 : Hp} {xs : List V} {Q : VK} (l : xs.length ≤ sizeLine) (k : ∀ p H2, H1 p = none → Same H1 H2 → H2 p = some (.lst xs) → Q (.ref p) H2) : xs.length ≤ sizeLine ∧ ∀ p, H1 p = none → Q (.ref p) (upd H1 p (.lst xs)) := ⟨l, fun p np => k p _ np (Same.new np) upd_same⟩
def rCatU : R2 := fun x y H Q => ∃ a b xs ys, x = .ref a ∧ y = .ref b ∧ H a = some (.tup xs) ∧ H b = some (.tup ys) ∧ xs.length + ys.length ≤ sizeLine ∧ ∀ p H2, Same H H2 → H2 p = some (.tup (xs ++ ys)) → Q (.ref p) H2
theorem op_catU {X : Cx} : OpR X (binaryOp .Add) rCatU := by
  intro pins s σ H x y v u Q I rx ry h
  obtain ⟨a, b, xs, ys, rfl, rfl, ha, hb, hz, q⟩ := h
  refine op_catA pins s σ H _ _ v u Q I rx ry ⟨a, b, xs, ys, rfl, rfl, SqT.of ha, SqT.of hb, hz, fun e => ?_, fun _ e => ?_, fun _ _ p np => q p _ (Same.new np) upd_same⟩
  · subst e
    exact q b H (Same.refl H) hb
  · subst e
    exact q a H (Same.refl H) (by rw [List.append_nil]; exact ha)
def rSlU : V → Option Int → Option Int → Hp → VK → Prop := fun x lo hi H Q => ∃ a xs, x = .ref a ∧ H a = some (.tup xs) ∧ ∀ p H2, Same H H2 → H2 p = some (.tup (cutV xs lo hi)) → Q (.ref p) H2
theorem cutV_whole {xs : List V} {lo hi : Option Int} (h : HT.sIx xs.length 0 lo = 0 ∧ HT.sIx xs.length xs.length hi = xs.length) : cutV xs lo hi = xs := by
  unfold cutV
  rw [h.1, h.2]
  simp
theorem sl_tupU {X : Cx} : SlR X rSlU := by
  intro pins s σ H x v vl vu lo hi sl Q I rx hs pl pu h
  obtain ⟨a, xs, rfl, hx, q⟩ := h
  refine sl_tupA pins s σ H _ v vl vu lo hi sl Q I rx hs pl pu ⟨a, xs, rfl, SqT.of hx, fun e => ?_, fun _ p np => q p _ (Same.new np) upd_same⟩
  exact q a H (Same.refl H) (by rw [cutV_whole e]; exact hx)
def rRepU : R2 := fun x y H Q => ∃ a k xs, x = .ref a ∧ y = .int k ∧ H a = some (.tup xs) ∧ xs ≠ [] ∧ 2 ≤ k ∧ k ≤ 1000 ∧ xs.length ≤ 1000 ∧ ∀ p H2, Same H H2 → H2 p = some (.tup (List.replicate k.toNat xs).flatten) → Q (.ref p) H2
theorem op_repU {X : Cx} : OpR X (binaryOp .Mult) rRepU := by
  intro pins s σ H x y v u Q I rx ry h
  obtain ⟨a, k, xs, rfl, rfl, hx, ne, h1, h2, hz, q⟩ := h
  exact op_repT pins s σ H _ _ v u Q I rx ry ⟨a, k, xs, rfl, rfl, SqT.of hx, ne, h1, h2, hz, fun p np => q p _ (Same.new np) upd_same⟩
/-! ### values that are judged and shown -/
def bd : Nat → Nat
  | 0 => 100
  | 1 => 105
  | 2 => 1715
  | 3 => 6871
  | 4 => 274923
  | n => 274923 + 5 * n
theorem bd_le {n m : Nat} (h : n ≤ m) : bd n ≤ bd m := by
  match n, m, h with
  | 0, 0, _ => exact Nat.le_refl _
  | 0, 1, _ => decide
  | 0, 2, _ => decide
  | 0, 3, _ => decide
  | 0, 4, _ => decide
  | 0, m + 5, _ => show 100 ≤ 274923 + 5 * (m + 5); omega
  | 1, 1, _ => exact Nat.le_refl _
  | 1, 2, _ => decide
  | 1, 3, _ => decide
  | 1, 4, _ => decide
  | 1, m + 5, _ => show 105 ≤ 274923 + 5 * (m + 5); omega
  | 2, 2, _ => exact Nat.le_refl _
  | 2, 3, _ => decide
  | 2, 4, _ => decide
  | 2, m + 5, _ => show 1715 ≤ 274923 + 5 * (m + 5); omega
  | 3, 3, _ => exact Nat.le_refl _
  | 3, 4, _ => decide
  | 3, m + 5, _ => show 6871 ≤ 274923 + 5 * (m + 5); omega
  | 4, 4, _ => exact Nat.le_refl _
  | 4, m + 5, _ => show 274923 ≤ 274923 + 5 * (m + 5); omega
  | n + 5, m + 5, h => show 274923 + 5 * (n + 5) ≤ 274923 + 5 * (m + 5); omega
structure Z (D : List Str) (H : Hp) (n : Nat) (v : V) : Prop where
  ja : ∀ k, Jv D H k v
  vd : Vd H n (bd n) v
  ji : Ji H v
section
variable {D : List Str} {H : Hp}
theorem Z.same {H' : Hp} {n : Nat} {v : V} (z : Z D H n v) (s : Same H H') : Z D H' n v := ⟨fun k => (z.ja k).same s, z.vd.same s, z.ji.same s⟩
theorem Z.up {n m : Nat} {v : V} (z : Z D H n v) (h : n ≤ m) : Z D H m v := ⟨z.ja, z.vd.le h (bd_le h), z.ji⟩
theorem Z.non {n : Nat} : Z D H n .non := ⟨fun _ => .non, Vd.non.le (Nat.zero_le _) (bd_le (n := 0) (Nat.zero_le _)), .non⟩
theorem Z.bl {n : Nat} (b : Bool) : Z D H n (.bl b) := ⟨fun _ => .bl b, (Vd.bl b).le (Nat.zero_le _) (bd_le (n := 0) (Nat.zero_le _)), ⟨_, .bl b⟩⟩
theorem Z.int {n : Nat} (i : Int) (h : i.natAbs.log2 < 1920) (l : ((toString i : String) : Str).length ≤ 100) : Z D H n (.int i) := ⟨fun _ => .int i, (Vd.plain (Sc.int i h) l fun a e => (nomatch e)).le (Nat.zero_le _) (bd_le (n := 0) (Nat.zero_le _)), .int i⟩
theorem Z.text {n : Nat} {z : Str} (h : SOk 9 z) (hD : azB z = true → z ∈ D) : Z D H n (.str z) := ⟨fun _ => .text (Nat.le_trans h.1 (by decide)) hD, (Vd.text h (by decide)).le (Nat.zero_le _) (Nat.le_trans (by decide) (bd_le (n := 0) (Nat.zero_le _))), .str z⟩
theorem Ja.tup {a : Addr} {xs : List V} (e : H a = some (.tup xs)) (l : xs.length ≤ 1000) (h : ∀ x ∈ xs, ∀ k, Jv D H k x) (k : Nat) : Jv D H k (.ref a) := by
  cases k with
  | zero => exact ⟨⟨_, .tup e⟩, fun z q => nomatch q⟩
  | succ k => exact .tup e l fun x m => h x m k
theorem Z.dct {n : Nat} {a : Addr} (e : H a = some (.dK [])) : Z D H (n + 1) (.ref a) :=
  ⟨fun _ => .dct e, (Vd.dK0 e).le (Nat.le_add_left _ _) (bd_le (n := 0) (Nat.zero_le _)), ⟨_, .dK e⟩⟩
theorem Z.tup {n k : Nat} {a : Addr} {xs : List V} (e : H a = some (.tup xs)) (h : ∀ x ∈ xs, Z D H n x) (l : xs.length ≤ k) (hk : k ≤ 1000 := by decide) (hb : k * (bd n + 2) + 3 ≤ bd (n + 1) := by decide) : Z D H (n + 1) (.ref a) :=
  ⟨Ja.tup e (by omega) fun x m => (h x m).ja, (Vd.tup e (fun x m => (h x m).vd) (fun x m => (h x m).ji) l hk).le (Nat.le_refl _) hb, .tup e⟩
theorem Z.lst {n k : Nat} {a : Addr} {xs : List V} (e : H a = some (.lst xs)) (h : ∀ x ∈ xs, Z D H n x) (l : xs.length ≤ k) (hb : k * (bd n + 2) + 3 ≤ bd (n + 1) := by decide) : Z D H (n + 1) (.ref a) :=
  ⟨fun _ => .lst e, (Vd.lst e (fun x m => (h x m).vd) l).le (Nat.le_refl _) hb, .lst e⟩
end
/-- a name's text -/
theorem az_sok {z : Str} (h : azB z = true) : SOk 9 z := ⟨by have := az_len h; omega, fun c m => by
  have h2 : (decide (1 ≤ z.length) && decide (z.length ≤ 8) && z.cps.toList.all azC) = true := h
  rw [Bool.and_eq_true] at h2
  have := List.all_eq_true.mp h2.2 c m
  unfold azC at this
  rw [Bool.and_eq_true, decide_eq_true_eq, decide_eq_true_eq] at this
  omega⟩
end Pr
namespace Pr
open PySem PySem.Spec PyProof.Rows L2 Gd
/-! ### what is evaluated to values that are judged and shown; the dice may be rolled -/
/-- a part of the heap in which the values are looked at -/
structure Wv (d : Addr) (W : Hp → Hp) (H0 : Hp) : Prop where
  mono : ∀ {H H' : Hp}, Kp d H H' → Same (W H) (W H')
  le : ∀ {H : Hp} {b : Addr} {o : HO}, W H b = some o → H b = some o ∧ b ≠ d
  tup : ∀ {H : Hp} {k : Nat} {p : Addr} {xs : List V}, Kp d H0 H → Dice H d k → H p = some (.tup xs) → W H p = some (.tup xs)
  new : ∀ {H H' : Hp} {k : Nat} {p : Addr} {o : HO}, Kp d H0 H → Dice H d k → H p = none → H' p = some o → W H' p = some o
theorem Wv.hm {d : Addr} {H0 : Hp} : Wv d (Hm d) H0 where
  mono := fun k => k.hm
  le := fun h => Hm.some_of h
  tup := fun _ di h => Hm.of h fun e => by
    obtain ⟨ds, x⟩ := di.there
    rw [e, x] at h
    cases h
  new := fun _ di h h' => Hm.of h' fun e => by
    obtain ⟨ds, x⟩ := di.there
    rw [e, x] at h
    cases h
/-- without one more list -/
theorem Wv.hm2 {d sa : Addr} {H0 : Hp} {ys : List V} (h0 : H0 sa = some (.lst ys)) (ne : sa ≠ d) : Wv d (fun H => Hm sa (Hm d H)) H0 where
  mono := fun k => Same.hm k.hm
  le := fun h => Hm.some_of (Hm.some_of h).1
  tup := fun g di h => Hm.of (Hm.of h fun e => by
    obtain ⟨ds, x⟩ := di.there
    rw [e, x] at h
    cases h) fun e => by
    rw [e, g _ _ ne h0] at h
    cases h
  new := fun g di h h' => Hm.of (Hm.of h' fun e => by
    obtain ⟨ds, x⟩ := di.there
    rw [e, x] at h
    cases h) fun e => by
    rw [e, g _ _ ne h0] at h
    cases h
section
variable {K : PySem.W.Frag} {D : List Str} {d : Addr} {W : Hp → Hp} {H0 : Hp} {σ : L2.St}
/-- t gives a value -/
def EvZ (D : List Str) (d : Addr) (W : Hp → Hp) (H0 : Hp) (σ : L2.St) (j n : Nat) (t : TE) : Prop := ∀ (H : Hp) (k : Nat), Kp d H0 H → Dice H d k → k + j < 1000000 → ∀ Q : VK, (∀ v H', Kp d H H' → Dice H' d (k + j) → Z D (W H') n v → Q v H') → t σ H Q
/-- t gives a row of at most m values -/
def EvA (D : List Str) (d : Addr) (W : Hp → Hp) (H0 : Hp) (σ : L2.St) (j m n : Nat) (t : TA) : Prop := ∀ (H : Hp) (k : Nat), Kp d H0 H → Dice H d k → k + j < 1000000 → ∀ Q : List V → Hp → Prop, (∀ vs H', Kp d H H' → Dice H' d (k + j) → vs.length = m → (∀ v ∈ vs, Z D (W H') n v) → Q vs H') → t σ H Q
/-- t gives a tuple of at least a and at most m values -/
def EvT (D : List Str) (d : Addr) (W : Hp → Hp) (H0 : Hp) (σ : L2.St) (j a m n : Nat) (t : TE) : Prop := ∀ (H : Hp) (k : Nat), Kp d H0 H → Dice H d k → k + j < 1000000 → ∀ Q : VK, (∀ p xs H', Kp d H H' → Dice H' d (k + j) → H' p = some (.tup xs) → a ≤ xs.length → xs.length ≤ m → (∀ v ∈ xs, Z D (W H') n v) → Q (.ref p) H') → t σ H Q
/-- t gives a list of at least a and at most m values; it may be one that stood there -/
def EvL (D : List Str) (d : Addr) (W : Hp → Hp) (H0 : Hp) (σ : L2.St) (j a m n : Nat) (t : TE) : Prop := ∀ (H : Hp) (k : Nat), Kp d H0 H → Dice H d k → k + j < 1000000 → ∀ Q : VK, (∀ p xs H', Kp d H H' → Dice H' d (k + j) → H' p = some (.lst xs) → p ≠ d → a ≤ xs.length → xs.length ≤ m → (∀ v ∈ xs, Z D (W H') n v) → Q (.ref p) H') → t σ H Q
/-- the same, the list new -/
def EvN (D : List Str) (d : Addr) (W : Hp → Hp) (H0 : Hp) (σ : L2.St) (j a m n : Nat) (t : TE) : Prop := ∀ (H : Hp) (k : Nat), Kp d H0 H → Dice H d k → k + j < 1000000 → ∀ Q : VK, (∀ p xs H1, Kp d H H1 → Dice H1 d (k + j) → H1 p = none → a ≤ xs.length → xs.length ≤ m → (∀ v ∈ xs, Z D (W H1) n v) → Q (.ref p) (upd H1 p (.lst xs))) → t σ H Q
theorem EvZ.up {j n m : Nat} {t : TE} (h : EvZ D d W H0 σ j n t) (l : n ≤ m) : EvZ D d W H0 σ j m t := fun H k g di hk Q q => h H k g di hk Q fun v H' a b c => q v H' a b (c.up l)
theorem Dice.up {H : Hp} {k j : Nat} (di : Dice H d k) (h : k + j < 1000000) : Dice H d (k + j) := di.more (Nat.le_add_right _ _) (by omega)
theorem ez_var {n : Nat} {v : V} (i : Nat) (hs : σ[i]? = some (some v)) (z : Z D (W H0) n v) (wv : Wv d W H0) : EvZ D d W H0 σ 0 n (tVar i) := fun H k g di _ Q q => ⟨v, hs, q v H (Kp.refl _ _) di (z.same (wv.mono g))⟩
theorem ez_c {n : Nat} {v : V} (z : ∀ H, Z D H n v) : EvZ D d W H0 σ 0 n (tC v) := fun H k g di _ Q q => q v H (Kp.refl _ _) di (z _)
theorem ea_nil {n : Nat} : EvA D d W H0 σ 0 0 n tNil := fun H k g di _ Q q => q [] H (Kp.refl _ _) di rfl fun v m => nomatch m
theorem ea_cons {i j m n : Nat} {t : TE} {ta : TA} (wv : Wv d W H0) (h : EvZ D d W H0 σ i n t) (r : EvA D d W H0 σ j m n ta) : EvA D d W H0 σ (i + j) (m + 1) n (tCons t ta) := fun H k g di hk Q q => by
  refine h H k g di (by omega) _ fun v H1 g1 d1 z1 => ?_
  refine r H1 (k + i) (g.trans g1) d1 (by omega) _ fun vs H2 g2 d2 l2 z2 => ?_
  refine q _ H2 (g1.trans g2) (by rw [← Nat.add_assoc]; exact d2) (by rw [List.length_cons, l2]) fun x mx => ?_
  rcases List.mem_cons.mp mx with e | mx
  · rw [e]
    exact z1.same (wv.mono g2)
  · exact z2 x mx
theorem et_tup {j m n : Nat} {ta : TA} (wv : Wv d W H0) (hm : m ≤ 1000) (h : EvA D d W H0 σ j m n ta) : EvT D d W H0 σ j m m n (tTup ta) := fun H k g di hk Q q => by
  refine h H k g di hk _ fun vs H1 g1 d1 l1 z1 => ⟨by rw [l1, sizeLine_eq]; omega, fun p np => ?_⟩
  have s := Same.new np (o := .tup vs)
  exact q p vs _ (g1.trans (Kp.same s)) (d1.same s) upd_same (by rw [l1]; exact Nat.le_refl _) (by rw [l1]; exact Nat.le_refl _) fun v mv => (z1 v mv).same (wv.mono (Kp.same s))
theorem en_lst {j m n : Nat} {ta : TA} (hm : m ≤ 1000) (h : EvA D d W H0 σ j m n ta) : EvN D d W H0 σ j m m n (tLst ta) := fun H k g di hk Q q => by
  refine h H k g di hk _ fun vs H1 g1 d1 l1 z1 => ⟨by rw [l1, sizeLine_eq]; omega, fun p np => ?_⟩
  exact q p vs H1 g1 d1 np (by rw [l1]; exact Nat.le_refl _) (by rw [l1]; exact Nat.le_refl _) z1
theorem EvN.l {j a m n : Nat} {t : TE} (wv : Wv d W H0) (h : EvN D d W H0 σ j a m n t) : EvL D d W H0 σ j a m n t := fun H k g di hk Q q => by
  refine h H k g di hk Q fun p xs H1 g1 d1 np la lm z => ?_
  have s := Same.new np (o := .lst xs)
  have pd : p ≠ d := fun e => by
    obtain ⟨ds, x⟩ := d1.there
    rw [e, x] at np
    cases np
  exact q p xs _ (g1.trans (Kp.same s)) (d1.same s) upd_same pd la lm fun v mv => (z v mv).same (wv.mono (Kp.same s))
theorem EvN.z {j a m n : Nat} {t : TE} (wv : Wv d W H0) (h : EvN D d W H0 σ j a m n t) (hb : m * (bd n + 2) + 3 ≤ bd (n + 1) := by decide) : EvZ D d W H0 σ j (n + 1) t := fun H k g di hk Q q => by
  refine h H k g di hk Q fun p xs H1 g1 d1 np la lm z => ?_
  have s := Same.new np (o := .lst xs)
  exact q _ _ (g1.trans (Kp.same s)) (d1.same s) (Z.lst (wv.new (g.trans g1) d1 np upd_same) (fun v mv => (z v mv).same (wv.mono (Kp.same s))) lm hb)
theorem EvT.z {j a m n : Nat} {t : TE} (wv : Wv d W H0) (h : EvT D d W H0 σ j a m n t) (hk : m ≤ 1000 := by decide) (hb : m * (bd n + 2) + 3 ≤ bd (n + 1) := by decide) : EvZ D d W H0 σ j (n + 1) t := fun H k g di hk' Q q => by
  refine h H k g di hk' Q fun p xs H1 g1 d1 hp la lm z => ?_
  exact q _ _ g1 d1 (Z.tup (wv.tup (g.trans g1) d1 hp) z lm hk hb)
theorem EvT.up {j a m a' m' n : Nat} {t : TE} (h : EvT D d W H0 σ j a m n t) (ha : a' ≤ a) (hm : m ≤ m') : EvT D d W H0 σ j a' m' n t := fun H k g di hk Q q => h H k g di hk Q fun p xs H1 g1 d1 hp la lm z => q p xs H1 g1 d1 hp (Nat.le_trans ha la) (Nat.le_trans lm hm) z
theorem et_var {a m n : Nat} {p : Addr} {xs : List V} (i : Nat) (hs : σ[i]? = some (some (.ref p))) (hp : H0 p = some (.tup xs)) (pd : p ≠ d) (ha : a ≤ xs.length) (hm : xs.length ≤ m) (z : ∀ x ∈ xs, Z D (W H0) n x) (wv : Wv d W H0) : EvT D d W H0 σ 0 a m n (tVar i) := fun H k g di _ Q q =>
  ⟨_, hs, q p xs H (Kp.refl _ _) di (g _ _ pd hp) ha hm fun x mx => (z x mx).same (wv.mono g)⟩
theorem el_var {a m n : Nat} {p : Addr} {xs : List V} (i : Nat) (hs : σ[i]? = some (some (.ref p))) (hp : H0 p = some (.lst xs)) (pd : p ≠ d) (ha : a ≤ xs.length) (hm : xs.length ≤ m) (z : ∀ x ∈ xs, Z D (W H0) n x) (wv : Wv d W H0) : EvL D d W H0 σ 0 a m n (tVar i) := fun H k g di _ Q q =>
  ⟨_, hs, q p xs H (Kp.refl _ _) di (g _ _ pd hp) pd ha hm fun x mx => (z x mx).same (wv.mono g)⟩
theorem ne_tup {H : Hp} {k : Nat} {p : Addr} {xs : List V} (di : Dice H d k) (h : H p = some (.tup xs)) : p ≠ d := fun e => by
  obtain ⟨ds, x⟩ := di.there
  rw [e, x] at h
  cases h
theorem et_cat {i j a m a' m' n : Nat} {t u : TE} (wv : Wv d W H0) (hm : m + m' ≤ 1000) (h : EvT D d W H0 σ i a m n t) (h' : EvT D d W H0 σ j a' m' n u) : EvT D d W H0 σ (i + j) (a + a') (m + m') n (tOp rCatU t u) := fun H k g di hk Q q => by
  refine h H k g di (by omega) _ fun p xs H1 g1 d1 hp la lm z => ?_
  refine h' H1 (k + i) (g.trans g1) d1 (by omega) _ fun p2 ys H2 g2 d2 hp2 la2 lm2 z2 => ?_
  refine ⟨p, p2, xs, ys, rfl, rfl, g2 _ _ (ne_tup d1 hp) hp, hp2, by rw [sizeLine_eq]; omega, fun p3 H3 s3 hp3 => ?_⟩
  refine q p3 _ H3 ((g1.trans g2).trans (Kp.same s3)) (by rw [← Nat.add_assoc]; exact d2.same s3) hp3 (by rw [List.length_append]; omega) (by rw [List.length_append]; omega) fun x mx => ?_
  rcases List.mem_append.mp mx with mx | mx
  · exact (z x mx).same (wv.mono (g2.trans (Kp.same s3)))
  · exact (z2 x mx).same (wv.mono (Kp.same s3))
theorem cut_mem {xs : List V} {lo hi : Option Int} : ∀ x ∈ cutV xs lo hi, x ∈ xs := fun x m => by
  unfold cutV at m
  exact List.mem_of_mem_drop (List.mem_of_mem_take m)
theorem cut_len {xs : List V} {lo hi : Option Int} : (cutV xs lo hi).length ≤ xs.length := by
  unfold cutV
  rw [List.length_take, List.length_drop]
  omega
/-- a bound of a slice -/
def EvO (d : Addr) (H0 : Hp) (σ : L2.St) (o : TO) : Prop := ∀ (H : Hp) (k : Nat), Kp d H0 H → Dice H d k → ∀ Q : Option Int → Hp → Prop, (∀ l, Q l H) → o σ H Q
theorem eo_no : EvO d H0 σ tNoPart := fun H k _ _ Q q => q none
theorem eo_var {i : Int} (x : Nat) (hs : σ[x]? = some (some (.int i))) : EvO d H0 σ (tPart (tVar x)) := fun H k _ _ Q q => ⟨_, hs, i, rfl, q _⟩
theorem eo_var1 {i : Int} (x : Nat) (hs : σ[x]? = some (some (.int i))) : EvO d H0 σ (tPart (tOp (rI0 fun i j => V.int (i + j)) (tVar x) (tC (V.int 1)))) := fun H k _ _ Q q => ⟨_, hs, _, _, rfl, rfl, _, rfl, q _⟩
theorem eo_c {i : Int} : EvO d H0 σ (tPart (tC (.int i))) := fun H k _ _ Q q => ⟨i, rfl, q _⟩
theorem et_sl {j a m n : Nat} {t : TE} {o u : TO} (wv : Wv d W H0) (h : EvT D d W H0 σ j a m n t) (ho : EvO d H0 σ o) (hu : EvO d H0 σ u) : EvT D d W H0 σ j 0 m n (L2.tSl rSlU t o u) := fun H k g di hk Q q => by
  refine h H k g di hk _ fun p xs H1 g1 d1 hp la lm z => ?_
  refine ho H1 _ (g.trans g1) d1 _ fun lo => hu H1 _ (g.trans g1) d1 _ fun hi => ?_
  refine ⟨p, xs, rfl, hp, fun p2 H2 s2 hp2 => ?_⟩
  exact q p2 _ H2 (g1.trans (Kp.same s2)) (d1.same s2) hp2 (Nat.zero_le _) (Nat.le_trans cut_len lm) fun x mx => (z x (cut_mem x mx)).same (wv.mono (Kp.same s2))
theorem et_rep {j a m n : Nat} {t : TE} {c : Int} (wv : Wv d W H0) (ha : 1 ≤ a) (h2 : 2 ≤ c) (hc : c ≤ 1000) (hm : m ≤ 1000) (h : EvT D d W H0 σ j a m n t) : EvT D d W H0 σ j 1 (c.toNat * m) n (tOp rRepU t (tC (.int c))) := fun H k g di hk Q q => by
  refine h H k g di hk _ fun p xs H1 g1 d1 hp la lm z => ?_
  refine ⟨p, c, xs, rfl, rfl, hp, fun e => by rw [e] at la; simp at la; omega, h2, hc, by omega, fun p2 H2 s2 hp2 => ?_⟩
  have e : (List.replicate c.toNat xs).flatten.length = c.toNat * xs.length := by
    rw [List.length_flatten, List.map_replicate, List.sum_replicate_nat]
  refine q p2 _ H2 (g1.trans (Kp.same s2)) (d1.same s2) hp2 ?_ ?_ fun x mx => ?_
  · rw [e]
    have : 1 * 1 ≤ c.toNat * xs.length := Nat.mul_le_mul (by omega) (by omega)
    omega
  · rw [e]
    exact Nat.mul_le_mul_left _ lm
  · obtain ⟨ys, my, mx⟩ := List.mem_flatten.mp mx
    rw [List.eq_of_mem_replicate my] at mx
    exact (z x mx).same (wv.mono (Kp.same s2))
/-- list(t), a new list -/
theorem en_listT {j a m n : Nat} {t : TE} (h : EvT D d W H0 σ j a m n t) : EvN D d W H0 σ j a m n (tCB (fun xs H Q => ∃ p ys, xs = [.ref p] ∧ (SqL K H p ys ∨ SqT K H p ys) ∧ ∀ l, H l = none → Q (.ref l) (upd H l (.lst ys))) (tCons t tNil)) := fun H k g di hk Q q => by
  refine h H k g di hk _ fun p xs H1 g1 d1 hp la lm z => ⟨p, xs, rfl, .inr (SqT.of hp), fun l nl => ?_⟩
  exact q l xs H1 g1 d1 nl la lm z
theorem EvN.up {j a m n n' : Nat} {t : TE} (h : EvN D d W H0 σ j a m n t) (hn : n ≤ n') : EvN D d W H0 σ j a m n' t := fun H k g di hk Q q => h H k g di hk Q fun p xs H1 g1 d1 np la lm z => q p xs H1 g1 d1 np la lm fun v mv => (z v mv).up hn
/-- l + l', a new list -/
theorem en_cat {i j a m a' m' n : Nat} {t u : TE} (wv : Wv d W H0) (hm : m + m' ≤ 1000) (h : EvL D d W H0 σ i a m n t) (h' : EvL D d W H0 σ j a' m' n u) : EvN D d W H0 σ (i + j) (a + a') (m + m') n (tOp rCat t u) := fun H k g di hk Q q => by
  refine h H k g di (by omega) _ fun p xs H1 g1 d1 hp pd la lm z => ?_
  refine h' H1 (k + i) (g.trans g1) d1 (by omega) _ fun p2 ys H2 g2 d2 hp2 pd2 la2 lm2 z2 => ?_
  refine ⟨p, p2, xs, ys, rfl, rfl, g2 _ _ pd hp, hp2, by rw [sizeLine_eq]; omega, fun p3 np3 => ?_⟩
  refine q p3 _ H2 (g1.trans g2) (by rw [← Nat.add_assoc]; exact d2) np3 (by rw [List.length_append]; omega) (by rw [List.length_append]; omega) fun x mx => ?_
  rcases List.mem_append.mp mx with mx | mx
  · exact (z x mx).same (wv.mono g2)
  · exact z2 x mx
theorem EvL.up {j a m n n' : Nat} {t : TE} (h : EvL D d W H0 σ j a m n t) (hn : n ≤ n') : EvL D d W H0 σ j a m n' t := fun H k g di hk Q q => h H k g di hk Q fun p xs H1 g1 d1 hp pd la lm z => q p xs H1 g1 d1 hp pd la lm fun v mv => (z v mv).up hn
/-- _law_pick(dice, l) -/
theorem ez_pick {j a m n : Nat} {t : TE} {E : XK} (wv : Wv d W H0) (hs : σ[0]? = some (some (.ref d))) (ha : 1 ≤ a) (hm : m ≤ 1000) (h : EvL D d W H0 σ j a m n t) : EvZ D d W H0 σ (j + 1) n (tCall (spPick K) [] E (tCons (tVar 0) (tCons t tNil))) := fun H k g di hk Q q => by
  refine ⟨_, hs, ?_⟩
  refine h H k g di (by omega) _ fun p xs H1 g1 d1 hp pd la lm z => ?_
  refine ⟨d, p, k + j, xs, rfl, pd, .inl (SqL.of hp), fun e => by rw [e] at la; simp at la; omega, by omega, d1, by omega, fun v o mv d2 => ?_⟩
  exact q v _ (g1.trans Kp.upd) d2 ((z v mv).same (wv.mono Kp.upd))
/-- items[-1] -/
theorem ez_last {j a m n : Nat} {t : TE} (ha : 1 ≤ a) (h : EvL D d W H0 σ j a m n t) : EvZ D d W H0 σ j n (tOp (rIxL K) t (tUn (rU fun i => V.int (-i)) (tC (.int 1)))) := fun H k g di hk Q q => by
  refine h H k g di hk _ fun p xs H1 g1 d1 hp pd la lm z => ?_
  have hl : xs.length - 1 < xs.length := by omega
  have ne : xs ≠ [] := fun e => by rw [e] at la; simp at la; omega
  have e : xs = xs.dropLast ++ [xs.getLast ne] := (List.dropLast_concat_getLast ne).symm
  refine ⟨1, rfl, p, xs, _, xs.getLast ne, rfl, rfl, SqL.of hp, ?_, q _ H1 g1 d1 (z _ (List.getLast_mem ne))⟩
  have e2 := atI_last xs.dropLast (xs.getLast ne)
  rw [← e] at e2
  exact e2
/-- ' '.join(t), t a tuple of names -/
theorem ez_join {n : Nat} {p : Addr} {ws : List Str} {s : Str} (i : Nat) (hs : σ[i]? = some (some (.ref p))) (hp : H0 p = some (.tup (ws.map V.str))) (pd : p ≠ d) (l : (ws.map (·.length)).sum + ws.length * s.length ≤ 16777216) (z : ∀ H, Z D H n (.str (Txt.join s ws))) :
    EvZ D d W H0 σ 0 n (tBM K "str" (fun x xs H Q => ∃ a p, ∃ ys : List Str, x = .str a ∧ xs = [.ref p] ∧ (SqL K H p (ys.map V.str) ∨ SqT K H p (ys.map V.str)) ∧ (ys.map (·.length)).sum + ys.length * a.length ≤ 16777216 ∧ Q (.str (Txt.join a ys)) H) (tC (.str s)) (tCons (tVar i) tNil)) := fun H k g di _ Q q =>
  ⟨rfl, _, hs, s, p, ws, rfl, rfl, .inr (SqT.of (g _ _ pd hp)), l, q _ H (Kp.refl _ _) di (z _)⟩
theorem ez_neg {n : Nat} {c : Int} (z : ∀ H, Z D H n (.int (-c))) : EvZ D d W H0 σ 0 n (tUn (rU fun i => V.int (-i)) (tC (.int c))) := fun H k g di _ Q q => ⟨c, rfl, q _ H (Kp.refl _ _) di (z _)⟩
theorem ez_pow {n : Nat} {c e : Int} (hc : CPow c e) (z : ∀ H, Z D H n (.int (c ^ e.toNat))) : EvZ D d W H0 σ 0 n (tOp (rI CPow fun i j => V.int (i ^ j.toNat)) (tC (.int c)) (tC (.int e))) := fun H k g di _ Q q => ⟨c, e, rfl, rfl, hc, q _ H (Kp.refl _ _) di (z _)⟩
end
/-- a new list, beside which the rest is looked at -/
theorem same_hm2 {d s : Addr} {H : Hp} {o : HO} (n : H s = none) : Same (Hm d H) (Hm s (Hm d (upd H s o))) := fun b u h => by
  obtain ⟨h1, h2⟩ := Hm.some_of h
  have ne : b ≠ s := ne_of_none h1 n
  exact Hm.of (Hm.of (by rw [upd_ne ne]; exact h1) h2) ne
theorem hm_le {s : Addr} {G : Hp} : Same (Hm s G) G := fun b o h => (Hm.some_of h).1
theorem same_at {d s : Addr} {H : Hp} {o : HO} : Same (Hm s (Hm d H)) (Hm s (Hm d (upd H s o))) := fun b u h => by
  obtain ⟨h0, h3⟩ := Hm.some_of h
  obtain ⟨h1, h2⟩ := Hm.some_of h0
  exact Hm.of (Hm.of (by rw [upd_ne h3]; exact h1) h2) h3
theorem Z.dig {D : List Str} {H : Hp} {n p : Nat} (h : p ≤ 9) : Z D H n (.int (p : Int)) := by
  have key : ∀ p : Nat, p < 10 → ((p : Int)).natAbs.log2 < 1920 ∧ ((toString (p : Int) : String) : Str).length ≤ 100 := by decide +kernel
  exact Z.int _ (key p (by omega)).1 (key p (by omega)).2
/-! ### a statement of a row, met -/
theorem seq_asg {te : TE} {g : TG} {u : TS} {D : Ends} {σ : L2.St} {H : Hp} (h : te σ H fun x H1 => g x σ H1 fun σ2 H2 => u D σ2 H2) : tSeq (tAsg te g) u D σ H := h
theorem seq_set {te : TE} {i : Nat} {u : TS} {D : Ends} {σ : L2.St} {H : Hp} (h : te σ H fun x H1 => u D (σ.set i (some x)) H1) : tSeq (tAsg te (gName i)) u D σ H := h
theorem seq_drop {te : TE} {u : TS} {D : Ends} {σ : L2.St} {H : Hp} (h : te σ H fun _ H1 => u D σ H1) : tSeq (tDrop te) u D σ H := h
theorem seq_two {ta : TA} {i j : Nat} {u : TS} {D : Ends} {σ : L2.St} {H : Hp} (h : ta σ H fun vs H1 => ∃ v w, vs = [v, w] ∧ u D ((σ.set i (some v)).set j (some w)) H1) : tSeq (tPar i j ta) u D σ H := h
theorem ret_one {te : TE} {D : Ends} {σ : L2.St} {H : Hp} (h : te σ H D.rt) : tRet te D σ H := h
end Pr
namespace Pr
open PySem PySem.Spec PyProof.Rows L2 Gd
/-! ### _law_near_rule -/
theorem sokj : ∀ {ws : List Str}, (∀ z ∈ ws, azB z = true) → SOk (10 * ws.length) (PySem.Str.join (" " : Str) ws)
  | [], _ => ⟨Nat.le_refl _, fun c m => by
    have : (PySem.Str.join (" " : Str) []).cps.toList = [] := rfl
    rw [this] at m
    cases m⟩
  | [x], k => (az_sok (k x List.mem_cons_self)).le (by rw [List.length_singleton]; decide)
  | x :: y :: ys, k => by
    have a := az_sok (k x List.mem_cons_self)
    have b := sokj (ws := y :: ys) fun z m => k z (List.mem_cons_of_mem _ m)
    show SOk _ (x ++ (" " : Str) ++ PySem.Str.join (" " : Str) (y :: ys))
    refine ⟨?_, fun c hc => ?_⟩
    · rw [strLen_append, strLen_append]
      have a1 := a.1
      have b1 := b.1
      rw [List.length_cons] at b1 ⊢
      rw [List.length_cons]
      have : (" " : Str).length = 1 := rfl
      omega
    · have e : (x ++ (" " : Str) ++ PySem.Str.join (" " : Str) (y :: ys)).cps.toList = x.cps.toList ++ [32] ++ (PySem.Str.join (" " : Str) (y :: ys)).cps.toList := by
        show (x.cps ++ (" " : Str).cps ++ (PySem.Str.join (" " : Str) (y :: ys)).cps).toList = _
        simp only [Array.toList_append]
        rfl
      rw [e] at hc
      rcases List.mem_append.mp hc with hc | hc
      · rcases List.mem_append.mp hc with hc | hc
        · exact a.2 c hc
        · rw [List.mem_singleton.mp hc]; decide
      · exact b.2 c hc
theorem sok_jn {ws : List Str} (h : ∀ z ∈ ws, azB z = true) : SOk (10 * ws.length) (Txt.join (" " : Str) ws) := by
  show SOk _ (Builtin.Str.glued (" " : Str) ws)
  rw [StrLaws.glued_eq_join]
  exact sokj h
theorem Z.textL {D : List Str} {H : Hp} {n k : Nat} {z : Str} (h : SOk k z) (hk : k ≤ 1000) (hb : 10 * k + 2 ≤ bd n) (hD : azB z = true → z ∈ D) : Z D H n (.str z) :=
  ⟨fun _ => .text (Nat.le_trans h.1 (by omega)) hD, (Vd.text h (by omega)).le (Nat.zero_le _) hb, .str z⟩
/-- texts that a near rule may hold besides -/
def oddT : List Str := ["", "R", "abcdefghi", "a b", "new", "1"]
/-- D has all names that can come -/
structure DN (D : List Str) (l : List (Str × Nat)) (g : Str) (rs : List Rl) : Prop where
  few : D.length ≤ 60
  ops : ∀ z ∈ l.map (·.1), z ∈ D
  nts : ∀ z, isNt l g rs z → z ∈ D
  jn : ∀ r ∈ rs, Txt.join (" " : Str) r.2.2 ∈ D
  new_ : ("new" : Str) ∈ D
theorem DN.rule {D : List Str} {l : List (Str × Nat)} {g : Str} {rs : List Rl} (h : DN D l g rs) {r : Rl} (m : r ∈ rs) (ok : RlOk l r) : r.1 ∈ D ∧ ∀ z ∈ r.2.2, z ∈ D := by
  refine ⟨h.nts _ (.inr ⟨r, m, .inl rfl, ok.new⟩), fun z mz => ?_⟩
  by_cases c : z ∈ l.map (·.1)
  · exact h.ops z c
  · exact h.nts _ (.inr ⟨r, m, .inr mz, c⟩)
/-- what stands where the candidates are made -/
structure NF (D : List Str) (G : Hp) (t ra wa p1 p2 : Addr) (h : Str) (p : Nat) (ws wz : List Str) (odd : V) : Prop where
  pat : G t = some (.tup (ws.map V.str))
  rul : G ra = some (.tup [.str h, .int (p : Int), .ref t])
  wds : G wa = some (.lst (wz.map V.str))
  fst : ∃ xs, G p1 = some (.tup xs) ∧ xs.length ≤ 7 ∧ ∀ x ∈ xs, Z D G 1 x
  lst : ∃ xs, G p2 = some (.tup xs) ∧ xs.length ≤ 7 ∧ ∀ x ∈ xs, Z D G 1 x
  odd : Z D G 1 odd
theorem NF.same {D : List Str} {G G' : Hp} {t ra wa p1 p2 : Addr} {h : Str} {p : Nat} {ws wz : List Str} {odd : V} (f : NF D G t ra wa p1 p2 h p ws wz odd) (s : Same G G') : NF D G' t ra wa p1 p2 h p ws wz odd :=
  ⟨s _ _ f.pat, s _ _ f.rul, s _ _ f.wds, let ⟨xs, a, b, c⟩ := f.fst; ⟨xs, s _ _ a, b, fun x m => (c x m).same s⟩, let ⟨xs, a, b, c⟩ := f.lst; ⟨xs, s _ _ a, b, fun x m => (c x m).same s⟩, f.odd.same s⟩
def sgN (d pl ra t wa p1 p2 : Addr) (h : Str) (p a : Nat) (odd : V) (so : Option V) : L2.St := [some (.ref d), some (.ref pl), some (.ref ra), some (.str h), some (.int (p : Int)), some (.ref t), some (.int (a : Int)), some (.ref wa), some odd, some (.ref p1), some (.ref p2), so]
section
variable {D : List Str} {W : Hp → Hp} {H0 : Hp} {d pl ra t wa p1 p2 : Addr} {h : Str} {p a : Nat} {ws wz : List Str} {odd : V} {so : Option V}
theorem nf_pat (wv : Wv d W H0) (f : NF D (W H0) t ra wa p1 p2 h p ws wz odd) (lo : 1 ≤ ws.length) (hi : ws.length ≤ 7) (hn : ∀ z ∈ ws, azB z = true ∧ z ∈ D) : EvT D d W H0 (sgN d pl ra t wa p1 p2 h p a odd so) 0 1 7 1 (tVar 5) :=
  et_var 5 rfl (wv.le f.pat).1 (wv.le f.pat).2 (by rw [List.length_map]; exact lo) (by rw [List.length_map]; exact hi) (fun x m => by
    obtain ⟨z, mz, rfl⟩ := List.mem_map.mp m
    exact Z.text (az_sok (hn z mz).1) fun _ => (hn z mz).2) wv
theorem nf_rul (wv : Wv d W H0) (f : NF D (W H0) t ra wa p1 p2 h p ws wz odd) (hi : ws.length ≤ 7) (hp : p ≤ 9) (hh : azB h = true ∧ h ∈ D) (hn : ∀ z ∈ ws, azB z = true ∧ z ∈ D) : EvT D d W H0 (sgN d pl ra t wa p1 p2 h p a odd so) 0 3 3 2 (tVar 2) :=
  et_var 2 rfl (wv.le f.rul).1 (wv.le f.rul).2 (by simp) (by simp) (fun x m => by
    rcases List.mem_cons.mp m with e | m
    · rw [e]; exact Z.text (az_sok hh.1) fun _ => hh.2
    rcases List.mem_cons.mp m with e | m
    · rw [e]; exact Z.dig hp
    rw [List.mem_singleton.mp m]
    exact Z.tup (n := 1) (k := 7) f.pat (fun x m => by
      obtain ⟨z, mz, rfl⟩ := List.mem_map.mp m
      exact Z.text (az_sok (hn z mz).1) fun _ => (hn z mz).2) (by rw [List.length_map]; exact hi)) wv
theorem nf_fst (wv : Wv d W H0) (f : NF D (W H0) t ra wa p1 p2 h p ws wz odd) : EvT D d W H0 (sgN d pl ra t wa p1 p2 h p a odd so) 0 0 7 1 (tVar 9) :=
  let ⟨_, x, y, z⟩ := f.fst; et_var 9 rfl (wv.le x).1 (wv.le x).2 (Nat.zero_le _) y z wv
theorem nf_lst (wv : Wv d W H0) (f : NF D (W H0) t ra wa p1 p2 h p ws wz odd) : EvT D d W H0 (sgN d pl ra t wa p1 p2 h p a odd so) 0 0 7 1 (tVar 10) :=
  let ⟨_, x, y, z⟩ := f.lst; et_var 10 rfl (wv.le x).1 (wv.le x).2 (Nat.zero_le _) y z wv
theorem nf_odd (wv : Wv d W H0) (f : NF D (W H0) t ra wa p1 p2 h p ws wz odd) : EvZ D d W H0 (sgN d pl ra t wa p1 p2 h p a odd so) 0 1 (tVar 8) := ez_var 8 rfl f.odd wv
theorem nf_wds (wv : Wv d W H0) (f : NF D (W H0) t ra wa p1 p2 h p ws wz odd) (ne : wz ≠ []) (l : wz.length ≤ 14) (hw : ∀ z ∈ wz, azB z = true ∧ z ∈ D) {n : Nat} : EvL D d W H0 (sgN d pl ra t wa p1 p2 h p a odd so) 0 1 14 n (tVar 7) :=
  el_var 7 rfl (wv.le f.wds).1 (wv.le f.wds).2 (by rw [List.length_map]; exact List.length_pos_iff.mpr ne) (by rw [List.length_map]; exact l) (fun x m => by
    obtain ⟨z, mz, rfl⟩ := List.mem_map.mp m
    exact Z.text (az_sok (hw z mz).1) fun _ => (hw z mz).2) wv
theorem nf_h (wv : Wv d W H0) (hh : azB h = true ∧ h ∈ D) {n : Nat} : EvZ D d W H0 (sgN d pl ra t wa p1 p2 h p a odd so) 0 n (tVar 3) := ez_var 3 rfl (Z.text (az_sok hh.1) fun _ => hh.2) wv
theorem nf_p (wv : Wv d W H0) (hp : p ≤ 9) {n : Nat} : EvZ D d W H0 (sgN d pl ra t wa p1 p2 h p a odd so) 0 n (tVar 4) := ez_var 4 rfl (Z.dig hp) wv
/-- a row of three -/
theorem ez_tri {σ : L2.St} {i j k : Nat} {x y z : TE} (wv : Wv d W H0) (ha : EvZ D d W H0 σ i 2 x) (hb : EvZ D d W H0 σ j 2 y) (hc : EvZ D d W H0 σ k 2 z) : EvZ D d W H0 σ (i + (j + (k + 0))) 3 (tTup (tCons x (tCons y (tCons z tNil)))) :=
  (et_tup wv (by decide) (ea_cons wv ha (ea_cons wv hb (ea_cons wv hc ea_nil)))).z wv
end
def spNearR : Sp := fun vs H Q _ => ∃ (d pl ra : Addr) (D : List Str) (l : List (Str × Nat)) (g : Str) (rs : List Rl) (r : Rl) (k : Nat), vs = [.ref d, .ref pl, .ref ra] ∧ pl ≠ d ∧ PlainAt (Hm d H) pl l g rs ∧ BkOk l g rs ∧ DN D l g rs ∧ RuleAt (Hm d H) ra r ∧ r ∈ rs ∧ Dice H d k ∧ k + 9 < 1000000 ∧
  ∀ (v : V) (H' : Hp), Kp d H H' → Z D (Hm d H') 3 v → Dice H' d (k + 9) → Q v H'
section
variable {P : Program} {w : World} {K : PySem.W.Frag} {mg : Str → Option Value} {base : Heap} {fR fP fM fT : Addr} {dR dP dM dT : FuncData}
theorem scNearR : FnScope ["dice", "plain", "rule", "head", "price", "pattern", "place", "words", "odd", "first", "last", "some"] ["dice", "plain", "rule"] (defScope sLNearRule) := ⟨rfl, rfl, rfl, by decide +kernel, rfl, by decide +kernel, by decide +kernel⟩
theorem ok_nearr {f : Addr} {fd : FuncData} (F : Fun K "_law_near_rule" "_law_near_rule" sLNearRule f fd) (D : Draws K mg fR fP fM dR dP dM) (T : Free mg)
    (GT : FnOk P w K mg base CX0 1 fT dT ["plain"] spLNontsG) (bT : Binds K dT ["plain"] []) (gT : mg "_law_nonterminals" = some (.ref fT)) (kT : PySem.W.keepIn K (.ref fT) = true) : FnOk P w K mg base CX0 3 f fd ["dice", "plain", "rule"] spNearR := by
  have GR : FnOk P w K mg base CX0 1 fR dR ["dice", "total"] spRoll := ok_roll D.FR T
  have GP : FnOk P w K mg base CX0 2 fP dP ["dice", "items"] (spPick K) := ok_pick D T
  refine F.ok scNearR (fun vs H Q E h => ?_) (fun cdv A outer s H vs Q E hr h => ?_)
  · obtain ⟨d, pl, ra, D0, l, g, rs, r, k, rfl, _⟩ := h
    rfl
  · obtain ⟨d, pl, ra, D0, l, g, rs, r, k, rfl, pld, pla, bk, dn, rat, mr, di, hk, q⟩ := h
    have hu := hr.units
    have hu1 : ∀ {u : Nat}, u + 64 < cLine → u + 1 < cLine := fun h => by omega
    have r1 : Room 1 _ := hr.mono (by decide)
    have r2 : Room 2 _ := hr.mono (by decide)
    refine ⟨_, (pss_cons (ps_asg (pv 2) (pg_tup rfl (pgs_cons (pg_name (i := 3) scNearR.nd rfl (.inl rfl)) (pgs_cons (pg_name (i := 4) scNearR.nd rfl (.inl rfl)) (pgs_cons (pg_name (i := 5) scNearR.nd rfl (.inl rfl)) pgs_nil))))) (pss_cons (ps_par (i := 6) (j := 7) (by rfl) scNearR.nd rfl rfl (by decide) rfl rfl (pa_cons (pe_call GR r1 (by rfl) D.gR D.FR.kp D.bR .nil pass0 (pa_cons (pv 0) (pa_cons (pe_callB call_len_seq (by rfl) T.len PySem.boot_len (pa_cons (pv 5) pa_nil)) pa_nil))) (pa_cons (pe_op op_cat (pe_callB (call_sortedD (by rfl)) (by rfl) T.sorted (by decide +kernel) (pa_cons (pe_dget (hu1 hu) (pv 1) pe_str (fun _ _ => rfl)) pa_nil)) (pe_call GT r1 (by rfl) gT kT bT .nil pass0 (pa_cons (pv 1) pa_nil))) pa_nil)) (by rfl)) (pss_cons (ps_set (i := 8) scNearR.nd rfl (.inl rfl) (pe_call GP r2 (by rfl) D.gP D.FP.kp D.bP .nil pass0 (pa_cons (pv 0) (pa_cons (pe_op op_cat (pe_lst (pa_cons pe_non (pa_cons pe_str (pa_cons pe_str (pa_cons pe_int (pa_cons pe_bl (pa_cons pe_str (pa_cons pe_str (pa_cons (pe_tup pa_nil) (pa_cons pe_str (pa_cons (pv 3) pa_nil))))))))))) (pv 7)) pa_nil)))) (pss_cons (ps_par (i := 9) (j := 10) (by rfl) scNearR.nd rfl rfl (by decide) rfl rfl (pa_cons (pe_slice sl_tupU (pv 5) po_none (po_some (pv 6))) (pa_cons (pe_slice sl_tupU (pv 5) (po_some (pe_op op_add (pv 6) pe_int)) po_none) pa_nil)) (by rfl)) (pss_cons (ps_set (i := 11) scNearR.nd rfl (.inl rfl) (pe_lst (pa_cons (pe_tup (pa_cons (pv 3) (pa_cons (pv 4) (pa_cons (pe_op op_catU (pe_op op_catU (pv 9) (pe_tup (pa_cons (pv 8) pa_nil))) (pv 10)) pa_nil)))) (pa_cons (pe_tup (pa_cons (pv 3) (pa_cons (pv 4) (pa_cons (pe_op op_catU (pv 9) (pv 10)) pa_nil)))) (pa_cons (pe_tup (pa_cons (pv 8) (pa_cons (pv 4) (pa_cons (pv 5) pa_nil)))) pa_nil))))) (pss_cons (ps_set (i := 11) scNearR.nd rfl (.inl rfl) (pe_op op_cat (pv 11) (pe_lst (pa_cons (pe_tup (pa_cons (pv 3) (pa_cons (pv 4) (pa_cons (pe_op op_catU (pe_op op_catU (pv 9) (pe_tup (pa_cons (pv 8) pa_nil))) (pe_slice sl_tupU (pv 5) (po_some (pv 6)) po_none)) pa_nil)))) (pa_cons (pe_tup (pa_cons (pv 3) (pa_cons (pv 8) (pa_cons (pv 5) pa_nil)))) pa_nil))))) (pss_cons (ps_expr (pe_bm PySem.F.plainAttrs_list PySem.F.slot_list_append PySem.F.type_list_append mt_append (pv 11) (pa_cons (pe_tup (pa_cons (pv 3) (pa_cons (pe_call GP r2 (by rfl) D.gP D.FP.kp D.bP .nil pass0 (pa_cons (pv 0) (pa_cons (pe_lst (pa_cons (pe_un un_neg pe_int) (pa_cons pe_int (pa_cons pe_bl (pa_cons pe_str (pa_cons (pe_op op_pow pe_int pe_int) (pa_cons pe_int (pa_cons pe_int pa_nil)))))))) pa_nil))) (pa_cons (pv 5) pa_nil)))) pa_nil))) (pss_cons (ps_expr (pe_bm PySem.F.plainAttrs_list PySem.F.slot_list_append PySem.F.type_list_append mt_append (pv 11) (pa_cons (pe_tup (pa_cons (pv 3) (pa_cons (pv 4) (pa_cons (pe_callTy call_list_of (by rfl) T.list (by decide +kernel) (pa_cons (pv 5) pa_nil)) pa_nil)))) pa_nil))) (pss_cons (ps_set (i := 11) scNearR.nd rfl (.inl rfl) (pe_op op_cat (pv 11) (pe_lst (pa_cons (pe_callTy call_list_of (by rfl) T.list (by decide +kernel) (pa_cons (pv 2) pa_nil)) (pa_cons (pe_tup (pa_cons (pv 3) (pa_cons (pv 4) pa_nil))) (pa_cons (pe_op op_catU (pv 2) (pe_tup (pa_cons pe_int pa_nil))) (pa_cons (pe_tup (pa_cons (pv 3) (pa_cons (pv 4) (pa_cons (pe_bm PySem.F.plainAttrs_str PySem.F.slot_str_join PySem.F.type_str_join mt_join pe_str (pa_cons (pv 5) pa_nil)) pa_nil)))) (pa_cons pe_non (pa_cons (pe_tup pa_nil) pa_nil))))))))) (pss_cons (ps_set (i := 11) scNearR.nd rfl (.inl rfl) (pe_op op_cat (pv 11) (pe_lst (pa_cons (pe_tup (pa_cons (pv 4) (pa_cons (pv 3) (pa_cons (pv 5) pa_nil)))) (pa_cons (pe_tup (pa_cons (pv 3) (pa_cons (pv 4) (pa_cons (pe_tup pa_nil) pa_nil)))) (pa_cons (pe_tup (pa_cons (pv 3) (pa_cons (pv 4) (pa_cons (pe_tup (pa_cons (pv 3) pa_nil)) pa_nil)))) (pa_cons (pe_tup (pa_cons (pv 3) (pa_cons (pv 4) (pa_cons (pe_op op_repU (pv 5) pe_int) pa_nil)))) pa_nil))))))) (pss_cons (ps_expr (pe_bm PySem.F.plainAttrs_list PySem.F.slot_list_append PySem.F.type_list_append mt_append (pv 11) (pa_cons (pe_tup (pa_cons (pv 3) (pa_cons (pv 4) (pa_cons (pe_tup (pa_cons (pe_ix ix_list (pv 7) (pe_un un_neg pe_int) (fun _ _ => rfl)) pa_nil)) pa_nil)))) pa_nil))) (pss_one (ps_ret (pe_call GP r2 (by rfl) D.gP D.FP.kp D.bP .nil pass0 (pa_cons (pv 0) (pa_cons (pe_op op_cat (pv 11) (pe_lst (pa_cons (pv 2) (pa_cons (pv 2) pa_nil)))) pa_nil)))))))))))))))), ?_⟩
    obtain ⟨t, hra, ht⟩ := rat
    obtain ⟨h, p, ws⟩ := r
    have rok := bk.rules _ mr
    have ok_h : azB h = true := rok.head
    have ok_p : p ≤ 9 := rok.price
    have ok_s : 1 ≤ ws.length := rok.some_
    have ok_f : ws.length ≤ 7 := rok.few
    have ok_n : ∀ z ∈ ws, azB z = true := rok.names
    obtain ⟨inh, inw⟩ := dn.rule mr rok
    refine ⟨_, rfl, ra, _, rfl, SqT.of (Hm.some_of hra).1, rfl, _, _, rfl, _, _, rfl, _, _, rfl, rfl, ?_⟩
    -- place, words
    have lw : (ws.map V.str).length = ws.length := List.length_map _
    refine ⟨_, rfl, _, rfl, t, _, rfl, .inr (SqT.of (Hm.some_of ht).1), d, _, k, rfl, di, by omega, by rw [lw]; omega, by rw [lw]; exact Int.lt_of_le_of_lt (show (ws.length : Int) ≤ 7 by omega) (by decide +kernel), fun a0 o1 r0 r1_ di1 => ?_⟩
    obtain ⟨a, rfl⟩ := Int.eq_ofNat_of_zero_le r0
    rw [lw] at r1_
    have k1 : Kp d H (upd H d o1) := Kp.upd
    generalize upd H d o1 = H1 at di1 k1 ⊢
    have S1 := k1.hm
    obtain ⟨la, ra', as, h1, h2, h3, h4⟩ := pla.ex
    have un : ∀ {G : Hp} {b : Addr} {o : HO}, Hm d G b = some o → G b = some o := fun h => (Hm.some_of h).1
    refine ⟨_, rfl, pl, .ref la, rfl, pl_ar ▸ DGet.k (k := .inr ("arities" : Str)) (un (S1 _ _ h1)), ?_⟩
    refine ⟨la, dkv l, l.map (·.1), rfl, .inl (un (S1 _ _ h2)), by unfold dkv; rw [List.map_map, List.map_map]; rfl, by have := bk.ops.few; rw [List.length_map]; omega, fun ks nsA pk srt nns => ?_⟩
    have nt : NtOk l rs := ⟨bk.few, bk.rules, D0, dn.few, fun r m => dn.rule m (bk.rules r m)⟩
    obtain ⟨ds1, hd1⟩ := di1.there
    have plaH : PlainAt H1 pl l g rs := (pla.same S1).same (fun b o e => un e)
    have sA := Same.new nns (o := .lst (ks.map V.str))
    refine ⟨_, rfl, pl, l, g, rs, rfl, plaH.same sA, nt, fun ys yp H2 srt2 nd mem nyp s2 hyp => ?_⟩
    have lks : ks.length ≤ 8 := by
      have := bk.ops.few
      rw [pk.length_eq, List.length_map]
      omega
    have lys : ys.length ≤ 6 := by
      obtain ⟨D6, hD6, inD⟩ := bk.six
      exact Nat.le_trans (nodup_few nd fun x m => inD x ((mem x).mp m)) hD6
    have s02 := sA.trans s2
    refine ⟨nsA, yp, _, _, rfl, rfl, s2 _ _ upd_same, hyp, by rw [List.length_map, List.length_map, sizeLine_eq]; omega, fun wa nwa => ⟨_, _, rfl, ?_⟩⟩
    have nwd : wa ≠ d := fun e => by
      rw [e, s02 _ _ hd1] at nwa
      cases nwa
    have s03 := s02.trans (Same.new nwa (o := .lst (ks.map V.str ++ ys.map V.str)))
    have hwa : (upd H2 wa (.lst (ks.map V.str ++ ys.map V.str))) wa = some (.lst ((ks ++ ys).map V.str)) := by
      rw [upd_same, List.map_append]
    generalize upd H2 wa (.lst (ks.map V.str ++ ys.map V.str)) = H3 at s03 hwa ⊢
    have az_w : ∀ z ∈ ks ++ ys, azB z = true ∧ z ∈ D0 := fun z m => by
      rcases List.mem_append.mp m with m | m
      · have m' := pk.mem_iff.mp m
        obtain ⟨q, mq, rfl⟩ := List.mem_map.mp m'
        exact ⟨bk.ops.name q mq, dn.ops _ m'⟩
      · have hz := (mem z).mp m
        refine ⟨?_, dn.nts z hz⟩
        rcases hz with rfl | ⟨r, mr, e, _⟩
        · exact bk.goal
        · rcases e with rfl | e
          · exact (bk.rules r mr).head
          · exact (bk.rules r mr).names z e
    have lwz : (ks ++ ys).length ≤ 14 := by rw [List.length_append]; omega
    have hks1 : 1 ≤ ks.length := by
      have := bk.ops.few
      rw [pk.length_eq, List.length_map]
      omega
    have nez : ks ++ ys ≠ [] := fun e => by
      have := congrArg List.length e
      rw [List.length_append, List.length_nil] at this
      omega
    generalize ks ++ ys = wz at hwa az_w lwz nez
    have K3 := k1.trans (Kp.same (d := d) s03)
    have di3 := di1.same s03
    have S3 := K3.hm
    have Hwa : Hm d H3 wa = some (.lst (wz.map V.str)) := Hm.of hwa nwd
    have Hra := S3 _ _ hra
    have Hta := S3 _ _ ht
    clear hd1 plaH sA s02 s03 hwa h1 h2 h3 h4 hyp nyp s2 nns nwa
    -- odd
    have jnd : Txt.join (" " : Str) ws ∈ D0 := dn.jn _ mr
    have jnb : 10 * (10 * ws.length) + 2 ≤ bd 2 := by
      show _ ≤ 1715
      omega
    have jnl : (ws.map (·.length)).sum + ws.length * (" " : Str).length ≤ 16777216 := by
      have a := sum_az ok_n
      have b : (" " : Str).length = 1 := rfl
      rw [b]
      omega
    have hh : azB h = true ∧ h ∈ D0 := ⟨ok_h, inh⟩
    have hn : ∀ z ∈ ws, azB z = true ∧ z ∈ D0 := fun z m => ⟨ok_n z m, inw z m⟩
    have wv3 : Wv d (Hm d) H3 := Wv.hm
    have emp : SOk 9 ("" : Str) ∧ (azB ("" : Str) = true → ("" : Str) ∈ D0) := ⟨⟨by decide +kernel, by decide +kernel⟩, fun e => absurd e (by decide +kernel)⟩
    have zR : SOk 9 ("R" : Str) ∧ (azB ("R" : Str) = true → ("R" : Str) ∈ D0) := ⟨⟨by decide +kernel, by decide +kernel⟩, fun e => absurd e (by decide +kernel)⟩
    have z9 : SOk 9 ("abcdefghi" : Str) ∧ (azB ("abcdefghi" : Str) = true → ("abcdefghi" : Str) ∈ D0) := ⟨⟨by decide +kernel, by decide +kernel⟩, fun e => absurd e (by decide +kernel)⟩
    have zab : SOk 9 ("a b" : Str) ∧ (azB ("a b" : Str) = true → ("a b" : Str) ∈ D0) := ⟨⟨by decide +kernel, by decide +kernel⟩, fun e => absurd e (by decide +kernel)⟩
    have znew : SOk 9 ("new" : Str) ∧ (azB ("new" : Str) = true → ("new" : Str) ∈ D0) := ⟨⟨by decide +kernel, by decide +kernel⟩, fun _ => dn.new_⟩
    have z1 : SOk 9 ("1" : Str) ∧ (azB ("1" : Str) = true → ("1" : Str) ∈ D0) := ⟨⟨by decide +kernel, by decide +kernel⟩, fun e => absurd e (by decide +kernel)⟩
    have zh : ∀ {H n}, Z D0 H n (.str h) := fun {H n} => Z.text (az_sok ok_h) fun _ => inh
    have z0 : ∀ {H n}, Z D0 H n (.int 0) := fun {H n} => Z.int 0 (by decide) (by decide +kernel)
    have zw : ∀ {H n}, ∀ x ∈ wz.map V.str, Z D0 H n x := fun {H n} x m => by
      obtain ⟨z, mz, rfl⟩ := List.mem_map.mp m
      exact Z.text (az_sok (az_w z mz).1) fun _ => (az_w z mz).2
    refine ez_pick (a := 10) (m := 24) (n := 1) (j := 0) wv3 rfl (by decide) (by decide) ((en_cat (a := 10) (m := 10) (a' := 0) (m' := 14) (i := 0) (j := 0) wv3 (by decide) ((en_lst (m := 10) (j := 0) (by decide) (ea_cons wv3 (ez_c fun H => Z.non) (ea_cons wv3 (ez_c fun H => Z.text emp.1 emp.2) (ea_cons wv3 (ez_c fun H => Z.text zR.1 zR.2) (ea_cons wv3 (ez_c fun H => z0) (ea_cons wv3 (ez_c fun H => Z.bl true) (ea_cons wv3 (ez_c fun H => Z.text z9.1 z9.2) (ea_cons wv3 (ez_c fun H => Z.text zab.1 zab.2)
      (ea_cons wv3 ((et_tup (n := 0) (m := 0) wv3 (by decide) ea_nil).z wv3) (ea_cons wv3 (ez_c fun H => Z.text znew.1 znew.2) (ea_cons wv3 (ez_var 3 rfl zh wv3) ea_nil))))))))))).l wv3)
      (el_var 7 rfl (Hm.some_of Hwa).1 nwd (Nat.zero_le _) (by rw [List.length_map]; exact lwz) zw wv3)).l wv3) H3 (k + 1) (Kp.refl _ _) di3 (by omega) _ fun odd H4 g4 d4 z4 => ?_
    -- first, last
    have S4 := g4.hm
    have zws : ∀ {H n}, ∀ x ∈ ws.map V.str, Z D0 H n x := fun {H n} x m => by
      obtain ⟨z, mz, rfl⟩ := List.mem_map.mp m
      exact Z.text (az_sok (hn z mz).1) fun _ => (hn z mz).2
    have wv4 : Wv d (Hm d) H4 := Wv.hm
    have Ht4 := S4 _ _ Hta
    refine et_sl (a := 1) (m := 7) (n := 1) (j := 0) wv4 (et_var 5 rfl (Hm.some_of Ht4).1 (Hm.some_of Ht4).2 (by rw [lw]; exact ok_s) (by rw [lw]; exact ok_f) zws wv4) eo_no (eo_var 6 rfl) H4 _ (Kp.refl _ _) d4 (by omega) _ fun p1 xs1 H5 g5 d5 hp1 _ l1 zx1 => ?_
    refine et_sl (a := 1) (m := 7) (n := 1) (j := 0) wv4 (et_var 5 rfl (Hm.some_of Ht4).1 (Hm.some_of Ht4).2 (by rw [lw]; exact ok_s) (by rw [lw]; exact ok_f) zws wv4) (eo_var1 6 rfl) eo_no H5 _ g5 d5 (by omega) _ fun p2 xs2 H6 g6 d6 hp2 _ l2 zx2 => ?_
    refine ⟨_, _, rfl, ?_⟩
    have hp1' := ne_tup d5 hp1
    have f6 : NF D0 (Hm d H6) t ra wa p1 p2 h p ws wz odd :=
      ⟨(g5.trans g6).hm _ _ Ht4, (g5.trans g6).hm _ _ (S4 _ _ Hra), (g5.trans g6).hm _ _ (S4 _ _ Hwa), ⟨xs1, g6.hm _ _ (Hm.of hp1 hp1'), l1, fun x m => (zx1 x m).same g6.hm⟩, ⟨xs2, Hm.of hp2 (ne_tup d6 hp2), l2, zx2⟩, z4.same (g5.trans g6).hm⟩
    have K6 := (K3.trans g4).trans (g5.trans g6)
    have e6 : k + 1 + (0 + (0 + 0) + 1) + 0 + 0 ≤ k + 9 := by omega
    -- some
    have wv6 : Wv d (Hm d) H6 := Wv.hm
    have eh : EvZ D0 d (Hm d) H6 (sgN d pl ra t wa p1 p2 h p a odd none) 0 2 (tVar 3) := nf_h wv6 hh
    have ep : EvZ D0 d (Hm d) H6 (sgN d pl ra t wa p1 p2 h p a odd none) 0 2 (tVar 4) := nf_p wv6 ok_p
    have eo : EvZ D0 d (Hm d) H6 (sgN d pl ra t wa p1 p2 h p a odd none) 0 1 (tVar 8) := nf_odd wv6 f6
    have ef : EvT D0 d (Hm d) H6 (sgN d pl ra t wa p1 p2 h p a odd none) 0 0 7 1 (tVar 9) := nf_fst wv6 f6
    have el : EvT D0 d (Hm d) H6 (sgN d pl ra t wa p1 p2 h p a odd none) 0 0 7 1 (tVar 10) := nf_lst wv6 f6
    have et : EvT D0 d (Hm d) H6 (sgN d pl ra t wa p1 p2 h p a odd none) 0 1 7 1 (tVar 5) := nf_pat wv6 f6 ok_s ok_f hn
    have eo1 := et_tup (m := 1) wv6 (by decide) (ea_cons wv6 eo ea_nil)
    have c1 := (et_cat wv6 (by decide) (et_cat wv6 (by decide) ef eo1) el).z wv6
    have c2 := (et_cat wv6 (by decide) ef el).z wv6
    have ev1 := en_lst (m := 3) (n := 3) (by decide) (ea_cons wv6 (ez_tri wv6 eh ep c1) (ea_cons wv6 (ez_tri wv6 eh ep c2) (ea_cons wv6 (ez_tri wv6 (eo.up (by decide)) ep (et.z wv6)) ea_nil)))
    try dsimp only
    refine seq_set ?_
    refine ev1 H6 _ (Kp.refl _ _) d6 (by omega) _ fun s1 xs H7 g7 d7 ns1 _ lx zx => ?_
    -- some + [..]
    have n7 := Same.new ns1 (o := .lst xs)
    have d7' := d7.same n7
    have ne1 : s1 ≠ d := fun e => by
      obtain ⟨ds, x⟩ := d7.there
      rw [e, x] at ns1
      cases ns1
    have hs1 : (upd H7 s1 (.lst xs)) s1 = some (.lst xs) := upd_same
    have g67 := g7.trans (Kp.same (d := d) n7)
    have f7 := f6.same g67.hm
    have zx' : ∀ x ∈ xs, Z D0 (Hm d (upd H7 s1 (.lst xs))) 3 x := fun x m => (zx x m).same (Kp.same (d := d) n7).hm
    have K7 := K6.trans g67
    generalize upd H7 s1 (.lst xs) = B7 at hs1 d7' f7 zx' K7 ⊢
    clear zx g7 n7 d7 ns1 g67 f6 d6 ev1 c1 c2 eo1 et el ef eo ep eh
    have wv7 : Wv d (Hm d) B7 := Wv.hm
    have eh : EvZ D0 d (Hm d) B7 (sgN d pl ra t wa p1 p2 h p a odd (some (.ref s1))) 0 2 (tVar 3) := nf_h wv7 hh
    have ep : EvZ D0 d (Hm d) B7 (sgN d pl ra t wa p1 p2 h p a odd (some (.ref s1))) 0 2 (tVar 4) := nf_p wv7 ok_p
    have eo : EvZ D0 d (Hm d) B7 (sgN d pl ra t wa p1 p2 h p a odd (some (.ref s1))) 0 1 (tVar 8) := nf_odd wv7 f7
    have ef : EvT D0 d (Hm d) B7 (sgN d pl ra t wa p1 p2 h p a odd (some (.ref s1))) 0 0 7 1 (tVar 9) := nf_fst wv7 f7
    have el : EvT D0 d (Hm d) B7 (sgN d pl ra t wa p1 p2 h p a odd (some (.ref s1))) 0 0 7 1 (tVar 10) := nf_lst wv7 f7
    have et : EvT D0 d (Hm d) B7 (sgN d pl ra t wa p1 p2 h p a odd (some (.ref s1))) 0 1 7 1 (tVar 5) := nf_pat wv7 f7 ok_s ok_f hn
    have er : EvT D0 d (Hm d) B7 (sgN d pl ra t wa p1 p2 h p a odd (some (.ref s1))) 0 3 3 2 (tVar 2) := nf_rul wv7 f7 ok_f ok_p hh hn
    have eo1 := et_tup (m := 1) wv7 (by decide) (ea_cons wv7 eo ea_nil)
    have es : EvL D0 d (Hm d) B7 (sgN d pl ra t wa p1 p2 h p a odd (some (.ref s1))) 0 3 3 3 (tVar 11) := el_var 11 rfl hs1 ne1 (by omega) lx zx' wv7
    have c1 := (et_cat wv7 (by decide) (et_cat wv7 (by decide) ef eo1) (et_sl wv7 et (eo_var 6 rfl) eo_no)).z wv7
    have ev2 := en_cat wv7 (by decide) es ((en_lst (m := 2) (n := 3) (by decide) (ea_cons wv7 (ez_tri wv7 eh ep c1) (ea_cons wv7 (ez_tri wv7 eh (eo.up (by decide)) (et.z wv7)) ea_nil))).l wv7)
    try dsimp only
    refine seq_set ?_
    refine ev2 B7 _ (Kp.refl _ _) d7' (by omega) _ fun s2 ys H8 g8 d8 ns2 _ ly zy => ?_
    -- append
    have n8 := Same.new ns2 (o := .lst ys)
    have d8' := d8.same n8
    have ne2 : s2 ≠ d := fun e => by
      obtain ⟨ds, x⟩ := d8.there
      rw [e, x] at ns2
      cases ns2
    have hs2 : (upd H8 s2 (.lst ys)) s2 = some (.lst ys) := upd_same
    have f8 := (f7.same g8.hm).same (same_hm2 (d := d) (o := .lst ys) ns2)
    have zy' : ∀ x ∈ ys, Z D0 (Hm s2 (Hm d (upd H8 s2 (.lst ys)))) 3 x := fun x m => (zy x m).same (same_hm2 ns2)
    have fr2 : H s2 = none := Kp.free (K7.trans g8) ne2 ns2
    have K8 := K7.trans (g8.trans (Kp.same (d := d) n8))
    generalize upd H8 s2 (.lst ys) = B8 at hs2 d8' f8 zy' K8 ⊢
    clear zy g8 n8 d8 ns2 f7 d7' ev2 c1 es eo1 er et el ef eo ep eh wv7 zx' hs1 K7
    have wv8 : Wv d (fun H => Hm s2 (Hm d H)) B8 := Wv.hm2 hs2 ne2
    have eh : EvZ D0 d (fun H => Hm s2 (Hm d H)) B8 (sgN d pl ra t wa p1 p2 h p a odd (some (.ref s2))) 0 2 (tVar 3) := nf_h wv8 hh
    have ep : EvZ D0 d (fun H => Hm s2 (Hm d H)) B8 (sgN d pl ra t wa p1 p2 h p a odd (some (.ref s2))) 0 2 (tVar 4) := nf_p wv8 ok_p
    have eo : EvZ D0 d (fun H => Hm s2 (Hm d H)) B8 (sgN d pl ra t wa p1 p2 h p a odd (some (.ref s2))) 0 1 (tVar 8) := nf_odd wv8 f8
    have ef : EvT D0 d (fun H => Hm s2 (Hm d H)) B8 (sgN d pl ra t wa p1 p2 h p a odd (some (.ref s2))) 0 0 7 1 (tVar 9) := nf_fst wv8 f8
    have el : EvT D0 d (fun H => Hm s2 (Hm d H)) B8 (sgN d pl ra t wa p1 p2 h p a odd (some (.ref s2))) 0 0 7 1 (tVar 10) := nf_lst wv8 f8
    have et : EvT D0 d (fun H => Hm s2 (Hm d H)) B8 (sgN d pl ra t wa p1 p2 h p a odd (some (.ref s2))) 0 1 7 1 (tVar 5) := nf_pat wv8 f8 ok_s ok_f hn
    have er : EvT D0 d (fun H => Hm s2 (Hm d H)) B8 (sgN d pl ra t wa p1 p2 h p a odd (some (.ref s2))) 0 3 3 2 (tVar 2) := nf_rul wv8 f8 ok_f ok_p hh hn
    have eo1 := et_tup (m := 1) wv8 (by decide) (ea_cons wv8 eo ea_nil)
    have epk := ez_pick (K := K) (E := E0) (a := 7) (m := 7) (n := 2) wv8 (σ := sgN d pl ra t wa p1 p2 h p a odd (some (.ref s2))) rfl (by decide) (by decide) ((en_lst (m := 7) (n := 2) (by decide) (ea_cons wv8 (ez_neg (c := 1) fun H => Z.int _ (by decide +kernel) (by decide +kernel)) (ea_cons wv8 (ez_c fun H => Z.int 10 (by decide +kernel) (by decide +kernel)) (ea_cons wv8 (ez_c fun H => Z.bl true) (ea_cons wv8 (ez_c fun H => Z.text z1.1 z1.2)
      (ea_cons wv8 (ez_pow (c := 10) (e := 60) (c10 (k := 60) (by decide)) fun H => Z.int _ (by decide +kernel) (by decide +kernel)) (ea_cons wv8 (ez_c fun H => Z.int 9 (by decide +kernel) (by decide +kernel)) (ea_cons wv8 (ez_c fun H => z0) ea_nil)))))))).l wv8)
    have ev3 := ez_tri wv8 eh epk (et.z wv8)
    try dsimp only
    refine seq_drop ?_
    refine ⟨_, rfl, .inl ⟨rfl, _, SqL.of hs2⟩, ?_⟩
    refine ev3 B8 _ (Kp.refl _ _) d8' (by omega) _ fun v9 H9 g9 d9 z9' => ?_
    have hs_ := g9 _ _ ne2 hs2
    refine ⟨s2, ys, v9, rfl, rfl, hs_, by rw [sizeLine_eq]; omega, ?_⟩
    have hs29 : (upd H9 s2 (.lst (ys ++ [v9]))) s2 = some (.lst (ys ++ [v9])) := upd_same
    have d9' : Dice (upd H9 s2 (.lst (ys ++ [v9]))) d _ := d9.kept fun o e => by rw [upd_ne (Ne.symm ne2)]; exact e
    have s_ : Same (Hm s2 (Hm d H9)) (Hm s2 (Hm d (upd H9 s2 (.lst (ys ++ [v9]))))) := same_at
    have f9 := (f8.same (Same.hm g9.hm)).same s_
    have zy9 : ∀ x ∈ ys ++ [v9], Z D0 (Hm s2 (Hm d (upd H9 s2 (.lst (ys ++ [v9]))))) 3 x := fun x m => by
      rcases List.mem_append.mp m with m | m
      · exact ((zy' x m).same (Same.hm g9.hm)).same s_
      · rw [List.mem_singleton.mp m]
        exact z9'.same s_
    have ln : (ys ++ [v9]).length ≤ 6 := by rw [List.length_append, List.length_singleton]; omega
    have K9 : Kp d H (upd H9 s2 (.lst (ys ++ [v9]))) := fun b o nb e => by
      have e1 := (K8.trans g9) _ _ nb e
      rw [upd_ne (fun c => by rw [c, fr2] at e; cases e)]
      exact e1
    generalize ys ++ [v9] = ys9 at hs29 zy9 ln f9 d9' K9 ⊢
    generalize upd H9 s2 (.lst ys9) = B9 at hs29 d9' f9 zy9 K9 ⊢
    clear s_ hs_ zy' f8 hs2 K8 wv8 d8' eh ep eo ef el et er eo1 epk ev3 g9 d9 z9' ly
    have wv9 : Wv d (fun H => Hm s2 (Hm d H)) B9 := Wv.hm2 hs29 ne2
    have eh : EvZ D0 d (fun H => Hm s2 (Hm d H)) B9 (sgN d pl ra t wa p1 p2 h p a odd (some (.ref s2))) 0 2 (tVar 3) := nf_h wv9 hh
    have ep : EvZ D0 d (fun H => Hm s2 (Hm d H)) B9 (sgN d pl ra t wa p1 p2 h p a odd (some (.ref s2))) 0 2 (tVar 4) := nf_p wv9 ok_p
    have eo : EvZ D0 d (fun H => Hm s2 (Hm d H)) B9 (sgN d pl ra t wa p1 p2 h p a odd (some (.ref s2))) 0 1 (tVar 8) := nf_odd wv9 f9
    have ef : EvT D0 d (fun H => Hm s2 (Hm d H)) B9 (sgN d pl ra t wa p1 p2 h p a odd (some (.ref s2))) 0 0 7 1 (tVar 9) := nf_fst wv9 f9
    have el : EvT D0 d (fun H => Hm s2 (Hm d H)) B9 (sgN d pl ra t wa p1 p2 h p a odd (some (.ref s2))) 0 0 7 1 (tVar 10) := nf_lst wv9 f9
    have et : EvT D0 d (fun H => Hm s2 (Hm d H)) B9 (sgN d pl ra t wa p1 p2 h p a odd (some (.ref s2))) 0 1 7 1 (tVar 5) := nf_pat wv9 f9 ok_s ok_f hn
    have er : EvT D0 d (fun H => Hm s2 (Hm d H)) B9 (sgN d pl ra t wa p1 p2 h p a odd (some (.ref s2))) 0 3 3 2 (tVar 2) := nf_rul wv9 f9 ok_f ok_p hh hn
    have ev4 := ez_tri wv9 eh ep ((en_listT (K := K) et).z wv9)
    try dsimp only
    refine seq_drop ?_
    refine ⟨_, rfl, .inl ⟨rfl, _, SqL.of hs29⟩, ?_⟩
    refine ev4 B9 _ (Kp.refl _ _) d9' (by omega) _ fun v10 H10 g10 d10 z10 => ?_
    have hs_ := g10 _ _ ne2 hs29
    refine ⟨s2, ys9, v10, rfl, rfl, hs_, by rw [sizeLine_eq]; omega, ?_⟩
    have hs210 : (upd H10 s2 (.lst (ys9 ++ [v10]))) s2 = some (.lst (ys9 ++ [v10])) := upd_same
    have d10' : Dice (upd H10 s2 (.lst (ys9 ++ [v10]))) d _ := d10.kept fun o e => by rw [upd_ne (Ne.symm ne2)]; exact e
    have s_ : Same (Hm s2 (Hm d H10)) (Hm s2 (Hm d (upd H10 s2 (.lst (ys9 ++ [v10]))))) := same_at
    have f10 := (f9.same (Same.hm g10.hm)).same s_
    have zy10 : ∀ x ∈ ys9 ++ [v10], Z D0 (Hm s2 (Hm d (upd H10 s2 (.lst (ys9 ++ [v10]))))) 3 x := fun x m => by
      rcases List.mem_append.mp m with m | m
      · exact ((zy9 x m).same (Same.hm g10.hm)).same s_
      · rw [List.mem_singleton.mp m]
        exact z10.same s_
    have ln : (ys9 ++ [v10]).length ≤ 7 := by rw [List.length_append, List.length_singleton]; omega
    have K10 : Kp d H (upd H10 s2 (.lst (ys9 ++ [v10]))) := fun b o nb e => by
      have e1 := (K9.trans g10) _ _ nb e
      rw [upd_ne (fun c => by rw [c, fr2] at e; cases e)]
      exact e1
    generalize ys9 ++ [v10] = ys10 at hs210 zy10 ln f10 d10' K10 ⊢
    generalize upd H10 s2 (.lst ys10) = B10 at hs210 d10' f10 zy10 K10 ⊢
    clear s_ hs_ zy9 f9 hs29 K9 wv9 d9' eh ep eo ef el et er ev4 g10 d10 z10
    -- some + [..]
    have f10' := f10.same (hm_le (s := s2) (G := Hm d B10))
    have zy10' : ∀ x ∈ ys10, Z D0 (Hm d B10) 3 x := fun x m => (zy10 x m).same hm_le
    have wv10 : Wv d (Hm d) B10 := Wv.hm
    have eh : EvZ D0 d (Hm d) B10 (sgN d pl ra t wa p1 p2 h p a odd (some (.ref s2))) 0 2 (tVar 3) := nf_h wv10 hh
    have ep : EvZ D0 d (Hm d) B10 (sgN d pl ra t wa p1 p2 h p a odd (some (.ref s2))) 0 2 (tVar 4) := nf_p wv10 ok_p
    have eo : EvZ D0 d (Hm d) B10 (sgN d pl ra t wa p1 p2 h p a odd (some (.ref s2))) 0 1 (tVar 8) := nf_odd wv10 f10'
    have ef : EvT D0 d (Hm d) B10 (sgN d pl ra t wa p1 p2 h p a odd (some (.ref s2))) 0 0 7 1 (tVar 9) := nf_fst wv10 f10'
    have el : EvT D0 d (Hm d) B10 (sgN d pl ra t wa p1 p2 h p a odd (some (.ref s2))) 0 0 7 1 (tVar 10) := nf_lst wv10 f10'
    have et : EvT D0 d (Hm d) B10 (sgN d pl ra t wa p1 p2 h p a odd (some (.ref s2))) 0 1 7 1 (tVar 5) := nf_pat wv10 f10' ok_s ok_f hn
    have er : EvT D0 d (Hm d) B10 (sgN d pl ra t wa p1 p2 h p a odd (some (.ref s2))) 0 3 3 2 (tVar 2) := nf_rul wv10 f10' ok_f ok_p hh hn
    have es : EvL D0 d (Hm d) B10 (sgN d pl ra t wa p1 p2 h p a odd (some (.ref s2))) 0 0 7 3 (tVar 11) := el_var 11 rfl hs210 ne2 (Nat.zero_le _) ln zy10' wv10
    have ehp := (et_tup (m := 2) (n := 2) wv10 (by decide) (ea_cons wv10 eh (ea_cons wv10 ep ea_nil))).z wv10
    have er0 := (et_cat wv10 (by decide) er (et_tup (m := 1) (n := 2) wv10 (by decide) (ea_cons wv10 (ez_c (v := V.int 0) fun H => z0) ea_nil))).z wv10
    have ejn : EvZ D0 d (Hm d) B10 (sgN d pl ra t wa p1 p2 h p a odd (some (.ref s2))) 0 2 _ := ez_join (K := K) (s := " ") 5 rfl (Hm.some_of f10'.pat).1 (Hm.some_of f10'.pat).2 jnl (fun H => Z.textL (sok_jn ok_n) (by omega) jnb fun _ => jnd)
    have emp3 : EvZ D0 d (Hm d) B10 (sgN d pl ra t wa p1 p2 h p a odd (some (.ref s2))) 0 3 (tTup tNil) := (et_tup (m := 0) (n := 2) wv10 (by decide) ea_nil).z wv10
    have ev5 := en_cat wv10 (by decide) es ((en_lst (m := 6) (n := 3) (by decide) (ea_cons wv10 ((en_listT (K := K) er).z wv10) (ea_cons wv10 ehp (ea_cons wv10 er0 (ea_cons wv10 (ez_tri wv10 eh ep ejn) (ea_cons wv10 (ez_c fun H => Z.non) (ea_cons wv10 emp3 ea_nil))))))).l wv10)
    try dsimp only
    refine seq_set ?_
    refine ev5 B10 _ (Kp.refl _ _) d10' (by omega) _ fun s3 xs3 H11 g11 d11 ns3 _ lx3 zx3 => ?_
    have n11 := Same.new ns3 (o := .lst xs3)
    have d11' := d11.same n11
    have ne3 : s3 ≠ d := fun e => by
      obtain ⟨ds, x⟩ := d11.there
      rw [e, x] at ns3
      cases ns3
    have hs3 : (upd H11 s3 (.lst xs3)) s3 = some (.lst xs3) := upd_same
    have g611 := g11.trans (Kp.same (d := d) n11)
    have f11 := f10'.same g611.hm
    have zx3' : ∀ x ∈ xs3, Z D0 (Hm d (upd H11 s3 (.lst xs3))) 3 x := fun x m => (zx3 x m).same (Kp.same (d := d) n11).hm
    have K11 := K10.trans g611
    generalize upd H11 s3 (.lst xs3) = B11 at hs3 d11' f11 zx3' K11 ⊢
    clear zx3 g11 n11 d11 ns3 g611 f10 f10' d10' ev5 ehp er0 ejn emp3 es et el ef eo ep eh er zy10 zy10' wv10 hs210 K10
    have wv11 : Wv d (Hm d) B11 := Wv.hm
    have eh : EvZ D0 d (Hm d) B11 (sgN d pl ra t wa p1 p2 h p a odd (some (.ref s3))) 0 2 (tVar 3) := nf_h wv11 hh
    have ep : EvZ D0 d (Hm d) B11 (sgN d pl ra t wa p1 p2 h p a odd (some (.ref s3))) 0 2 (tVar 4) := nf_p wv11 ok_p
    have eo : EvZ D0 d (Hm d) B11 (sgN d pl ra t wa p1 p2 h p a odd (some (.ref s3))) 0 1 (tVar 8) := nf_odd wv11 f11
    have ef : EvT D0 d (Hm d) B11 (sgN d pl ra t wa p1 p2 h p a odd (some (.ref s3))) 0 0 7 1 (tVar 9) := nf_fst wv11 f11
    have el : EvT D0 d (Hm d) B11 (sgN d pl ra t wa p1 p2 h p a odd (some (.ref s3))) 0 0 7 1 (tVar 10) := nf_lst wv11 f11
    have et : EvT D0 d (Hm d) B11 (sgN d pl ra t wa p1 p2 h p a odd (some (.ref s3))) 0 1 7 1 (tVar 5) := nf_pat wv11 f11 ok_s ok_f hn
    have er : EvT D0 d (Hm d) B11 (sgN d pl ra t wa p1 p2 h p a odd (some (.ref s3))) 0 3 3 2 (tVar 2) := nf_rul wv11 f11 ok_f ok_p hh hn
    have es : EvL D0 d (Hm d) B11 (sgN d pl ra t wa p1 p2 h p a odd (some (.ref s3))) 0 0 13 3 (tVar 11) := el_var 11 rfl hs3 ne3 (Nat.zero_le _) lx3 zx3' wv11
    have emp2 : EvZ D0 d (Hm d) B11 (sgN d pl ra t wa p1 p2 h p a odd (some (.ref s3))) 0 2 (tTup tNil) := (et_tup (m := 0) (n := 1) wv11 (by decide) ea_nil).z wv11
    have eh1 : EvZ D0 d (Hm d) B11 (sgN d pl ra t wa p1 p2 h p a odd (some (.ref s3))) 0 1 (tVar 3) := nf_h wv11 hh
    have ehs := (et_tup (m := 1) (n := 1) wv11 (by decide) (ea_cons wv11 eh1 ea_nil)).z wv11
    have erp := (et_rep (c := 2) wv11 (by decide) (by decide) (by decide) (by decide) et).z wv11
    have ev6 := en_cat wv11 (by decide) es ((en_lst (m := 4) (n := 3) (by decide) (ea_cons wv11 (ez_tri wv11 ep eh (et.z wv11)) (ea_cons wv11 (ez_tri wv11 eh ep emp2) (ea_cons wv11 (ez_tri wv11 eh ep ehs) (ea_cons wv11 (ez_tri wv11 eh ep erp) ea_nil))))).l wv11)
    try dsimp only
    refine seq_set ?_
    refine ev6 B11 _ (Kp.refl _ _) d11' (by omega) _ fun s4 xs4 H12 g12 d12 ns4 _ lx4 zx4 => ?_
    have n12 := Same.new ns4 (o := .lst xs4)
    have d12' := d12.same n12
    have ne4 : s4 ≠ d := fun e => by
      obtain ⟨ds, x⟩ := d12.there
      rw [e, x] at ns4
      cases ns4
    have hs4 : (upd H12 s4 (.lst xs4)) s4 = some (.lst xs4) := upd_same
    have f12 := (f11.same g12.hm).same (same_hm2 (d := d) (o := .lst xs4) ns4)
    have zx4' : ∀ x ∈ xs4, Z D0 (Hm s4 (Hm d (upd H12 s4 (.lst xs4)))) 3 x := fun x m => (zx4 x m).same (same_hm2 ns4)
    have fr4 : H s4 = none := Kp.free (K11.trans g12) ne4 ns4
    have K12 := K11.trans (g12.trans (Kp.same (d := d) n12))
    generalize upd H12 s4 (.lst xs4) = B12 at hs4 d12' f12 zx4' K12 ⊢
    clear zx4 g12 n12 d12 ns4 f11 d11' ev6 es emp2 eh1 ehs erp er et el ef eo ep eh wv11 zx3' hs3 K11
    have wv12 : Wv d (fun H => Hm s4 (Hm d H)) B12 := Wv.hm2 hs4 ne4
    have eh : EvZ D0 d (fun H => Hm s4 (Hm d H)) B12 (sgN d pl ra t wa p1 p2 h p a odd (some (.ref s4))) 0 2 (tVar 3) := nf_h wv12 hh
    have ep : EvZ D0 d (fun H => Hm s4 (Hm d H)) B12 (sgN d pl ra t wa p1 p2 h p a odd (some (.ref s4))) 0 2 (tVar 4) := nf_p wv12 ok_p
    have eo : EvZ D0 d (fun H => Hm s4 (Hm d H)) B12 (sgN d pl ra t wa p1 p2 h p a odd (some (.ref s4))) 0 1 (tVar 8) := nf_odd wv12 f12
    have ef : EvT D0 d (fun H => Hm s4 (Hm d H)) B12 (sgN d pl ra t wa p1 p2 h p a odd (some (.ref s4))) 0 0 7 1 (tVar 9) := nf_fst wv12 f12
    have el : EvT D0 d (fun H => Hm s4 (Hm d H)) B12 (sgN d pl ra t wa p1 p2 h p a odd (some (.ref s4))) 0 0 7 1 (tVar 10) := nf_lst wv12 f12
    have et : EvT D0 d (fun H => Hm s4 (Hm d H)) B12 (sgN d pl ra t wa p1 p2 h p a odd (some (.ref s4))) 0 1 7 1 (tVar 5) := nf_pat wv12 f12 ok_s ok_f hn
    have er : EvT D0 d (fun H => Hm s4 (Hm d H)) B12 (sgN d pl ra t wa p1 p2 h p a odd (some (.ref s4))) 0 3 3 2 (tVar 2) := nf_rul wv12 f12 ok_f ok_p hh hn
    have ewl : EvL D0 d (fun H => Hm s4 (Hm d H)) B12 (sgN d pl ra t wa p1 p2 h p a odd (some (.ref s4))) 0 1 14 1 (tVar 7) := nf_wds wv12 f12 nez lwz az_w
    have elw := (et_tup (m := 1) (n := 1) wv12 (by decide) (ea_cons wv12 (ez_last (K := K) (by decide) ewl) ea_nil)).z wv12
    have ev7 := ez_tri wv12 eh ep elw
    try dsimp only
    refine seq_drop ?_
    refine ⟨_, rfl, .inl ⟨rfl, _, SqL.of hs4⟩, ?_⟩
    refine ev7 B12 _ (Kp.refl _ _) d12' (by omega) _ fun v13 H13 g13 d13 z13 => ?_
    have hs_ := g13 _ _ ne4 hs4
    refine ⟨s4, xs4, v13, rfl, rfl, hs_, by rw [sizeLine_eq]; omega, ?_⟩
    have hs413 : (upd H13 s4 (.lst (xs4 ++ [v13]))) s4 = some (.lst (xs4 ++ [v13])) := upd_same
    have d13' : Dice (upd H13 s4 (.lst (xs4 ++ [v13]))) d _ := d13.kept fun o e => by rw [upd_ne (Ne.symm ne4)]; exact e
    have s_ : Same (Hm s4 (Hm d H13)) (Hm s4 (Hm d (upd H13 s4 (.lst (xs4 ++ [v13]))))) := same_at
    have f13 := (f12.same (Same.hm g13.hm)).same s_
    have zx13 : ∀ x ∈ xs4 ++ [v13], Z D0 (Hm s4 (Hm d (upd H13 s4 (.lst (xs4 ++ [v13]))))) 3 x := fun x m => by
      rcases List.mem_append.mp m with m | m
      · exact ((zx4' x m).same (Same.hm g13.hm)).same s_
      · rw [List.mem_singleton.mp m]
        exact z13.same s_
    have ln : (xs4 ++ [v13]).length ≤ 18 := by rw [List.length_append, List.length_singleton]; omega
    have K13 : Kp d H (upd H13 s4 (.lst (xs4 ++ [v13]))) := fun b o nb e => by
      have e1 := (K12.trans g13) _ _ nb e
      rw [upd_ne (fun c => by rw [c, fr4] at e; cases e)]
      exact e1
    generalize xs4 ++ [v13] = xs13 at hs413 zx13 ln f13 d13' K13 ⊢
    generalize upd H13 s4 (.lst xs13) = B13 at hs413 d13' f13 zx13 K13 ⊢
    clear s_ hs_ zx4' f12 hs4 K12 wv12 d12' eh ep eo ef el et er ewl elw ev7 g13 d13 z13
    have f13' := f13.same (hm_le (s := s4) (G := Hm d B13))
    have zx13' : ∀ x ∈ xs13, Z D0 (Hm d B13) 3 x := fun x m => (zx13 x m).same hm_le
    have wv13 : Wv d (Hm d) B13 := Wv.hm
    have eh : EvZ D0 d (Hm d) B13 (sgN d pl ra t wa p1 p2 h p a odd (some (.ref s4))) 0 2 (tVar 3) := nf_h wv13 hh
    have ep : EvZ D0 d (Hm d) B13 (sgN d pl ra t wa p1 p2 h p a odd (some (.ref s4))) 0 2 (tVar 4) := nf_p wv13 ok_p
    have eo : EvZ D0 d (Hm d) B13 (sgN d pl ra t wa p1 p2 h p a odd (some (.ref s4))) 0 1 (tVar 8) := nf_odd wv13 f13'
    have ef : EvT D0 d (Hm d) B13 (sgN d pl ra t wa p1 p2 h p a odd (some (.ref s4))) 0 0 7 1 (tVar 9) := nf_fst wv13 f13'
    have el : EvT D0 d (Hm d) B13 (sgN d pl ra t wa p1 p2 h p a odd (some (.ref s4))) 0 0 7 1 (tVar 10) := nf_lst wv13 f13'
    have et : EvT D0 d (Hm d) B13 (sgN d pl ra t wa p1 p2 h p a odd (some (.ref s4))) 0 1 7 1 (tVar 5) := nf_pat wv13 f13' ok_s ok_f hn
    have er : EvT D0 d (Hm d) B13 (sgN d pl ra t wa p1 p2 h p a odd (some (.ref s4))) 0 3 3 2 (tVar 2) := nf_rul wv13 f13' ok_f ok_p hh hn
    have es : EvL D0 d (Hm d) B13 (sgN d pl ra t wa p1 p2 h p a odd (some (.ref s4))) 0 0 18 3 (tVar 11) := el_var 11 rfl hs413 ne4 (Nat.zero_le _) ln zx13' wv13
    have ev8 := ez_pick (K := K) (E := E0) (a := 2) (m := 20) (n := 3) wv13 (σ := sgN d pl ra t wa p1 p2 h p a odd (some (.ref s4))) rfl (by decide) (by decide) ((en_cat (a := 0) (a' := 2) wv13 (by decide) es ((en_lst (m := 2) (n := 3) (by decide) (ea_cons wv13 (er.z wv13) (ea_cons wv13 (er.z wv13) ea_nil))).l wv13)).l wv13)
    try dsimp only
    refine ret_one ?_
    refine ev8 B13 _ (Kp.refl _ _) d13' (by omega) _ fun v H14 g14 d14 z14 => ?_
    exact q v H14 (K13.trans g14) z14 (d14.more (by omega) (by omega))
end
end Pr
namespace Pr
open PySem PySem.Spec PyProof.Rows L2 Gd
/-! ### _law_near_rules -/
/-- texts that can come besides -/
def moreT : List Str := ["r", "s", "c", "na", "nb", "nc", "nd", "ne", "nf", "ng", "nh", "rules"]
def hgT : Str := "abcdefgh"
theorem ez_nearr {K : PySem.W.Frag} {D : List Str} {d pl ra rv : Addr} {H0 : Hp} {σ : L2.St} {E : XK} {l : List (Str × Nat)} {g : Str} {rs : List Rl} {as : List Addr} {a : Nat} {r : Rl} (i j : Nat) (h0 : σ[0]? = some (some (.ref d))) (h1 : σ[1]? = some (some (.ref pl))) (h2 : σ[i]? = some (some (.ref ra))) (h3 : σ[j]? = some (some (.int (a : Int))))
    (hpl : pl ≠ d) (pla : PlainAt (Hm d H0) pl l g rs) (bk : BkOk l g rs) (dn : DN D l g rs) (hra : H0 ra = some (.tup (as.map V.ref))) (nra : ra ≠ d) (ha : as[a]? = some rv) (rat : RuleAt (Hm d H0) rv r) (mr : r ∈ rs) :
    EvZ D d (Hm d) H0 σ 9 3 (tCall spNearR [] E (tCons (tVar 0) (tCons (tVar 1) (tCons (tOp (rIxT K) (tVar i) (tVar j)) tNil)))) := fun H k g' di hk Q q =>
  ⟨_, h0, _, h1, _, h2, _, h3, ra, _, _, _, rfl, rfl, SqT.of (g' _ _ nra hra), atI_nat (by rw [List.getElem?_map, ha]; rfl), ⟨d, pl, rv, D, l, g, rs, r, k, rfl, hpl, pla.same g'.hm, bk, dn, rat.same g'.hm, mr, di, hk, fun v H' kp z d' => q v H' kp d' z⟩⟩
theorem cutS_mem {z : Str} {lo hi : Option Int} {i c : Nat} (h : (cutS z lo hi).cps[i]? = some c) : c ∈ z.cps.toList := by
  have e : c ∈ (cutS z lo hi).cps.toList := List.mem_of_getElem? (by rw [Array.getElem?_toList]; exact h)
  have e2 : (cutS z lo hi).cps.toList = (z.cps.toList.drop (HT.sIx z.length 0 lo)).take (HT.sIx z.length z.length hi - HT.sIx z.length 0 lo) := rfl
  rw [e2] at e
  exact List.mem_of_mem_drop (List.mem_of_mem_take e)
theorem more_name : ∀ c ∈ hgT.cps.toList, (("n" : Str) ++ (⟨#[c]⟩ : Str)) ∈ moreT ∧ azB (("n" : Str) ++ (⟨#[c]⟩ : Str)) = true := by decide +kernel
theorem ez_dct {D : List Str} {d : Addr} {W : Hp → Hp} {H0 : Hp} {σ : L2.St} {n : Nat} (wv : Wv d W H0) : EvZ D d W H0 σ 0 (n + 1) tDNewK := fun H k g di hk Q q p np => by
  have s := Same.new np (o := .dK [])
  exact q _ _ (Kp.same s) (di.same s) (.dct (wv.new g di np upd_same))
theorem et_sl1 {D : List Str} {d : Addr} {W : Hp → Hp} {H0 : Hp} {σ : L2.St} {j a m n : Nat} {t : TE} (wv : Wv d W H0) (ha : 1 ≤ a) (h : EvT D d W H0 σ j a m n t) : EvT D d W H0 σ j 1 1 n (L2.tSl rSlU t tNoPart (tPart (tC (.int 1)))) := fun H k g di hk Q q => by
  refine h H k g di hk _ fun p xs H1 g1 d1 hp la lm z => ?_
  refine ⟨1, rfl, p, xs, rfl, hp, fun p2 H2 s2 hp2 => ?_⟩
  have e : (cutV xs none (some 1)).length = 1 := by
    unfold cutV
    rw [List.length_take, List.length_drop]
    unfold HT.sIx
    simp
    omega
  exact q p2 _ H2 (g1.trans (Kp.same s2)) (d1.same s2) hp2 (by omega) (by omega) fun x mx => (z x (cut_mem x mx)).same (wv.mono (Kp.same s2))
/-- rules[spot][j] -/
theorem ez_ix2 {K : PySem.W.Frag} {D : List Str} {d ra rv : Addr} {H0 : Hp} {W : Hp → Hp} {σ : L2.St} {xs ys : List V} {a b n : Nat} {v : V} (wv : Wv d W H0) (i j : Nat) (h2 : σ[i]? = some (some (.ref ra))) (h3 : σ[j]? = some (some (.int (a : Int)))) (hra : H0 ra = some (.tup xs)) (nra : ra ≠ d) (ha : xs[a]? = some (.ref rv)) (hrv : H0 rv = some (.tup ys)) (nrv : rv ≠ d) (hb : ys[b]? = some v) (z : Z D (W H0) n v) :
    EvZ D d W H0 σ 0 n (tOp (rIxT K) (tOp (rIxT K) (tVar i) (tVar j)) (tC (.int (b : Int)))) := fun H k g di hk Q q =>
  ⟨_, h2, _, h3, ra, _, _, _, rfl, rfl, SqT.of (g _ _ nra hra), atI_nat ha, rv, _, _, _, rfl, rfl, SqT.of (g _ _ nrv hrv), atI_nat hb, q v H (Kp.refl _ _) di (z.same (wv.mono g))⟩
def spNearRs : Sp := fun vs H Q _ => ∃ (d pl : Addr) (D : List Str) (l : List (Str × Nat)) (g : Str) (rs : List Rl) (k : Nat), vs = [.ref d, .ref pl] ∧ pl ≠ d ∧ PlainAt (Hm d H) pl l g rs ∧ BkOk l g rs ∧ DN D l g rs ∧ (∀ z ∈ moreT, z ∈ D) ∧ 1 ≤ rs.length ∧ rs.length ≤ 6 ∧ Dice H d k ∧ k + 12 < 1000000 ∧
  ∀ (v : V) (H' : Hp), Kp d H H' → Z D (Hm d H') 5 v → Dice H' d (k + 12) → Q v H'
section
variable {P : Program} {w : World} {K : PySem.W.Frag} {mg : Str → Option Value} {base : Heap} {fR fP fM fN : Addr} {dR dP dM dN : FuncData}
theorem scNearRs : FnScope ["dice", "plain", "rules", "spot", "way", "more", "wide", "some", "letter", "index"] ["dice", "plain"] (defScope sLNearRules) := ⟨rfl, rfl, rfl, by decide +kernel, rfl, by decide +kernel, by decide +kernel⟩
theorem ok_nearrs {f : Addr} {fd : FuncData} (F : Fun K "_law_near_rules" "_law_near_rules" sLNearRules f fd) (D : Draws K mg fR fP fM dR dP dM) (T : Free mg)
    (GN : FnOk P w K mg base CX0 3 fN dN ["dice", "plain", "rule"] spNearR) (bN : Binds K dN ["dice", "plain", "rule"] []) (gN : mg "_law_near_rule" = some (.ref fN)) (kN : PySem.W.keepIn K (.ref fN) = true) : FnOk P w K mg base CX0 4 f fd ["dice", "plain"] spNearRs := by
  have GR : FnOk P w K mg base CX0 1 fR dR ["dice", "total"] spRoll := ok_roll D.FR T
  have GP : FnOk P w K mg base CX0 2 fP dP ["dice", "items"] (spPick K) := ok_pick D T
  refine F.ok scNearRs (fun vs H Q E h => ?_) (fun cdv A outer s H vs Q E hr h => ?_)
  · obtain ⟨d, pl, D0, l, g, rs, k, rfl, _⟩ := h
    rfl
  · obtain ⟨d, pl, D0, l, g, rs, k, rfl, pld, pla, bk, dn, mt, rs1, rs6, di, hk, q⟩ := h
    have hu := hr.units
    have hu1 : ∀ {u : Nat}, u + 64 < cLine → u + 1 < cLine := fun h => by omega
    have r1 : Room 1 _ := hr.mono (by decide)
    have r2 : Room 2 _ := hr.mono (by decide)
    refine ⟨_, (pss_cons (ps_set (i := 2) scNearRs.nd rfl (.inl rfl) (pe_callTy call_tuple_of (by rfl) T.tuple (by decide +kernel) (pa_cons (pe_dget (hu1 hu) (pv 1) pe_str (fun _ _ => rfl)) pa_nil))) (pss_cons (ps_par (i := 3) (j := 4) (by rfl) scNearRs.nd rfl rfl (by decide) rfl rfl (pa_cons (pe_call GR r1 (by rfl) D.gR D.FR.kp D.bR .nil pass0 (pa_cons (pv 0) (pa_cons (pe_callB call_len_seq (by rfl) T.len PySem.boot_len (pa_cons (pv 2) pa_nil)) pa_nil))) (pa_cons (pe_call GR r1 (by rfl) D.gR D.FR.kp D.bR .nil pass0 (pa_cons (pv 0) (pa_cons pe_int pa_nil))) pa_nil)) (by rfl)) (pss_cons (ps_if (pt_cmpR op_lt (pv 4) pe_int (nomark _)) (pss_one (ps_ret (pe_op op_catU (pe_op op_catU (pe_slice sl_tupU (pv 2) po_none (po_some (pv 3))) (pe_tup (pa_cons (pe_call GN hr (by rfl) gN kN bN .nil pass0 (pa_cons (pv 0) (pa_cons (pv 1) (pa_cons (pe_ix (ix_tupK (K := K) rfl) (pv 2) (pv 3) (fun _ _ => rfl)) pa_nil)))) pa_nil))) (pe_slice sl_tupU (pv 2) (po_some (pe_op op_add (pv 3) pe_int)) po_none)))) pss_nil) (pss_cons (ps_set (i := 5) scNearRs.nd rfl (.inl rfl) (pe_callTy call_tuple_of (by rfl) T.tuple (by decide +kernel) (pa_cons (pe_lc (own := [("letter", 8)]) (g := gName 8) (by rfl) scNearRs.nd (pi_str (pe_slice sl_str pe_str po_none (po_some (pe_op op_add pe_int (pe_call GR r1 (by rfl) D.gR D.FR.kp D.bR .nil pass0 (pa_cons (pv 0) (pa_cons pe_int pa_nil))))))) (blkOk_by (own := [("letter", 8)]) (N := ["dice", "plain", "rules", "spot", "way", "more", "wide", "some", "letter", "index"]) (sc := defScope sLNearRules) (by decide +kernel)) (fun _ _ _ _ _ => pg_name (i := 8) scNearRs.nd rfl (.inl rfl)) (fun _ _ _ _ _ => pts_nil) (fun _ _ _ _ _ => pe_tup (pa_cons pe_str (pa_cons pe_int (pa_cons (pe_tup (pa_cons (pe_op op_add_str pe_str (pv 8)) pa_nil)) pa_nil))))) pa_nil))) (pss_cons (ps_set (i := 6) scNearRs.nd rfl (.inl rfl) (pe_callTy call_tuple_of (by rfl) T.tuple (by decide +kernel) (pa_cons (pe_lc (own := [("index", 9)]) (g := gName 9) (by rfl) scNearRs.nd (pi_range1 rfl T.range (pa_cons pe_int pa_nil)) (blkOk_by (own := [("index", 9)]) (N := ["dice", "plain", "rules", "spot", "way", "more", "wide", "some", "letter", "index"]) (sc := defScope sLNearRules) (by decide +kernel)) (fun _ _ _ _ _ => pg_name (i := 9) scNearRs.nd rfl (.inl rfl)) (fun _ _ _ _ _ => pts_nil) (fun _ _ _ _ _ => pe_tup (pa_cons pe_str (pa_cons (pv 9) (pa_cons (pe_op op_catU (pe_op op_repZ (pe_tup (pa_cons pe_str pa_nil)) (pv 9)) (pe_tup (pa_cons pe_str pa_nil))) pa_nil))))) pa_nil))) (pss_cons (ps_set (i := 7) scNearRs.nd rfl (.inl rfl) (pe_lst (pa_cons (pv 2) (pa_cons (pe_callTy call_list_of (by rfl) T.list (by decide +kernel) (pa_cons (pv 2) pa_nil)) (pa_cons pe_non (pa_cons (pe_tup pa_nil) (pa_cons pe_dnewK (pa_cons (pe_op op_catU (pv 2) (pe_slice sl_tupU (pv 2) (po_some (pv 3)) (po_some (pe_op op_add (pv 3) pe_int)))) pa_nil)))))))) (pss_cons (ps_expr (pe_bm PySem.F.plainAttrs_list PySem.F.slot_list_append PySem.F.type_list_append mt_append (pv 7) (pa_cons (pe_op op_catU (pv 2) (pe_tup (pa_cons (pe_tup (pa_cons (pe_ix (ix_tupK (K := K) rfl) (pe_ix (ix_tupK (K := K) rfl) (pv 2) (pv 3) (fun _ _ => rfl)) pe_int (fun _ _ => rfl)) (pa_cons pe_int (pa_cons (pe_ix (ix_tupK (K := K) rfl) (pe_ix (ix_tupK (K := K) rfl) (pv 2) (pv 3) (fun _ _ => rfl)) pe_int (fun _ _ => rfl)) pa_nil)))) pa_nil))) pa_nil))) (pss_one (ps_ret (pe_call GP r2 (by rfl) D.gP D.FP.kp D.bP .nil pass0 (pa_cons (pv 0) (pa_cons (pe_op op_cat (pv 7) (pe_lst (pa_cons (pe_op op_catU (pv 2) (pv 5)) (pa_cons (pv 5) (pa_cons (pe_op op_repU (pe_slice sl_tupU (pv 2) po_none (po_some pe_int)) pe_int) (pa_cons (pv 6) (pa_cons pe_str (pa_cons (pe_op op_catU (pv 2) (pe_tup (pa_cons pe_non pa_nil))) (pa_cons (pe_tup (pa_cons (pv 2) pa_nil)) pa_nil))))))))) pa_nil)))))))))))), ?_⟩
    obtain ⟨la, ra0, as, h1, h2, h3, h4⟩ := pla.ex
    have las : as.length = rs.length := Paired.length h4
    have un : ∀ {G : Hp} {b : Addr} {o : HO}, Hm d G b = some o → G b = some o := fun h => (Hm.some_of h).1
    -- rules
    refine ⟨_, rfl, pl, .ref ra0, rfl, pl_ru ▸ DGet.k (k := .inr ("rules" : Str)) (un h1), ra0, _, rfl, .inl ⟨SqL.of (un h3), fun ra nra => ?_⟩⟩
    obtain ⟨dg, hdg⟩ := di.there
    have sr := Same.new nra (o := .tup (as.map V.ref))
    have nrd : ra ≠ d := (ne_of_none hdg nra).symm
    have hra : (upd H ra (.tup (as.map V.ref))) ra = some (.tup (as.map V.ref)) := upd_same
    have di1 := di.same sr
    generalize upd H ra (.tup (as.map V.ref)) = H1 at sr hra di1 ⊢
    have k1 : Kp d H H1 := Kp.same sr
    -- spot, way
    have lw : (as.map V.ref).length = rs.length := by rw [List.length_map, las]
    refine ⟨_, rfl, _, rfl, ra, _, rfl, .inr (SqT.of hra), d, _, k, rfl, di1, by omega, by rw [lw]; omega, by rw [lw]; exact Int.lt_of_le_of_lt (show (rs.length : Int) ≤ 6 by omega) (by decide +kernel), fun a0 o1 r0 r1_ di2 => ?_⟩
    obtain ⟨a, rfl⟩ := Int.eq_ofNat_of_zero_le r0
    rw [lw] at r1_
    have k2 : Kp d H (upd H1 d o1) := k1.trans Kp.upd
    have hra2 : (upd H1 d o1) ra = some (.tup (as.map V.ref)) := by rw [upd_ne nrd]; exact hra
    generalize upd H1 d o1 = H2 at di2 k2 hra2 ⊢
    refine ⟨_, rfl, d, _, _, rfl, di2, by omega, by decide, by decide +kernel, fun w0 o2 w0_ w1_ di3 => ?_⟩
    have k3 : Kp d H (upd H2 d o2) := k2.trans Kp.upd
    have hra3 : (upd H2 d o2) ra = some (.tup (as.map V.ref)) := by rw [upd_ne nrd]; exact hra2
    generalize upd H2 d o2 = H3 at di3 k3 hra3 ⊢
    clear hra hra2 di1 di2 sr k1 k2
    refine ⟨_, _, rfl, ?_⟩
    have pla3 := pla.same k3.hm
    have h43 := paired_map (fun b r (k : RuleAt (Hm d H) b r) => k.same k3.hm) h4
    -- the rules as values
    have zrl : ∀ {G : Hp}, Kp d H G → ∀ x ∈ as.map V.ref, Z D0 (Hm d G) 3 x := fun {G} kG x m => by
      obtain ⟨b, mb, rfl⟩ := List.mem_map.mp m
      obtain ⟨i, hi⟩ := List.mem_iff_getElem?.mp mb
      obtain ⟨r, hr', rat⟩ := pget9 h4 hi
      have mr := List.mem_of_getElem? hr'
      obtain ⟨inh, inw⟩ := dn.rule mr (bk.rules r mr)
      have ok := bk.rules r mr
      obtain ⟨t, x1, x2⟩ := rat.same kG.hm
      refine Z.tup (n := 2) (k := 3) x1 (fun x m => ?_) (by simp)
      rcases List.mem_cons.mp m with e | m
      · rw [e]; exact Z.text (az_sok ok.head) fun _ => inh
      rcases List.mem_cons.mp m with e | m
      · rw [e]; exact Z.dig ok.price
      rw [List.mem_singleton.mp m]
      exact Z.tup (n := 1) (k := 7) x2 (fun x m => by
        obtain ⟨z, mz, rfl⟩ := List.mem_map.mp m
        exact Z.text (az_sok (ok.names z mz)) fun _ => inw z mz) (by rw [List.length_map]; exact ok.few)
    have ha : ∃ b r, as[a]? = some b ∧ rs[a]? = some r ∧ RuleAt (Hm d H3) b r := by
      have la : a < as.length := by omega
      obtain ⟨r, hr', rat⟩ := pget9 h43 (List.getElem?_eq_getElem la)
      exact ⟨_, r, List.getElem?_eq_getElem la, hr', rat⟩
    obtain ⟨rv, r, hav, har, rat⟩ := ha
    have mr := List.mem_of_getElem? har
    have wv3 : Wv d (Hm d) H3 := Wv.hm
    have lo : 1 ≤ (as.map V.ref).length := by omega
    have hi : (as.map V.ref).length ≤ 6 := by omega
    refine ⟨_, rfl, _, _, rfl, rfl, _, rfl, ite2 (fun c => ?_) (fun c => ?_)⟩
    · try dsimp only
      refine ret_one ?_
      have er : EvT D0 d (Hm d) H3 _ 0 1 6 3 (tVar 2) := et_var (σ := [some (.ref d), some (.ref pl), some (.ref ra), some (.int (a : Int)), some (.int w0), none, none, none, none, none]) 2 rfl hra3 nrd lo hi (zrl k3) wv3
      have en := ez_nearr (K := K) (E := E0) (σ := [some (.ref d), some (.ref pl), some (.ref ra), some (.int (a : Int)), some (.int w0), none, none, none, none, none]) 2 3 rfl rfl rfl rfl pld pla3 bk dn hra3 nrd hav rat mr
      have ev := (et_cat wv3 (by decide) (et_cat wv3 (by decide) (et_sl wv3 er eo_no (eo_var 3 rfl)) (et_tup (m := 1) wv3 (by decide) (ea_cons wv3 en ea_nil))) (et_sl wv3 er (eo_var1 3 rfl) eo_no)).z wv3
      refine ev H3 _ (Kp.refl _ _) di3 (by omega) _ fun v H4 g4 d4 z4 => ?_
      exact q v H4 (k3.trans g4) (z4.up (by decide)) (d4.more (by omega) (by omega))
    · -- more
      try dsimp only

      refine ⟨_, rfl, d, _, _, rfl, di3, by omega, by decide, by decide +kernel, fun m0 o4 m0_ m1_ di4 => ⟨_, _, rfl, rfl, _, rfl, _, rfl, Nat.le_of_ble_eq_true rfl, _, rfl, fun L nL => ?_⟩⟩
      have k4 : Kp d H (upd H3 d o4) := k3.trans Kp.upd
      have hra4 : (upd H3 d o4) ra = some (.tup (as.map V.ref)) := by rw [upd_ne nrd]; exact hra3
      generalize upd H3 d o4 = H4 at di4 k4 hra4 nL ⊢
      generalize hcut : cutS _ _ _ = zc
      have zcm : ∀ {i c : Nat}, zc.cps[i]? = some c → c ∈ hgT.cps.toList := fun {i c} h => by
        rw [← hcut] at h
        exact cutS_mem h
      have zcl : zc.cps.size ≤ 8 := by
        rw [← hcut]
        exact cutS_length _ _ _
      clear hcut
      obtain ⟨dg4, hdg4⟩ := di4.there
      have Ld : L ≠ d := (ne_of_none hdg4 nL).symm
      refine lc_signs (x := zc) (fun i G => ∃ acc : List V, G L = some (.lst acc) ∧ acc.length = i ∧ (∀ x ∈ acc, Z D0 (Hm L (Hm d G)) 3 x) ∧ Same H4 G) ⟨[], upd_same, rfl, (fun x m => nomatch m), Same.new nL⟩ ?_ ?_
      · rintro i c G hc ⟨acc, eL, la_, az, s4⟩
        obtain ⟨mn, azn⟩ := more_name c (zcm hc)
        have ic : i < 8 := Nat.lt_of_lt_of_le (Array.getElem?_eq_some_iff.mp hc).1 zcl
        refine ⟨rfl, _, rfl, _, _, rfl, rfl, Nat.le_of_ble_eq_true rfl, by show 1 ≤ sizeLine; decide, fun p np => ⟨by show 3 ≤ sizeLine; decide, fun p2 np2 => ?_⟩⟩
        have sa := Same.new np (o := .tup [V.str (("n" : Str) ++ (⟨#[c]⟩ : Str))])
        have sb := Same.new np2 (o := .tup [V.str "r", .int 1, .ref p])
        have hp := sb _ _ (upd_same (a := p) (o := .tup [V.str (("n" : Str) ++ (⟨#[c]⟩ : Str))]) (H := G))
        have hp2 : (upd (upd G p (.tup [V.str (("n" : Str) ++ (⟨#[c]⟩ : Str))])) p2 (.tup [V.str "r", .int 1, .ref p])) p2 = some (.tup [V.str "r", .int 1, .ref p]) := upd_same
        have sab := sa.trans sb
        generalize upd (upd G p _) p2 _ = G2 at hp hp2 sab ⊢
        have eL2 := sab _ _ eL
        refine ⟨acc, eL2, by rw [sizeLine_eq]; omega, acc ++ [.ref p2], upd_same, by rw [List.length_append, la_]; rfl, fun x m => ?_, fun b o q => by rw [upd_ne (ne_of_none q nL)]; exact sab _ _ (s4 _ _ q)⟩
        have nt : ∀ {b : Addr} {xs : List V}, G2 b = some (.tup xs) → Hm L (Hm d (upd G2 L (.lst (acc ++ [.ref p2])))) b = some (.tup xs) := fun {b xs} h => by
          have bL : b ≠ L := fun e => by
            rw [e, eL2] at h
            cases h
          refine Hm.of (Hm.of (by rw [upd_ne bL]; exact h) fun e => ?_) bL
          rw [e, sab _ _ (s4 _ _ hdg4)] at h
          cases h
        rcases List.mem_append.mp m with m | m
        · exact ((az x m).same (Same.hm (Same.hm sab))).same same_at
        · rw [List.mem_singleton.mp m]
          refine Z.tup (n := 2) (k := 3) (nt hp2) (fun x m => ?_) (by simp)
          rcases List.mem_cons.mp m with e | m
          · rw [e]; exact Z.text (az_sok (by decide +kernel)) fun _ => mt _ (by decide +kernel)
          rcases List.mem_cons.mp m with e | m
          · rw [e]; exact Z.dig (p := 1) (by decide)
          rw [List.mem_singleton.mp m]
          refine Z.tup (n := 1) (k := 7) (nt hp) (fun x m => ?_) (by simp)
          rw [List.mem_singleton.mp m]
          exact Z.text (az_sok azn) fun _ => mt _ mn
      · rintro G ⟨acc, eL, la_, az, s4⟩
        refine ⟨L, acc, rfl, .inl ⟨SqL.of eL, fun ma nma => ?_⟩⟩
        have s5 := s4.trans (Same.new nma (o := .tup acc))
        have hma : (upd G ma (.tup acc)) ma = some (.tup acc) := upd_same
        have zma : ∀ x ∈ acc, Z D0 (Hm d (upd G ma (.tup acc))) 3 x := fun x m => ((az x m).same hm_le).same (Same.hm (Same.new nma (o := .tup acc)))
        have mad : ma ≠ d := (ne_of_none (s4 _ _ hdg4) nma).symm
        have lma : acc.length ≤ 8 := by omega
        have k5 := k4.trans (Kp.same (d := d) s5)
        have di5 := di4.same s5
        have hra5 := s5 _ _ hra4
        clear eL la_ az s4 nma
        generalize upd G ma (.tup acc) = H5 at k5 di5 hra5 hma zma ⊢
        -- wide
        refine ⟨_, rfl, by decide, by decide, fun L2_ nL2 => ?_⟩
        obtain ⟨dg5, hdg5⟩ := di5.there
        have L2d : L2_ ≠ d := (ne_of_none hdg5 nL2).symm
        refine lc_range (n := 7) (fun i G => ∃ acc : List V, G L2_ = some (.lst acc) ∧ acc.length = i ∧ (∀ x ∈ acc, Z D0 (Hm L2_ (Hm d G)) 3 x) ∧ Same H5 G) ⟨[], upd_same, rfl, (fun x m => nomatch m), Same.new nL2⟩ ?_ ?_
        · rintro i G i7 ⟨acc, eL, la_, az, s4⟩
          refine ⟨rfl, _, rfl, by show 1 ≤ sizeLine; decide, fun p0 np0 => ⟨_, rfl, p0, i, _, rfl, by rw [Int.zero_add], upd_same, by simp, by omega, by simp, fun p1 G1 s1 hp1 => ⟨by show 1 ≤ sizeLine; decide, fun p2 np2 => ⟨p1, p2, _, _, rfl, rfl, (Same.new np2) _ _ hp1, upd_same, by rw [PyProof.Rows.lm_len_rep_flat, sizeLine_eq]; simp; omega, fun p3 G3 s3 hp3 => ⟨by show 3 ≤ sizeLine; decide, fun p4 np4 => ?_⟩⟩⟩⟩⟩
          have sp0 := Same.new np0 (o := .tup [V.str "s"])
          have sp2 := Same.new np2 (o := .tup [V.str "c"])
          have sp4 := Same.new np4 (o := .tup [V.str "r", .int (0 + (i : Int)), .ref p3])
          have hp := sp4 _ _ hp3
          have hp4 : (upd G3 p4 (.tup [V.str "r", .int (0 + (i : Int)), .ref p3])) p4 = some (.tup [V.str "r", .int (0 + (i : Int)), .ref p3]) := upd_same
          have sab : Same G (upd G3 p4 (.tup [V.str "r", .int (0 + (i : Int)), .ref p3])) := (((sp0.trans s1).trans sp2).trans s3).trans sp4
          generalize upd G3 p4 (.tup [V.str "r", .int (0 + (i : Int)), .ref p3]) = G5 at hp hp4 sab ⊢
          have eL2 := sab _ _ eL
          refine ⟨acc, eL2, by rw [sizeLine_eq]; omega, acc ++ [.ref p4], upd_same, by rw [List.length_append, la_]; rfl, fun x m => ?_, fun b o q => by rw [upd_ne (ne_of_none q nL2)]; exact sab _ _ (s4 _ _ q)⟩
          have nt : ∀ {b : Addr} {xs : List V}, G5 b = some (.tup xs) → Hm L2_ (Hm d (upd G5 L2_ (.lst (acc ++ [.ref p4])))) b = some (.tup xs) := fun {b xs} h => by
            have bL : b ≠ L2_ := fun e => by
              rw [e, eL2] at h
              cases h
            refine Hm.of (Hm.of (by rw [upd_ne bL]; exact h) fun e => ?_) bL
            rw [e, sab _ _ (s4 _ _ hdg5)] at h
            cases h
          rcases List.mem_append.mp m with m | m
          · exact ((az x m).same (Same.hm (Same.hm sab))).same same_at
          · rw [List.mem_singleton.mp m]
            refine Z.tup (n := 2) (k := 3) (nt hp4) (fun x m => ?_) (by simp)
            rcases List.mem_cons.mp m with e | m
            · rw [e]; exact Z.text (az_sok (by decide +kernel)) fun _ => mt _ (by decide +kernel)
            rcases List.mem_cons.mp m with e | m
            · rw [e, Int.zero_add]; exact Z.dig (p := i) (by omega)
            rw [List.mem_singleton.mp m]
            refine Z.tup (n := 1) (k := 7) (nt hp) (fun x m => ?_) (by rw [List.length_append, PyProof.Rows.lm_len_rep_flat]; simp; omega)
            rcases List.mem_append.mp m with m | m
            · obtain ⟨ys, my, mx⟩ := List.mem_flatten.mp m
              rw [List.eq_of_mem_replicate my] at mx
              rw [List.mem_singleton.mp mx]
              exact Z.text (az_sok (by decide +kernel)) fun _ => mt _ (by decide +kernel)
            · rw [List.mem_singleton.mp m]
              exact Z.text (az_sok (by decide +kernel)) fun _ => mt _ (by decide +kernel)
        · rintro G ⟨acc2, eL, la_, az, s4⟩
          refine ⟨L2_, acc2, rfl, .inl ⟨SqL.of eL, fun wa nwa => ?_⟩⟩
          have s5 := s4.trans (Same.new nwa (o := .tup acc2))
          have hwa : (upd G wa (.tup acc2)) wa = some (.tup acc2) := upd_same
          have zwa : ∀ x ∈ acc2, Z D0 (Hm d (upd G wa (.tup acc2))) 3 x := fun x m => ((az x m).same hm_le).same (Same.hm (Same.new nwa (o := .tup acc2)))
          have wad : wa ≠ d := (ne_of_none (s4 _ _ hdg5) nwa).symm
          have lwa : acc2.length = 7 := la_
          have k6 := k5.trans (Kp.same (d := d) s5)
          have di6 := di5.same s5
          have hra6 := s5 _ _ hra5
          have hma6 := s5 _ _ hma
          have zma6 : ∀ x ∈ acc, Z D0 (Hm d (upd G wa (.tup acc2))) 3 x := fun x m => (zma x m).same (Same.hm s5)
          clear eL la_ az s4 nwa s5
          generalize upd G wa (.tup acc2) = H6 at k6 di6 hra6 hma6 zma6 hwa zwa ⊢
          clear k5 di5 hra5 hma zma k4 di4 hra4 k3 di3 hra3 pla3 h43
          obtain ⟨r', hr', rat0⟩ := pget9 h4 hav
          have mr' := List.mem_of_getElem? hr'
          have rok := bk.rules _ mr'
          obtain ⟨inh, inw⟩ := dn.rule mr' rok
          have rat6 := rat0.same k6.hm
          obtain ⟨t, hrv, ht⟩ := rat6
          clear rat mr rat0 har c
          have wv6 : Wv d (Hm d) H6 := Wv.hm
          have er : EvT D0 d (Hm d) H6 [some (.ref d), some (.ref pl), some (.ref ra), some (.int (a : Int)), some (.int w0), some (.ref ma), some (.ref wa), none, none, none] 0 1 6 3 (tVar 2) := et_var 2 rfl hra6 nrd lo hi (zrl k6) wv6
          have emp : EvZ D0 d (Hm d) H6 [some (.ref d), some (.ref pl), some (.ref ra), some (.int (a : Int)), some (.int w0), some (.ref ma), some (.ref wa), none, none, none] 0 4 (tTup tNil) := (et_tup (m := 0) (n := 3) wv6 (by decide) ea_nil).z wv6
          have ev1 := en_lst (m := 6) (n := 4) (by decide) (ea_cons wv6 (er.z wv6) (ea_cons wv6 ((en_listT (K := K) er).z wv6) (ea_cons wv6 (ez_c fun H => Z.non) (ea_cons wv6 emp (ea_cons wv6 (ez_dct wv6) (ea_cons wv6 ((et_cat wv6 (by decide) er (et_sl wv6 er (eo_var 3 rfl) (eo_var1 3 rfl))).z wv6) ea_nil))))))
          try dsimp only
          refine seq_set ?_
          refine ev1 H6 _ (Kp.refl _ _) di6 (by omega) _ fun s1 xs H7 g7 d7 ns1 _ lx zx => ?_
          have n7 := Same.new ns1 (o := .lst xs)
          have d7' := d7.same n7
          have ne1 : s1 ≠ d := fun e => by
            obtain ⟨ds, x⟩ := d7.there
            rw [e, x] at ns1
            cases ns1
          have hs1 : (upd H7 s1 (.lst xs)) s1 = some (.lst xs) := upd_same
          have S7 : Same (Hm d H6) (Hm s1 (Hm d (upd H7 s1 (.lst xs)))) := fun b o e => same_hm2 (d := d) (o := .lst xs) ns1 _ _ (g7.hm _ _ e)
          have zx' : ∀ x ∈ xs, Z D0 (Hm s1 (Hm d (upd H7 s1 (.lst xs)))) 4 x := fun x m => (zx x m).same (same_hm2 ns1)
          have fr1 : H s1 = none := Kp.free (k6.trans g7) ne1 ns1
          have k7 := k6.trans (g7.trans (Kp.same (d := d) n7))
          have hra7 := n7 _ _ (g7 _ _ nrd hra6)
          have hma7 := n7 _ _ (g7 _ _ mad hma6)
          have hwa7 := n7 _ _ (g7 _ _ wad hwa)
          have zma7 : ∀ x ∈ acc, Z D0 (Hm s1 (Hm d (upd H7 s1 (.lst xs)))) 3 x := fun x m => (zma6 x m).same S7
          have zwa7 : ∀ x ∈ acc2, Z D0 (Hm s1 (Hm d (upd H7 s1 (.lst xs)))) 3 x := fun x m => (zwa x m).same S7
          have zra7 : ∀ x ∈ as.map V.ref, Z D0 (Hm s1 (Hm d (upd H7 s1 (.lst xs)))) 3 x := fun x m => (zrl k6 x m).same S7
          have hrv7 := S7 _ _ hrv
          have ht7 := S7 _ _ ht
          clear zx S7 g7 n7 d7 ns1 ev1 emp er wv6 zma6 zwa hwa hma6 hra6 di6 k6 hrv ht
          generalize upd H7 s1 (.lst xs) = B7 at hs1 d7' zx' k7 hra7 hma7 hwa7 zma7 zwa7 zra7 hrv7 ht7 ⊢
          have wv7 : Wv d (fun H => Hm s1 (Hm d H)) B7 := Wv.hm2 hs1 ne1
          have er : EvT D0 d (fun H => Hm s1 (Hm d H)) B7 [some (.ref d), some (.ref pl), some (.ref ra), some (.int (a : Int)), some (.int w0), some (.ref ma), some (.ref wa), some (.ref s1), none, none] 0 1 6 3 (tVar 2) := et_var 2 rfl hra7 nrd lo hi zra7 wv7
          have zt : Z D0 (Hm s1 (Hm d B7)) 2 (.ref t) := Z.tup (n := 1) (k := 7) ht7 (fun x m => by
            obtain ⟨z, mz, rfl⟩ := List.mem_map.mp m
            exact Z.text (az_sok (rok.names z mz)) fun _ => inw z mz) (by rw [List.length_map]; exact rok.few)
          have hrvB := Hm.some_of (Hm.some_of hrv7).1
          have lav : (as.map V.ref)[a]? = some (.ref rv) := by rw [List.getElem?_map, hav]; rfl
          have e0 : EvZ D0 d (fun H => Hm s1 (Hm d H)) B7 [some (.ref d), some (.ref pl), some (.ref ra), some (.int (a : Int)), some (.int w0), some (.ref ma), some (.ref wa), some (.ref s1), none, none] 0 2 _ := ez_ix2 (K := K) (b := 0) wv7 2 3 rfl rfl hra7 nrd lav hrvB.1 hrvB.2 rfl (Z.text (az_sok rok.head) fun _ => inh)
          have e2 : EvZ D0 d (fun H => Hm s1 (Hm d H)) B7 [some (.ref d), some (.ref pl), some (.ref ra), some (.int (a : Int)), some (.int w0), some (.ref ma), some (.ref wa), some (.ref s1), none, none] 0 2 _ := ez_ix2 (K := K) (b := 2) wv7 2 3 rfl rfl hra7 nrd lav hrvB.1 hrvB.2 rfl zt
          have ev2 := (et_cat wv7 (by decide) er (et_tup (m := 1) wv7 (by decide) (ea_cons wv7 (ez_tri wv7 e0 (ez_c fun H => Z.dig (p := 7) (by decide)) e2) ea_nil))).z wv7
          try dsimp only
          refine seq_drop ?_
          refine ⟨_, rfl, .inl ⟨rfl, _, SqL.of hs1⟩, ?_⟩
          refine ev2 B7 _ (Kp.refl _ _) d7' (by omega) _ fun v9 H9 g9 d9 z9' => ?_
          have hs_ := g9 _ _ ne1 hs1
          refine ⟨s1, xs, v9, rfl, rfl, hs_, by rw [sizeLine_eq]; omega, ?_⟩
          have hs29 : (upd H9 s1 (.lst (xs ++ [v9]))) s1 = some (.lst (xs ++ [v9])) := upd_same
          have d9' : Dice (upd H9 s1 (.lst (xs ++ [v9]))) d _ := d9.kept fun o e => by rw [upd_ne (Ne.symm ne1)]; exact e
          have s_ : Same (Hm s1 (Hm d H9)) (Hm s1 (Hm d (upd H9 s1 (.lst (xs ++ [v9]))))) := same_at
          have S9 : Same (Hm s1 (Hm d B7)) (Hm d (upd H9 s1 (.lst (xs ++ [v9])))) := fun b o e => hm_le _ _ (s_ _ _ (Same.hm g9.hm _ _ e))
          have zx9 : ∀ x ∈ xs ++ [v9], Z D0 (Hm d (upd H9 s1 (.lst (xs ++ [v9])))) 4 x := fun x m => by
            rcases List.mem_append.mp m with m | m
            · exact (zx' x m).same S9
            · rw [List.mem_singleton.mp m]
              exact (z9'.same s_).same hm_le
          have ln : (xs ++ [v9]).length ≤ 7 := by rw [List.length_append, List.length_singleton]; omega
          have k9 : Kp d H (upd H9 s1 (.lst (xs ++ [v9]))) := fun b o nb e => by
            have e1 := (k7.trans g9) _ _ nb e
            rw [upd_ne (fun c => by rw [c, fr1] at e; cases e)]
            exact e1
          have hra9 : (upd H9 s1 (.lst (xs ++ [v9]))) ra = some (.tup (as.map V.ref)) := by rw [upd_ne (ne_of hra7 hs1 (by intro z; cases z))]; exact g9 _ _ nrd hra7
          have hma9 : (upd H9 s1 (.lst (xs ++ [v9]))) ma = some (.tup acc) := by rw [upd_ne (ne_of hma7 hs1 (by intro z; cases z))]; exact g9 _ _ mad hma7
          have hwa9 : (upd H9 s1 (.lst (xs ++ [v9]))) wa = some (.tup acc2) := by rw [upd_ne (ne_of hwa7 hs1 (by intro z; cases z))]; exact g9 _ _ wad hwa7
          have zra9 : ∀ x ∈ as.map V.ref, Z D0 (Hm d (upd H9 s1 (.lst (xs ++ [v9])))) 3 x := fun x m => (zra7 x m).same S9
          have zma9 : ∀ x ∈ acc, Z D0 (Hm d (upd H9 s1 (.lst (xs ++ [v9])))) 3 x := fun x m => (zma7 x m).same S9
          have zwa9 : ∀ x ∈ acc2, Z D0 (Hm d (upd H9 s1 (.lst (xs ++ [v9])))) 3 x := fun x m => (zwa7 x m).same S9
          clear S9 s_ hs_ zx' zma7 zwa7 zra7 hra7 hma7 hwa7 hs1 k7 wv7 er e0 e2 ev2 g9 d9 z9' d7' zt ht7 hrv7 hrvB
          generalize xs ++ [v9] = xs9 at hs29 zx9 ln d9' k9 hra9 hma9 hwa9 zra9 zma9 zwa9 ⊢
          generalize upd H9 s1 (.lst xs9) = B9 at hs29 zx9 d9' k9 hra9 hma9 hwa9 zra9 zma9 zwa9 ⊢
          have wv9 : Wv d (Hm d) B9 := Wv.hm
          have er : EvT D0 d (Hm d) B9 [some (.ref d), some (.ref pl), some (.ref ra), some (.int (a : Int)), some (.int w0), some (.ref ma), some (.ref wa), some (.ref s1), none, none] 0 1 6 3 (tVar 2) := et_var 2 rfl hra9 nrd lo hi zra9 wv9
          have em : EvT D0 d (Hm d) B9 [some (.ref d), some (.ref pl), some (.ref ra), some (.int (a : Int)), some (.int w0), some (.ref ma), some (.ref wa), some (.ref s1), none, none] 0 0 8 3 (tVar 5) := et_var 5 rfl hma9 mad (Nat.zero_le _) lma zma9 wv9
          have ew : EvT D0 d (Hm d) B9 [some (.ref d), some (.ref pl), some (.ref ra), some (.int (a : Int)), some (.int w0), some (.ref ma), some (.ref wa), some (.ref s1), none, none] 0 0 7 3 (tVar 6) := et_var 6 rfl hwa9 wad (Nat.zero_le _) (Nat.le_of_eq lwa) zwa9 wv9
          have es : EvL D0 d (Hm d) B9 [some (.ref d), some (.ref pl), some (.ref ra), some (.int (a : Int)), some (.int w0), some (.ref ma), some (.ref wa), some (.ref s1), none, none] 0 0 7 5 (tVar 7) := el_var 7 rfl hs29 ne1 (Nat.zero_le _) ln (fun x m => (zx9 x m).up (by decide)) wv9
          have zrt : ∀ {H}, Z D0 H 5 (.str "rules") := fun {H} => Z.text (az_sok (by decide +kernel)) fun _ => mt _ (by decide +kernel)
          have enon := (et_cat wv9 (by decide) er (et_tup (m := 1) (n := 3) wv9 (by decide) (ea_cons wv9 (ez_c fun H => Z.non) ea_nil))).z wv9
          have eone := (et_tup (m := 1) (n := 4) wv9 (by decide) (ea_cons wv9 (er.z wv9) ea_nil)).z wv9
          have ev8 := ez_pick (K := K) (E := E0) (a := 7) (m := 14) (n := 5) wv9 (σ := [some (.ref d), some (.ref pl), some (.ref ra), some (.int (a : Int)), some (.int w0), some (.ref ma), some (.ref wa), some (.ref s1), none, none]) rfl (by decide) (by decide) ((en_cat (a := 0) (a' := 7) wv9 (by decide) es ((en_lst (m := 7) (n := 5) (by decide) (ea_cons wv9 (((et_cat wv9 (by decide) er em).z wv9).up (by decide)) (ea_cons wv9 ((em.z wv9).up (by decide)) (ea_cons wv9 (((et_rep (c := 2) wv9 (by decide) (by decide) (by decide) (by decide) (et_sl1 wv9 (by decide) er)).z wv9).up (by decide)) (ea_cons wv9 ((ew.z wv9).up (by decide)) (ea_cons wv9 (ez_c fun H => zrt) (ea_cons wv9 (enon.up (by decide)) (ea_cons wv9 eone ea_nil)))))))).l wv9)).l wv9)
          try dsimp only
          refine ret_one ?_
          refine ev8 B9 _ (Kp.refl _ _) d9' (by omega) _ fun v H14 g14 d14 z14 => ?_
          exact q v H14 (k9.trans g14) z14 (d14.more (by omega) (by omega))
end
end Pr
namespace Pr
open PySem PySem.Spec PyProof.Rows L2 Gd
/-! ### what stays where only a list has changed -/
section
variable {K : PySem.W.Frag} {H H' : Hp} {d : Addr} {ys : List V}
theorem kl_up (hd : H d = some (.lst ys)) (k : Kp d H H') {b : Addr} {u : HO} (n : ∀ zs, u ≠ .lst zs) (e : H b = some u) : H' b = some u := k b u (fun c => by
  rw [c, hd] at e
  exact n _ (Option.some.inj e).symm) e
theorem kl_tx (hd : H d = some (.lst ys)) (k : Kp d H H') {a : Addr} {xs : List V} (h : Tx.TX H a xs) : Tx.TX H' a xs := let ⟨ob, e, x⟩ := h; ⟨ob, kl_up hd k (fun _ z => nomatch z) e, x⟩
theorem kl_sqT (hd : H d = some (.lst ys)) (k : Kp d H H') {a : Addr} {xs : List V} (h : SqT K H a xs) : SqT K H' a xs := by
  rcases h with (h | ⟨od, h⟩) | h
  · exact .inl (.inl (kl_up hd k (fun _ z => nomatch z) h))
  · exact .inl (.inr ⟨od, kl_up hd k (fun _ z => nomatch z) h⟩)
  · exact .inr h
theorem kl_rule (hd : H d = some (.lst ys)) (k : Kp d H H') {a : Addr} {r : Rl} (h : RuleAt H a r) : RuleAt H' a r := let ⟨t, x, y⟩ := h; ⟨t, kl_up hd k (fun _ z => nomatch z) x, kl_up hd k (fun _ z => nomatch z) y⟩
theorem kl_ops (hd : H d = some (.lst ys)) (k : Kp d H H') {C o : Addr} {l : List (Str × Nat)} (h : OpsAt H C o l) : OpsAt H' C o l :=
  let ⟨dx, tn, ta, tl, a, b, c, e⟩ := h.ex
  ⟨dx, tn, ta, tl, kl_up hd k (fun _ z => nomatch z) a, kl_up hd k (fun _ z => nomatch z) b, kl_up hd k (fun _ z => nomatch z) c, kl_up hd k (fun _ z => nomatch z) e⟩
theorem kl_book (hd : H d = some (.lst ys)) (k : Kp d H H') {C B o : Addr} {l : List (Str × Nat)} {g : Str} {rs : List Rl} (h : BookAt K H C B o l g rs) : BookAt K H' C B o l g rs := by
  obtain ⟨dx, oo, ra, na, pa, la, kk, h1, h2, h3, h4, h5, h6⟩ := h.ex
  refine ⟨dx, oo, ra, na, pa, la, kk, kl_up hd k (fun _ z => nomatch z) h1, kl_ops hd k h2, ?_, ?_, ?_, kl_up hd k (fun _ z => nomatch z) h6⟩
  · obtain ⟨as, a1, a2⟩ := h3.ex
    exact ⟨as, kl_up hd k (fun _ z => nomatch z) a1, paired_map (fun _ _ q => kl_rule hd k q) a2⟩
  · obtain ⟨zs, a1, a2⟩ := h4.ex
    exact ⟨zs, kl_up hd k (fun _ z => nomatch z) a1, a2⟩
  · obtain ⟨M, a1, a2, a3⟩ := h5.ex
    exact ⟨M, kl_up hd k (fun _ z => nomatch z) a1, fun q m => kl_sqT hd k (a2 q m), a3⟩
end
end Pr
namespace Pr
open PySem PySem.Spec PyProof.Rows L2 Gd
/-! ### _law_right -/
def spRight : Sp := fun vs H Q _ => ∃ (d : Addr) (k : Nat), vs = [.ref d] ∧ Dice H d k ∧ k + 1000 < 1000000 ∧ ∀ H', Kp d H H' → Dice H' d (k + 1000) → Q (.bl true) H'
theorem BookV.perm {H : Hp} {l l' : List (Str × Nat)} {gv rv : V} (p : l'.Perm l) : BookV H l' gv rv ↔ BookV H l gv rv := by
  constructor
  · rintro ⟨g, rs, e, r, ok⟩
    exact ⟨g, rs, e, r, ok.perm p.symm⟩
  · rintro ⟨g, rs, e, r, ok⟩
    exact ⟨g, rs, e, r, ok.perm p⟩
theorem made_same {H H' : Hp} {C x dx : Addr} (nx : H x = none) (nd : H dx = none) (ne : dx ≠ x) (k : Kp x (upd (upd H dx (.own x)) x (.ins C dx [])) H') : Same H H' := fun b u e => by
  have nb : b ≠ x := ne_of_none e nx
  refine k b u nb ?_
  rw [upd_ne nb, upd_ne (ne_of_none e nd)]
  exact e
theorem made_same0 {H : Hp} {C x dx : Addr} (nx : H x = none) (nd : H dx = none) : Same H (upd (upd H dx (.own x)) x (.ins C dx [])) := fun b u e => by
  rw [upd_ne (ne_of_none e nx), upd_ne (ne_of_none e nd)]
  exact e
theorem joinV {Pr R : V → Hp → Prop} {A : Prop} (f : (∀ v G, Pr v G → R v G) → A) (g : ∀ v G, Pr v G → R v G) : A := f g
/-- the plain book beside the dice -/
theorem PlainAt.hm {H : Hp} {d p : Addr} {k : Nat} {l : List (Str × Nat)} {g : Str} {rs : List Rl} (h : PlainAt H p l g rs) (di : Dice H d k) (ne : 1 ≤ rs.length) : PlainAt (Hm d H) p l g rs := by
  obtain ⟨la, ra, as, h1, h2, h3, h4⟩ := h.ex
  obtain ⟨⟨x, y, c, hd, _⟩, _⟩ := di
  have las : as.length = rs.length := Paired.length h4
  have nx : ∀ {b : Addr} {o : HO}, H b = some o → (∀ zs, o ≠ .lst zs) → b ≠ d := fun {b o} e n q => by
    rw [q, hd] at e
    cases e
    exact n _ rfl
  have nr : ra ≠ d := fun e => by
    rw [e, hd] at h3
    cases as with
    | nil => simp at las; omega
    | cons a as => cases h3
  refine ⟨la, ra, as, Hm.of h1 (nx h1 fun _ z => nomatch z), Hm.of h2 (nx h2 fun _ z => nomatch z), Hm.of h3 nr, paired_map (fun b r ⟨t, u, v⟩ => ⟨t, Hm.of u (nx u fun _ z => nomatch z), Hm.of v (nx v fun _ z => nomatch z)⟩) h4⟩
theorem OpsAt.hm {H : Hp} {C o d : Addr} {k : Nat} {l : List (Str × Nat)} (h : OpsAt H C o l) (di : Dice H d k) : OpsAt (Hm d H) C o l := by
  obtain ⟨ds, hd⟩ := di.there
  exact kl_ops (H' := Hm d H) hd (fun b u ne e => Hm.of e ne) h
theorem rules_z {D : List Str} {G : Hp} {l : List (Str × Nat)} {g : Str} {rs : List Rl} {as : List Addr} (bk : BkOk l g rs) (dn : DN D l g rs) (h4 : Paired (fun b r => RuleAt G b r) as rs) : ∀ x ∈ as.map V.ref, Z D G 3 x := fun x m => by
  obtain ⟨b, mb, rfl⟩ := List.mem_map.mp m
  obtain ⟨i, hi⟩ := List.mem_iff_getElem?.mp mb
  obtain ⟨r, hr', rat⟩ := pget9 h4 hi
  have mr := List.mem_of_getElem? hr'
  obtain ⟨inh, inw⟩ := dn.rule mr (bk.rules r mr)
  have ok := bk.rules r mr
  obtain ⟨t, x1, x2⟩ := rat
  refine Z.tup (n := 2) (k := 3) x1 (fun x m => ?_) (by simp)
  rcases List.mem_cons.mp m with e | m
  · rw [e]; exact Z.text (az_sok ok.head) fun _ => inh
  rcases List.mem_cons.mp m with e | m
  · rw [e]; exact Z.dig ok.price
  rw [List.mem_singleton.mp m]
  exact Z.tup (n := 1) (k := 7) x2 (fun x m => by
    obtain ⟨z, mz, rfl⟩ := List.mem_map.mp m
    exact Z.text (az_sok (ok.names z mz)) fun _ => inw z mz) (by rw [List.length_map]; exact ok.few)
theorem iteQ {b : Bool} {x y : Str} {σ : L2.St} {H : Hp} {Q' : VK} (h : ∀ v, v = V.str (if b = true then x else y) → tC v σ H Q') : if b = true then tC (.str x) σ H Q' else tC (.str y) σ H Q' := by
  cases b with
  | true => exact h _ rfl
  | false => exact h _ rfl
theorem BookV.up {H H' : Hp} {l : List (Str × Nat)} {gv rv : V} (s : Same H H') (h : BookV H l gv rv) : BookV H' l gv rv :=
  let ⟨g, rs, e, ⟨a, e2, h2⟩, ok⟩ := h
  let ⟨as, x, p⟩ := h2.ex
  ⟨g, rs, e, ⟨a, e2, ⟨as, s _ _ x, paired_map (fun _ _ k => RuleAt.same k s) p⟩⟩, ok⟩
/-- goals that can come besides -/
def goalT : List Str := ["new", "c", "a", "goal", "abcdefgh"]
theorem goal_bad : ∀ z ∈ [("" : Str), "R", "abcdefghi"], azB z = false := by decide +kernel
theorem goal_sok : ∀ z ∈ [("" : Str), "R", "abcdefghi", "c", "a", "new", "goal", "abcdefgh", "r"], SOk 9 z := by
  unfold SOk
  decide +kernel
/-- all names that can come -/
def allN (l : List (Str × Nat)) (D6 : List Str) (rs : List Rl) : List Str := l.map (·.1) ++ (D6 ++ (rs.map (fun r => Txt.join (" " : Str) r.2.2) ++ (goalT ++ moreT)))
theorem allN_ok {l : List (Str × Nat)} {D6 : List Str} {g : Str} {rs : List Rl} (bk : BkOk l g rs) (h6 : D6.length ≤ 6) (inD : ∀ z, isNt l g rs z → z ∈ D6) : DN (allN l D6 rs) l g rs ∧ (∀ z ∈ moreT, z ∈ allN l D6 rs) ∧ (∀ z ∈ goalT, z ∈ allN l D6 rs) := by
  have lO := bk.ops.few
  have lR := bk.few
  unfold allN
  refine ⟨⟨?_, fun z m => List.mem_append_left _ m, fun z n => List.mem_append_right _ (List.mem_append_left _ (inD z n)), fun r m => List.mem_append_right _ (List.mem_append_right _ (List.mem_append_left _ (List.mem_map.mpr ⟨r, m, rfl⟩))), List.mem_append_right _ (List.mem_append_right _ (List.mem_append_right _ (List.mem_append_left _ List.mem_cons_self)))⟩,
    fun z m => List.mem_append_right _ (List.mem_append_right _ (List.mem_append_right _ (List.mem_append_right _ m))), fun z m => List.mem_append_right _ (List.mem_append_right _ (List.mem_append_right _ (List.mem_append_left _ m)))⟩
  rw [List.length_append, List.length_append, List.length_append, List.length_append, List.length_map, List.length_map]
  have e1 : goalT.length = 5 := rfl
  have e2 : moreT.length = 12 := rfl
  omega
section
variable {P : Program} {w : World} {K : PySem.W.Frag} {mg : Str → Option Value} {base : Heap} {C fC fR fP fM fB fN fL fX : Addr} {dC dR dP dM dB dN dL dX : FuncData}
theorem scRight : FnScope ["dice", "plain", "operators", "turn", "rules", "goal", "due", "text", "none"] ["dice"] (defScope sLRight) := ⟨rfl, rfl, rfl, by decide +kernel, rfl, by decide +kernel, by decide +kernel⟩
theorem ok_right {f : Addr} {fd : FuncData} (F : Fun K "_law_right" "_law_right" sLRight f fd) (D : Draws K mg fR fP fM dR dP dM) (T : Free mg)
    (MC : Mk K C fC) (gC : mg "Operators" = some (.ref C)) (GC : FnOk P w K mg base CX0 3 fC dC ["self", "arities"] (spInitV C)) (bC : Binds K dC ["self", "arities"] [])
    (GB : FnOk P w K mg base CX0 4 fB dB ["dice", "rules", "heads"] spDBook) (bB : Binds K dB ["dice", "rules", "heads"] []) (gB : mg "_law_drawn_book" = some (.ref fB)) (kB : PySem.W.keepIn K (.ref fB) = true)
    (GN : FnOk P w K mg base CX0 4 fN dN ["dice", "plain"] spNearRs) (bN : Binds K dN ["dice", "plain"] []) (gN : mg "_law_near_rules" = some (.ref fN)) (kN : PySem.W.keepIn K (.ref fN) = true)
    (GL : FnOk P w K mg base CX0 3 fL dL ["arities", "goal", "rules"] spLPlainG) (bL : Binds K dL ["arities", "goal", "rules"] []) (gL : mg "_law_is_plain" = some (.ref fL)) (kL : PySem.W.keepIn K (.ref fL) = true)
    (GX : FnOk P w K mg base CX0 7 fX dX ["operators", "goal", "rules"] (fun vs H Q E => spMetNo vs H Q E ∨ spMetOk C vs H Q E)) (bX : Binds K dX ["operators", "goal", "rules"] []) (gX : mg "_law_met" = some (.ref fX)) (kX : PySem.W.keepIn K (.ref fX) = true) :
    FnG P w K mg base CX0 8 f fd ["dice"] spRight := by
  have GR : FnOk P w K mg base CX0 1 fR dR ["dice", "total"] spRoll := ok_roll D.FR T
  have GP : FnOk P w K mg base CX0 2 fP dP ["dice", "items"] (spPick K) := ok_pick D T
  refine FnG.ok F scRight (fun vs H Q E h => ?_) (fun cdv A outer s H vs Q E hr gd h => ?_)
  · obtain ⟨d, k, rfl, _⟩ := h
    rfl
  · obtain ⟨d, k, rfl, di, hk, q⟩ := h
    have hu := hr.units
    have hu1 : ∀ {u : Nat}, u + 64 < cLine → u + 1 < cLine := fun h => by omega
    have r1 : Room 1 _ := hr.mono (by decide)
    have r2 : Room 2 _ := hr.mono (by decide)
    have r3 : Room 3 _ := hr.mono (by decide)
    have r4 : Room 4 _ := hr.mono (by decide)
    refine ⟨_, (pss_cons (ps_set (i := 1) scRight.nd rfl (.inl rfl) (pe_call GB r4 (by rfl) gB kB bB .nil pass0 (pa_cons (pv 0) (pa_cons pe_int (pa_cons pe_int pa_nil))))) (pss_cons (ps_set (i := 2) scRight.nd rfl (.inl rfl) (pe_make MC GC r4 rfl gC bC .nil pass0 (by exact (pa_cons (pe_dget (hu1 hu) (pv 1) pe_str (fun _ _ => rfl)) pa_nil)))) (pss_cons (ps_for PassesOwn.never rfl (pi_range1 rfl T.range (pa_cons pe_int pa_nil)) (pg_name (i := 3) scRight.nd rfl (.inl rfl)) (pss_cons (ps_par (i := 4) (j := 5) (by rfl) scRight.nd rfl rfl (by decide) rfl rfl (pa_cons (pe_ifExp (pt_cmpR op_gt (pv 3) pe_int (nomark _)) (pe_call GN r4 (by rfl) gN kN bN .nil pass0 (pa_cons (pv 0) (pa_cons (pv 1) pa_nil))) (pe_callTy call_tuple_of (by rfl) T.tuple (by decide +kernel) (pa_cons (pe_dget (hu1 hu) (pv 1) pe_str (fun _ _ => rfl)) pa_nil))) (pa_cons (pe_dget (hu1 hu) (pv 1) pe_str (fun _ _ => rfl)) pa_nil)) (by rfl)) (pss_cons (ps_if (pt_cmpR op_eq (pe_call GR r1 (by rfl) D.gR D.FR.kp D.bR .nil pass0 (pa_cons (pv 0) (pa_cons pe_int pa_nil))) pe_int (nomark _)) (pss_one (ps_set (i := 5) scRight.nd rfl (.inl rfl) (pe_call GP r2 (by rfl) D.gP D.FP.kp D.bP .nil pass0 (pa_cons (pv 0) (pa_cons (pe_lst (pa_cons pe_non (pa_cons pe_str (pa_cons pe_str (pa_cons pe_str (pa_cons pe_str (pa_cons pe_int (pa_cons (pe_tup (pa_cons pe_str pa_nil)) (pa_cons pe_str (pa_cons pe_str (pa_cons pe_str (pa_cons pe_str pa_nil)))))))))))) pa_nil))))) pss_nil) (pss_cons (ps_set (i := 6) scRight.nd rfl (.inl rfl) (pe_ifExp (pt_val (pe_call GL r3 (by rfl) gL kL bL .nil pass0 (pa_cons (pe_dget (hu1 hu) (pv 1) pe_str (fun _ _ => rfl)) (pa_cons (pv 5) (pa_cons (pv 4) pa_nil))))) pe_str pe_str)) (pss_cons (ps_set (i := 7) scRight.nd rfl (.inl rfl) (pe_callB (call_repr gd hu) (by rfl) T.repr (by decide +kernel) (pa_cons (pv 4) pa_nil))) (pss_cons (ps_if (PW.pt (pw_or (pt_cmpR op_ne (pe_call GX hr (by rfl) gX kX bX .nil pass0 (pa_cons (pv 2) (pa_cons (pv 5) (pa_cons (pv 4) pa_nil)))) (pv 6) (nomark _)) (pw_or1 (pt_cmpR op_ne (pe_callB (call_repr gd hu) (by rfl) T.repr (by decide +kernel) (pa_cons (pv 4) pa_nil)) (pv 7) (nomark _))))) (pss_one (ps_ret pe_bl)) pss_nil) (pss_cons (ps_set (i := 8) scRight.nd rfl (.inl rfl) (pe_call GP r2 (by rfl) D.gP D.FP.kp D.bP .nil pass0 (pa_cons (pv 0) (pa_cons (pe_lst (pa_cons pe_non (pa_cons pe_dnewK (pa_cons (pe_dget (hu1 hu) (pv 1) pe_str (fun _ _ => rfl)) (pa_cons pe_int (pa_cons pe_str (pa_cons (pe_lst (pa_cons (pv 2) pa_nil)) (pa_cons (pe_tup pa_nil) pa_nil)))))))) pa_nil)))) (pss_one (ps_if (pt_cmpR op_ne (pe_call GX hr (by rfl) gX kX bX .nil pass0 (pa_cons (pv 8) (pa_cons (pv 5) (pa_cons (pv 4) pa_nil)))) pe_str (nomark _)) (pss_one (ps_ret pe_bl)) pss_nil))))))))) (pss_one (ps_ret pe_bl))))), ?_⟩
    refine ⟨_, rfl, d, 6, 3, k, rfl, di, by omega, by decide, by decide, by decide, by decide, fun l g rs p H1 an rs1 rs6 pd np k1 d1 => ?_⟩
    have bk := an.ok
    have pl1 := an.pl.hm d1 rs1
    obtain ⟨D6, hD6, inD⟩ := bk.six
    obtain ⟨dn, mt, gt⟩ := allN_ok bk hD6 inD
    generalize allN l D6 rs = D0 at dn mt gt
    obtain ⟨la, ra0, as, h1, h2, h3, h4⟩ := an.pl.ex
    refine ⟨_, rfl, p, .ref la, rfl, pl_ar ▸ DGet.k (k := .inr ("arities" : Str)) h1, fun x dx nx ndx ne => ?_⟩
    have s0 := made_same0 (C := C) nx ndx
    refine ⟨x, dx, la, l, rfl, upd_same, s0 _ _ h2, bk.ops, fun l' ta H2 pm srt kp op fa nta => ⟨rfl, ?_⟩⟩
    have s1 := made_same nx ndx ne kp
    have d2 := d1.same s1
    have k2 : Kp d H H2 := k1.trans (Kp.same s1)
    have op2 := op.hm d2
    have pl2 := pl1.same (Same.hm s1)
    have ok' : OpsOk l' := (bk.perm pm).ops
    clear an s0 s1 kp op fa nta h1 h2 h3 h4 d1 k1 pl1
    refine ⟨_, rfl, by decide, by decide, ?_⟩
    refine for_range (lo := 0) (n := 9) (fun i σ G => ∃ (v3 v4 v5 v6 v7 v8 : Option V), σ = [some (.ref d), some (.ref p), some (.ref x), v3, v4, v5, v6, v7, v8] ∧ Kp d H G ∧ PlainAt (Hm d G) p l g rs ∧ OpsAt (Hm d G) C x l' ∧ Dice G d (k + 400 + 16 * i))
      ⟨none, none, none, none, none, none, rfl, k2, pl2, op2, d2⟩ ?_ ?_
    · rintro i σ G hi ⟨v3, v4, v5, v6, v7, v8, rfl, kG, plG, opG, dG⟩
      obtain ⟨la, ra0, as, h1, h2, h3, h4⟩ := plG.ex
      have un : ∀ {G : Hp} {b : Addr} {o : HO}, Hm d G b = some o → G b = some o := fun h => (Hm.some_of h).1
      refine' joinV (Pr := fun v G' => Kp d G G' ∧ Z D0 (Hm d G') 5 v ∧ Dice G' d (k + 400 + 16 * i + 12)) (fun KK => ?AA) ?BB
      case AA =>
        refine ⟨_, rfl, _, _, rfl, rfl, _, rfl, ite2 (fun c => ?_) (fun c => ?_)⟩
        · refine ⟨_, rfl, _, rfl, d, p, D0, l, g, rs, _, rfl, pd, plG, bk, dn, mt, rs1, rs6, dG, by omega, fun v H' kv zv dv => ?_⟩
          exact KK v H' ⟨kv, zv, dv⟩
        · refine ⟨_, rfl, p, .ref ra0, rfl, pl_ru ▸ DGet.k (k := .inr ("rules" : Str)) (un h1), ra0, _, rfl, .inl ⟨SqL.of (un h3), fun ra nra => ?_⟩⟩
          have sr := Same.new nra (o := .tup (as.map V.ref))
          have dr := dG.same sr
          obtain ⟨dg, hdg⟩ := dG.there
          have nrd : ra ≠ d := (ne_of_none hdg nra).symm
          have zr := rules_z bk dn h4
          have las : as.length = rs.length := Paired.length h4
          exact KK (.ref ra) _ ⟨Kp.same sr, (Z.tup (n := 3) (k := 6) (Hm.of upd_same nrd) (fun x m => (zr x m).same (Same.hm sr)) (by rw [List.length_map, las]; exact rs6)).up (by decide), dr.more (by omega) (by omega)⟩
      case BB =>
        rintro rv G1 ⟨kv, zv, dv⟩
        have S1 := kv.hm
        refine ⟨_, rfl, p, .str g, rfl, pl_go ▸ DGet.k (k := .inr ("goal" : Str)) (un (S1 _ _ h1)), _, _, rfl, ?_⟩
        refine ⟨_, rfl, d, _, _, rfl, dv, by omega, by decide, by decide +kernel, fun r0 o r0_ r1_ d3 => ?_⟩
        have k3 : Kp d G (upd G1 d o) := kv.trans Kp.upd
        have z3 : Z D0 (Hm d (upd G1 d o)) 5 rv := zv.same (Kp.upd (d := d)).hm
        generalize upd G1 d o = G2 at d3 k3 z3 ⊢
        clear zv dv kv S1
        have gz : ∀ {H n}, Z D0 H n (.str g) := fun {H n} => Z.text (az_sok bk.goal) fun _ => dn.nts _ (.inl rfl)
        refine' joinV (Pr := fun v G' => Kp d G2 G' ∧ Z D0 (Hm d G') 1 v ∧ Dice G' d (k + 400 + 16 * i + 14)) (fun KK => ?AA) ?BB
        case AA =>
          refine ⟨rfl, _, rfl, ite2 (fun c => ?_) (fun c => ?_)⟩
          · refine ⟨_, rfl, by show 1 ≤ sizeLine; decide, fun t1 nt1 => ⟨by show 11 ≤ sizeLine; decide, fun L nL => ?_⟩⟩
            have sa := Same.new nt1 (o := .tup [V.str "r"])
            have sb := Same.new nL (o := .lst [V.non, .str "", .str "c", .str "a", .str "new", .int 0, .ref t1, .str "R", .str "goal", .str "abcdefgh", .str "abcdefghi"])
            obtain ⟨dg, hdg⟩ := d3.there
            have nLd : L ≠ d := (ne_of_none (sa _ _ hdg) nL).symm
            have nt1d : t1 ≠ d := (ne_of_none hdg nt1).symm
            have ht1 := sb _ _ (upd_same (a := t1) (o := .tup [V.str "r"]) (H := G2))
            refine ⟨d, L, _, _, rfl, nLd, .inl (SqL.of upd_same), by simp, by simp, d3.same (sa.trans sb), by omega, fun v o mv d4 => ?_⟩
            refine KK v _ ⟨(Kp.same (sa.trans sb)).trans Kp.upd, ?_, d4.more (by omega) (by omega)⟩
            have zt : ∀ {z : Str} {n : Nat} {H : Hp}, z ∈ goalT → Z D0 H n (.str z) := fun {z n H} m => Z.text (goal_sok z (by revert m; revert z; decide +kernel)) fun _ => gt z m
            have zb : ∀ {z : Str} {n : Nat} {H : Hp}, z ∈ [("" : Str), "R", "abcdefghi"] → Z D0 H n (.str z) := fun {z n H} m => Z.text (goal_sok z (by revert m; revert z; decide +kernel)) fun e => absurd e (by rw [goal_bad z m]; exact Bool.false_ne_true)
            have ztup : Z D0 (Hm d (upd (upd (upd G2 t1 (.tup [V.str "r"])) L (.lst [V.non, .str "", .str "c", .str "a", .str "new", .int 0, .ref t1, .str "R", .str "goal", .str "abcdefgh", .str "abcdefghi"])) d o)) 1 (.ref t1) := Z.tup (n := 0) (k := 1) (Hm.of (by rw [upd_ne nt1d]; exact ht1) nt1d) (fun x m => by
              rw [List.mem_singleton.mp m]
              exact Z.text (goal_sok _ (by decide +kernel)) fun _ => mt _ (by decide +kernel)) (by simp)
            simp only [List.mem_cons, List.not_mem_nil, or_false] at mv
            rcases mv with rfl | rfl | rfl | rfl | rfl | rfl | rfl | rfl | rfl | rfl | rfl
            · exact .non
            · exact zb (by decide +kernel)
            · exact zt (by decide +kernel)
            · exact zt (by decide +kernel)
            · exact zt (by decide +kernel)
            · exact .int 0 (by decide) (by decide +kernel)
            · exact ztup
            · exact zb (by decide +kernel)
            · exact zt (by decide +kernel)
            · exact zt (by decide +kernel)
            · exact zb (by decide +kernel)
          · exact KK (.str g) G2 ⟨Kp.refl _ _, gz, d3.more (by omega) (by omega)⟩
        case BB =>
          rintro gv G3 ⟨kg, zg, d4⟩
          have S3 := (k3.trans kg).hm
          have z4 := z3.same kg.hm
          have zr3 : Z D0 G3 5 rv := z4.same hm_le
          have zg3 : Z D0 G3 1 gv := zg.same hm_le
          refine' joinV (Pr := fun v G' => Same G3 G' ∧ ∃ b : Bool, (b = true ↔ BookV G3 l gv rv) ∧ v = .str (if b = true then "fine" else "book")) (fun KK => ?AA) ?BB
          case AA =>
            refine ⟨_, rfl, p, .ref la, rfl, pl_ar ▸ DGet.k (k := .inr ("arities" : Str)) (un (S3 _ _ h1)), _, rfl, _, rfl, gv, rv, D0, la, l, rfl, dn.few, zg3.ja 1, zr3.ja 3, un (S3 _ _ h2), bk.ops, fun b H' s hb => ?_⟩
            exact ⟨b, rfl, iteQ fun v hv => KK v H' ⟨s, b, hb, hv⟩⟩
          case BB =>
            rintro dv G4 ⟨s4, b, hb, rfl⟩
            have d5 := d4.same s4
            have zr4 := zr3.same s4
            have zg4 := zg3.same s4
            obtain ⟨tx, sh, lt⟩ := zr4.vd.sm
            refine ⟨_, rfl, rv, 5, tx, rfl, sh, by decide, Nat.le_trans lt (by rw [sizeLine_eq]; decide), ?_⟩
            have op4 : OpsAt G4 C x l' := ((opG.same S3).same hm_le).same s4
            refine ⟨_, rfl, _, rfl, _, rfl, .inr ⟨x, gv, rv, D0, l', rfl, op4, ok', dn.few, zg4.ja 1, zr4.ja 3, fun b' H' hb' s' => ?_⟩⟩
            have eb : b' = b := by
              have h1 : BookV G4 l' gv rv ↔ BookV G3 l gv rv := ⟨fun h => BookV.back (zr3.ja 3) s4 ((BookV.perm pm).mp h), fun h => (BookV.perm pm).mpr (BookV.up s4 h)⟩
              rw [h1] at hb'
              cases b' <;> cases b <;> simp_all
            subst eb
            have d6 := d5.same s'
            have zr5 := zr4.same s'
            have zg5 := zg4.same s'
            have S5 : Same (Hm d G) (Hm d H') := fun b o e => Same.hm s' _ _ (Same.hm s4 _ _ (S3 _ _ e))
            have k6 : Kp d G H' := ((k3.trans kg).trans (Kp.same s4)).trans (Kp.same s')
            refine ⟨_, rfl, rfl, _, rfl, if_false_of (by simp) ?_⟩
            refine ⟨_, rfl, rv, 5, tx, rfl, Sh.keep s' _ _ _ sh, by decide, Nat.le_trans lt (by rw [sizeLine_eq]; decide), _, rfl, rfl, _, rfl, if_false_of (by simp) ?_⟩
            clear zr3 zg3 op4 hb hb' zr4 zg4 d5 d4 zg z4 z3 d3 k3 kg s' s4 S3 sh
            -- the other first value
            have la6 := un (S5 _ _ h1)
            have ar6 := un (S5 _ _ h2)
            refine ⟨_, rfl, fun e1 ne1 => ⟨_, rfl, p, .ref la, rfl, pl_ar ▸ DGet.k (k := .inr ("arities" : Str)) ((Same.new ne1) _ _ la6), _, rfl, by show 1 ≤ sizeLine; decide, fun o1 no1 => ⟨by show 0 ≤ sizeLine; decide, fun t1 nt1 => ⟨by show 7 ≤ sizeLine; decide, fun L nL => ?_⟩⟩⟩⟩
            have w1 := Same.new ne1 (o := .dK [])
            have w2 := Same.new no1 (o := .lst [V.ref x])
            have w3 := Same.new nt1 (o := .tup [])
            have w4 := Same.new nL (o := .lst [V.non, .ref e1, .ref la, .int 0, .str "operators", .ref o1, .ref t1])
            have W1 := w1.trans (w2.trans (w3.trans w4))
            have He1 := (w2.trans (w3.trans w4)) _ _ (upd_same (a := e1) (o := .dK []) (H := H'))
            have Ho1 := (w3.trans w4) _ _ (upd_same (a := o1) (o := .lst [V.ref x]) (H := upd H' e1 (.dK [])))
            have Ht1 := w4 _ _ (upd_same (a := t1) (o := .tup []) (H := upd (upd H' e1 (.dK [])) o1 (.lst [V.ref x])))
            have Hla := W1 _ _ ar6
            obtain ⟨dg, hdg⟩ := d6.there
            have nLd : L ≠ d := ((ne_of_none ((w1.trans (w2.trans w3)) _ _ hdg) nL)).symm
            have no1d : o1 ≠ d := (ne_of_none (w1 _ _ hdg) no1).symm
            refine ⟨d, L, _, _, rfl, nLd, .inl (SqL.of upd_same), by simp, by simp, d6.same W1, by omega, fun v o mv d7 => ?_⟩
            have K7 : Kp d H' (upd (upd (upd (upd (upd H' e1 (.dK [])) o1 (.lst [V.ref x])) t1 (.tup [])) L (.lst [V.non, .ref e1, .ref la, .int 0, .str "operators", .ref o1, .ref t1])) d o) := (Kp.same W1).trans Kp.upd
            have up : ∀ {b : Addr} {u : HO}, b ≠ d → (upd (upd (upd (upd H' e1 (.dK [])) o1 (.lst [V.ref x])) t1 (.tup [])) L (.lst [V.non, .ref e1, .ref la, .int 0, .str "operators", .ref o1, .ref t1])) b = some u → (upd (upd (upd (upd (upd H' e1 (.dK [])) o1 (.lst [V.ref x])) t1 (.tup [])) L (.lst [V.non, .ref e1, .ref la, .int 0, .str "operators", .ref o1, .ref t1])) d o) b = some u := fun n e => by rw [upd_ne n]; exact e
            have nx_ : ∀ {b : Addr} {u : HO}, (upd (upd (upd (upd H' e1 (.dK [])) o1 (.lst [V.ref x])) t1 (.tup [])) L (.lst [V.non, .ref e1, .ref la, .int 0, .str "operators", .ref o1, .ref t1])) b = some u → (∀ zs, u ≠ .lst zs) → b ≠ d := fun {b u} e n q => by
              rw [q, W1 _ _ hdg] at e
              cases e
              exact n _ rfl
            have kd : ∃ ty, Kd (upd (upd (upd (upd (upd H' e1 (.dK [])) o1 (.lst [V.ref x])) t1 (.tup [])) L (.lst [V.non, .ref e1, .ref la, .int 0, .str "operators", .ref o1, .ref t1])) d o) v ty := by
              simp only [List.mem_cons, List.not_mem_nil, or_false] at mv
              rcases mv with rfl | rfl | rfl | rfl | rfl | rfl | rfl
              · exact ⟨_, .non⟩
              · exact ⟨_, .dK (up (nx_ He1 fun _ z => nomatch z) He1)⟩
              · exact ⟨_, .dK (up (nx_ Hla fun _ z => nomatch z) Hla)⟩
              · exact ⟨_, .int 0⟩
              · exact ⟨_, .str _⟩
              · exact ⟨_, .lst (up no1d Ho1)⟩
              · exact ⟨_, .tup (up (nx_ Ht1 fun _ z => nomatch z) Ht1)⟩
            clear up nx_ mv Hla Ht1 Ho1 He1
            generalize upd (upd (upd (upd (upd H' e1 (.dK [])) o1 (.lst [V.ref x])) t1 (.tup [])) L (.lst [V.non, .ref e1, .ref la, .int 0, .str "operators", .ref o1, .ref t1])) d o = H7 at d7 K7 kd ⊢
            obtain ⟨ty, kd⟩ := kd
            refine ⟨_, rfl, _, rfl, _, rfl, .inl ⟨v, gv, rv, ty, rfl, kd, fun H8 s8 => ⟨rfl, _, rfl, if_false_of (by simp) ?_⟩⟩⟩
            have K8 : Kp d H' H8 := K7.trans (Kp.same s8)
            exact ⟨_, _, _, _, _, _, rfl, (kG.trans k6).trans K8, (plG.same S5).same K8.hm, (opG.same S5).same K8.hm, (d7.same s8).more (by omega) (by omega)⟩
    · rintro σ G ⟨v3, v4, v5, v6, v7, v8, rfl, kG, plG, opG, dG⟩
      exact q G kG (dG.more (by omega) (by omega))
end
end Pr
namespace Pr
open PySem PySem.Spec PyProof.Rows L2 Gd
/-! ### law -/
def spLaw (K : PySem.W.Frag) : Sp := fun vs H Q _ => ∃ (a : Addr) (ns : List Int), vs = [.ref a] ∧ SqL K H a (ns.map V.int) ∧ ns.length ≤ 63 ∧ ∀ H', Q (.bl true) H'
def spots (n : Int) : Int := if (if n < 4 then n else 4) > 1 then (if n < 4 then n else 4) else 1
theorem spots_le (n : Int) : 1 ≤ spots n ∧ spots n ≤ 4 := by
  unfold spots
  split <;> split <;> omega
theorem Kp.seq2 {K : PySem.W.Frag} {d a : Addr} {H0 H1 H2 : Hp} {xs : List V} (nd : H0 d = none) (s : Same H0 H1) (k : Kp d H1 H2) (h : SqL K H0 a xs) : SqL K H2 a xs := by
  rcases h with (h | ⟨o, h⟩) | h
  · exact .inl (.inl (k _ _ (ne_of_none h nd) (s _ _ h)))
  · exact .inl (.inr ⟨o, k _ _ (ne_of_none h nd) (s _ _ h)⟩)
  · exact .inr h
theorem call_tupleK {X : Cx} {K : PySem.W.Frag} (h : X.K = K) : CallR X (.type "tuple") (fun xs H Q => ∃ p ys, xs = [.ref p] ∧ ((SqL K H p ys ∧ ∀ l, H l = none → Q (.ref l) (upd H l (.tup ys))) ∨ (SqT K H p ys ∧ Q (.ref p) H))) := h ▸ call_tuple_of
/-- fixed operators and rules -/
def lP : List (Str × Nat) := [("c", 0), ("s", 1), ("p", 2)]
theorem lP_ok : OpsOk lP := opB_ok (by decide +kernel)
theorem whB_of {f : Str → Nat} : ∀ (zs : List Str) (n : Nat), Wh f n zs → whB f n zs = true
  | [], n, h => decide_eq_true (p := n = 0) h
  | z :: zs, 0, h => h.elim
  | z :: zs, n + 1, h => whB_of zs _ h
def pa0 : List Str := ["s", "s", "s", "s", "s", "s", "r"]
def pa1 : List Str := ["s", "s", "s", "s", "s", "s", "s", "r"]
def pa2 : List Str := ["p", "r"]
def pa3 : List Str := ["p", "r", "r", "r"]
def pa4 : List Str := ["s", "p", "c", "r"]
def pa5 : List Str := ["r"]
def pa6 : List Str := ["a"]
def pats : List (List Str) := [pa0, pa1, pa2, pa3, pa4, pa5, pa6]
def fines : List Bool := [true, false, false, false, true, false, true]
def word (b : Bool) : Str := if b = true then "fine" else "book"
def patR (ws : List Str) : List Rl := [("r", 0, ws)]
theorem pat_bad {ws : List Str} (h : (decide (ws.length ≤ 7) && (decide (ws ≠ [("r" : Str)]) && whB (ar lP) 1 ws)) = false) : ¬ BkOk lP "r" (patR ws) := fun ok => by
  have r := ok.rules ("r", 0, ws) List.mem_cons_self
  have e1 : decide (ws.length ≤ 7) = true := decide_eq_true r.few
  have e2 : decide (ws ≠ [("r" : Str)]) = true := decide_eq_true r.other
  have e3 : whB (ar lP) 1 ws = true := whB_of _ _ r.whole
  rw [e1, e2, e3] at h
  cases h
theorem pat_ok : ∀ (i : Nat) (ws : List Str) (b : Bool), pats[i]? = some ws → fines[i]? = some b → (b = true ↔ BkOk lP "r" (patR ws)) := by
  intro i ws b h1 h2
  rcases i with _ | _ | _ | _ | _ | _ | _ | i
  · cases h1; cases h2
    exact ⟨fun _ => bkB_ok (D := ["r"]) (by decide +kernel), fun _ => rfl⟩
  · cases h1; cases h2
    exact ⟨fun e => (nomatch e), fun h => (pat_bad (by decide +kernel) h).elim⟩
  · cases h1; cases h2
    exact ⟨fun e => (nomatch e), fun h => (pat_bad (by decide +kernel) h).elim⟩
  · cases h1; cases h2
    exact ⟨fun e => (nomatch e), fun h => (pat_bad (by decide +kernel) h).elim⟩
  · cases h1; cases h2
    exact ⟨fun _ => bkB_ok (D := ["r"]) (by decide +kernel), fun _ => rfl⟩
  · cases h1; cases h2
    exact ⟨fun e => (nomatch e), fun h => (pat_bad (by decide +kernel) h).elim⟩
  · cases h1; cases h2
    exact ⟨fun _ => bkB_ok (D := ["r", "a"]) (by decide +kernel), fun _ => rfl⟩
  · cases h1
def ones : List Str := ["a", "r", "c", "n"]
def others : List Str := ["a", "n", "m"]
def rTwelve : List Rl := ones.flatMap fun one => others.map fun other => ("r", 0, ["p", one, other])
def rChain (z : Str) : List Rl := z.cps.toList.map fun c => ("r", 0, [("n" : Str) ++ (⟨#[c]⟩ : Str)])
theorem twelve_ok : BkOk lP "r" rTwelve := bkB_ok (D := ["r", "a", "n", "m"]) (by decide +kernel)
theorem thirteen_bad : ¬ BkOk lP "r" (rTwelve ++ patR ["c"]) := fun ok => by
  have : (rTwelve ++ patR ["c"]).length = 13 := rfl
  have := ok.few
  omega
theorem five_ok : BkOk lP "r" (rChain "abcde") := bkB_ok (D := ["r", "na", "nb", "nc", "nd", "ne"]) (by decide +kernel)
theorem six_bad : ¬ BkOk lP "r" (rChain "abcdef") := fun ok => by
  obtain ⟨D, hD, inD⟩ := ok.six
  have h : (["r", "na", "nb", "nc", "nd", "ne", "nf"] : List Str).length ≤ D.length := nodup_few (by decide +kernel) fun z m => inD z (by
    rcases List.mem_cons.mp m with rfl | m
    · exact .inl rfl
    · have key : ∀ z ∈ (["na", "nb", "nc", "nd", "ne", "nf"] : List Str), (∃ r ∈ rChain "abcdef", z ∈ r.2.2) ∧ z ∉ lP.map (·.1) := by decide +kernel
      obtain ⟨⟨r, mr, mz⟩, n⟩ := key z m
      exact .inr ⟨r, mr, .inr mz, n⟩)
  have e : (["r", "na", "nb", "nc", "nd", "ne", "nf"] : List Str).length = 7 := rfl
  omega
theorem none_ok : BkOk lP "r" [] := bkB_ok (D := ["r"]) (by decide +kernel)
theorem neL9 {K : PySem.W.Frag} {H : Hp} {x y : V} {Q : VK} {ds : List PyData} (hx : Dp K H x (.list ds)) (hy : Dp K H y (.list ds)) (hs : SeqAt.shaped (.list ds) = true) (q : Q (.bl false) H) : rNeD K x y H Q :=
  ⟨_, _, hx, hy, hs, hs, by rw [SeqAt.eqv_refl _ (SeqAt.canLay_of_shaped hs)]; exact q⟩
theorem eqL9 {K : PySem.W.Frag} {H : Hp} {x y : V} {Q : VK} {ds : List PyData} (hx : Dp K H x (.list ds)) (hy : Dp K H y (.list ds)) (hs : SeqAt.shaped (.list ds) = true) (q : Q (.bl true) H) : rEqD K x y H Q :=
  ⟨_, _, hx, hy, hs, hs, by rw [SeqAt.eqv_refl _ (SeqAt.canLay_of_shaped hs)]; exact q⟩
theorem fines_shaped : SeqAt.shaped (.list ((fines.map word).map strD)) = true := by decide +kernel
def tw (i : Nat) : List Rl := (ones.take i).flatMap fun one => others.map fun other => ("r", 0, ["p", one, other])
def oth (one : Str) (j : Nat) : List Rl := (others.take j).map fun other => ("r", 0, ["p", one, other])
theorem tw_more {i : Nat} {one : Str} (h : ones[i]? = some one) : tw (i + 1) = tw i ++ oth one 3 := by
  unfold tw oth
  rw [List.take_add_one, h, List.flatMap_append]
  simp [others]
theorem oth_more {one other : Str} {j : Nat} (h : others[j]? = some other) : oth one (j + 1) = oth one j ++ [((("r" : Str), 0, [("p" : Str), one, other]) : Rl)] := by
  unfold oth
  rw [List.take_add_one, h, List.map_append]
  rfl
theorem tw_len : ∀ i, (tw i).length ≤ 12 := by
  intro i
  have h : (tw i).length = 3 * (ones.take i).length := by
    unfold tw
    induction ones.take i with
    | nil => rfl
    | cons a l ih => rw [List.flatMap_cons, List.length_append, ih, List.length_cons]; simp [others]; omega
  rw [h, List.length_take]
  have : ones.length = 4 := rfl
  omega
theorem paired_app {α β : Type} {F : α → β → Prop} : ∀ {as : List α} {bs : List β} {cs : List α} {ds : List β}, Paired F as bs → Paired F cs ds → Paired F (as ++ cs) (bs ++ ds)
  | _, _, _, _, .nil, q => q
  | _, _, _, _, .cons h r, q => .cons h (paired_app r q)
def texts : List Str := ["abcde", "abcdef"]
def chn (z : Str) (i : Nat) : List Rl := (z.cps.toList.take i).map fun c => ("r", 0, [("n" : Str) ++ (⟨#[c]⟩ : Str)])
theorem chn_more {z : Str} {i c : Nat} (h : z.cps[i]? = some c) : chn z (i + 1) = chn z i ++ [((("r" : Str), 0, [("n" : Str) ++ (⟨#[c]⟩ : Str)]) : Rl)] := by
  unfold chn
  rw [List.take_add_one, Array.getElem?_toList, h, List.map_append]
  rfl
theorem chn_all (z : Str) : chn z z.cps.size = rChain z := by
  unfold chn rChain
  rw [List.take_of_length_le (by rw [Array.length_toList]; exact Nat.le_refl _)]
theorem len_two {α : Type} {l : List α} (h : l.length = 2) : ∃ a b, l = [a, b] := by
  match l, h with
  | [a, b], _ => exact ⟨a, b, rfl⟩
def nameT : List Str := ["r", "s", "p", "c", "a", "n", "m", "na", "nb", "nc", "nd", "ne", "nf"]
theorem nameT_short : ∀ z ∈ nameT, z.length ≤ 100000 := by decide +kernel
def rsB (rs : List Rl) : Bool := decide (rs.length ≤ 1000) && rs.all fun r => decide (r.1 ∈ nameT) && (decide (r.2.2.length ≤ 1000) && r.2.2.all fun z => decide (z ∈ nameT))
theorem met_at {C x r2 : Addr} {H : Hp} {l' : List (Str × Nat)} {rs : List Rl} {Q : VK} {E : XK} (op : OpsAt H C x l') (pm : l'.Perm lP) (ok' : OpsOk l') (hr : RulesAt H r2 rs) (hB : rsB rs = true) (q : ∀ (b : Bool) (H' : Hp), (b = true ↔ BkOk lP "r" rs) → Same H H' → Q (.str (word b)) H') :
    spMetNo [.ref x, .str "r", .ref r2] H Q E ∨ spMetOk C [.ref x, .str "r", .ref r2] H Q E := by
  unfold rsB at hB
  simp only [Bool.and_eq_true, List.all_eq_true, decide_eq_true_eq] at hB
  obtain ⟨as, h1, h2⟩ := hr.ex
  have las : as.length = rs.length := Paired.length h2
  refine .inr ⟨x, .str "r", .ref r2, nameT, l', rfl, op, ok', by decide, .text (nameT_short _ (by decide +kernel)) fun _ => by decide +kernel, ?_, fun b H' hb s' => q b H' (hb.trans ((BookV.perm pm).trans (BookV.iff hr))) s'⟩
  refine .tup h1 (by rw [List.length_map, las]; exact hB.1) fun v m => ?_
  obtain ⟨b, mb, rfl⟩ := List.mem_map.mp m
  obtain ⟨i, hi⟩ := List.mem_iff_getElem?.mp mb
  obtain ⟨r, hr', rat⟩ := pget9 h2 hi
  obtain ⟨m1, m2, m3⟩ := hB.2 r (List.mem_of_getElem? hr')
  obtain ⟨t, e1, e2⟩ := rat
  refine .tup e1 (by simp) fun v m => ?_
  rcases List.mem_cons.mp m with e | m
  · rw [e]; exact .text (nameT_short _ m1) fun _ => m1
  rcases List.mem_cons.mp m with e | m
  · rw [e]; exact .int _
  rw [List.mem_singleton.mp m]
  exact .words e2 m2 fun z mz => ⟨nameT_short _ (m3 z mz), fun _ => m3 z mz⟩
theorem patB : ∀ (i : Nat) (ws : List Str), pats[i]? = some ws → rsB (patR ws) = true := by
  intro i ws h
  have key : ∀ ws ∈ pats, rsB (patR ws) = true := by decide +kernel
  exact key ws (List.mem_of_getElem? h)
section
variable {P : Program} {w : World} {K : PySem.W.Frag} {mg : Str → Option Value} {base : Heap} {C fC fD fG fX : Addr} {dC dD dG dX : FuncData}
theorem scLaw : FnScope ["script", "spot", "dice", "turn", "ops", "patterns", "told", "twelve", "one", "chains", "pattern", "other", "letters", "letter"] ["script"] (defScope sLaw) := ⟨rfl, rfl, rfl, by decide +kernel, rfl, by decide +kernel, by decide +kernel⟩
theorem ok_law {f : Addr} {fd : FuncData} (F : Fun K "law" "law" sLaw f fd) (T : Free mg)
    (FD : Fun K "_law_dice" "_law_dice" sDice fD dD) (bD : Binds K dD ["script", "spot"] []) (gD : mg "_law_dice" = some (.ref fD))
    (MC : Mk K C fC) (gC : mg "Operators" = some (.ref C)) (GC : FnOk P w K mg base CX0 3 fC dC ["self", "arities"] (spInitV C)) (bC : Binds K dC ["self", "arities"] [])
    (GG : FnG P w K mg base CX0 8 fG dG ["dice"] spRight) (bG : Binds K dG ["dice"] []) (gG : mg "_law_right" = some (.ref fG)) (kG : PySem.W.keepIn K (.ref fG) = true)
    (GX : FnOk P w K mg base CX0 7 fX dX ["operators", "goal", "rules"] (fun vs H Q E => spMetNo vs H Q E ∨ spMetOk C vs H Q E)) (bX : Binds K dX ["operators", "goal", "rules"] []) (gX : mg "_law_met" = some (.ref fX)) (kX : PySem.W.keepIn K (.ref fX) = true) :
    FnG P w K mg base CX0 9 f fd ["script"] (spLaw K) := by
  have GD : FnOk P w K mg base CX0 1 fD dD ["script", "spot"] (spDice K) := ok_dice FD T
  refine FnG.ok F scLaw (fun vs H Q E h => ?_) (fun cdv A outer s H vs Q E hr gd h => ?_)
  · obtain ⟨a, ns, rfl, _⟩ := h
    rfl
  · obtain ⟨a, ns, rfl, hS, hlen, q⟩ := h
    have hu := hr.units
    have hu1 : ∀ {u : Nat}, u + 64 < cLine → u + 1 < cLine := fun h => by omega
    have r1 : Room 1 _ := hr.mono (by decide)
    have r4 : Room 4 _ := hr.mono (by decide)
    have r7 : Room 7 _ := hr.mono (by decide)
    refine ⟨_, (pss_cons (ps_for PassesOwn.never rfl (pi_range1 rfl T.range (pa_cons (pe_callB (call_max2 rfl) (by rfl) T.max (by decide +kernel) (pa_cons pe_int (pa_cons (pe_callB (call_min2 rfl) (by rfl) T.min (by decide +kernel) (pa_cons pe_int (pa_cons (pe_callB call_len_seq (by rfl) T.len PySem.boot_len (pa_cons (pv 0) pa_nil)) pa_nil))) pa_nil))) pa_nil)) (pg_name (i := 1) scLaw.nd rfl (.inl rfl)) (pss_cons (ps_set (i := 2) scLaw.nd rfl (.inl rfl) (pe_call GD r1 (by rfl) gD FD.kp bD .nil pass0 (pa_cons (pv 0) (pa_cons (pv 1) pa_nil)))) (pss_one (ps_for PassesOwn.never rfl (pi_range1 rfl T.range (pa_cons pe_int pa_nil)) (pg_name (i := 3) scLaw.nd rfl (.inl rfl)) (pss_one (ps_if (pt_not (pt_val (pe_callG GG hr gd (by rfl) gG kG bG pass0 (pa_cons (pv 2) pa_nil)))) (pss_one (ps_ret pe_bl)) pss_nil)))))) (pss_cons (ps_set (i := 4) scLaw.nd rfl (.inr rfl) (pe_make MC GC r4 rfl gC bC .nil pass0 (by exact (pa_cons (pe_disp (pps_cons pe_str pe_int (pps_cons pe_str pe_int (pps_cons pe_str pe_int pps_nil))) (by rfl) (by rfl) (fun z => by cases z) (by decide)) pa_nil)))) (pss_cons (ps_set (i := 5) scLaw.nd rfl (.inl rfl) (pe_lst (pa_cons (pe_op op_catU (pe_op op_repU (pe_tup (pa_cons pe_str pa_nil)) pe_int) (pe_tup (pa_cons pe_str pa_nil))) (pa_cons (pe_op op_catU (pe_op op_repU (pe_tup (pa_cons pe_str pa_nil)) pe_int) (pe_tup (pa_cons pe_str pa_nil))) (pa_cons (pe_tup (pa_cons pe_str (pa_cons pe_str pa_nil))) (pa_cons (pe_tup (pa_cons pe_str (pa_cons pe_str (pa_cons pe_str (pa_cons pe_str pa_nil))))) pa_nil)))))) (pss_cons (ps_set (i := 5) scLaw.nd rfl (.inl rfl) (pe_op op_cat (pv 5) (pe_lst (pa_cons (pe_tup (pa_cons pe_str (pa_cons pe_str (pa_cons pe_str (pa_cons pe_str pa_nil))))) (pa_cons (pe_tup (pa_cons pe_str pa_nil)) (pa_cons (pe_tup (pa_cons pe_str pa_nil)) pa_nil)))))) (pss_cons (ps_setLc (i := 6) (own := [("pattern", 10)]) (g := gName 10) (by rfl) scLaw.nd rfl rfl (sw_true rfl rfl rfl (by decide +kernel)) (pi_list (pv 5)) (blkOk_by (own := [("pattern", 10)]) (N := ["script", "spot", "dice", "turn", "ops", "patterns", "told", "twelve", "one", "chains", "pattern", "other", "letters", "letter"]) (sc := defScope sLaw) (by decide +kernel)) (fun _ _ _ _ _ => pg_name (i := 10) scLaw.nd rfl (.inl rfl)) (fun _ _ _ _ _ => pts_nil) (fun _ _ _ _ _ => pe_call GX r7 (by rfl) gX kX bX .nil pass0 (pa_cons (pv 4) (pa_cons pe_str (pa_cons (pe_tup (pa_cons (pe_tup (pa_cons pe_str (pa_cons pe_int (pa_cons (pv 10) pa_nil)))) pa_nil)) pa_nil))))) (pss_cons (ps_if (pt_cmpR (op_neD hu) (pv 6) (pe_lst (pa_cons pe_str (pa_cons pe_str (pa_cons pe_str (pa_cons pe_str (pa_cons pe_str (pa_cons pe_str (pa_cons pe_str pa_nil)))))))) (nomark _)) (pss_one (ps_ret pe_bl)) pss_nil) (pss_cons (ps_set (i := 7) scLaw.nd rfl (.inl rfl) (pe_lst pa_nil)) (pss_cons (ps_for PassesOwn.never rfl (pi_tup (pe_tup (pa_cons pe_str (pa_cons pe_str (pa_cons pe_str (pa_cons pe_str pa_nil)))))) (pg_name (i := 8) scLaw.nd rfl (.inr rfl)) (pss_one (ps_set (i := 7) scLaw.nd rfl (.inl rfl) (pe_op op_cat (pv 7) (pe_lc (own := [("other", 11)]) (g := gName 11) (by rfl) scLaw.nd (pi_tup (pe_tup (pa_cons pe_str (pa_cons pe_str (pa_cons pe_str pa_nil))))) (blkOk_by (own := [("other", 11)]) (N := ["script", "spot", "dice", "turn", "ops", "patterns", "told", "twelve", "one", "chains", "pattern", "other", "letters", "letter"]) (sc := defScope sLaw) (by decide +kernel)) (fun _ _ _ _ _ => pg_name (i := 11) scLaw.nd rfl (.inl rfl)) (fun _ _ _ _ _ => pts_nil) (fun _ _ _ _ _ => pe_tup (pa_cons pe_str (pa_cons pe_int (pa_cons (pe_tup (pa_cons pe_str (pa_cons (pv 8) (pa_cons (pv 11) pa_nil)))) pa_nil))))))))) (pss_cons (ps_set (i := 7) scLaw.nd rfl (.inl rfl) (pe_callTy call_tuple_of (by rfl) T.tuple (by decide +kernel) (pa_cons (pv 7) pa_nil))) (pss_cons (ps_setLc (i := 9) (own := [("letters", 12)]) (g := gName 12) (by rfl) scLaw.nd rfl rfl (sw_true rfl rfl rfl (by decide +kernel)) (pi_tup (pe_tup (pa_cons pe_str (pa_cons pe_str pa_nil)))) (blkOk_by (own := [("letters", 12)]) (N := ["script", "spot", "dice", "turn", "ops", "patterns", "told", "twelve", "one", "chains", "pattern", "other", "letters", "letter"]) (sc := defScope sLaw) (by decide +kernel)) (fun _ _ _ _ _ => pg_name (i := 12) scLaw.nd rfl (.inl rfl)) (fun _ _ _ _ _ => pts_nil) (fun _ _ _ _ _ => pe_callTy (call_tupleK (K := K) rfl) (by rfl) T.tuple (by decide +kernel) (pa_cons (pe_lc (own := [("letter", 13)]) (g := gName 13) (by rfl) scLaw.nd (pi_str (pv 12)) (blkOk_by (own := [("letter", 13)]) (N := ["script", "spot", "dice", "turn", "ops", "patterns", "told", "twelve", "one", "chains", "pattern", "other", "letters", "letter"]) (by rfl)) (fun _ _ _ _ _ => pg_name (i := 13) scLaw.nd rfl (.inl rfl)) (fun _ _ _ _ _ => pts_nil) (fun _ _ _ _ _ => pe_tup (pa_cons pe_str (pa_cons pe_int (pa_cons (pe_tup (pa_cons (pe_op op_add_str pe_str (pv 13)) pa_nil)) pa_nil))))) pa_nil))) (pss_cons (ps_set (i := 6) scLaw.nd rfl (.inl rfl) (pe_lst (pa_cons (pe_call GX r7 (by rfl) gX kX bX .nil pass0 (pa_cons (pv 4) (pa_cons pe_str (pa_cons (pv 7) pa_nil)))) (pa_cons (pe_call GX r7 (by rfl) gX kX bX .nil pass0 (pa_cons (pv 4) (pa_cons pe_str (pa_cons (pe_op op_catU (pv 7) (pe_tup (pa_cons (pe_tup (pa_cons pe_str (pa_cons pe_int (pa_cons (pe_tup (pa_cons pe_str pa_nil)) pa_nil)))) pa_nil))) pa_nil)))) pa_nil)))) (pss_cons (ps_set (i := 6) scLaw.nd rfl (.inl rfl) (pe_op op_cat (pv 6) (pe_lst (pa_cons (pe_call GX r7 (by rfl) gX kX bX .nil pass0 (pa_cons (pv 4) (pa_cons pe_str (pa_cons (pe_ix ix_list (pv 9) pe_int (fun _ _ => rfl)) pa_nil)))) (pa_cons (pe_call GX r7 (by rfl) gX kX bX .nil pass0 (pa_cons (pv 4) (pa_cons pe_str (pa_cons (pe_ix ix_list (pv 9) pe_int (fun _ _ => rfl)) pa_nil)))) (pa_cons (pe_call GX r7 (by rfl) gX kX bX .nil pass0 (pa_cons (pv 4) (pa_cons pe_str (pa_cons (pe_tup pa_nil) pa_nil)))) pa_nil)))))) (pss_one (ps_ret (pe_cmpR (op_eqD hu) (pv 6) (pe_lst (pa_cons pe_str (pa_cons pe_str (pa_cons pe_str (pa_cons pe_str (pa_cons pe_str pa_nil)))))) (nomark _)))))))))))))))), ?_⟩
    have sl := spots_le (ns.map V.int).length
    refine ⟨_, rfl, a, _, rfl, .inl hS, _, _, rfl, _, _, rfl, _, rfl, by show -(2 ^ 62) ≤ spots _; omega, by show spots _ < 2 ^ 62; omega, ?_⟩
    refine for_range (lo := 0) (n := (spots (ns.map V.int).length).toNat) (fun i σ H' => ∃ v1 v2 v3 : Option V, σ = [some (.ref a), v1, v2, v3, none, none, none, none, none, none, none, none, none, none] ∧ SqL K H' a (ns.map V.int))
      ⟨none, none, none, rfl, hS⟩ ?_ ?_
    · rintro i σ H0 hi ⟨v1, v2, v3, rfl, hS0⟩
      have hi' : i < 64 := by omega
      refine ⟨_, rfl, _, rfl, a, ns, i, by simp, hS0, hi', fun d H1 nd s1 di => ?_⟩
      refine ⟨_, rfl, by decide, by decide, ?_⟩
      refine for_range (lo := 0) (n := 2) (fun j σ G => ∃ v3 : Option V, σ = [some (.ref a), some (.int (0 + (i : Int))), some (.ref d), v3, none, none, none, none, none, none, none, none, none, none] ∧ Kp d H1 G ∧ Dice G d (1000 * j))
        ⟨_, rfl, Kp.refl _ _, di⟩ ?_ ?_
      · rintro j σ G hj ⟨v3, rfl, kG, dG⟩
        refine ⟨_, rfl, d, 1000 * j, rfl, dG, by omega, fun H' k' d' => ⟨_, rfl, if_false_of rfl ⟨_, rfl, kG.trans k', d'⟩⟩⟩
      · rintro σ G ⟨v3, rfl, kG, dG⟩
        exact ⟨_, _, _, rfl, Kp.seq2 nd s1 kG hS0⟩
    · rintro σ H0 ⟨v1, v2, v3, rfl, hS0⟩
      refine fun p0 np0 => ?_
      refine ⟨upd_same, [(.inr "c", .int 0), (.inr "s", .int 1), (.inr "p", .int 2)], rfl, by decide, fun x dx nx ndx ne => ?_⟩
      have hp0 : (upd (upd H0 p0 (.dK [])) p0 (.dK (mergeK [] [((.inr "c" : Key), V.int 0), (.inr "s", .int 1), (.inr "p", .int 2)]))) p0 = some (.dK (dkv lP)) := upd_same
      generalize upd (upd H0 p0 (.dK [])) p0 _ = B0 at hp0 nx ndx ⊢
      refine ⟨x, dx, p0, lP, rfl, upd_same, made_same0 (C := C) nx ndx _ _ hp0, lP_ok, fun l' ta B1 pm srt kp op fa nta => ⟨rfl, ?_⟩⟩
      have ok' : OpsOk l' := ⟨by rw [pm.length_eq]; exact lP_ok.few, (pm.map _).nodup_iff.mpr lP_ok.nd, fun x m => lP_ok.name x (pm.mem_iff.mp m), fun x m => lP_ok.two x (pm.mem_iff.mp m)⟩
      clear kp fa nta nx ndx hp0 np0
      -- patterns
      refine ⟨by show 1 ≤ sizeLine; decide, fun b1 n1 => ⟨b1, 6, _, rfl, rfl, upd_same, by simp, by decide, by decide, by decide, fun b2 G2 s2 h2 => ⟨by show 1 ≤ sizeLine; decide, fun b3 n3 => ⟨b2, b3, _, _, rfl, rfl, (Same.new n3) _ _ h2, upd_same, by show 7 ≤ sizeLine; decide, fun q0 G4 s4 h4 => ?_⟩⟩⟩⟩
      have t1 : Same B1 G4 := (((Same.new n1).trans s2).trans (Same.new n3)).trans s4
      have e0 : G4 q0 = some (.tup (pa0.map V.str)) := h4
      clear n1 n3 s2 s4 h2 h4
      refine ⟨by show 1 ≤ sizeLine; decide, fun b1 n1 => ⟨b1, 7, _, rfl, rfl, upd_same, by simp, by decide, by decide, by decide, fun b2 G2 s2 h2 => ⟨by show 1 ≤ sizeLine; decide, fun b3 n3 => ⟨b2, b3, _, _, rfl, rfl, (Same.new n3) _ _ h2, upd_same, by show 8 ≤ sizeLine; decide, fun q1 G5 s4 h4 => ?_⟩⟩⟩⟩
      have t2 : Same G4 G5 := (((Same.new n1).trans s2).trans (Same.new n3)).trans s4
      have e1 : G5 q1 = some (.tup (pa1.map V.str)) := h4
      clear n1 n3 s2 s4 h2 h4
      refine ⟨by show 2 ≤ sizeLine; decide, fun q2 n2 => ⟨by show 4 ≤ sizeLine; decide, fun q3 n3 => ⟨by show 4 ≤ sizeLine; decide, fun L1 nL1 => ?_⟩⟩⟩
      have u1 := Same.new n2 (o := .tup (pa2.map V.str))
      have u2 := Same.new n3 (o := .tup (pa3.map V.str))
      have u3 := Same.new nL1 (o := .lst [V.ref q0, .ref q1, .ref q2, .ref q3])
      refine ⟨_, rfl, by show 4 ≤ sizeLine; decide, fun q4 n4 => ⟨by show 1 ≤ sizeLine; decide, fun q5 n5 => ⟨by show 1 ≤ sizeLine; decide, fun q6 n6 => ⟨by show 3 ≤ sizeLine; decide, fun L2_ nL2 => ?_⟩⟩⟩⟩
      have u4 := Same.new n4 (o := .tup (pa4.map V.str))
      have u5 := Same.new n5 (o := .tup (pa5.map V.str))
      have u6 := Same.new n6 (o := .tup (pa6.map V.str))
      have u7 := Same.new nL2 (o := .lst [V.ref q4, .ref q5, .ref q6])
      refine ⟨L1, L2_, _, _, rfl, rfl, (u4.trans (u5.trans (u6.trans u7))) _ _ upd_same, upd_same, by show 7 ≤ sizeLine; decide, fun L nL => ?_⟩
      have u8 := Same.new nL (o := .lst ([V.ref q0, .ref q1, .ref q2, .ref q3] ++ [V.ref q4, .ref q5, .ref q6]))
      have v7 := u8
      have v6 := u7.trans v7
      have v5 := u6.trans v6
      have v4 := u5.trans v5
      have v3' := u4.trans v4
      have v2' := u3.trans v3'
      have v1' := u2.trans v2'
      have v0 := u1.trans v1'
      have f0 := v0 _ _ (t2 _ _ e0)
      have f1 := v0 _ _ e1
      have f2 := v1' _ _ (upd_same (a := q2) (o := .tup (pa2.map V.str)))
      have f3 := v2' _ _ (upd_same (a := q3) (o := .tup (pa3.map V.str)))
      have f4 := v4 _ _ (upd_same (a := q4) (o := .tup (pa4.map V.str)))
      have f5 := v5 _ _ (upd_same (a := q5) (o := .tup (pa5.map V.str)))
      have f6 := v6 _ _ (upd_same (a := q6) (o := .tup (pa6.map V.str)))
      have sB := t1.trans (t2.trans v0)
      clear u1 u2 u3 u4 u5 u6 u7 u8 v0 v1' v2' v3' v4 v5 v6 v7 t1 t2 e0 e1 n2 n3 n4 n5 n6 nL1 nL2
      have opL := op.same sB
      have hS1 := hS0
      generalize hG : upd _ L (HO.lst ([V.ref q0, .ref q1, .ref q2, .ref q3] ++ [V.ref q4, .ref q5, .ref q6])) = G at f0 f1 f2 f3 f4 f5 f6 opL ⊢
      have hL : G L = some (.lst [.ref q0, .ref q1, .ref q2, .ref q3, .ref q4, .ref q5, .ref q6]) := by
        rw [← hG]
        exact upd_same
      clear hG sB op hS1 hS0
      have pt : ∀ (i : Nat) (v : V), [V.ref q0, .ref q1, .ref q2, .ref q3, .ref q4, .ref q5, .ref q6][i]? = some v → ∃ q ws b, v = .ref q ∧ G q = some (.tup (ws.map V.str)) ∧ pats[i]? = some ws ∧ fines[i]? = some b := by
        intro i v h
        rcases i with _ | _ | _ | _ | _ | _ | _ | i
        · cases h; exact ⟨_, _, _, rfl, f0, rfl, rfl⟩
        · cases h; exact ⟨_, _, _, rfl, f1, rfl, rfl⟩
        · cases h; exact ⟨_, _, _, rfl, f2, rfl, rfl⟩
        · cases h; exact ⟨_, _, _, rfl, f3, rfl, rfl⟩
        · cases h; exact ⟨_, _, _, rfl, f4, rfl, rfl⟩
        · cases h; exact ⟨_, _, _, rfl, f5, rfl, rfl⟩
        · cases h; exact ⟨_, _, _, rfl, f6, rfl, rfl⟩
        · cases h
      clear f0 f1 f2 f3 f4 f5 f6
      generalize hxs : [V.ref q0, V.ref q1, .ref q2, .ref q3, .ref q4, .ref q5, .ref q6] = xs at hL pt
      have lxs : xs.length = 7 := by
        rw [← hxs]
        rfl
      clear hxs
      refine ⟨_, rfl, L, rfl, ⟨_, SqL.of hL⟩, fun D nD => ?_⟩
      refine lc_list (K := K) (a := L) (xs := xs) (fun i G' => G' D = some (.lst (((fines.map word).take i).map V.str)) ∧ Same G G') ⟨upd_same, Same.new nD⟩ (fun i G' _ ⟨_, s⟩ => SqL.of (s _ _ hL)) ?_ ?_
      · rintro i v G1 hv ⟨eD, s⟩
        obtain ⟨qa, ws, b, rfl, hq, hp, hf⟩ := pt i v hv
        have i7 : i < 7 := by
          rw [← lxs]
          exact (List.getElem?_eq_some_iff.mp hv).1
        refine ⟨rfl, _, rfl, _, rfl, by show 3 ≤ sizeLine; decide, fun r1 nr1 => ⟨by show 1 ≤ sizeLine; decide, fun r2 nr2 => ?_⟩⟩
        have w1 := Same.new nr1 (o := .tup [V.str "r", .int 0, .ref qa])
        have w2 := Same.new nr2 (o := .tup [V.ref r1])
        have hr1 := w2 _ _ (upd_same (a := r1) (o := .tup [V.str "r", .int 0, .ref qa]) (H := G1))
        have ra : RulesAt (upd (upd G1 r1 (.tup [V.str "r", .int 0, .ref qa])) r2 (.tup [V.ref r1])) r2 (patR ws) := ⟨[r1], upd_same, .cons ⟨qa, hr1, (w1.trans w2) _ _ (s _ _ hq)⟩ .nil⟩
        refine met_at (opL.same (s.trans (w1.trans w2))) pm ok' ra (patB i ws hp) fun b' H' hb' s' => ?_
        have eb : b' = b := by
          have h2 := pat_ok i ws b hp hf
          cases b' <;> cases b <;> simp_all
        subst eb
        have sH := (w1.trans w2).trans s'
        refine ⟨_, sH _ _ eD, by rw [List.length_map, sizeLine_eq, List.length_take]; omega, ?_, fun c o e => ?_⟩
        · rw [upd_same, List.take_add_one, List.map_append, List.getElem?_map, hf]
          rfl
        · rw [upd_ne (ne_of_none e nD)]
          exact sH _ _ (s _ _ e)
      · rintro G1 ⟨eD, s⟩
        rw [lxs] at eD
        have eD : G1 D = some (.lst ((fines.map word).map V.str)) := eD
        refine ⟨_, rfl, by show 7 ≤ sizeLine; decide, fun L7 nL7 => ?_⟩
        have w7 := Same.new nL7 (o := .lst [V.str "fine", .str "book", .str "book", .str "book", .str "fine", .str "book", .str "fine"])
        have hL7 : (upd G1 L7 (.lst [V.str "fine", .str "book", .str "book", .str "book", .str "fine", .str "book", .str "fine"])) L7 = some (.lst ((fines.map word).map V.str)) := upd_same
        have eD7 := w7 _ _ eD
        have op1 := (opL.same s).same w7
        generalize upd G1 L7 _ = G2 at hL7 eD7 op1 ⊢
        refine neL9 (.lst (SqL.of eD7) (dp_strs _)) (.lst (SqL.of hL7) (dp_strs _)) fines_shaped ⟨_, rfl, if_false_of rfl ?_⟩
        -- twelve
        refine ⟨by show 0 ≤ sizeLine; decide, fun T0 nT0 => ⟨by show 4 ≤ sizeLine; decide, fun oa noa => ⟨oa, rfl, ⟨_, SqT.of upd_same⟩, ?_⟩⟩⟩
        have w1 := Same.new nT0 (o := .lst [])
        have w2 := Same.new noa (o := .tup (ones.map V.str))
        have hT0 := w2 _ _ (upd_same (a := T0) (o := .lst []) (H := G2))
        have hoa : (upd (upd G2 T0 (.lst [])) oa (.tup (ones.map V.str))) oa = some (.tup (ones.map V.str)) := upd_same
        have op2 := op1.same (w1.trans w2)
        clear eD hL7 eD7 opL op1 w1 w2 w7 nL7 nT0 noa pt lxs hL nD s
        show (∃ W : Nat → Nat → L2.St → Hp → Prop, _)
        generalize hG3 : upd (upd G2 T0 (.lst [])) oa _ = G3
        have hT0 : G3 T0 = some (.lst []) := by rw [← hG3]; exact hT0
        have hoa : G3 oa = some (.tup (ones.map V.str)) := by rw [← hG3]; exact upd_same
        have op2 : OpsAt G3 C x l' := by rw [← hG3]; exact op2
        clear hG3
        refine for_tup (K := K) (a := oa) (xs := ones.map V.str) (fun i σ G => ∃ (v8 : Option V) (T : Addr) (as : List Addr), σ = [some (.ref a), v1, v2, v3, some (.ref x), some (.ref L), some (.ref D), some (.ref T), v8, none, none, none, none, none] ∧ G T = some (.lst (as.map V.ref)) ∧ Paired (fun b r => RuleAt G b r) as (tw i) ∧ Same G3 G)
          ⟨_, T0, [], rfl, hT0, .nil, Same.refl _⟩ (fun i σ G _ ⟨_, _, _, _, _, _, s⟩ => SqT.of (s _ _ hoa)) ?_ ?_
        · rintro i v σ G hv ⟨v8, T, as, rfl, hT, pr, s⟩
          obtain ⟨one, h1, rfl⟩ := str_at hv
          have i4 : i < 4 := (List.getElem?_eq_some_iff.mp h1).1
          refine ⟨_, rfl, by show 3 ≤ sizeLine; decide, fun ob nob => ⟨ob, rfl, ⟨_, SqT.of upd_same⟩, fun D2 nD2 => ?_⟩⟩
          have w1 := Same.new nob (o := .tup (others.map V.str))
          have hob : (upd G ob (.tup (others.map V.str))) ob = some (.tup (others.map V.str)) := upd_same
          have hT1 := w1 _ _ hT
          have pr1 := paired_map (fun b r (k : RuleAt G b r) => k.same w1) pr
          have s1 := s.trans w1
          refine lc_tup (K := K) (a := ob) (xs := others.map V.str) (fun j G' => ∃ bs : List Addr, G' D2 = some (.lst (bs.map V.ref)) ∧ Paired (fun b r => RuleAt G' b r) bs (oth one j) ∧ Same (upd G ob (.tup (others.map V.str))) G') ⟨[], upd_same, .nil, Same.new nD2⟩ (fun j G' _ ⟨_, _, _, s⟩ => SqT.of (s _ _ hob)) ?_ ?_
          · rintro j v G4 hv ⟨bs, eD, pb, s4⟩
            obtain ⟨other, h2, rfl⟩ := str_at hv
            have j3 : j < 3 := (List.getElem?_eq_some_iff.mp h2).1
            have lb : bs.length ≤ 3 := by
              rw [Paired.length pb]
              unfold oth
              rw [List.length_map, List.length_take]
              omega
            refine ⟨rfl, _, rfl, _, rfl, by show 3 ≤ sizeLine; decide, fun p1 np1 => ⟨by show 3 ≤ sizeLine; decide, fun p2 np2 => ?_⟩⟩
            have y1 := Same.new np1 (o := .tup [V.str "p", .str one, .str other])
            have y2 := Same.new np2 (o := .tup [V.str "r", .int 0, .ref p1])
            have hp1 := y2 _ _ (upd_same (a := p1) (o := .tup [V.str "p", .str one, .str other]) (H := G4))
            have hp2 : (upd (upd G4 p1 (.tup [V.str "p", .str one, .str other])) p2 (.tup [V.str "r", .int 0, .ref p1])) p2 = some (.tup [V.str "r", .int 0, .ref p1]) := upd_same
            have y12 := y1.trans y2
            generalize upd (upd G4 p1 _) p2 _ = G5 at hp1 hp2 y12 ⊢
            have eD5 := y12 _ _ eD
            have nl : ∀ {b : Addr} {xs : List V}, G5 b = some (.tup xs) → (upd G5 D2 (.lst (bs.map V.ref ++ [V.ref p2]))) b = some (.tup xs) := fun {b xs} e => by
              rw [upd_ne (fun c => by rw [c, eD5] at e; cases e)]
              exact e
            refine ⟨_, eD5, by rw [List.length_map, sizeLine_eq]; omega, bs ++ [p2], by rw [upd_same, List.map_append]; rfl, ?_, fun b o e => by rw [upd_ne (ne_of_none e nD2)]; exact y12 _ _ (s4 _ _ e)⟩
            rw [oth_more h2]
            refine paired_app (paired_map (fun b r ⟨t, e1, e2⟩ => ⟨t, nl (y12 _ _ e1), nl (y12 _ _ e2)⟩) pb) (.cons ⟨p1, nl hp2, nl hp1⟩ .nil)
          · rintro G4 ⟨bs, eD, pb, s4⟩
            have lb : bs.length = 3 := by
              rw [Paired.length pb]
              rfl
            have la_ : as.length ≤ 12 := by
              rw [Paired.length pr]
              exact tw_len i
            refine ⟨T, D2, _, _, rfl, rfl, s4 _ _ hT1, eD, by rw [List.length_map, List.length_map, sizeLine_eq]; omega, fun p np => ?_⟩
            have y := Same.new np (o := .lst (as.map V.ref ++ bs.map V.ref))
            refine ⟨_, p, as ++ bs, rfl, by rw [upd_same, List.map_append], ?_, s1.trans (s4.trans y)⟩
            rw [tw_more h1]
            exact paired_app (paired_map (fun b r k => RuleAt.same k (s4.trans y)) pr1) (paired_map (fun b r k => RuleAt.same k y) pb)
        · rintro σ G ⟨v8, T, as, rfl, hT, pr, s⟩
          have la_ : as.length = 12 := by
            rw [Paired.length pr]
            rfl
          refine ⟨_, rfl, T, _, rfl, .inl ⟨SqL.of hT, fun t12 nt12 => ?_⟩⟩
          have y := Same.new nt12 (o := .tup (as.map V.ref))
          have r12 : RulesAt (upd G t12 (.tup (as.map V.ref))) t12 rTwelve := ⟨as, upd_same, paired_map (fun b r k => RuleAt.same k y) pr⟩
          have op3 := (op2.same s).same y
          clear hT pr s y nt12 op2 hT0 hoa
          generalize upd G t12 (.tup (as.map V.ref)) = G4 at r12 op3 ⊢
          -- chains
          refine ⟨by show 2 ≤ sizeLine; decide, fun oc noc => ⟨oc, rfl, ⟨_, SqT.of upd_same⟩, fun D3 nD3 => ?_⟩⟩
          have w1 := Same.new noc (o := .tup (texts.map V.str))
          have hoc : (upd G4 oc (.tup (texts.map V.str))) oc = some (.tup (texts.map V.str)) := upd_same
          have r12 := r12.same w1
          have op4 := op3.same w1
          clear op3
          refine lc_tup (K := K) (a := oc) (xs := texts.map V.str) (fun j G' => ∃ acc : List V, G' D3 = some (.lst acc) ∧ acc.length = j ∧ (∀ (m : Nat) (v : V), acc[m]? = some v → ∃ q z, v = .ref q ∧ texts[m]? = some z ∧ RulesAt G' q (rChain z)) ∧ Same (upd G4 oc (.tup (texts.map V.str))) G') ⟨[], upd_same, rfl, (fun m v e => by cases e), Same.new nD3⟩ (fun j G' _ ⟨_, _, _, _, s⟩ => SqT.of (s _ _ hoc)) ?_ ?_
          · rintro j v G5 hv ⟨acc, eD, lacc, ch, s5⟩
            obtain ⟨z, h2, rfl⟩ := str_at hv
            have j2 : j < 2 := (List.getElem?_eq_some_iff.mp h2).1
            have z6 : z.cps.size ≤ 6 := by
              have key : ∀ z ∈ texts, z.cps.size ≤ 6 := by decide +kernel
              exact key z (List.mem_of_getElem? h2)
            refine ⟨rfl, _, rfl, z, rfl, fun D4 nD4 => ?_⟩
            refine lc_signs (x := z) (fun i G' => ∃ bs : List Addr, G' D4 = some (.lst (bs.map V.ref)) ∧ Paired (fun b r => RuleAt G' b r) bs (chn z i) ∧ Same G5 G') ⟨[], upd_same, by unfold chn; rw [List.take_zero]; exact .nil, Same.new nD4⟩ ?_ ?_
            · rintro i c G6 hc ⟨bs, eD4, pb, s6⟩
              have i6 : i < 6 := Nat.lt_of_lt_of_le (Array.getElem?_eq_some_iff.mp hc).1 z6
              have lb : bs.length ≤ 6 := by
                rw [Paired.length pb]
                unfold chn
                rw [List.length_map, List.length_take]
                omega
              refine ⟨rfl, _, rfl, _, _, rfl, rfl, Nat.le_of_ble_eq_true rfl, by show 1 ≤ sizeLine; decide, fun p1 np1 => ⟨by show 3 ≤ sizeLine; decide, fun p2 np2 => ?_⟩⟩
              have y1 := Same.new np1 (o := .tup [V.str (("n" : Str) ++ (⟨#[c]⟩ : Str))])
              have y2 := Same.new np2 (o := .tup [V.str "r", .int 0, .ref p1])
              have hp1 := y2 _ _ (upd_same (a := p1) (o := .tup [V.str (("n" : Str) ++ (⟨#[c]⟩ : Str))]) (H := G6))
              have hp2 : (upd (upd G6 p1 (.tup [V.str (("n" : Str) ++ (⟨#[c]⟩ : Str))])) p2 (.tup [V.str "r", .int 0, .ref p1])) p2 = some (.tup [V.str "r", .int 0, .ref p1]) := upd_same
              have y12 := y1.trans y2
              generalize upd (upd G6 p1 _) p2 _ = G7 at hp1 hp2 y12 ⊢
              have eD5 := y12 _ _ eD4
              have nl : ∀ {b : Addr} {xs : List V}, G7 b = some (.tup xs) → (upd G7 D4 (.lst (bs.map V.ref ++ [V.ref p2]))) b = some (.tup xs) := fun {b xs} e => by
                rw [upd_ne (fun c => by rw [c, eD5] at e; cases e)]
                exact e
              refine ⟨_, eD5, by rw [List.length_map, sizeLine_eq]; omega, bs ++ [p2], by rw [upd_same, List.map_append]; rfl, ?_, fun b o e => by rw [upd_ne (ne_of_none e nD4)]; exact y12 _ _ (s6 _ _ e)⟩
              rw [chn_more hc]
              exact paired_app (paired_map (fun b r ⟨t, e1, e2⟩ => ⟨t, nl (y12 _ _ e1), nl (y12 _ _ e2)⟩) pb) (.cons ⟨p1, nl hp2, nl hp1⟩ .nil)
            · rintro G6 ⟨bs, eD4, pb, s6⟩
              rw [chn_all] at pb
              refine ⟨D4, _, rfl, .inl ⟨SqL.of eD4, fun q nq => ?_⟩⟩
              have y := Same.new nq (o := .tup (bs.map V.ref))
              have rq : RulesAt (upd G6 q (.tup (bs.map V.ref))) q (rChain z) := ⟨bs, upd_same, paired_map (fun b r k => RuleAt.same k y) pb⟩
              have s7 := s6.trans y
              generalize upd G6 q (.tup (bs.map V.ref)) = G7 at rq s7 ⊢
              have eD7 := s7 _ _ eD
              have up : ∀ {q : Addr} {rs : List Rl}, RulesAt G7 q rs → RulesAt (upd G7 D3 (.lst (acc ++ [V.ref q]))) q rs → True := fun _ _ => trivial
              have nl : ∀ {q' : Addr} {b : Addr} {xs : List V}, G7 b = some (.tup xs) → (upd G7 D3 (.lst (acc ++ [V.ref q']))) b = some (.tup xs) := fun {q' b xs} e => by
                rw [upd_ne (fun c => by rw [c, eD7] at e; cases e)]
                exact e
              have upR : ∀ {q' q : Addr} {rs : List Rl}, RulesAt G7 q rs → RulesAt (upd G7 D3 (.lst (acc ++ [V.ref q']))) q rs := fun {q' q rs} h => by
                obtain ⟨as, e1, e2⟩ := h.ex
                exact ⟨as, nl e1, paired_map (fun b r ⟨t, a1, a2⟩ => ⟨t, nl a1, nl a2⟩) e2⟩
              refine ⟨acc, eD7, by rw [sizeLine_eq]; omega, acc ++ [.ref q], upd_same, by rw [List.length_append, lacc]; rfl, fun m v e => ?_, fun b o e => by rw [upd_ne (ne_of_none e nD3)]; exact s7 _ _ (s5 _ _ e)⟩
              by_cases mj : m < acc.length
              · rw [List.getElem?_append_left mj] at e
                obtain ⟨q', z', e1, e2, e3⟩ := ch m v e
                exact ⟨q', z', e1, e2, upR (e3.same s7)⟩
              · rw [List.getElem?_append_right (by omega)] at e
                have m0 : m - acc.length = 0 := by
                  have := (List.getElem?_eq_some_iff.mp e).1
                  simp at this
                  omega
                rw [m0] at e
                cases e
                have em : m = j := by omega
                subst em
                exact ⟨q, z, rfl, h2, upR rq⟩
          · rintro G5 ⟨acc, eD, lacc, ch, s5⟩
            have lacc : acc.length = 2 := lacc
            have op5 := op4.same s5
            have r12 := r12.same s5
            obtain ⟨x0, x1, rfl⟩ := len_two lacc
            obtain ⟨c1, z1, rfl, e2, rc1⟩ := ch 0 x0 rfl
            obtain ⟨c2, z2, rfl, e4, rc2⟩ := ch 1 x1 rfl
            cases e2
            cases e4
            clear ch lacc s5 op4 hoc w1 noc nD3
            refine ⟨_, rfl, _, rfl, met_at op5 pm ok' r12 (by decide +kernel) fun b1 H1 hb1 s1 => ?_⟩
            have eb1 : b1 = true := hb1.mpr twelve_ok
            subst eb1
            have r12 := r12.same s1
            have op6 := op5.same s1
            have rc1 := rc1.same s1
            have rc2 := rc2.same s1
            have eD := s1 _ _ eD
            clear hb1 op5 s1
            refine ⟨_, rfl, _, rfl, by show 1 ≤ sizeLine; decide, fun y1 ny1 => ⟨by show 3 ≤ sizeLine; decide, fun y2 ny2 => ⟨by show 1 ≤ sizeLine; decide, fun y3 ny3 => ?_⟩⟩⟩
            have w1 := Same.new ny1 (o := .tup [V.str "c"])
            have w2 := Same.new ny2 (o := .tup [V.str "r", .int 0, .ref y1])
            have w3 := Same.new ny3 (o := .tup [V.ref y2])
            have hy1 := (w2.trans w3) _ _ (upd_same (a := y1) (o := .tup [V.str "c"]) (H := H1))
            have hy2 := w3 _ _ (upd_same (a := y2) (o := .tup [V.str "r", .int 0, .ref y1]) (H := upd H1 y1 (.tup [V.str "c"])))
            have hy3 : (upd (upd (upd H1 y1 (.tup [V.str "c"])) y2 (.tup [V.str "r", .int 0, .ref y1])) y3 (.tup [V.ref y2])) y3 = some (.tup [V.ref y2]) := upd_same
            have W := w1.trans (w2.trans w3)
            generalize upd (upd (upd H1 y1 _) y2 _) y3 _ = H2 at hy1 hy2 hy3 W ⊢
            obtain ⟨as12, g1, g2⟩ := (r12.same W).ex
            refine ⟨t12, y3, _, _, rfl, rfl, g1, hy3, by rw [List.length_map, Paired.length g2]; show 13 ≤ sizeLine; decide, fun y4 H3 s3 hy4 => ?_⟩
            have r13 : RulesAt H3 y4 (rTwelve ++ patR ["c"]) := ⟨as12 ++ [y2], by rw [hy4, List.map_append]; rfl, paired_app (paired_map (fun b r k => RuleAt.same k s3) g2) (.cons ⟨y1, s3 _ _ hy2, s3 _ _ hy1⟩ .nil)⟩
            have W3 := W.trans s3
            refine met_at (op6.same W3) pm ok' r13 (by decide +kernel) fun b2 H4 hb2 s4 => ?_
            have eb2 : b2 = false := by
              cases b2 with
              | true => exact (thirteen_bad (hb2.mp rfl)).elim
              | false => rfl
            subst eb2
            have W4 := W3.trans s4
            have op7 := op6.same W4
            have rc1 := rc1.same W4
            have rc2 := rc2.same W4
            have eD := W4 _ _ eD
            clear hb2 op6 W4 W3 W w1 w2 w3 hy1 hy2 hy3 ny1 ny2 ny3 g1 g2 s3 hy4 r13 r12 s4
            refine ⟨by show 2 ≤ sizeLine; decide, fun M1 nM1 => ?_⟩
            have w1 := Same.new nM1 (o := .lst [V.str (word true), .str (word false)])
            have hM1 : (upd H4 M1 (.lst [V.str (word true), .str (word false)])) M1 = some (.lst ([word true, word false].map V.str)) := upd_same
            have op8 := op7.same w1
            have rc1 := rc1.same w1
            have rc2 := rc2.same w1
            have eD := w1 _ _ eD
            generalize upd H4 M1 _ = H5 at hM1 op8 rc1 rc2 eD ⊢
            clear op7 w1 nM1
            refine ⟨_, rfl, _, rfl, _, rfl, D3, _, 0, .ref c1, rfl, rfl, SqL.of eD, atI_nat (j := 0) rfl, met_at op8 pm ok' rc1 (by decide +kernel) fun b3 H6 hb3 s6 => ?_⟩
            have eb3 : b3 = true := hb3.mpr five_ok
            subst eb3
            refine ⟨_, rfl, _, rfl, D3, _, 1, .ref c2, rfl, rfl, SqL.of (s6 _ _ eD), atI_nat (j := 1) rfl, met_at (op8.same s6) pm ok' (rc2.same s6) (by decide +kernel) fun b4 H7 hb4 s7 => ?_⟩
            have eb4 : b4 = false := by
              cases b4 with
              | true => exact (six_bad (hb4.mp rfl)).elim
              | false => rfl
            subst eb4
            refine ⟨_, rfl, by show 0 ≤ sizeLine; decide, fun e0 ne0 => ?_⟩
            have w9 := Same.new ne0 (o := .tup [])
            refine met_at ((op8.same (s6.trans s7)).same w9) pm ok' (rs := []) ⟨[], upd_same, .nil⟩ (by decide +kernel) fun b5 H8 hb5 s8 => ?_
            have eb5 : b5 = true := hb5.mpr none_ok
            subst eb5
            have W8 := (s6.trans s7).trans (w9.trans s8)
            have hM8 := W8 _ _ hM1
            refine ⟨by show 3 ≤ sizeLine; decide, fun M2 nM2 => ?_⟩
            have w1 := Same.new nM2 (o := .lst [V.str (word true), .str (word false), .str (word true)])
            refine ⟨M1, M2, _, _, rfl, rfl, w1 _ _ hM8, upd_same, by show 5 ≤ sizeLine; decide, fun M3 nM3 => ?_⟩
            refine ⟨_, rfl, by show 5 ≤ sizeLine; decide, fun M4 nM4 => ?_⟩
            have w2 := Same.new nM4 (o := .lst [V.str "fine", .str "book", .str "fine", .str "book", .str "fine"])
            exact eqL9 (.lst (SqL.of (w2 _ _ upd_same)) (dp_strs [word true, word false, word true, word false, word true])) (.lst (SqL.of upd_same) (dp_strs ["fine", "book", "fine", "book", "fine"])) (by decide +kernel) (q _)
end
end Pr
namespace Hk
open PySem PySem.Spec PyProof.Rows L2
/-! ### what the end of a law asks of the top, counted by the kernel off the run -/
abbrev ga := He.ga
abbrev ma := He.ma
/-- a property's getter -/
abbrev pf (K : PySem.W.Frag) (C : Addr) (m : Str) : Addr := He5.wf K C "property" m
inductive Fk where
  | fa (f : He.Fa)
  | prop (x m : Str)
  | cm
  | isi (x : Str)
  | eqs (x : Str)
  | noins (x : Str)
def recB (K : PySem.W.Frag) (p : Addr) : Bool := match PySem.W.recIn K p "property" with
  | some (.ref _ :: _) => true
  | _ => false
def Fk.ok (K : PySem.W.Frag) : Fk → Bool
  | .fa f => f.ok K
  | .prop x m => He.eqO (PySem.W.findIn K (.ref (ga K x)) m) (some (some (.ref (ma K (ga K x) m)))) && (He.eqO (PySem.W.specialIn K (.ref (ma K (ga K x) m)) "__get__") (some (some (.builtin "property.__get__"))) &&
      (decide (PySem.W.takesIn K (.ref (ma K (ga K x) m)) = some true) && recB K (ma K (ga K x) m)))
  | .cm => He.eqO (PySem.W.specialIn K (.builtin "object.__class__") "__get__") (some (some (.builtin "getset_descriptor.__get__"))) && decide (PySem.W.takesIn K (.builtin "object.__class__") = some true)
  | .isi x => He.eqO (PySem.W.findIn K (.ref (ga K x)) "__class__") (some (some (.builtin "object.__class__"))) && (decide (PySem.W.mroIn K (ga K x) (.type "object") = some true) && decide (PySem.W.kitOne K (.ref (ga K x)) (.ref (ga K x)) = some true))
  | .eqs x => He.eqO (PySem.W.findIn K (.ref (ga K x)) "__ne__") (some (some (.builtin "object.__ne__"))) && (decide (PySem.W.subIn K (.ref (ga K x)) (.type "object") = some true) && (PySem.W.notFirst K (ga K x) (.type "dict") && PySem.W.notFirst K (ga K x) (.type "int")))
  | .noins x => (["NoneType", "bool", "int", "str", "list", "tuple", "dict"] : List String).all fun ty => decide (PySem.W.kitOne K (.type ty) (.ref (ga K x)) = some false)
section
variable {K : PySem.W.Frag}
theorem noins_ok {x : Str} (c : (Fk.noins x).ok K = true) : ∀ ty ∈ (["NoneType", "bool", "int", "str", "list", "tuple", "dict"] : List String), PySem.W.kitOne K (.type ty) (.ref (ga K x)) = some false := fun ty m => of_decide_eq_true (List.all_eq_true.mp c ty m)
theorem prop_ok {x m : Str} (c : (Fk.prop x m).ok K = true) : PropOf K (ga K x) m (ma K (ga K x) m) (pf K (ga K x) m) := by
  obtain ⟨c1, c⟩ := He.ba c
  obtain ⟨c2, c⟩ := He.ba c
  obtain ⟨c3, c4⟩ := He.ba c
  refine ⟨He.eqO_ok c1, He.eqO_ok c2, of_decide_eq_true c3, ?_⟩
  have h2 : (match PySem.W.recIn K (ma K (ga K x) m) "property" with
    | some (.ref _ :: _) => true
    | _ => false) = true := c4
  unfold pf He5.wf
  split at h2
  · rename_i f r e
    exact ⟨r, by rw [show PySem.W.recIn K (He.ma K (ga K x) m) "property" = some (.ref f :: r) from e]⟩
  · cases h2
theorem cm_ok (c : Fk.cm.ok K = true) : PySem.W.specialIn K (.builtin "object.__class__") "__get__" = some (some (.builtin "getset_descriptor.__get__")) ∧ PySem.W.takesIn K (.builtin "object.__class__") = some true := by
  have c0 : (He.eqO (PySem.W.specialIn K (.builtin "object.__class__") "__get__") (some (some (.builtin "getset_descriptor.__get__"))) && decide (PySem.W.takesIn K (.builtin "object.__class__") = some true)) = true := c
  obtain ⟨c1, c2⟩ := He.ba c0
  exact ⟨He.eqO_ok c1, of_decide_eq_true c2⟩
theorem isi_ok {x : Str} (c : (Fk.isi x).ok K = true) : PySem.W.findIn K (.ref (ga K x)) "__class__" = some (some (.builtin "object.__class__")) ∧ PySem.W.mroIn K (ga K x) (.type "object") = some true ∧ PySem.W.kitOne K (.ref (ga K x)) (.ref (ga K x)) = some true := by
  obtain ⟨c1, c⟩ := He.ba c
  obtain ⟨c2, c3⟩ := He.ba c
  exact ⟨He.eqO_ok c1, of_decide_eq_true c2, of_decide_eq_true c3⟩
theorem eqs_ok {x : Str} (c : (Fk.eqs x).ok K = true) : PySem.W.findIn K (.ref (ga K x)) "__ne__" = some (some (.builtin "object.__ne__")) ∧ PySem.W.subIn K (.ref (ga K x)) (.type "object") = some true ∧ PySem.W.notFirst K (ga K x) (.type "dict") = true ∧ PySem.W.notFirst K (ga K x) (.type "int") = true := by
  obtain ⟨c1, c⟩ := He.ba c
  obtain ⟨c2, c⟩ := He.ba c
  obtain ⟨c3, c4⟩ := He.ba c
  exact ⟨He.eqO_ok c1, of_decide_eq_true c2, c3, c4⟩
/-- what the names glo, meth, mkr, cls say, in the words of the ends -/
theorem at_glo {x : Str} (c : (Fk.fa (.glo x)).ok K = true) : PySem.W.nsIn K mainGlobals x = some (some (.ref (ga K x))) := He.eqO_ok c
theorem at_free {x : Str} (c : (Fk.fa (.free x)).ok K = true) : PySem.W.nsIn K mainGlobals x = some none := He.eqO_ok c
theorem at_int {x : Str} {i : Int} (c : (Fk.fa (.int x i)).ok K = true) : ∃ t, PySem.W.nsIn K mainGlobals x = some (some (.int i t)) := by
  have c2 : (match PySem.W.nsIn K mainGlobals x with
    | some (some (.int j _)) => decide (j = i)
    | _ => false) = true := c
  split at c2
  · rename_i j t e
    exact ⟨t, by rw [e, of_decide_eq_true c2]⟩
  · cases c2
end
/-! ### the Hook -/
/-- a def of the module, a method of a class, a getter of a class -/
abbrev aG (x : Str) (K : PySem.W.Frag) : Addr := ga K x
abbrev aM (x m : Str) (K : PySem.W.Frag) : Addr := ma K (ga K x) m
abbrev aP (x m : Str) (K : PySem.W.Frag) : Addr := pf K (ga K x) m
def dG (x : Str) (st : Stmt) : He5.DefA := ⟨aG x, x, x, defArgs st, defBody st, defScope st, [], []⟩
def dM (x m q : Str) (st : Stmt) : He5.DefA := ⟨aM x m, m, q, defArgs st, defBody st, defScope st, [], []⟩
def dP (x m q : Str) (st : Stmt) : He5.DefA := ⟨aP x m, m, q, defArgs st, defBody st, defScope st, [], []⟩
def obsK (fa : List Fk) (fn : List He5.DefA) (K : PySem.W.Frag) : He.AlD := ((fa.all fun f => f.ok K) && fn.all fun d => d.ok K, fn.map fun d => He5.fnA K (d.at_ K))
def valK (fn : List He5.DefA) : He.AlD := (true, fn.map He5.DefA.val)
def SaysK (fa : List Fk) (fn : List He5.DefA) (K : PySem.W.Frag) : Prop := obsK fa fn K = valK fn
/-- what is looked at: the module's names, then step by step what these name -/
def front (g : Addr → Option Obj) : Nat → List Addr → List Addr
  | 0, as => as
  | n + 1, as => as ++ front g n (as.flatMap fun a => match g a with
    | some o => He.refsO o
    | none => [])
def asK (g : Addr → Option Obj) : List Addr := front g 5 [mainGlobals] ++ [cStatics]
def obsKG (fa : List Fk) (fn : List He5.DefA) (g : Addr → Option Obj) : He.AlD := obsK fa fn (He.frG g (asK g))
def hookK (fa : List Fk) (fn : List He5.DefA) : PySem.W.Hook where
  α := He.AlD
  obs := fun s => obsKG fa fn s.heap.get?
  val := fun _ => valK fn
  says := fun _ h => ∃ K : PySem.W.Frag, K.In h ∧ SaysK fa fn K
  of := fun _ _ e => ⟨_, He.frG_in, e⟩
  keeps := fun _ _ _ ⟨K, hK, c⟩ k => ⟨K, PySem.W.Frag.In.keeps hK k, c⟩
theorem obsKG_eq {fa : List Fk} {fn : List He5.DefA} {g : Addr → Option Obj} {s : Shared} (h : ∀ a, g a = s.heap.get? a) : obsKG fa fn g = (hookK fa fn).obs s := by
  have e : g = s.heap.get? := funext h
  rw [e] <;> rfl
section
variable {fa : List Fk} {fn : List He5.DefA} {K : PySem.W.Frag}
theorem SaysK.fact (c : SaysK fa fn K) {f : Fk} (i : Nat) (h : fa[i]? = some f) : f.ok K = true := by
  have c1 := (He.ba (show ((fa.all fun f => f.ok K) && fn.all fun d => d.ok K) = true from congrArg (fun z : He.AlD => z.1) c)).1
  exact List.all_eq_true.mp c1 f (List.mem_of_getElem? h)
theorem SaysK.def_ (c : SaysK fa fn K) {d : He5.DefA} (i : Nat) (h : fn[i]? = some d) : ∃ fd, L2.FunD K d.name d.qual d.params d.body d.scope (d.dvs K) (d.kws K) (d.at_ K) fd := by
  have c2 := (He.ba (show ((fa.all fun f => f.ok K) && fn.all fun d => d.ok K) = true from congrArg (fun z : He.AlD => z.1) c)).2
  have e : fn.map (fun d => He5.fnA K (d.at_ K)) = fn.map He5.DefA.val := congrArg (fun z : He.AlD => z.2) c
  have e2 : (fn.map fun d => He5.fnA K (d.at_ K))[i]? = (fn.map He5.DefA.val)[i]? := by rw [e]
  rw [List.getElem?_map, List.getElem?_map, h] at e2
  exact He5.DefA.funD (Option.some.inj e2) (List.all_eq_true.mp c2 d (List.mem_of_getElem? h))
theorem SaysK.glo (c : SaysK fa fn K) {x : Str} {st : Stmt} (i : Nat) (h : fn[i]? = some (dG x st)) : ∃ fd, Fun K x x st (ga K x) fd := by
  obtain ⟨fd, F⟩ := c.def_ i h
  exact ⟨fd, He5.fun_of F⟩
theorem SaysK.met (c : SaysK fa fn K) {x m q : Str} {st : Stmt} (i : Nat) (h : fn[i]? = some (dM x m q st)) : ∃ fd, Fun K m q st (ma K (ga K x) m) fd := by
  obtain ⟨fd, F⟩ := c.def_ i h
  exact ⟨fd, He5.fun_of F⟩
theorem SaysK.get (c : SaysK fa fn K) {x m q : Str} {st : Stmt} (i : Nat) (h : fn[i]? = some (dP x m q st)) : ∃ fd, Fun K m q st (pf K (ga K x) m) fd := by
  obtain ⟨fd, F⟩ := c.def_ i h
  exact ⟨fd, He5.fun_of F⟩
end
/-- the law's own binding -/
theorem bindsLaw {K : PySem.W.Frag} {x qual p : Str} {st : Stmt} {f : Addr} {fd : FuncData} (F : Fun K x qual st f fd)
    (h : ∀ (kV doc pm : Value) (an : Option Addr) (cdv ct v : Value), bindArgs (PySem.W.fnOf x qual (defArgs st) (defBody st) (defScope st) .none kV doc pm an cdv ct) ⟨[v], []⟩ = pure [(p, v)]) (s : Shared) (v : Value) : BindsTo s fd ⟨[v], []⟩ [(p, v)] := by
  obtain ⟨oc, od, kV, doc, pm, an, cdv, ct, osl, rfl, lk, hcd⟩ := F.ex
  exact .of_eq (h kV doc pm an cdv ct v)
end Hk
namespace Gd
open PySem PySem.Spec PyProof.Rows L2
/-- a law's end over a head by facts, for a promise where no repr is under way -/
theorem walk_ofGE {l : PySem.W.OpenLaw} {n k : Nat} {q : Program} {loose : List Str} {XP : (Str → Option Value) → Heap → Prop} {YP : World → Heap → Prop} {d : DefRec} {CX : CXT} {x : Str}
    (hn : l.most = some n) (hn2 : n ≤ sizeLine) (hdf : d.params.defaults = []) (hr : Room k callerA)
    (F : ∀ (w : World) (mg : Str → Option Value) (fa : Addr) (h : Heap), YP w h → h.Ns mainGlobals mg → mg d.name = some (.ref fa) →
      ∃ (K : PySem.W.Frag) (fd : FuncData) (sp : Sp), K.In h ∧ (∀ (s : Shared) (u : Value), BindsTo s fd ⟨[u], []⟩ [(x, u)]) ∧
        (∀ (H : Hp) (a : Addr) (ns : List Int), ns.length ≤ n → Only H → SqL K H a (ns.map V.int) → sp [.ref a] H (fun v _ => v = .bl true) fun _ _ _ => False) ∧
        ∀ base : Heap, K.In base → base.Ns mainGlobals mg → FnG l.prog w K mg base CX k fa fd [x] sp)
    (hCX : ∀ (H : Hp) (s : Shared) (e : Value) (s' : Shared), CX [] H s (fun _ _ _ => False) e s' → False) :
    PySem.W.WalkO q loose XP YP l.row.toRowW d [] (fun f vs => PySem.call f vs) := by
  refine Att.attach_call hn hdf fun w s₀ s₁ mg mb fa o pm cd doc a vs ns G Y ho hd hcd hmg hobj hints hlen hg => ?_
  obtain ⟨K, fd, sp, KX, hb, hsp, hF⟩ := F w mg fa _ Y G.T.g hmg
  exact law_callG KX G.T.g G.T.b G.T.builtins G.T.nolimit hg hobj hints (Nat.le_trans hlen hn2) hr hF hb (fun H hO hS => hsp H a ns hlen hO hS) fun H e s' => hCX H s₁ e s'
end Gd
namespace Pr
open PySem PySem.Spec PyProof.Rows L2 Gd
theorem all_mk {P : Program} {w : World} {K : PySem.W.Frag} {h : Heap} {mg : Str → Option Value} {fa : Addr} (X : K.In h) (G : h.Ns mainGlobals mg) (hfa : mg "law" = some (.ref fa))
    {f1 : Addr} {fd1 : FuncData}
    {f2 : Addr} {fd2 : FuncData}
    {f3 : Addr} {fd3 : FuncData}
    {f4 : Addr} {fd4 : FuncData}
    {f5 : Addr} {fd5 : FuncData}
    {f6 : Addr} {fd6 : FuncData}
    {f7 : Addr} {fd7 : FuncData}
    {f8 : Addr} {fd8 : FuncData}
    {f9 : Addr} {fd9 : FuncData}
    {f10 : Addr} {fd10 : FuncData}
    {f11 : Addr} {fd11 : FuncData}
    {f12 : Addr} {fd12 : FuncData}
    {f13 : Addr} {fd13 : FuncData}
    {f14 : Addr} {fd14 : FuncData}
    {f15 : Addr} {fd15 : FuncData}
    {f16 : Addr} {fd16 : FuncData}
    {f17 : Addr} {fd17 : FuncData}
    {f18 : Addr} {fd18 : FuncData}
    {f19 : Addr} {fd19 : FuncData}
    {f20 : Addr} {fd20 : FuncData}
    {f21 : Addr} {fd21 : FuncData}
    {f22 : Addr} {fd22 : FuncData}
    {f23 : Addr} {fd23 : FuncData}
    {f24 : Addr} {fd24 : FuncData}
    {f25 : Addr} {fd25 : FuncData}
    {f26 : Addr} {fd26 : FuncData}
    {f27 : Addr} {fd27 : FuncData}
    {C : Addr}
    {i_C : Addr}
    {B : Addr}
    {i_B : Addr}
    {CO : Addr}
    {CB : Addr}
    {f28 : Addr} {fd28 : FuncData}
    {f29 : Addr} {fd29 : FuncData}
    {f30 : Addr} {fd30 : FuncData}
    {p30 : Addr}
    {f31 : Addr} {fd31 : FuncData}
    {p31 : Addr}
    {f32 : Addr} {fd32 : FuncData}
    {p32 : Addr}
    {tk_MAX_OPERATORS : Tok}
    {tk_MAX_LETTERS : Tok}
    {tk_MAX_PRICE : Tok}
    {tk_MAX_PATTERN : Tok}
    {tk_MAX_RULES : Tok}
    {tk_MAX_NONTERMINALS : Tok}
    (F1 : Fun K "ends_of" "ends_of" sEnds f1 fd1)
    (a1 : PySem.W.nsIn K mainGlobals "ends_of" = some (some (.ref f1)))
    (F2 : Fun K "parts_of" "parts_of" sParts f2 fd2)
    (a2 : PySem.W.nsIn K mainGlobals "parts_of" = some (some (.ref f2)))
    (F3 : Fun K "is_integer" "is_integer" sInteger f3 fd3)
    (a3 : PySem.W.nsIn K mainGlobals "is_integer" = some (some (.ref f3)))
    (F4 : Fun K "is_name" "is_name" sName f4 fd4)
    (a4 : PySem.W.nsIn K mainGlobals "is_name" = some (some (.ref f4)))
    (F5 : Fun K "are_names" "are_names" sNames f5 fd5)
    (a5 : PySem.W.nsIn K mainGlobals "are_names" = some (some (.ref f5)))
    (F6 : Fun K "are_arities" "are_arities" sAre f6 fd6)
    (a6 : PySem.W.nsIn K mainGlobals "are_arities" = some (some (.ref f6)))
    (F7 : Fun K "is_whole" "is_whole" sWhole f7 fd7)
    (a7 : PySem.W.nsIn K mainGlobals "is_whole" = some (some (.ref f7)))
    (F8 : Fun K "is_rule" "is_rule" sRule f8 fd8)
    (a8 : PySem.W.nsIn K mainGlobals "is_rule" = some (some (.ref f8)))
    (F9 : Fun K "nonterminals_of" "nonterminals_of" sNonts f9 fd9)
    (a9 : PySem.W.nsIn K mainGlobals "nonterminals_of" = some (some (.ref f9)))
    (F10 : Fun K "is_book" "is_book" sIsBook f10 fd10)
    (a10 : PySem.W.nsIn K mainGlobals "is_book" = some (some (.ref f10)))
    (F11 : Fun K "_law_dice" "_law_dice" sDice f11 fd11)
    (a11 : PySem.W.nsIn K mainGlobals "_law_dice" = some (some (.ref f11)))
    (F12 : Fun K "_law_roll" "_law_roll" sRoll f12 fd12)
    (a12 : PySem.W.nsIn K mainGlobals "_law_roll" = some (some (.ref f12)))
    (F13 : Fun K "_law_pick" "_law_pick" sPick f13 fd13)
    (a13 : PySem.W.nsIn K mainGlobals "_law_pick" = some (some (.ref f13)))
    (F14 : Fun K "_law_mixed" "_law_mixed" sMixed f14 fd14)
    (a14 : PySem.W.nsIn K mainGlobals "_law_mixed" = some (some (.ref f14)))
    (F15 : Fun K "_law_nonterminals" "_law_nonterminals" sLNonts f15 fd15)
    (a15 : PySem.W.nsIn K mainGlobals "_law_nonterminals" = some (some (.ref f15)))
    (F16 : Fun K "_law_drawn_pattern" "_law_drawn_pattern" sDPat f16 fd16)
    (a16 : PySem.W.nsIn K mainGlobals "_law_drawn_pattern" = some (some (.ref f16)))
    (F17 : Fun K "_law_drawn_book" "_law_drawn_book" sDBook f17 fd17)
    (a17 : PySem.W.nsIn K mainGlobals "_law_drawn_book" = some (some (.ref f17)))
    (F18 : Fun K "_law_pattern_end" "_law_pattern_end" sLPatternEnd f18 fd18)
    (a18 : PySem.W.nsIn K mainGlobals "_law_pattern_end" = some (some (.ref f18)))
    (F19 : Fun K "_law_is_word" "_law_is_word" sLIsWord f19 fd19)
    (a19 : PySem.W.nsIn K mainGlobals "_law_is_word" = some (some (.ref f19)))
    (F20 : Fun K "_law_is_figure" "_law_is_figure" sLIsFigure f20 fd20)
    (a20 : PySem.W.nsIn K mainGlobals "_law_is_figure" = some (some (.ref f20)))
    (F21 : Fun K "_law_is_rule" "_law_is_rule" sLIsRule f21 fd21)
    (a21 : PySem.W.nsIn K mainGlobals "_law_is_rule" = some (some (.ref f21)))
    (F22 : Fun K "_law_is_plain" "_law_is_plain" sLIsPlain f22 fd22)
    (a22 : PySem.W.nsIn K mainGlobals "_law_is_plain" = some (some (.ref f22)))
    (F23 : Fun K "_law_met" "_law_met" sLMet f23 fd23)
    (a23 : PySem.W.nsIn K mainGlobals "_law_met" = some (some (.ref f23)))
    (F24 : Fun K "_law_near_rule" "_law_near_rule" sLNearRule f24 fd24)
    (a24 : PySem.W.nsIn K mainGlobals "_law_near_rule" = some (some (.ref f24)))
    (F25 : Fun K "_law_near_rules" "_law_near_rules" sLNearRules f25 fd25)
    (a25 : PySem.W.nsIn K mainGlobals "_law_near_rules" = some (some (.ref f25)))
    (F26 : Fun K "_law_right" "_law_right" sLRight f26 fd26)
    (a26 : PySem.W.nsIn K mainGlobals "_law_right" = some (some (.ref f26)))
    (F27 : Fun K "law" "law" sLaw f27 fd27)
    (a27 : PySem.W.nsIn K mainGlobals "law" = some (some (.ref f27)))
    (n_C : PySem.W.nsIn K mainGlobals "Operators" = some (some (.ref C)))
    (cl_C : Cls K C)
    (mr_C : Mk K C i_C)
    (no0_C : NoAttr K C "_names")
    (no1_C : NoAttr K C "_arities")
    (no2_C : NoAttr K C "_lines")
    (no3_C : NoAttr K C "_many")
    (no4_C : NoAttr K C "_counts")
    (no5_C : NoAttr K C "_rows")
    (n_B : PySem.W.nsIn K mainGlobals "Book" = some (some (.ref B)))
    (cl_B : Cls K B)
    (mr_B : Mk K B i_B)
    (no0_B : NoAttr K B "_operators")
    (no1_B : NoAttr K B "_goal")
    (no2_B : NoAttr K B "_rules")
    (no3_B : NoAttr K B "_nonterminals")
    (no4_B : NoAttr K B "_parts")
    (no5_B : NoAttr K B "_lines")
    (no6_B : NoAttr K B "_sides")
    (no7_B : NoAttr K B "_kept")
    (n_CO : PySem.W.nsIn K mainGlobals "InvalidOperators" = some (some (.ref CO)))
    (e_CO : PySem.W.excIn K CO He.veBase "ValueError.__new__" = true ∧ PySem.W.keepIn K (.ref CO) = true ∧ PySem.W.subIn K (.ref CO) (.type "BaseException") = some true ∧ PySem.W.typeIn K (.ref CO) = some (.type "type"))
    (n_CB : PySem.W.nsIn K mainGlobals "InvalidBook" = some (some (.ref CB)))
    (e_CB : PySem.W.excIn K CB He.veBase "ValueError.__new__" = true ∧ PySem.W.keepIn K (.ref CB) = true ∧ PySem.W.subIn K (.ref CB) (.type "BaseException") = some true ∧ PySem.W.typeIn K (.ref CB) = some (.type "type"))
    (m_CO_CO : PySem.W.exmOne K (.ref CO) (.ref CO) = some true)
    (m_CB_CO : PySem.W.exmOne K (.ref CB) (.ref CO) = some false)
    (m_CB_CB : PySem.W.exmOne K (.ref CB) (.ref CB) = some true)
    (ni_C : ∀ ty ∈ (["NoneType", "bool", "int", "str", "list", "tuple", "dict"] : List String), PySem.W.kitOne K (.type ty) (.ref C) = some false)
    (F28 : Fun K "__init__" "Operators.__init__" mInit f28 fd28)
    (m28 : Meth K C "__init__" f28)
    (F29 : Fun K "__init__" "Book.__init__" bInit f29 fd29)
    (m29 : Meth K B "__init__" f29)
    (F30 : Fun K "arities" "Operators.arities" mArities f30 fd30)
    (q30 : PropOf K C "arities" p30 f30)
    (F31 : Fun K "lines" "Operators.lines" mLines f31 fd31)
    (q31 : PropOf K C "lines" p31 f31)
    (F32 : Fun K "rules" "Book.rules" bRules f32 fd32)
    (q32 : PropOf K B "rules" p32 f32)
    (cn_MAX_OPERATORS : PySem.W.nsIn K mainGlobals "MAX_OPERATORS" = some (some (.int 8 tk_MAX_OPERATORS)))
    (cn_MAX_LETTERS : PySem.W.nsIn K mainGlobals "MAX_LETTERS" = some (some (.int 8 tk_MAX_LETTERS)))
    (cn_MAX_PRICE : PySem.W.nsIn K mainGlobals "MAX_PRICE" = some (some (.int 9 tk_MAX_PRICE)))
    (cn_MAX_PATTERN : PySem.W.nsIn K mainGlobals "MAX_PATTERN" = some (some (.int 7 tk_MAX_PATTERN)))
    (cn_MAX_RULES : PySem.W.nsIn K mainGlobals "MAX_RULES" = some (some (.int 12 tk_MAX_RULES)))
    (cn_MAX_NONTERMINALS : PySem.W.nsIn K mainGlobals "MAX_NONTERMINALS" = some (some (.int 6 tk_MAX_NONTERMINALS)))
    (jsp : PySem.W.specialIn K (.builtin "object.__class__") "__get__" = some (some (.builtin "getset_descriptor.__get__")))
    (jtk : PySem.W.takesIn K (.builtin "object.__class__") = some true)
    (jclC : PySem.W.findIn K (.ref C) "__class__" = some (some (.builtin "object.__class__")))
    (jobC : PySem.W.mroIn K C (.type "object") = some true)
    (jkC : PySem.W.kitOne K (.ref C) (.ref C) = some true)
    (jclB : PySem.W.findIn K (.ref B) "__class__" = some (some (.builtin "object.__class__")))
    (jobB : PySem.W.mroIn K B (.type "object") = some true)
    (jkB : PySem.W.kitOne K (.ref B) (.ref B) = some true)
    (z_len : PySem.W.nsIn K mainGlobals "len" = some none)
    (z_int : PySem.W.nsIn K mainGlobals "int" = some none)
    (z_abs : PySem.W.nsIn K mainGlobals "abs" = some none)
    (z_max : PySem.W.nsIn K mainGlobals "max" = some none)
    (z_min : PySem.W.nsIn K mainGlobals "min" = some none)
    (z_list : PySem.W.nsIn K mainGlobals "list" = some none)
    (z_range : PySem.W.nsIn K mainGlobals "range" = some none)
    (z_isinstance : PySem.W.nsIn K mainGlobals "isinstance" = some none)
    (z_bool : PySem.W.nsIn K mainGlobals "bool" = some none)
    (z_tuple : PySem.W.nsIn K mainGlobals "tuple" = some none)
    (z_str : PySem.W.nsIn K mainGlobals "str" = some none)
    (z_dict : PySem.W.nsIn K mainGlobals "dict" = some none)
    (z_sorted : PySem.W.nsIn K mainGlobals "sorted" = some none)
    (z_all : PySem.W.nsIn K mainGlobals "all" = some none)
    (z_sum : PySem.W.nsIn K mainGlobals "sum" = some none)
    (z_repr : PySem.W.nsIn K mainGlobals "repr" = some none)
    (z_enumerate : PySem.W.nsIn K mainGlobals "enumerate" = some none)
    (z_iter : PySem.W.nsIn K mainGlobals "iter" = some none)
    (z_set : PySem.W.nsIn K mainGlobals "set" = some none) :
    ∃ fd : FuncData, (∀ (s : Shared) (v : Value), BindsTo s fd ⟨[v], []⟩ [("script", v)]) ∧ ∀ base : Heap, K.In base → base.Ns mainGlobals mg → FnG P w K mg base CX0 9 fa fd ["script"] (spLaw K) := by
  have e := hfa.symm.trans (PySem.W.mg_of X G a27)
  cases e
  have k1 := F1.kp
  have b1 := F1.binds (ps := ["words", "arities"]) fun _ _ _ _ _ _ us hl => match us, hl with | [_, _], _ => rfl
  have g1 := PySem.W.mg_of X G a1
  have k2 := F2.kp
  have b2 := F2.binds (ps := ["patterns", "arities"]) fun _ _ _ _ _ _ us hl => match us, hl with | [_, _], _ => rfl
  have g2 := PySem.W.mg_of X G a2
  have k3 := F3.kp
  have b3 := F3.binds (ps := ["value"]) fun _ _ _ _ _ _ us hl => match us, hl with | [_], _ => rfl
  have g3 := PySem.W.mg_of X G a3
  have k4 := F4.kp
  have b4 := F4.binds (ps := ["value"]) fun _ _ _ _ _ _ us hl => match us, hl with | [_], _ => rfl
  have g4 := PySem.W.mg_of X G a4
  have k5 := F5.kp
  have b5 := F5.binds (ps := ["value"]) fun _ _ _ _ _ _ us hl => match us, hl with | [_], _ => rfl
  have g5 := PySem.W.mg_of X G a5
  have k6 := F6.kp
  have b6 := F6.binds (ps := ["value"]) fun _ _ _ _ _ _ us hl => match us, hl with | [_], _ => rfl
  have g6 := PySem.W.mg_of X G a6
  have k7 := F7.kp
  have b7 := F7.binds (ps := ["words", "arities"]) fun _ _ _ _ _ _ us hl => match us, hl with | [_, _], _ => rfl
  have g7 := PySem.W.mg_of X G a7
  have k8 := F8.kp
  have b8 := F8.binds (ps := ["value", "arities"]) fun _ _ _ _ _ _ us hl => match us, hl with | [_, _], _ => rfl
  have g8 := PySem.W.mg_of X G a8
  have k9 := F9.kp
  have b9 := F9.binds (ps := ["goal", "rules", "arities"]) fun _ _ _ _ _ _ us hl => match us, hl with | [_, _, _], _ => rfl
  have g9 := PySem.W.mg_of X G a9
  have k10 := F10.kp
  have b10 := F10.binds (ps := ["goal", "rules", "arities"]) fun _ _ _ _ _ _ us hl => match us, hl with | [_, _, _], _ => rfl
  have g10 := PySem.W.mg_of X G a10
  have k11 := F11.kp
  have b11 := F11.binds (ps := ["script", "spot"]) fun _ _ _ _ _ _ us hl => match us, hl with | [_, _], _ => rfl
  have g11 := PySem.W.mg_of X G a11
  have k12 := F12.kp
  have b12 := F12.binds (ps := ["dice", "total"]) fun _ _ _ _ _ _ us hl => match us, hl with | [_, _], _ => rfl
  have g12 := PySem.W.mg_of X G a12
  have k13 := F13.kp
  have b13 := F13.binds (ps := ["dice", "items"]) fun _ _ _ _ _ _ us hl => match us, hl with | [_, _], _ => rfl
  have g13 := PySem.W.mg_of X G a13
  have k14 := F14.kp
  have b14 := F14.binds (ps := ["dice", "items"]) fun _ _ _ _ _ _ us hl => match us, hl with | [_, _], _ => rfl
  have g14 := PySem.W.mg_of X G a14
  have k15 := F15.kp
  have b15 := F15.binds (ps := ["plain"]) fun _ _ _ _ _ _ us hl => match us, hl with | [_], _ => rfl
  have g15 := PySem.W.mg_of X G a15
  have k16 := F16.kp
  have b16 := F16.binds (ps := ["dice", "arities", "nonterminals", "cap"]) fun _ _ _ _ _ _ us hl => match us, hl with | [_, _, _, _], _ => rfl
  have g16 := PySem.W.mg_of X G a16
  have k17 := F17.kp
  have b17 := F17.binds (ps := ["dice", "rules", "heads"]) fun _ _ _ _ _ _ us hl => match us, hl with | [_, _, _], _ => rfl
  have g17 := PySem.W.mg_of X G a17
  have k18 := F18.kp
  have b18 := F18.binds (ps := ["arities", "words"]) fun _ _ _ _ _ _ us hl => match us, hl with | [_, _], _ => rfl
  have g18 := PySem.W.mg_of X G a18
  have k19 := F19.kp
  have b19 := F19.binds (ps := ["value"]) fun _ _ _ _ _ _ us hl => match us, hl with | [_], _ => rfl
  have g19 := PySem.W.mg_of X G a19
  have k20 := F20.kp
  have b20 := F20.binds (ps := ["value", "top"]) fun _ _ _ _ _ _ us hl => match us, hl with | [_, _], _ => rfl
  have g20 := PySem.W.mg_of X G a20
  have k21 := F21.kp
  have b21 := F21.binds (ps := ["arities", "value"]) fun _ _ _ _ _ _ us hl => match us, hl with | [_, _], _ => rfl
  have g21 := PySem.W.mg_of X G a21
  have k22 := F22.kp
  have b22 := F22.binds (ps := ["arities", "goal", "rules"]) fun _ _ _ _ _ _ us hl => match us, hl with | [_, _, _], _ => rfl
  have g22 := PySem.W.mg_of X G a22
  have k23 := F23.kp
  have b23 := F23.binds (ps := ["operators", "goal", "rules"]) fun _ _ _ _ _ _ us hl => match us, hl with | [_, _, _], _ => rfl
  have g23 := PySem.W.mg_of X G a23
  have k24 := F24.kp
  have b24 := F24.binds (ps := ["dice", "plain", "rule"]) fun _ _ _ _ _ _ us hl => match us, hl with | [_, _, _], _ => rfl
  have g24 := PySem.W.mg_of X G a24
  have k25 := F25.kp
  have b25 := F25.binds (ps := ["dice", "plain"]) fun _ _ _ _ _ _ us hl => match us, hl with | [_, _], _ => rfl
  have g25 := PySem.W.mg_of X G a25
  have k26 := F26.kp
  have b26 := F26.binds (ps := ["dice"]) fun _ _ _ _ _ _ us hl => match us, hl with | [_], _ => rfl
  have g26 := PySem.W.mg_of X G a26
  have k27 := F27.kp
  have mk_C := mr_C.makes
  have kc_C := mr_C.kp
  have g_C := PySem.W.mg_of X G n_C
  have mk_B := mr_B.makes
  have kc_B := mr_B.kp
  have g_B := PySem.W.mg_of X G n_B
  have g_CO := PySem.W.mg_of X G n_CO
  have X_CO : ExF K mg "InvalidOperators" CO := ⟨e_CO.1, g_CO, e_CO.2.1, e_CO.2.2.1, e_CO.2.2.2⟩
  have g_CB := PySem.W.mg_of X G n_CB
  have X_CB : ExF K mg "InvalidBook" CB := ⟨e_CB.1, g_CB, e_CB.2.1, e_CB.2.2.1, e_CB.2.2.2⟩
  have k28 := F28.kp
  have b28 := F28.binds (ps := ["self", "arities"]) fun _ _ _ _ _ _ us hl => match us, hl with | [_, _], _ => rfl
  have a28 := m28.at_
  have i28 := m28.fn
  have k29 := F29.kp
  have b29 := F29.binds (ps := ["self", "operators", "goal", "rules"]) fun _ _ _ _ _ _ us hl => match us, hl with | [_, _, _, _], _ => rfl
  have a29 := m29.at_
  have i29 := m29.fn
  have k30 := F30.kp
  have b30 := F30.binds (ps := ["self"]) fun _ _ _ _ _ _ us hl => match us, hl with | [_], _ => rfl
  have k31 := F31.kp
  have b31 := F31.binds (ps := ["self"]) fun _ _ _ _ _ _ us hl => match us, hl with | [_], _ => rfl
  have k32 := F32.kp
  have b32 := F32.binds (ps := ["self"]) fun _ _ _ _ _ _ us hl => match us, hl with | [_], _ => rfl
  have gc_MAX_OPERATORS := PySem.W.mg_of X G cn_MAX_OPERATORS
  have gc_MAX_LETTERS := PySem.W.mg_of X G cn_MAX_LETTERS
  have gc_MAX_PRICE := PySem.W.mg_of X G cn_MAX_PRICE
  have gc_MAX_PATTERN := PySem.W.mg_of X G cn_MAX_PATTERN
  have gc_MAX_RULES := PySem.W.mg_of X G cn_MAX_RULES
  have gc_MAX_NONTERMINALS := PySem.W.mg_of X G cn_MAX_NONTERMINALS
  have T : Free mg := ⟨PySem.W.mg_none_of X G z_len, PySem.W.mg_none_of X G z_int, PySem.W.mg_none_of X G z_abs, PySem.W.mg_none_of X G z_max, PySem.W.mg_none_of X G z_min, PySem.W.mg_none_of X G z_list, PySem.W.mg_none_of X G z_range, PySem.W.mg_none_of X G z_isinstance, PySem.W.mg_none_of X G z_bool, PySem.W.mg_none_of X G z_tuple, PySem.W.mg_none_of X G z_str, PySem.W.mg_none_of X G z_dict, PySem.W.mg_none_of X G z_sorted, PySem.W.mg_none_of X G z_all, PySem.W.mg_none_of X G z_sum, PySem.W.mg_none_of X G z_repr, PySem.W.mg_none_of X G z_enumerate, PySem.W.mg_none_of X G z_iter, PySem.W.mg_none_of X G z_set⟩
  exact ⟨fd27, Hk.bindsLaw F27 fun _ _ _ _ _ _ _ => rfl, fun base _ _ => by
    have cf : OpF K C := ⟨cl_C, no0_C, no1_C, no2_C, no3_C, no4_C, no5_C⟩
    have bf : BkF K B := ⟨cl_B, no0_B, no1_B, no2_B, no3_B, no4_B, no5_B, no6_B, no7_B⟩
    have isC : IsF K mg "Operators" C := ⟨g_C, jclC, jsp, jtk, jobC, jkC⟩
    have GAre : FnOk P w K mg base CX0 2 f6 _ ["value"] spAre7 := ok_are7 F6 T gc_MAX_LETTERS gc_MAX_OPERATORS F4 b4 g4 F3 b3 g3
    have GI : FnOk P w K mg base CX0 3 f28 _ ["self", "arities"] (spInitV C) := ok_initV F28 T cf GAre F6 b6 g6
    have L := Low.mk F4 b4 g4 F3 b3 g3 F5 b5 g5 F7 b7 g7 gc_MAX_LETTERS gc_MAX_PRICE gc_MAX_PATTERN
    have M := Mid.mk F8 b8 g8 F9 b9 g9 gc_MAX_RULES gc_MAX_NONTERMINALS
    have GB : FnOk P w K mg base CX0 4 f10 _ ["goal", "rules", "arities"] spIsBook := ok_isBook F10 T L M
    have GBG : FnOk P w K mg base CX0 4 f10 _ ["goal", "rules", "arities"] spIsBookG := ok_isBookG F10 T L M
    have GT : FnOk P w K mg base CX0 1 f9 _ ["goal", "rules", "arities"] spNonts := ok_nonts F9 T
    have GP : FnOk P w K mg base CX0 2 f2 _ ["patterns", "arities"] (spParts K) := ok_parts F2 T F1 b1 g1
    have Z0 := Top.mk cf isC GB b10 g10 k10 GT b9 g9 k9 GP b2 g2 k2 q30 (ok_pa F30 cf T) b30 q31 (ok_pl F31 cf T) b31
    have GBI : FnOk P w K mg base (L2.CX P w) 5 f29 _ ["self", "operators", "goal", "rules"] (spBAll K C B CO CB) := fn_or (fn_lift (ok_binit F29 T Z0 bf)) (fn_or (ok_binitno F29 T g_C ni_C X_CO) (ok_binitbad F29 T cf isC GBG b10 g10 k10 q30 (ok_pa F30 cf T) b30 X_CB))
    have D : Draws K mg f12 f13 f14 _ _ _ := ⟨F12, b12, g12, F13, b13, g13, F14, b14, g14⟩
    have XK := BkX.mk ⟨mk_B, a29, i29, kc_B⟩ g_B GBI b29 bf q32 (ok_bRules F32 bf) b32 X_CO X_CB m_CO_CO m_CB_CO m_CB_CB
    have GM : FnOk P w K mg base CX0 7 f23 _ ["operators", "goal", "rules"] (fun vs H Q E => spMetNo vs H Q E ∨ spMetOk C vs H Q E) := ok_met F23 XK
    have LJ_ := LJ.mk F19 b19 g19 F20 b20 g20 F18 b18 g18
    have GLR : FnOk P w K mg base CX0 2 f21 _ ["arities", "value"] spLRuleG := ok_lrule F21 T LJ_
    have GLW : FnOk P w K mg base CX0 1 f19 _ ["value"] spLWord := ok_lword F19 T
    have GLT : FnOk P w K mg base CX0 1 f15 _ ["plain"] spLNontsG := ok_lnontsG F15 T
    have GLP : FnOk P w K mg base CX0 3 f22 _ ["arities", "goal", "rules"] spLPlainG := ok_lplain F22 T GLW b19 g19 k19 GLR b21 g21 k21 GLT b15 g15 k15
    have GDB : FnOk P w K mg base CX0 4 f17 _ ["dice", "rules", "heads"] spDBook := ok_dbook F17 D T F16 b16 g16
    have GNR : FnOk P w K mg base CX0 3 f24 _ ["dice", "plain", "rule"] spNearR := ok_nearr F24 D T GLT b15 g15 k15
    have GNS : FnOk P w K mg base CX0 4 f25 _ ["dice", "plain"] spNearRs := ok_nearrs F25 D T GNR b24 g24 k24
    have GR : FnG P w K mg base CX0 8 f26 _ ["dice"] spRight := ok_right F26 D T ⟨mk_C, a28, i28, kc_C⟩ g_C GI b28 GDB b17 g17 k17 GNS b25 g25 k25 GLP b22 g22 k22 GM b23 g23 k23
    exact ok_law F27 T F11 b11 g11 ⟨mk_C, a28, i28, kc_C⟩ g_C GI b28 GR b26 g26 k26 GM b23 g23 k23⟩
def factL0 : List Hk.Fk := [.fa (.glo "ends_of"),
  .fa (.glo "parts_of"),
  .fa (.glo "is_integer"),
  .fa (.glo "is_name"),
  .fa (.glo "are_names"),
  .fa (.glo "are_arities"),
  .fa (.glo "is_whole"),
  .fa (.glo "is_rule"),
  .fa (.glo "nonterminals_of"),
  .fa (.glo "is_book"),
  .fa (.glo "_law_dice"),
  .fa (.glo "_law_roll"),
  .fa (.glo "_law_pick"),
  .fa (.glo "_law_mixed"),
  .fa (.glo "_law_nonterminals"),
  .fa (.glo "_law_drawn_pattern"),
  .fa (.glo "_law_drawn_book"),
  .fa (.glo "_law_pattern_end"),
  .fa (.glo "_law_is_word"),
  .fa (.glo "_law_is_figure"),
  .fa (.glo "_law_is_rule"),
  .fa (.glo "_law_is_plain"),
  .fa (.glo "_law_met"),
  .fa (.glo "_law_near_rule"),
  .fa (.glo "_law_near_rules"),
  .fa (.glo "_law_right"),
  .fa (.glo "law"),
  .fa (.glo "Operators"),
  .fa (.cls "Operators"),
  .fa (.mkr "Operators")]
def factL1 : List Hk.Fk := [.fa (.noat "Operators" "_names"),
  .fa (.noat "Operators" "_arities"),
  .fa (.noat "Operators" "_lines"),
  .fa (.noat "Operators" "_many"),
  .fa (.noat "Operators" "_counts"),
  .fa (.noat "Operators" "_rows"),
  .fa (.glo "Book"),
  .fa (.cls "Book"),
  .fa (.mkr "Book"),
  .fa (.noat "Book" "_operators"),
  .fa (.noat "Book" "_goal"),
  .fa (.noat "Book" "_rules"),
  .fa (.noat "Book" "_nonterminals"),
  .fa (.noat "Book" "_parts"),
  .fa (.noat "Book" "_lines"),
  .fa (.noat "Book" "_sides"),
  .fa (.noat "Book" "_kept"),
  .fa (.glo "InvalidOperators"),
  .fa (.exc "InvalidOperators"),
  .fa (.glo "InvalidBook"),
  .fa (.exc "InvalidBook"),
  .fa (.exm "InvalidOperators" "InvalidOperators" true),
  .fa (.exm "InvalidBook" "InvalidOperators" false),
  .fa (.exm "InvalidBook" "InvalidBook" true),
  .noins "Operators",
  .fa (.meth "Operators" "__init__"),
  .fa (.meth "Book" "__init__"),
  .prop "Operators" "arities",
  .prop "Operators" "lines",
  .prop "Book" "rules"]
def factL2 : List Hk.Fk := [.fa (.int "MAX_OPERATORS" 8),
  .fa (.int "MAX_LETTERS" 8),
  .fa (.int "MAX_PRICE" 9),
  .fa (.int "MAX_PATTERN" 7),
  .fa (.int "MAX_RULES" 12),
  .fa (.int "MAX_NONTERMINALS" 6),
  .cm,
  .isi "Operators",
  .isi "Book",
  .fa (.free "len"),
  .fa (.free "int"),
  .fa (.free "abs"),
  .fa (.free "max"),
  .fa (.free "min"),
  .fa (.free "list"),
  .fa (.free "range"),
  .fa (.free "isinstance"),
  .fa (.free "bool"),
  .fa (.free "tuple"),
  .fa (.free "str"),
  .fa (.free "dict"),
  .fa (.free "sorted"),
  .fa (.free "all"),
  .fa (.free "sum"),
  .fa (.free "repr"),
  .fa (.free "enumerate"),
  .fa (.free "iter"),
  .fa (.free "set")]
def factL : List Hk.Fk := factL0 ++ factL1 ++ factL2
def defL0 : List He5.DefA := [Hk.dG "ends_of" sEnds,
  Hk.dG "parts_of" sParts,
  Hk.dG "is_integer" sInteger,
  Hk.dG "is_name" sName,
  Hk.dG "are_names" sNames,
  Hk.dG "are_arities" sAre,
  Hk.dG "is_whole" sWhole,
  Hk.dG "is_rule" sRule,
  Hk.dG "nonterminals_of" sNonts,
  Hk.dG "is_book" sIsBook,
  Hk.dG "_law_dice" sDice,
  Hk.dG "_law_roll" sRoll,
  Hk.dG "_law_pick" sPick,
  Hk.dG "_law_mixed" sMixed,
  Hk.dG "_law_nonterminals" sLNonts,
  Hk.dG "_law_drawn_pattern" sDPat,
  Hk.dG "_law_drawn_book" sDBook,
  Hk.dG "_law_pattern_end" sLPatternEnd,
  Hk.dG "_law_is_word" sLIsWord,
  Hk.dG "_law_is_figure" sLIsFigure,
  Hk.dG "_law_is_rule" sLIsRule,
  Hk.dG "_law_is_plain" sLIsPlain,
  Hk.dG "_law_met" sLMet,
  Hk.dG "_law_near_rule" sLNearRule,
  Hk.dG "_law_near_rules" sLNearRules,
  Hk.dG "_law_right" sLRight,
  Hk.dG "law" sLaw,
  Hk.dM "Operators" "__init__" "Operators.__init__" mInit,
  Hk.dM "Book" "__init__" "Book.__init__" bInit,
  Hk.dP "Operators" "arities" "Operators.arities" mArities]
def defL1 : List He5.DefA := [Hk.dP "Operators" "lines" "Operators.lines" mLines,
  Hk.dP "Book" "rules" "Book.rules" bRules]
def defL : List He5.DefA := defL0 ++ defL1
theorem facts {P : Program} {w : World} {K : PySem.W.Frag} {h : Heap} {mg : Str → Option Value} {fa : Addr} (X : K.In h) (G : h.Ns mainGlobals mg) (hfa : mg "law" = some (.ref fa)) (c : Hk.SaysK factL defL K) :
    ∃ fd : FuncData, (∀ (s : Shared) (v : Value), BindsTo s fd ⟨[v], []⟩ [("script", v)]) ∧ ∀ base : Heap, K.In base → base.Ns mainGlobals mg → FnG P w K mg base CX0 9 fa fd ["script"] (spLaw K) := by
  obtain ⟨fd1, F1⟩ := c.glo (x := "ends_of") (st := sEnds) 0 rfl
  obtain ⟨fd2, F2⟩ := c.glo (x := "parts_of") (st := sParts) 1 rfl
  obtain ⟨fd3, F3⟩ := c.glo (x := "is_integer") (st := sInteger) 2 rfl
  obtain ⟨fd4, F4⟩ := c.glo (x := "is_name") (st := sName) 3 rfl
  obtain ⟨fd5, F5⟩ := c.glo (x := "are_names") (st := sNames) 4 rfl
  obtain ⟨fd6, F6⟩ := c.glo (x := "are_arities") (st := sAre) 5 rfl
  obtain ⟨fd7, F7⟩ := c.glo (x := "is_whole") (st := sWhole) 6 rfl
  obtain ⟨fd8, F8⟩ := c.glo (x := "is_rule") (st := sRule) 7 rfl
  obtain ⟨fd9, F9⟩ := c.glo (x := "nonterminals_of") (st := sNonts) 8 rfl
  obtain ⟨fd10, F10⟩ := c.glo (x := "is_book") (st := sIsBook) 9 rfl
  obtain ⟨fd11, F11⟩ := c.glo (x := "_law_dice") (st := sDice) 10 rfl
  obtain ⟨fd12, F12⟩ := c.glo (x := "_law_roll") (st := sRoll) 11 rfl
  obtain ⟨fd13, F13⟩ := c.glo (x := "_law_pick") (st := sPick) 12 rfl
  obtain ⟨fd14, F14⟩ := c.glo (x := "_law_mixed") (st := sMixed) 13 rfl
  obtain ⟨fd15, F15⟩ := c.glo (x := "_law_nonterminals") (st := sLNonts) 14 rfl
  obtain ⟨fd16, F16⟩ := c.glo (x := "_law_drawn_pattern") (st := sDPat) 15 rfl
  obtain ⟨fd17, F17⟩ := c.glo (x := "_law_drawn_book") (st := sDBook) 16 rfl
  obtain ⟨fd18, F18⟩ := c.glo (x := "_law_pattern_end") (st := sLPatternEnd) 17 rfl
  obtain ⟨fd19, F19⟩ := c.glo (x := "_law_is_word") (st := sLIsWord) 18 rfl
  obtain ⟨fd20, F20⟩ := c.glo (x := "_law_is_figure") (st := sLIsFigure) 19 rfl
  obtain ⟨fd21, F21⟩ := c.glo (x := "_law_is_rule") (st := sLIsRule) 20 rfl
  obtain ⟨fd22, F22⟩ := c.glo (x := "_law_is_plain") (st := sLIsPlain) 21 rfl
  obtain ⟨fd23, F23⟩ := c.glo (x := "_law_met") (st := sLMet) 22 rfl
  obtain ⟨fd24, F24⟩ := c.glo (x := "_law_near_rule") (st := sLNearRule) 23 rfl
  obtain ⟨fd25, F25⟩ := c.glo (x := "_law_near_rules") (st := sLNearRules) 24 rfl
  obtain ⟨fd26, F26⟩ := c.glo (x := "_law_right") (st := sLRight) 25 rfl
  obtain ⟨fd27, F27⟩ := c.glo (x := "law") (st := sLaw) 26 rfl
  obtain ⟨fd28, F28⟩ := c.met (x := "Operators") (m := "__init__") (q := "Operators.__init__") (st := mInit) 27 rfl
  obtain ⟨fd29, F29⟩ := c.met (x := "Book") (m := "__init__") (q := "Book.__init__") (st := bInit) 28 rfl
  obtain ⟨fd30, F30⟩ := c.get (x := "Operators") (m := "arities") (q := "Operators.arities") (st := mArities) 29 rfl
  obtain ⟨fd31, F31⟩ := c.get (x := "Operators") (m := "lines") (q := "Operators.lines") (st := mLines) 30 rfl
  obtain ⟨fd32, F32⟩ := c.get (x := "Book") (m := "rules") (q := "Book.rules") (st := bRules) 31 rfl
  obtain ⟨tk_MAX_OPERATORS, cn_MAX_OPERATORS⟩ := Hk.at_int (c.fact (f := .fa (.int "MAX_OPERATORS" 8)) 60 rfl)
  obtain ⟨tk_MAX_LETTERS, cn_MAX_LETTERS⟩ := Hk.at_int (c.fact (f := .fa (.int "MAX_LETTERS" 8)) 61 rfl)
  obtain ⟨tk_MAX_PRICE, cn_MAX_PRICE⟩ := Hk.at_int (c.fact (f := .fa (.int "MAX_PRICE" 9)) 62 rfl)
  obtain ⟨tk_MAX_PATTERN, cn_MAX_PATTERN⟩ := Hk.at_int (c.fact (f := .fa (.int "MAX_PATTERN" 7)) 63 rfl)
  obtain ⟨tk_MAX_RULES, cn_MAX_RULES⟩ := Hk.at_int (c.fact (f := .fa (.int "MAX_RULES" 12)) 64 rfl)
  obtain ⟨tk_MAX_NONTERMINALS, cn_MAX_NONTERMINALS⟩ := Hk.at_int (c.fact (f := .fa (.int "MAX_NONTERMINALS" 6)) 65 rfl)
  obtain ⟨jsp, jtk⟩ := Hk.cm_ok (c.fact (f := .cm) 66 rfl)
  obtain ⟨jclC, jobC, jkC⟩ := Hk.isi_ok (c.fact (f := .isi "Operators") 67 rfl)
  obtain ⟨jclB, jobB, jkB⟩ := Hk.isi_ok (c.fact (f := .isi "Book") 68 rfl)
  exact all_mk X G hfa
    F1
    (Hk.at_glo (c.fact (f := .fa (.glo "ends_of")) 0 rfl))
    F2
    (Hk.at_glo (c.fact (f := .fa (.glo "parts_of")) 1 rfl))
    F3
    (Hk.at_glo (c.fact (f := .fa (.glo "is_integer")) 2 rfl))
    F4
    (Hk.at_glo (c.fact (f := .fa (.glo "is_name")) 3 rfl))
    F5
    (Hk.at_glo (c.fact (f := .fa (.glo "are_names")) 4 rfl))
    F6
    (Hk.at_glo (c.fact (f := .fa (.glo "are_arities")) 5 rfl))
    F7
    (Hk.at_glo (c.fact (f := .fa (.glo "is_whole")) 6 rfl))
    F8
    (Hk.at_glo (c.fact (f := .fa (.glo "is_rule")) 7 rfl))
    F9
    (Hk.at_glo (c.fact (f := .fa (.glo "nonterminals_of")) 8 rfl))
    F10
    (Hk.at_glo (c.fact (f := .fa (.glo "is_book")) 9 rfl))
    F11
    (Hk.at_glo (c.fact (f := .fa (.glo "_law_dice")) 10 rfl))
    F12
    (Hk.at_glo (c.fact (f := .fa (.glo "_law_roll")) 11 rfl))
    F13
    (Hk.at_glo (c.fact (f := .fa (.glo "_law_pick")) 12 rfl))
    F14
    (Hk.at_glo (c.fact (f := .fa (.glo "_law_mixed")) 13 rfl))
    F15
    (Hk.at_glo (c.fact (f := .fa (.glo "_law_nonterminals")) 14 rfl))
    F16
    (Hk.at_glo (c.fact (f := .fa (.glo "_law_drawn_pattern")) 15 rfl))
    F17
    (Hk.at_glo (c.fact (f := .fa (.glo "_law_drawn_book")) 16 rfl))
    F18
    (Hk.at_glo (c.fact (f := .fa (.glo "_law_pattern_end")) 17 rfl))
    F19
    (Hk.at_glo (c.fact (f := .fa (.glo "_law_is_word")) 18 rfl))
    F20
    (Hk.at_glo (c.fact (f := .fa (.glo "_law_is_figure")) 19 rfl))
    F21
    (Hk.at_glo (c.fact (f := .fa (.glo "_law_is_rule")) 20 rfl))
    F22
    (Hk.at_glo (c.fact (f := .fa (.glo "_law_is_plain")) 21 rfl))
    F23
    (Hk.at_glo (c.fact (f := .fa (.glo "_law_met")) 22 rfl))
    F24
    (Hk.at_glo (c.fact (f := .fa (.glo "_law_near_rule")) 23 rfl))
    F25
    (Hk.at_glo (c.fact (f := .fa (.glo "_law_near_rules")) 24 rfl))
    F26
    (Hk.at_glo (c.fact (f := .fa (.glo "_law_right")) 25 rfl))
    F27
    (Hk.at_glo (c.fact (f := .fa (.glo "law")) 26 rfl))
    (Hk.at_glo (c.fact (f := .fa (.glo "Operators")) 27 rfl))
    (He.cls_ok (c.fact (f := .fa (.cls "Operators")) 28 rfl))
    (He.mkr_ok (c.fact (f := .fa (.mkr "Operators")) 29 rfl))
    (He.noat_ok (c.fact (f := .fa (.noat "Operators" "_names")) 30 rfl))
    (He.noat_ok (c.fact (f := .fa (.noat "Operators" "_arities")) 31 rfl))
    (He.noat_ok (c.fact (f := .fa (.noat "Operators" "_lines")) 32 rfl))
    (He.noat_ok (c.fact (f := .fa (.noat "Operators" "_many")) 33 rfl))
    (He.noat_ok (c.fact (f := .fa (.noat "Operators" "_counts")) 34 rfl))
    (He.noat_ok (c.fact (f := .fa (.noat "Operators" "_rows")) 35 rfl))
    (Hk.at_glo (c.fact (f := .fa (.glo "Book")) 36 rfl))
    (He.cls_ok (c.fact (f := .fa (.cls "Book")) 37 rfl))
    (He.mkr_ok (c.fact (f := .fa (.mkr "Book")) 38 rfl))
    (He.noat_ok (c.fact (f := .fa (.noat "Book" "_operators")) 39 rfl))
    (He.noat_ok (c.fact (f := .fa (.noat "Book" "_goal")) 40 rfl))
    (He.noat_ok (c.fact (f := .fa (.noat "Book" "_rules")) 41 rfl))
    (He.noat_ok (c.fact (f := .fa (.noat "Book" "_nonterminals")) 42 rfl))
    (He.noat_ok (c.fact (f := .fa (.noat "Book" "_parts")) 43 rfl))
    (He.noat_ok (c.fact (f := .fa (.noat "Book" "_lines")) 44 rfl))
    (He.noat_ok (c.fact (f := .fa (.noat "Book" "_sides")) 45 rfl))
    (He.noat_ok (c.fact (f := .fa (.noat "Book" "_kept")) 46 rfl))
    (Hk.at_glo (c.fact (f := .fa (.glo "InvalidOperators")) 47 rfl))
    (He.exc_ok (c.fact (f := .fa (.exc "InvalidOperators")) 48 rfl))
    (Hk.at_glo (c.fact (f := .fa (.glo "InvalidBook")) 49 rfl))
    (He.exc_ok (c.fact (f := .fa (.exc "InvalidBook")) 50 rfl))
    (He.exm_ok (c.fact (f := .fa (.exm "InvalidOperators" "InvalidOperators" true)) 51 rfl))
    (He.exm_ok (c.fact (f := .fa (.exm "InvalidBook" "InvalidOperators" false)) 52 rfl))
    (He.exm_ok (c.fact (f := .fa (.exm "InvalidBook" "InvalidBook" true)) 53 rfl))
    (Hk.noins_ok (c.fact (f := .noins "Operators") 54 rfl))
    F28
    (He.meth_ok (c.fact (f := .fa (.meth "Operators" "__init__")) 55 rfl))
    F29
    (He.meth_ok (c.fact (f := .fa (.meth "Book" "__init__")) 56 rfl))
    F30
    (Hk.prop_ok (c.fact (f := .prop "Operators" "arities") 57 rfl))
    F31
    (Hk.prop_ok (c.fact (f := .prop "Operators" "lines") 58 rfl))
    F32
    (Hk.prop_ok (c.fact (f := .prop "Book" "rules") 59 rfl))
    cn_MAX_OPERATORS
    cn_MAX_LETTERS
    cn_MAX_PRICE
    cn_MAX_PATTERN
    cn_MAX_RULES
    cn_MAX_NONTERMINALS
    jsp
    jtk
    jclC
    jobC
    jkC
    jclB
    jobB
    jkB
    (Hk.at_free (c.fact (f := .fa (.free "len")) 69 rfl))
    (Hk.at_free (c.fact (f := .fa (.free "int")) 70 rfl))
    (Hk.at_free (c.fact (f := .fa (.free "abs")) 71 rfl))
    (Hk.at_free (c.fact (f := .fa (.free "max")) 72 rfl))
    (Hk.at_free (c.fact (f := .fa (.free "min")) 73 rfl))
    (Hk.at_free (c.fact (f := .fa (.free "list")) 74 rfl))
    (Hk.at_free (c.fact (f := .fa (.free "range")) 75 rfl))
    (Hk.at_free (c.fact (f := .fa (.free "isinstance")) 76 rfl))
    (Hk.at_free (c.fact (f := .fa (.free "bool")) 77 rfl))
    (Hk.at_free (c.fact (f := .fa (.free "tuple")) 78 rfl))
    (Hk.at_free (c.fact (f := .fa (.free "str")) 79 rfl))
    (Hk.at_free (c.fact (f := .fa (.free "dict")) 80 rfl))
    (Hk.at_free (c.fact (f := .fa (.free "sorted")) 81 rfl))
    (Hk.at_free (c.fact (f := .fa (.free "all")) 82 rfl))
    (Hk.at_free (c.fact (f := .fa (.free "sum")) 83 rfl))
    (Hk.at_free (c.fact (f := .fa (.free "repr")) 84 rfl))
    (Hk.at_free (c.fact (f := .fa (.free "enumerate")) 85 rfl))
    (Hk.at_free (c.fact (f := .fa (.free "iter")) 86 rfl))
    (Hk.at_free (c.fact (f := .fa (.free "set")) 87 rfl))
end Pr
namespace Pr
open PySem PySem.W PySem.Calls PyProof.Rows
def looseL0 : List PySem.Str := ["_wall",
  "ends_of",
  "parts_of",
  "CoverError",
  "InvalidOperators",
  "InvalidTree",
  "InvalidBook",
  "InvalidNumber",
  "MAX_LETTERS",
  "is_integer",
  "is_count",
  "is_name",
  "are_names",
  "MAX_OPERATORS",
  "MAX_TREE",
  "are_arities",
  "is_whole",
  "Operators",
  "MAX_RULES",
  "MAX_PATTERN",
  "MAX_PRICE",
  "MAX_NONTERMINALS",
  "is_rule",
  "nonterminals_of",
  "is_book",
  "Book",
  "_law_dice",
  "_law_roll",
  "_law_pick",
  "_law_mixed"]
def looseL1 : List PySem.Str := ["_law_nonterminals",
  "_law_drawn_pattern",
  "_law_drawn_book",
  "_law_pattern_end",
  "_law_is_word",
  "_law_is_figure",
  "_law_is_rule",
  "_law_is_plain",
  "_law_met",
  "_law_near_rule",
  "_law_near_rules",
  "_law_right"]
def looseL : List PySem.Str := looseL0 ++ looseL1
abbrev hk : PySem.W.Hook := Hk.hookK factL defL
def ob (s : PySem.W.SharedT) : He.AlD := Hk.obsKG factL defL (HandSHeadRun.getT s)
theorem ob_eq (s : PySem.W.SharedT) : ob s = hk.obs s.abs := Hk.obsKG_eq (HandSHeadRun.getT_eq s)
abbrev hR : OpenRow := OpenLaw.row PySem.Challenge.rw_munchbehind_k12_whole_near_books
theorem run (w : World) : HandSHeadRun.RunEq hR (PySem.W.view hR.prog [48]) hk ob 16000 looseL w := by
  intro os
  kernel_rfl
end Pr
open PySem PySem.W PySem.Calls PyProof.Rows
set_option maxHeartbeats 0 in
theorem PySem.Challenge.cw_munchbehind_k12_whole_near_books_holds : PySem.Challenge.rw_munchbehind_k12_whole_near_books.Holds := by
  w_on; o_law
  refine HandSHeadRun.head_any (r := OpenLaw.row PySem.Challenge.rw_munchbehind_k12_whole_near_books) (q := view (OpenLaw.row PySem.Challenge.rw_munchbehind_k12_whole_near_books).prog [48]) (H := Pr.hk) (ob := Pr.ob) (M := 16000) (loose := Pr.looseL) (d := HandSHeadRun.topDef (OpenLaw.row PySem.Challenge.rw_munchbehind_k12_whole_near_books).prog 48) (kwd := []) Pr.ob_eq
    (by kernel_rfl) (fun s => by kernel_rfl) Pr.run (by kernel_rfl) (by kernel_rfl) (by kernel_rfl) (by rfl) (by first | assumption | decide +kernel) (by decide +kernel) ⟨rfl, rfl, rfl, rfl, rfl, by decide +kernel⟩ ?hw ?hc
  case hw => w_witness2
  case hc =>
    refine Gd.walk_ofGE (l := PySem.Challenge.rw_munchbehind_k12_whole_near_books) (n := 63) (k := 9) (x := "script") (CX := L2.CX0) rfl (by decide) (by kernel_rfl) ⟨rfl, by decide, by decide⟩ ?F (fun _ _ _ _ z => z)
    intro w mg fa h Y G hmg0
    obtain ⟨K, KX, c⟩ := Y
    have hmg : mg ("law" : PySem.Str) = some (.ref fa) := by
      have e : (HandSHeadRun.topDef (OpenLaw.row PySem.Challenge.rw_munchbehind_k12_whole_near_books).prog 48).name = ("law" : PySem.Str) := by kernel_rfl
      rw [← e]
      exact hmg0
    obtain ⟨fd, hb, hF⟩ := Pr.facts (P := (PySem.Challenge.rw_munchbehind_k12_whole_near_books).prog) (w := w) KX G hmg c
    exact ⟨K, fd, Pr.spLaw K, KX, hb, fun H a ns hl _ hS => ⟨a, ns, rfl, hS, hl, fun _ => rfl⟩, hF⟩
