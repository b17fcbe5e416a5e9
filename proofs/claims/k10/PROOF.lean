import PyProof.Rows.All
import Wide.All
import OpenK.AllK
import Wide.FinOn
import PyProof.EqAt
import PyProof.EqKinds
import PyProof.TupleCall
import KE.KExcInit
import KE.OsGo
import HandS.ForMost
import HandS.ForExc
import HandS.Wide
import HandS.IsInst
import HandS.StrMore
import PyProof.ReprReads
import PyProof.ReprRoads
import PyProof.CallFns
import PyProof.ListStr
import PyProof.StrLawsRepr
import HandS.TupMul
import HandS.TupAny
import HandS.More
import KE.KExcIs
import HandS.ExcValue
import HandS.ExcIs
import HandS.ListItems
import HandS.Small
import HandS.DictComp
import HandS.FStr
import HandS.WordsDict
import HandS.Property
import HandS.Iter
import HandS.Walk
import HandS.SetFor
import HandS.Style
import HandS.Finally
import HandS.Strs
import HandS.Star
import HandS.MethStar
import HandS.StrSplit
import HandS.Text
import HandS.ClsMeth
import HandS.TryMany
import HandS.OwnIter
import HandS.OwnEq
import HandS.Lambda
import HandS.Nested
import HandS.EndTab
import HandS.GenYield
import HandS.GenCall
import HandS.GenList
import KE.GoesEnum
import KE.KSortTupAny
import HandS.SortOrd
import HandS.TupSets
import HandS.SetBool
import HandS.DictTup
import KE.KDictKeyed
import KE.KStateDown
import HandS.Base
import HandS.Call
import HandS.Ends
import HandS.Words
import HandS.WordsExc
import HandS.Defaults
import HandS.Head0
import HandS.Head1
import HandS.Head2
import HandS.HeadEnd
import HandS.HeadHook1
import HandS.HeadHook2
import HandS.HeadNt
import PySem.Challenge.RW_munchbehind_k10_whole_lines_of_books
set_option Elab.async false
set_option linter.all false
set_option maxRecDepth 100000
set_option maxHeartbeats 2000000
/-! ### defs that are called where nothing is being shown (repr): what HandS says of a def, with that one fact more -/
namespace Gd
open PySem PySem.Spec PyProof.Rows L2
/-- a def's promise, kept wherever no repr is under way -/
structure FnG (P : Program) (w : World) (K : PySem.W.Frag) (mg : Str → Option Value) (base : Heap) (CX : CXT) (k : Nat) (f : Addr) (fd : FuncData) (ps : List Str) (sp : Sp) : Prop where
  len : ∀ vs H Q E, sp vs H Q E → vs.length = ps.length
  run : ∀ (A : Around) (outer : List Env) (s : Shared) (H : Hp) (args : Args) (us : List Value) (vs : List V) (Q : VK) (E : XK), Room k A → A.guards = some [] → Env0 P w K mg base A outer s H → BindsTo s fd args (ps.zip us) → Vals vs us → sp vs H Q E →
    codeAny (model P w) A (.call (.ref f) args) (CR CX outer P w H s Q E) s
section
variable {P : Program} {w : World} {K : PySem.W.Frag} {mg : Str → Option Value} {base : Heap} {CX : CXT} {k : Nat} {f : Addr} {fd : FuncData} {ps : List Str} {sp : Sp}
/-- out of its body -/
theorem FnG.of_body {qual : Str} {st : Stmt} {x : Str} {N : List Str} (F : Fun K x qual st f fd) (S : FnScope N ps (defScope st)) (len : ∀ vs H Q E, sp vs H Q E → vs.length = ps.length)
    (hbody : ∀ (cdv : Value) (A : Around) (outer : List Env) (s : Shared) (H : Hp) (vs : List V) (Q : VK) (E : XK), Room k (A.deeper (envOfC qual (defScope st) s.heap.objs.size f cdv)) →
      (A.deeper (envOfC qual (defScope st) s.heap.objs.size f cdv)).guards = some [] → sp vs H Q E →
      ∃ t, PSs (cxOf CX P w K mg base N qual (defScope st) f cdv A outer s H E) (defBody st) t ∧ t { nx := fun _ H' => Q .non H', rt := Q } (start N vs) H) : FnG P w K mg base CX (k + 1) f fd ps sp := by
  obtain ⟨oc, od, kV, doc, pm, an, cdv, ct, osl, rfl, lk, hcd⟩ := F.ex
  constructor
  · exact len
  intro A outer s H args us vs Q E room hg env bind rel want
  have size := len _ _ _ _ want
  have keep : ∀ b o, base.get? b = some o → s.heap.get? b = some o := fun b o e => (env.bs b o e).1
  have KX := env.mod.kin.keeps keep
  have lim := env.mod.nolimit.keeps keep
  have slots : ∀ y ∈ ps.zip us, (defScope st).names.lookup y.1 = some .local ∨ ((defScope st).names.lookup y.1 = some .cell ∧ ((cellsFrom (s.heap.objs.size + 1) (defScope st).names []).lookup y.1).isSome = true) := by
    rintro ⟨n, v⟩ hy
    exact (S.par n (List.of_mem_zip hy).1).imp id fun q => ⟨q, PySem.W.cellsFrom_some _ _ _ (.inl q)⟩
  refine codeAny_call_function room.depth (KX _ _ lk) rfl S.co S.gen rfl (PySem.W.codeRec_of KX hcd) (bind _ _ _ _ (wpAny_newFunctionEnv_cells S.kind slots fun env1 he s1 x => ?_))
  subst he
  refine ⟨lim.keeps x.toInCall.keep, codeAny_func ?_⟩
  have guard : (A.deeper (envOfC qual (defScope st) s.heap.objs.size f cdv)).guards = some [] := hg
  obtain ⟨t, ht, hq⟩ := hbody cdv A outer s H vs Q E (room.deeper _) guard want
  have I : Inv (cxOf CX P w K mg base N qual (defScope st) f cdv A outer s H E) [] (start N vs) H s1 := inv_start S room.hd env size rel x
  refine wpAny_mono (ht.run [] s1 (start N vs) H _ I hq) (fun fl s' hs => ?_) fun e s' hs => hs
  cases fl with
  | ret u =>
    obtain ⟨v, σ', H', J, rv, q⟩ := hs
    exact ⟨v, H', J.os, J.bare, J.base, J.hok, rv, q⟩
  | next =>
    obtain ⟨σ', H', J, q⟩ := hs
    exact ⟨V.non, H', J.os, J.bare, J.base, J.hok, rfl, q⟩
  | brk => exact (let ⟨_, _, _, q⟩ := hs; q : False).elim
  | cont => exact (let ⟨_, _, _, q⟩ := hs; q : False).elim
/-- the same, where no exception leaves it -/
theorem FnG.ok {qual : Str} {st : Stmt} {x : Str} {N : List Str} (F : Fun K x qual st f fd) (S : FnScope N ps (defScope st)) (len : ∀ vs H Q E, sp vs H Q E → vs.length = ps.length)
    (hbody : ∀ (cdv : Value) (A : Around) (outer : List Env) (s : Shared) (H : Hp) (vs : List V) (Q : VK) (E : XK), Room k (A.deeper (envOfC qual (defScope st) s.heap.objs.size f cdv)) →
      (A.deeper (envOfC qual (defScope st) s.heap.objs.size f cdv)).guards = some [] → sp vs H Q E →
      ∃ t, PSs (cxOf CX0 P w K mg base N qual (defScope st) f cdv A outer s H E).nox (defBody st) t ∧ t { nx := fun _ H' => Q .non H', rt := Q } (start N vs) H) : FnG P w K mg base CX0 (k + 1) f fd ps sp :=
  FnG.of_body F S len fun cdv A outer s H vs Q E hr hg h => let ⟨t, a, b⟩ := hbody cdv A outer s H vs Q E hr hg h; ⟨t, a.nox, b⟩
end
section
variable {X : Cx} {CX : CXT} {k : Nat} {f : Addr} {fd : FuncData} {ps : List Str} {sp : Sp} {E : XK} {x : Str} {p pos : Pos} {e : Expr} {es : List Expr} {t : TA}
/-- f(..) of such a def -/
theorem pe_callG (F : FnG X.prog X.w X.K X.mg X.base CX k f fd ps sp) (hr : Room k X.A) (gd : X.A.guards = some []) (hg : Gl X x) (hm : X.mg x = some (.ref f)) (hk : PySem.W.keepIn X.K (.ref f) = true) (hb : Binds X.K fd ps []) (hx : Passes CX X E)
    (ha : PA X (e :: es) t) (hdb : (x == ("__debug__" : Str)) = false := by decide) (he : starEach (e :: es) X.env = (false, eval e X.env) :: starEach es X.env := by rfl) (hpl : (backTo pos (starEach es X.env)).any (·.1) = false := by rfl) :
    PE X (.Call (.Name x p) (e :: es) [] pos) (tCall sp [] E t) := by
  refine ⟨fun pins s σ H Q I h => ?_⟩
  refine wpAny_Call_Name_kw (ld_glob I hg hm ?_ hdb)
  refine PySem.W.callWith_K (h₀ := X.base) I.ok.mod.kin hk (thn (ha.run pos pins s σ H _ I h) fun us s1 ⟨vs, H1, I1, r, q⟩ => ⟨I1.kIn, ?_⟩) he hpl
  have q' : sp vs H1 Q E := by
    have z : sp (vs ++ []) H1 Q E := q
    rw [List.append_nil] at z
    exact z
  have hl : us.length = ps.length := by rw [← r.length]; exact F.len _ _ _ _ q'
  have b := hb s1 us I1.kIn (by rw [List.append_nil]; exact hl)
  rw [List.append_nil] at b
  refine wpAny_call (codeAny_mono (F.run X.A X.stack s1 H1 ⟨us, []⟩ us vs Q E hr gd I1.env0 b r q') fun r' s' hq => ?_)
  cases r' with
  | error z => exact hx pins σ H1 s1 z s' I1 hq
  | ok fl =>
    cases fl with
    | ret u => exact I1.after hq
    | next => exact False.elim hq
    | brk => exact False.elim hq
    | cont => exact False.elim hq
end
/-- the script as the one thing that is tracked: at a, locked, where the written part has it not -/
def scriptH (K : PySem.W.Frag) (a : Addr) (o : Obj) (xs : List V) : Hp := fun b => if b = a ∧ K.lookup a = none then some (.frz o (.lst xs)) else none
theorem scriptH_some {K : PySem.W.Frag} {a b : Addr} {o : Obj} {xs : List V} {u : HO} (h : scriptH K a o xs b = some u) : b = a ∧ K.lookup a = none ∧ u = .frz o (.lst xs) := by
  unfold scriptH at h
  by_cases c : b = a ∧ K.lookup a = none
  · rw [if_pos c] at h
    exact ⟨c.1, c.2, (Option.some.inj h).symm⟩
  · rw [if_neg c] at h
    cases h
/-- the law's own call, from a promise that is kept where nothing is being shown -/
theorem law_callG {P : Program} {w : World} {K : PySem.W.Frag} {mg mb : Str → Option Value} {CX : CXT} {k : Nat} {fa a : Addr} {fd : FuncData} {x : Str} {sp : Sp} {s : Shared} {vs : List Value} {ns : List Int}
    (KX : K.In s.heap) (hns : s.heap.Ns mainGlobals mg) (hb : s.heap.Ns builtinsNs mb) (hbb : ∀ x : Str, x ≠ "__name__" → mb x = bootBuiltins x) (hlim : s.heap.NoLimit) (hg : s.gens = #[])
    (ha : s.heap.get? a = some { cls := .type "list", data := .seq vs.toArray }) (hi : IntsAre vs ns) (hl : ns.length ≤ sizeLine) (hr : Room k callerA)
    (F : ∀ base : Heap, K.In base → base.Ns mainGlobals mg → FnG P w K mg base CX k fa fd [x] sp) (hbind : ∀ (s : Shared) (u : Value), BindsTo s fd ⟨[u], []⟩ [(x, u)])
    (hsp : ∀ H : Hp, Only H → SqL K H a (ns.map V.int) → sp [.ref a] H (fun v _ => v = .bl true) fun _ _ _ => False)
    (hCX : ∀ H e s', CX [] H s (fun _ _ _ => False) e s' → False) :
    codeAny (model P w) callerA (.call (.ref fa) ⟨[.ref a], []⟩) (fun r s' => r = .ok (.ret (.bool true)) ∧ OldK s.heap s'.heap ∧ s'.os = s.os ∧ AllBare s'.gens) s := by
  have rv := vals_ints hi
  have lenV := hi.length
  let O : Obj := { cls := .type "list", data := .seq vs.toArray }
  let H : Hp := scriptH K a O (ns.map V.int)
  have only : Only H := fun b => by
    cases q : H b with
    | none => exact .inl rfl
    | some u => exact .inr ⟨O, ns.map V.int, by rw [(scriptH_some q).2.2]⟩
  have hS : SqL K H a (ns.map V.int) := by
    cases hk : K.lookup a with
    | none => exact .inl (.inr ⟨O, if_pos ⟨rfl, hk⟩⟩)
    | some o =>
      have e := KX a o hk
      rw [ha] at e
      cases e
      exact .inr ⟨_, vs.toArray, _, hk, rfl, rfl, rfl, by rw [List.size_toArray, lenV]; exact hl, by simpa using rv⟩
  have hok : HOk P w H s.heap := fun b u q => by
    obtain ⟨e1, _, e3⟩ := scriptH_some q
    rw [e1, e3]
    exact ⟨ha, by rw [List.length_map]; exact hl, vs, _, rv, ha⟩
  have notDict : ∀ {b : Addr} {o : Obj} {es : Array DictEntry} {ep : Nat}, s.heap.get? b = some o → o.data = .dict es ep → H b = none := fun {b o es ep} e d => by
    cases q : H b with
    | none => rfl
    | some u =>
      rw [(scriptH_some q).1, ha] at e
      cases e
      cases (show Data.seq vs.toArray _ = Data.dict es ep from d)
  have nsK : ∀ {b : Addr} {m : Str → Option Value}, s.heap.Ns b m → (hidT s.heap H).Ns b m := fun {b m} ⟨o, es, ep, e, d, r⟩ => ⟨o, es, ep, hidT_get e (notDict e d), d, r⟩
  have inK : K.In (hidT s.heap H) := fun b o e => hidT_get (KX b o e) (by
    cases q : H b with
    | none => rfl
    | some u =>
      obtain ⟨e1, e2, _⟩ := scriptH_some q
      rw [e1, e2] at e
      cases e)
  obtain ⟨mc, l1, l2⟩ := hlim
  have env : Env0 P w K mg (hidT s.heap H) callerA [] s H :=
    ⟨rfl, ⟨inK, nsK hns, ⟨mb, nsK hb, hbb⟩, ⟨mc, nsK l1, l2⟩⟩, fun b o e => of_hidT e, Nat.le_of_eq (hidT_size _ _), trivial, fun b m => absurd (show b ∈ ([] : List Addr) from m) (by simp), hok, .of_eq hg⟩
  refine codeAny_mono ((F _ inK (nsK hns)).run callerA [] s H ⟨[.ref a], []⟩ [.ref a] [.ref a] _ _ hr rfl env (hbind s (.ref a)) (.cons rfl .nil) (hsp H only hS)) fun r s' h => ?_
  cases r with
  | error e => exact (hCX H e s' h).elim
  | ok fl =>
    cases fl with
    | next => exact False.elim h
    | brk => exact False.elim h
    | cont => exact False.elim h
    | ret u =>
      obtain ⟨v, H', os, bare, un, hok', r', q⟩ := h
      obtain rfl : v = .bl true := q
      obtain rfl : u = Value.bool true := r'
      refine ⟨rfl, OldK.of_keep fun b o e => ?_, os, bare⟩
      cases q : H b with
      | none => exact un.keep b o e q (fun z => absurd (show b ∈ ([] : List Addr) from z) (by simp)) (by simp)
      | some u =>
        obtain ⟨_, _, eu⟩ := scriptH_some q
        rw [eu] at q
        have e1 := (hok b _ q).1
        have e2 := (hok' b _ (un.frzs b O _ q)).1
        rw [e] at e1
        cases e1
        exact e2
theorem walk_ofG {l : PySem.W.OpenLaw} {n k : Nat} {q : Program} {loose : List Str} {XP : (Str → Option Value) → Heap → Prop} {YP : World → Heap → Prop} {d : DefRec} {K : Params → PySem.W.Frag} {CX : World → CXT} {sp : World → Sp} {x : Str}
    (hn : l.most = some n) (hn2 : n ≤ sizeLine) (hdf : d.params.defaults = []) (hr : Room k callerA)
    (hY : ∀ (w : World) (h : Heap), YP w h → (K w.params).In h)
    (F : ∀ (w : World) (mg : Str → Option Value) (fa : Addr) (h : Heap), (K w.params).In h → h.Ns mainGlobals mg → mg d.name = some (.ref fa) →
      ∃ fd : FuncData, (∀ (s : Shared) (u : Value), BindsTo s fd ⟨[u], []⟩ [(x, u)]) ∧
        ∀ base : Heap, (K w.params).In base → base.Ns mainGlobals mg → FnG l.prog w (K w.params) mg base (CX w) k fa fd [x] (sp w))
    (hsp : ∀ (w : World) (H : Hp) (a : Addr) (ns : List Int), ns.length ≤ n → Only H → SqL (K w.params) H a (ns.map V.int) → sp w [.ref a] H (fun v _ => v = .bl true) fun _ _ _ => False)
    (hCX : ∀ (w : World) (H : Hp) (s : Shared) (e : Value) (s' : Shared), CX w [] H s (fun _ _ _ => False) e s' → False) :
    PySem.W.WalkO q loose XP YP l.row.toRowW d [] (fun f vs => PySem.call f vs) := by
  refine Att.attach_call hn hdf fun w s₀ s₁ mg mb fa o pm cd doc a vs ns G Y ho hd hcd hmg hobj hints hlen hg => ?_
  obtain ⟨fd, hb, hF⟩ := F w mg fa _ (hY w _ Y) G.T.g hmg
  exact law_callG (hY w _ Y) G.T.g G.T.b G.T.builtins G.T.nolimit hg hobj hints (Nat.le_trans hlen hn2) hr hF hb (fun H hO hS => hsp w H a ns hlen hO hS) fun H e s' => hCX w H s₁ e s'
end Gd
/-! ### tuples of which it is known that they are plain: rules that make them, and their methods -/
namespace Tx
open PySem PySem.Spec PyProof.Rows L2
/-- a plain tuple -/
def TX (H : Hp) (a : Addr) (xs : List V) : Prop := ∃ ob, H a = some (.frz ob (.tup xs)) ∧ ob.dict = none
theorem TX.same {H H' : Hp} {a : Addr} {xs : List V} (h : TX H a xs) (s : Same H H') : TX H' a xs := let ⟨ob, e, d⟩ := h; ⟨ob, s _ _ e, d⟩
theorem TX.sq {K : PySem.W.Frag} {H : Hp} {a : Addr} {xs : List V} (h : TX H a xs) : SqT K H a xs := let ⟨ob, e, _⟩ := h; .inl (.inr ⟨ob, e⟩)
theorem TX.there {H : Hp} {a : Addr} {xs : List V} (h : TX H a xs) : ∃ ob, H a = some (.frz ob (.tup xs)) := let ⟨ob, e, _⟩ := h; ⟨ob, e⟩
theorem same_new {p : Addr} {H : Hp} {o : HO} (n : H p = none) : Same H (L2.upd H p o) := fun b u h => by rw [upd_ne (ne_of_none h n)]; exact h
section
variable {X : Cx}
/-- a new plain tuple -/
theorem laid_tup {pins : List (Addr × Obj)} {σ : L2.St} {H : Hp} {s : Shared} {xs : List V} {us : List Value} (I : Inv X pins σ H s) (rel : Vals xs us) (few : xs.length ≤ sizeLine) :
    ∃ H2, Inv X pins σ H2 { s with heap := s.heap.push { cls := .type "tuple", data := .seq us.toArray } } ∧ H s.heap.objs.size = none ∧ Same H H2 ∧ TX H2 s.heap.objs.size xs := by
  have fresh := I.hok.fresh (Nat.le_refl s.heap.objs.size)
  have J := I.laid (t' := s.toks) (o := .frz { cls := .type "tuple", data := .seq us.toArray } (.tup xs)) (h' := s.heap.push { cls := .type "tuple", data := .seq us.toArray }) (fun b ob q => Heap.get?_push_of_some _ q) (Nat.le_refl _)
    ⟨Heap.get?_push_size _ rfl, few, us, rel, IsTup.new _ _⟩
  exact ⟨_, J, fresh, same_new fresh, _, upd_same, rfl⟩
/-- (a, b, ..) -/
def tTupX (t : TA) : TE := fun σ H Q => t σ H fun xs H1 => xs.length ≤ sizeLine ∧ ∀ p H2, H1 p = none → Same H1 H2 → TX H2 p xs → Q (.ref p) H2
theorem pe_tupX {es : List Expr} {pos : Pos} {x1} {t : TA} (h : PA X es t) : PE X (.Tuple es x1 pos) (tTupX t) := by
  refine ⟨fun pins s0 σ G0 Q J0 q0 => ?_⟩
  refine wpAny_Tuple_spliced (thn (h.run pos pins s0 σ G0 _ J0 q0) fun us s1 ⟨xs, G1, J1, rel, few, q⟩ => ⟨by rw [← rel.length]; exact few, ?_⟩)
  obtain ⟨G2, J2, fresh, same, tx⟩ := laid_tup J1 rel few
  exact ⟨.ref s1.heap.objs.size, G2, J2, rfl, q _ _ fresh same tx⟩
/-- t + u -/
def rCatX : R2 := fun x y H Q => ∃ a b xs ys, x = .ref a ∧ y = .ref b ∧ TX H a xs ∧ TX H b ys ∧ xs.length + ys.length ≤ sizeLine ∧ ∀ p H2, Same H H2 → TX H2 p (xs ++ ys) → Q (.ref p) H2
theorem op_catX : OpR X (binaryOp .Add) rCatX := by
  intro pins s σ H x y v u Q J rx ry h
  obtain ⟨a, b, xs, ys, rfl, rfl, ha, hb, few, q⟩ := h
  by_cases ex : xs = []
  · subst ex
    refine op_catA pins s σ H _ _ v u Q J rx ry ⟨a, b, [], ys, rfl, rfl, ha.sq, hb.sq, few, fun _ => q b H (Same.refl H) hb, fun e => absurd rfl e, fun e => absurd rfl e⟩
  · cases rx
    cases ry
    obtain ⟨us, r1, p1, _⟩ := J.tuple (ha.sq (K := X.K))
    obtain ⟨ws, r2, p2, _⟩ := J.tuple (hb.sq (K := X.K))
    refine HT.cat_tup p1 p2 (fun z => ex (r1.nil_iff.mp z)) (fun z => ?_) (fun z => ?_) (by rw [← r1.length, ← r2.length]; exact few)
    · have ey := r2.nil_iff.mp z
      subst ey
      exact ⟨.ref a, H, J, rfl, q a H (Same.refl H) (by rw [List.append_nil]; exact ha)⟩
    · obtain ⟨G2, J2, fresh, same, tx⟩ := laid_tup J (r1.append r2) (by rw [List.length_append]; exact few)
      exact ⟨.ref s.heap.objs.size, G2, J2, rfl, q _ _ same tx⟩
/-- t + u, what is new is plain -/
def rCatY (K : PySem.W.Frag) : R2 := fun x y H Q => ∃ a b xs ys, x = .ref a ∧ y = .ref b ∧ SqT K H a xs ∧ SqT K H b ys ∧ xs.length + ys.length ≤ sizeLine ∧
  (xs = [] → Q (.ref b) H) ∧ (xs ≠ [] → ys = [] → Q (.ref a) H) ∧ ∀ p H2, H p = none → Same H H2 → TX H2 p (xs ++ ys) → Q (.ref p) H2
theorem op_catY : OpR X (binaryOp .Add) (rCatY X.K) := by
  intro pins s σ H x y v u Q J rx ry h
  obtain ⟨a, b, xs, ys, rfl, rfl, ha, hb, few, q0, q1, q2⟩ := h
  by_cases ex : xs = []
  · subst ex
    exact op_catA pins s σ H _ _ v u Q J rx ry ⟨a, b, [], ys, rfl, rfl, ha, hb, few, q0, fun e => absurd rfl e, fun e => absurd rfl e⟩
  by_cases ey : ys = []
  · subst ey
    exact op_catA pins s σ H _ _ v u Q J rx ry ⟨a, b, xs, [], rfl, rfl, ha, hb, few, fun e => absurd e ex, q1, fun _ e => absurd rfl e⟩
  · cases rx
    cases ry
    obtain ⟨us, r1, p1, _⟩ := J.tuple ha
    obtain ⟨ws, r2, p2, _⟩ := J.tuple hb
    refine HT.cat_tup p1 p2 (fun z => ex (r1.nil_iff.mp z)) (fun z => absurd (r2.nil_iff.mp z) ey) (fun _ => ?_) (by rw [← r1.length, ← r2.length]; exact few)
    obtain ⟨G2, J2, fresh, same, tx⟩ := laid_tup J (r1.append r2) (by rw [List.length_append]; exact few)
    exact ⟨.ref s.heap.objs.size, G2, J2, rfl, q2 _ _ fresh same tx⟩
/-- t[lo:hi] -/
def rSlX : V → Option Int → Option Int → Hp → VK → Prop := fun x lo hi H Q => ∃ a xs, x = .ref a ∧ TX H a xs ∧ ∀ p H2, Same H H2 → TX H2 p (cutV xs lo hi) → Q (.ref p) H2
theorem cut_whole {xs : List V} {lo hi : Option Int} (h : HT.sIx xs.length 0 lo = 0 ∧ HT.sIx xs.length xs.length hi = xs.length) : cutV xs lo hi = xs := by
  unfold cutV
  rw [h.1, h.2, List.drop_zero, Nat.sub_zero, List.take_length]
theorem sl_tupX : SlR X rSlX := by
  intro pins s σ H x v vl vu lo hi sl Q J rx hs pl pu h
  obtain ⟨a, xs, rfl, hx, q⟩ := h
  cases rx
  obtain ⟨us, rel, tt, few⟩ := J.tuple (hx.sq (K := X.K))
  have len : us.toArray.size = xs.length := by rw [List.size_toArray]; exact rel.length.symm
  refine ⟨"tuple", _, PyProof.Rows.slot_tuple_getitem.lookup, tt.typeIs, ?_⟩
  by_cases whole : HT.sIx xs.length 0 lo = 0 ∧ HT.sIx xs.length xs.length hi = xs.length
  · refine getItem_tuple_whole tt hs pl pu (by rw [len]; exact whole) ⟨.ref a, H, J, rfl, q a H (Same.refl H) ?_⟩
    rw [cut_whole whole]
    exact hx
  · refine HT.getItem_tuple_cut tt hs pl pu (by rw [len]; exact whole) ?_ (by rw [len]; exact few)
    rw [len]
    obtain ⟨G2, J2, fresh, same, tx⟩ := laid_tup J ((rel.drop (HT.sIx xs.length 0 lo)).take (HT.sIx xs.length xs.length hi - HT.sIx xs.length 0 lo)) (Nat.le_trans (cutV_length xs lo hi) few)
    exact ⟨.ref s.heap.objs.size, G2, J2, rfl, q _ _ same tx⟩
/-- tuple(xs) of a list -/
theorem call_tupX : CallR X (.type "tuple") (fun xs H Q => ∃ p ys, xs = [.ref p] ∧ SqL X.K H p ys ∧ ∀ q H2, H q = none → Same H H2 → TX H2 q ys → Q (.ref q) H2) := by
  intro pins s σ H xs us Q J r h
  obtain ⟨p, ys, rfl, hq, q⟩ := h
  obtain ⟨u, rfl, rx⟩ := vals1 r
  cases rx
  obtain ⟨its, rel, pl, few⟩ := J.list hq
  have len := rel.length
  refine call_tuple_list pl.isList (fun h2 keep => ?_) (by simp only [List.size_toArray]; omega)
  have J1 : Inv X pins σ H { s with heap := h2 } := J.kept (t' := s.toks) keep
  obtain ⟨G2, J2, fresh, same, tx⟩ := laid_tup J1 rel few
  exact ⟨.ref h2.objs.size, G2, J2, rfl, q _ _ fresh same tx⟩
/-- t.name(..) -/
def tTM (r : V → List V → Hp → VK → Prop) (to : TE) (t : TA) : TE := fun σ H Q => to σ H fun x H1 => (∃ a xs, x = .ref a ∧ TX H1 a xs) ∧ t σ H1 fun vs H2 => r x vs H2 Q
variable {o e : Expr} {es : List Expr} {name : Str} {id : String} {apos cpos : Pos} {r : V → List V → Hp → VK → Prop} {to : TE} {t : TA}
theorem pe_tm (slot : Slot "tuple" name id) (hty : typeOf (.builtin id) = pure (.type "method_descriptor")) (hm : MtR X id r) (ho : PE X o to) (ha : PA X (e :: es) t)
    (hbase : attributeBase o name X.env (eval o X.env) = eval o X.env := by rfl)
    (few : ((backTo cpos (starEach (e :: es) X.env)).all (fun x => !x.1) && (backToKw cpos (keywordEach [] X.env)).all (fun x => x.1.isSome)
      && decide ((e :: es).length + ([] : List Keyword).length + (if ([] : List Keyword).isEmpty then 0 else 1) < 30)) = true := by rfl)
    (line : (apos.endLine == cpos.line) = true := by rfl) (st : starEach (e :: es) X.env = (false, eval e X.env) :: starEach es X.env := by rfl) (plain : (backTo cpos (starEach es X.env)).any (·.1) = false := by rfl) :
    PE X (.Call (.Attribute o name apos) (e :: es) [] cpos) (tTM r to t) := by
  refine ⟨fun pins s0 σ G0 Q J0 q0 => ?_⟩
  refine wpAny_Call_method_late hbase few line rfl (thn (ho.run pins s0 σ G0 _ J0 q0) fun v s1 ⟨x, G1, J1, r1, ⟨a, xs, ex, tx⟩, q1⟩ => ?_)
  subst ex
  obtain rfl : v = Value.ref a := r1
  obtain ⟨ob, at_, nod⟩ := tx
  obtain ⟨here, _, us, rel, tt⟩ := J1.hok a _ at_
  refine ⟨"tuple", id, F.plainAttrs_tuple, slot, hty, tt.typeIs, fun b eb => ?_, ?_⟩
  · cases eb
    exact ⟨ob, here, nod⟩
  have run := ha.run cpos pins s1 σ G1 _ J1 q1
  rw [st] at run ⊢
  refine Calls.callWith_builtin (by show (false || (backTo cpos (starEach es X.env)).any (·.1)) = false; rw [plain]; rfl) (Calls.evalArgs_plain ?_)
  exact thn run fun us2 s2 ⟨vs, G2, J2, r2, q2⟩ => hm pins s2 σ G2 (.ref a) vs _ us2 Q J2 rfl r2 q2
end
end Tx
/-! ### repr of what is tracked: None, bools, ints, texts, lists, tuples and dicts of them -/
namespace Gd
open PySem PySem.Spec PyProof.Rows L2 PySem.Builtin.List
def keyText : Key → Str
  | .inl i => ((toString i : String) : Str)
  | .inr x => reprText x
def keyFits : Key → Prop
  | .inl i => i.natAbs.log2 < 1920
  | .inr x => (reprText x).length ≤ sizeLine
/-- a plain value and its text -/
inductive Sc : V → Str → Prop where
  | non : Sc .non "None"
  | bl (b : Bool) : Sc (.bl b) (if b then "True" else "False")
  | int (i : Int) (h : i.natAbs.log2 < 1920) : Sc (.int i) ((toString i : String) : Str)
  | str (x : Str) (h : (reprText x).length ≤ sizeLine) : Sc (.str x) (reprText x)
/-- a tuple that is tracked -/
def TT (H : Hp) (a : Addr) (xs : List V) : Prop := H a = some (.tup xs)
theorem TT.same {H H' : Hp} {a : Addr} {xs : List V} (h : TT H a xs) (s : Same H H') : TT H' a xs := s _ _ h
theorem TT.eq {H : Hp} {a : Addr} {xs ys : List V} (h : TT H a xs) (k : TT H a ys) : xs = ys := by
  unfold TT at h k
  rw [h] at k
  cases k
  rfl
theorem TT.nl {H : Hp} {a : Addr} {xs ys : List V} (h : TT H a xs) (k : H a = some (.lst ys)) : False := by
  unfold TT at h
  rw [h] at k
  cases k
theorem TT.nd {H : Hp} {a : Addr} {xs : List V} {kvs : List (Key × V)} (h : TT H a xs) (k : H a = some (.dK kvs)) : False := by
  unfold TT at h
  rw [h] at k
  cases k
theorem TT.at {P : Program} {w : World} {H : Hp} {h : Heap} {a : Addr} {xs : List V} (t : TT H a xs) (ok : HOk P w H h) : ∃ its o n, Vals xs its ∧ h.get? a = some o ∧ o.cls = .type "tuple" ∧ o.data = .seq its.toArray n := by
  obtain ⟨_, its, rv, o, ho, hc, m, hd⟩ := (show ObjOk P w H h a (.tup xs) from ok a _ t)
  exact ⟨its, o, m, rv, ho, hc, hd⟩
theorem TT.sq {K : PySem.W.Frag} {H : Hp} {a : Addr} {xs : List V} (h : TT H a xs) : SqT K H a xs := .inl (.inl h)
/-- v is shown as t: nested at most n deep -/
def Sh (H : Hp) : Nat → V → Str → Prop
  | 0, v, t => Sc v t
  | n + 1, v, t => Sc v t ∨ (∃ a xs ts, v = .ref a ∧ H a = some (.lst xs) ∧ Paired (Sh H n) xs ts ∧ t = listText ts) ∨
      (∃ a xs ts, v = .ref a ∧ TT H a xs ∧ Paired (Sh H n) xs ts ∧ t = tupleText ts) ∨
      ∃ a kvs ts, v = .ref a ∧ H a = some (.dK kvs) ∧ Paired (fun (p : Key × V) t => keyFits p.1 ∧ Sh H n p.2 t) kvs ts ∧ t = dictText (List.zipWith (fun (p : Key × V) t => keyText p.1 ++ ": " ++ t) kvs ts)
theorem Sh.sc {H : Hp} {n : Nat} {v : V} {t : Str} (h : Sc v t) : Sh H n v t := by
  cases n with
  | zero => exact h
  | succ n => exact .inl h
theorem Sh.lst {H : Hp} {n : Nat} {a : Addr} {xs : List V} {ts : List Str} (e : H a = some (.lst xs)) (h : Paired (Sh H n) xs ts) : Sh H (n + 1) (.ref a) (listText ts) := .inr (.inl ⟨a, xs, ts, rfl, e, h, rfl⟩)
theorem Sh.tup {H : Hp} {n : Nat} {a : Addr} {xs : List V} {ts : List Str} (e : TT H a xs) (h : Paired (Sh H n) xs ts) : Sh H (n + 1) (.ref a) (tupleText ts) := .inr (.inr (.inl ⟨a, xs, ts, rfl, e, h, rfl⟩))
theorem Sh.dK {H : Hp} {n : Nat} {a : Addr} {kvs : List (Key × V)} {ts : List Str} (e : H a = some (.dK kvs)) (h : Paired (fun (p : Key × V) t => keyFits p.1 ∧ Sh H n p.2 t) kvs ts) :
    Sh H (n + 1) (.ref a) (dictText (List.zipWith (fun (p : Key × V) t => keyText p.1 ++ ": " ++ t) kvs ts)) := .inr (.inr (.inr ⟨a, kvs, ts, rfl, e, h, rfl⟩))
theorem Sc.det {v : V} {t t' : Str} (h : Sc v t) (h' : Sc v t') : t = t' := by
  cases h <;> cases h' <;> rfl
theorem Sc.noRef {a : Addr} {t : Str} (h : Sc (.ref a) t) : False := nomatch h
theorem paired_det {α : Type} {F G : α → Str → Prop} (k : ∀ a t t', F a t → G a t' → t = t') : ∀ {xs : List α} {ts ts' : List Str}, Paired F xs ts → Paired G xs ts' → ts = ts'
  | _, _, _, .nil, .nil => rfl
  | _, _, _, .cons h r, .cons h' r' => by rw [k _ _ _ h h', paired_det k r r']
/-- the text is one -/
theorem Sh.det {H : Hp} : ∀ (n : Nat) (v : V) (t : Str), Sh H n v t → ∀ (m : Nat) (t' : Str), Sh H m v t' → t = t'
  | 0, v, t, h, 0, t', h' => Sc.det h h'
  | 0, v, t, h, m + 1, t', h' => by
    rcases h' with h' | ⟨a, _, _, rfl, _⟩ | ⟨a, _, _, rfl, _⟩ | ⟨a, _, _, rfl, _⟩
    · exact Sc.det h h'
    all_goals exact (Sc.noRef h).elim
  | n + 1, v, t, h, 0, t', h' => by
    rcases h with h | ⟨a, _, _, rfl, _⟩ | ⟨a, _, _, rfl, _⟩ | ⟨a, _, _, rfl, _⟩
    · exact Sc.det h h'
    all_goals exact (Sc.noRef h').elim
  | n + 1, v, t, h, m + 1, t', h' => by
    rcases h with h | ⟨a, xs, ts, rfl, e, p, rfl⟩ | ⟨a, xs, ts, rfl, e, p, rfl⟩ | ⟨a, xs, ts, rfl, e, p, rfl⟩
    · rcases h' with h' | ⟨a, _, _, rfl, _⟩ | ⟨a, _, _, rfl, _⟩ | ⟨a, _, _, rfl, _⟩
      · exact Sc.det h h'
      all_goals exact (Sc.noRef h).elim
    · rcases h' with h' | ⟨b, xs', ts', eb, e', p', rfl⟩ | ⟨b, xs', ts', eb, e', p', rfl⟩ | ⟨b, xs', ts', eb, e', p', rfl⟩
      · exact (Sc.noRef h').elim
      · cases eb
        rw [e] at e'
        cases e'
        rw [paired_det (fun a t t' q q' => Sh.det n a t q m t' q') p p']
      · cases eb
        exact (TT.nl e' e).elim
      · cases eb
        rw [e] at e'
        cases e'
    · rcases h' with h' | ⟨b, xs', ts', eb, e', p', rfl⟩ | ⟨b, xs', ts', eb, e', p', rfl⟩ | ⟨b, xs', ts', eb, e', p', rfl⟩
      · exact (Sc.noRef h').elim
      · cases eb
        exact (TT.nl e e').elim
      · cases eb
        cases TT.eq e e'
        rw [paired_det (fun a t t' q q' => Sh.det n a t q m t' q') p p']
      · cases eb
        exact (TT.nd e e').elim
    · rcases h' with h' | ⟨b, xs', ts', eb, e', p', rfl⟩ | ⟨b, xs', ts', eb, e', p', rfl⟩ | ⟨b, xs', ts', eb, e', p', rfl⟩
      · exact (Sc.noRef h').elim
      · cases eb
        rw [e] at e'
        cases e'
      · cases eb
        exact (TT.nd e' e).elim
      · cases eb
        rw [e] at e'
        cases e'
        rw [paired_det (fun a t t' q q' => Sh.det n a.2 t q.2 m t' q'.2) p p']
theorem Sh.keep {H H' : Hp} (k : ∀ a o, H a = some o → H' a = some o) : ∀ (n : Nat) (v : V) (t : Str), Sh H n v t → Sh H' n v t
  | 0, _, _, h => h
  | n + 1, _, _, h => by
    rcases h with h | ⟨a, xs, ts, rfl, e, p, rfl⟩ | ⟨a, xs, ts, rfl, e, p, rfl⟩ | ⟨a, xs, ts, rfl, e, p, rfl⟩
    · exact .inl h
    · exact Sh.lst (k _ _ e) (L2.Paired.mapP p fun x t q => Sh.keep k n x t q)
    · exact Sh.tup (TT.same e k) (L2.Paired.mapP p fun x t q => Sh.keep k n x t q)
    · exact Sh.dK (k _ _ e) (L2.Paired.mapP p fun x t q => ⟨q.1, Sh.keep k n x.2 t q.2⟩)
section
variable {P : Program} {w : World} {H : Hp} {h : Heap}
def Below (H : Hp) (n : Nat) (b : Addr) : Prop := ∃ m, m ≤ n ∧ ∃ t, Sh H m (.ref b) t
theorem all_repr {n : Nat} (ih : ∀ (v : V) (t : Str) (u : Value), Sh H n v t → RelV v u → ∃ bs : List Addr, (∀ b ∈ bs, Below H n b) ∧ ReprK P w bs h n u t) :
    ∀ {xs : List V} {ts : List Str} {us : List Value}, Paired (Sh H n) xs ts → Vals xs us → ∃ bs : List Addr, (∀ b ∈ bs, Below H n b) ∧ ReprAllK P w bs h n us ts
  | _, _, _, .nil, .nil => ⟨[], (fun _ m => nomatch m), .nil⟩
  | _, _, _, .cons p q, .cons r s => by
    obtain ⟨b1, h1, k1⟩ := ih _ _ _ p r
    obtain ⟨b2, h2, k2⟩ := all_repr ih q s
    exact ⟨b1 ++ b2, fun b m => (List.mem_append.mp m).elim (h1 b) (h2 b), .cons (k1.more fun b m => List.mem_append_left _ m) (k2.more_le (fun b m => List.mem_append_right _ m) (Nat.le_refl _))⟩
theorem key_repr {k : Key} {v : Value} (e : keyIs k v = true) (f : keyFits k) (bs : List Addr) (n : Nat) : ReprK P w bs h n v (keyText k) := by
  rcases keyIs_shape e with ⟨i, t, rfl, rfl⟩ | ⟨x, t, rfl, rfl⟩
  · exact .of_is (ReprIs.int t f) _ _ _
  · exact .of_is (ReprIs.str x t f) _ _ _
theorem ReprEntriesK.wider {as as' : List Addr} {d : Nat} (sub : ∀ b ∈ as, b ∈ as') : ∀ {l : List DictEntry} {ts : List Str}, ReprEntriesK P w as h d l ts → ReprEntriesK P w as' h d l ts
  | _, _, .nil => .nil
  | _, _, .cons a b r => .cons (a.more sub) (b.more sub) (ReprEntriesK.wider sub r)
theorem entries_repr {n : Nat} (ih : ∀ (v : V) (t : Str) (u : Value), Sh H n v t → RelV v u → ∃ bs : List Addr, (∀ b ∈ bs, Below H n b) ∧ ReprK P w bs h n u t) :
    ∀ {kvs : List (Key × V)} {ts : List Str} {ws : List (Key × Value)} {es : List DictEntry}, Paired (fun (p : Key × V) t => keyFits p.1 ∧ Sh H n p.2 t) kvs ts → KV kvs ws → Pairs (mixKind P w) es ws →
      ∃ bs : List Addr, (∀ b ∈ bs, Below H n b) ∧ ReprEntriesK P w bs h n es (List.zipWith (fun (p : Key × V) t => keyText p.1 ++ ": " ++ t) kvs ts)
  | _, _, _, _, .nil, .nil, .nil => ⟨[], (fun _ m => nomatch m), .nil⟩
  | _, _, _, _, .cons p q, .cons r s, .cons (e := e) a b c => by
    obtain ⟨b1, h1, k1⟩ := ih _ _ _ p.2 r.2
    obtain ⟨b2, h2, k2⟩ := entries_repr ih q s c
    refine ⟨b1 ++ b2, fun b m => (List.mem_append.mp m).elim (h1 b) (h2 b), ?_⟩
    refine .cons (key_repr (by rw [r.1]; exact a) p.1 _ _) ?_ (ReprEntriesK.wider (fun b m => List.mem_append_right _ m) k2)
    rw [b]
    exact k1.more fun b m => List.mem_append_left _ m
/-- whatever is tracked and is shown as t gives t to repr -/
theorem repr_sh (ok : HOk P w H h) (n : Nat) : ∀ (v : V) (t : Str) (u : Value), Sh H n v t → RelV v u → ∃ bs : List Addr, (∀ b ∈ bs, Below H n b) ∧ ReprK P w bs h n u t := by
  induction n using Nat.strongRecOn with
  | ind n IH =>
    intro v t u hv r
    have plain : Sc v t → ∃ bs : List Addr, (∀ b ∈ bs, Below H n b) ∧ ReprK P w bs h n u t := fun c => by
      refine ⟨[], (fun _ m => nomatch m), ?_⟩
      cases c with
      | non =>
        cases (show u = Value.none from r)
        exact .of_is ReprIs.none _ _ _
      | bl b =>
        cases (show u = Value.bool b from r)
        exact .of_is (ReprIs.bool b) _ _ _
      | int i f =>
        obtain ⟨t, rfl⟩ := (show ∃ t, u = Value.int i t from r)
        exact .of_is (ReprIs.int t f) _ _ _
      | str x f =>
        obtain ⟨t, rfl⟩ := (show ∃ t, u = Value.str x t from r)
        exact .of_is (ReprIs.str x t f) _ _ _
    cases n with
    | zero => exact plain hv
    | succ n =>
      have ih := IH n (Nat.lt_succ_self n)
      -- a ring can't be: what is below has the same text at a lower level
      have ring : ∀ (a : Addr) (bs : List Addr), v = .ref a → (∀ b ∈ bs, Below H n b) → a ∈ bs → ∃ bs : List Addr, (∀ b ∈ bs, Below H (n + 1) b) ∧ ReprK P w bs h (n + 1) u t := fun a bs e hb m => by
        obtain ⟨m, hm, t', ht⟩ := hb a m
        subst e
        have et : t = t' := Sh.det _ _ _ hv _ _ ht
        subst et
        obtain ⟨cs, hc, k⟩ := IH m (by omega) _ _ _ ht r
        exact ⟨cs, fun b q => let ⟨l, hl, x⟩ := hc b q; ⟨l, by omega, x⟩, k.level_le (by omega)⟩
      rcases id hv with c | ⟨a, xs, ts, rfl, e, p, rfl⟩ | ⟨a, xs, ts, rfl, e, p, rfl⟩ | ⟨a, kvs, ts, rfl, e, p, rfl⟩
      · exact plain c
      · cases (show u = Value.ref a from r)
        obtain ⟨_, its, m, rv, ho⟩ := (show ObjOk P w H h a (.lst xs) from ok a _ e)
        obtain ⟨bs, hb, hk⟩ := all_repr ih p rv
        by_cases c : a ∈ bs
        · exact ring a bs rfl hb c
        · refine ⟨a :: bs, fun b q => ?_, ?_⟩
          · rcases List.mem_cons.mp q with rfl | q
            · exact ⟨n + 1, Nat.le_refl _, _, hv⟩
            · obtain ⟨l, hl, x⟩ := hb b q
              exact ⟨l, by omega, x⟩
          · cases its with
            | nil =>
              cases hk
              rw [listText_nil]
              exact ReprK.listEmpty ho rfl rfl
            | cons x l => exact ReprK.list ho rfl rfl c (by simpa using hk.length_eq) (fun i y q => hk.item i y (by simpa using q))
      · cases (show u = Value.ref a from r)
        obtain ⟨its, o, m, rv, ho, hc, hd⟩ := TT.at e ok
        obtain ⟨bs, hb, hk⟩ := all_repr ih p rv
        by_cases c : a ∈ bs
        · exact ring a bs rfl hb c
        · refine ⟨a :: bs, fun b q => ?_, ReprK.tuple ho hc hd c (by simpa using hk)⟩
          rcases List.mem_cons.mp q with rfl | q
          · exact ⟨n + 1, Nat.le_refl _, _, hv⟩
          · obtain ⟨l, hl, x⟩ := hb b q
            exact ⟨l, by omega, x⟩
      · cases (show u = Value.ref a from r)
        obtain ⟨_, ys, ws, rv, o, es, ep, ho, hc, hd, _, hp, _⟩ := (show ObjOk P w H h a (.dK kvs) from ok a _ e)
        obtain ⟨bs, hb, hk⟩ := entries_repr ih p rv hp
        by_cases c : a ∈ bs
        · exact ring a bs rfl hb c
        · refine ⟨a :: bs, fun b q => ?_, ReprK.dict ho hc.1 hd ys c hk⟩
          rcases List.mem_cons.mp q with rfl | q
          · exact ⟨n + 1, Nat.le_refl _, _, hv⟩
          · obtain ⟨l, hl, x⟩ := hb b q
            exact ⟨l, by omega, x⟩
/-- repr(v) -/
theorem call_sh (ok : HOk P w H h) (n : Nat) : ∀ (v : V) (t : Str) (u : Value), Sh H n v t → RelV v u → t.length ≤ sizeLine → ∀ (A : Around) (E : Value → Shared → Prop) (s : Shared) (Q : Value → Shared → Prop), A.guards = some [] → A.units + (n + 1) < cLine → s.heap = h →
    (∀ h' z tk, (∀ b o, s.heap.get? b = some o → h'.get? b = some o) → Q (.str t z) { s with heap := h', toks := tk }) → wpAny (model P w) A (call (.builtin "repr") [u]) Q E s := by
  induction n using Nat.strongRecOn with
  | ind n IH =>
    intro v t u hv r hz A E s Q hg hu eh hQ
    subst eh
    have plain : Sc v t → wpAny (model P w) A (call (.builtin "repr") [u]) Q E s := fun c => by
      cases c with
      | non =>
        cases (show u = Value.none from r)
        exact PySem.P.repr_of_none (hQ s.heap _ _ fun _ _ e => e)
      | bl b =>
        cases (show u = Value.bool b from r)
        exact PySem.P.repr_of_bool (by
          have q := hQ s.heap s.toks (s.toks + 1) fun _ _ e => e
          cases b <;> exact q)
      | int i f =>
        obtain ⟨t, rfl⟩ := (show ∃ t, u = Value.int i t from r)
        exact PySem.P.repr_of_int f (hQ s.heap _ _ fun _ _ e => e)
      | str x f =>
        obtain ⟨t, rfl⟩ := (show ∃ t, u = Value.str x t from r)
        exact PySem.P.repr_of_str (hQ s.heap _ _ fun _ _ e => e) f
    cases n with
    | zero => exact plain hv
    | succ n =>
      have ih := fun v t u => repr_sh (P := P) (w := w) ok n v t u
      have ring : ∀ (a : Addr) (bs : List Addr), v = .ref a → (∀ b ∈ bs, Below H n b) → a ∈ bs → wpAny (model P w) A (call (.builtin "repr") [u]) Q E s := fun a bs e hb m => by
        obtain ⟨m, hm, t', ht⟩ := hb a m
        subst e
        have et : t = t' := Sh.det _ _ _ hv _ _ ht
        subst et
        exact IH m (by omega) _ _ _ ht r hz A E s Q hg (by omega) rfl hQ
      have hu1 : A.in1.units + (n + 1) < cLine := by
        show A.units + 1 + (n + 1) < cLine
        omega
      have hk0 : ∀ b o, s.heap.get? b = some o → s.heap.get? b = some o := fun _ _ e => e
      rcases id hv with c | ⟨a, xs, ts, rfl, e, p, rfl⟩ | ⟨a, xs, ts, rfl, e, p, rfl⟩ | ⟨a, kvs, ts, rfl, e, p, rfl⟩
      · exact plain c
      · cases (show u = Value.ref a from r)
        obtain ⟨_, its, m, rv, ho⟩ := (show ObjOk P w H s.heap a (.lst xs) from ok a _ e)
        obtain ⟨bs, hb, hk⟩ := all_repr ih p rv
        by_cases c : a ∈ bs
        · exact ring a bs rfl hb c
        · refine call_repr_slot (by omega) (T := "list") ⟨_, ho, rfl⟩ F.slot_list_repr.toG ?_
          cases its with
          | nil =>
            cases hk
            rw [listText_nil] at hQ
            exact call_list_repr_empty ⟨_, ho, rfl⟩ ho rfl ⟨_, _, rfl, hQ s.heap _ _ fun _ _ e => e⟩
          | cons x l =>
            exact call_list_reprK ho rfl rfl c (by simpa using hk.length_eq) (fun i y q => hk.item i y (by simpa using q)) (A := A.in1) hg (fun b _ => Clear.nil b) hu1 hk0 (fun h' z tk k => ⟨_, _, rfl, hQ h' z tk k⟩) hz
      · cases (show u = Value.ref a from r)
        obtain ⟨its, o, m, rv, ho, hc, hd⟩ := TT.at e ok
        obtain ⟨bs, hb, hk⟩ := all_repr ih p rv
        by_cases c : a ∈ bs
        · exact ring a bs rfl hb c
        · exact call_repr_slot (by omega) (T := "tuple") ⟨_, ho, hc⟩ F.slot_tuple_repr (call_tuple_reprK ho hc hd c (by simpa using hk) (A := A.in1) hg (fun b _ => Clear.nil b) hu1 hk0 (fun h' z tk k => ⟨_, _, rfl, hQ h' z tk k⟩) hz)
      · cases (show u = Value.ref a from r)
        obtain ⟨_, ys, ws, rv, o, es, ep, ho, hc, hd, _, hp, _⟩ := (show ObjOk P w H s.heap a (.dK kvs) from ok a _ e)
        obtain ⟨bs, hb, hk⟩ := entries_repr ih p rv hp
        by_cases c : a ∈ bs
        · exact ring a bs rfl hb c
        · exact call_repr_slot (by omega) (T := "dict") ⟨_, ho, hc.1⟩ F.slot_dict_repr (call_dict_reprK ho hc.1 hd ys c hk (A := A.in1) hg (fun b _ => Clear.nil b) hu1 hk0 (fun h' z tk k => ⟨_, _, rfl, hQ h' z tk k⟩) hz)
end
section
variable {X : Cx}
def rRepr : List V → Hp → VK → Prop := fun vs H Q => ∃ (v : V) (n : Nat) (t : Str), vs = [v] ∧ Sh H n v t ∧ n ≤ 50 ∧ t.length ≤ sizeLine ∧ Q (.str t) H
theorem call_repr (gd : X.A.guards = some []) (hu : X.A.units + 64 < cLine) : CallR X (.builtin "repr") rRepr := by
  intro pins s σ H vs us Q I r h
  obtain ⟨v, n, t, rfl, hv, hn, hz, q⟩ := h
  obtain ⟨u, rfl, ru⟩ := vals1 r
  exact call_sh I.hok n v t u hv ru hz X.A _ s _ gd (by omega) rfl fun h' z tk k => ⟨.str t, H, I.kept k, ⟨z, rfl⟩, q⟩
end
end Gd
/-! ### sets of keys of any depth (tuples of texts, numbers and such tuples), as the model lays them -/
namespace Ns
open PySem PySem.Spec PyProof.Rows L2
/-- the tuple at a is the key k -/
def Tk (h : Heap) (k : NestedKey) (a : Addr) : Prop := NestedIs h k (.ref a) ∧ k.depth ≤ 8
theorem depth_all : ∀ {ks : List NestedKey} {k : NestedKey}, k ∈ ks → k.depth ≤ NestedKey.depthAll ks
  | x :: xs, k, h => by
    show k.depth ≤ max x.depth (NestedKey.depthAll xs)
    rcases List.mem_cons.mp h with rfl | h
    · exact Nat.le_max_left _ _
    · exact Nat.le_trans (depth_all h) (Nat.le_max_right _ _)
/-- each item of a row of keys is one of them -/
theorem all_item {h : Heap} : ∀ {ks : List NestedKey} {vs : List Value}, NestedAll h ks vs → ∀ v ∈ vs, ∃ k ∈ ks, NestedIs h k v
  | _, _, .nil, v, m => nomatch m
  | _, _, .cons a r, v, m => by
    rcases List.mem_cons.mp m with rfl | m
    · exact ⟨_, List.mem_cons_self, a⟩
    · obtain ⟨k, mk, z⟩ := all_item r v m
      exact ⟨k, List.mem_cons_of_mem _ mk, z⟩
section
variable {P : Program} {w : World}
/-- no key is of a class statement -/
theorem ofA_key : ∀ (n : Nat) (k : NestedKey) (v : Value) (s : Shared), NestedIs s.heap k v → k.depth ≤ n → ∀ {A : Around} {E : Value → Shared → Prop} {Q : Bool → Shared → Prop}, Q false s → wpAny (model P w) A (ofAClassStatement n v) Q E s := by
  intro n
  induction n with
  | zero =>
    intro k v s hk hd A E Q q
    cases hk with
    | tup => exact absurd hd (by simp [NestedKey.depth])
    | _ => exact wpAny_pure q
  | succ n ih =>
    intro k v s hk hd A E Q q
    cases hk with
    | @tup a o vs m ks ho hc hdt ha =>
      have hd' : NestedKey.depthAll ks + 1 ≤ n + 1 := hd
      unfold ofAClassStatement
      refine wpAny_bind (wpAny_typeOf (T := "tuple") ⟨o, ho, hc⟩ ?_)
      have e : (("tuple" : String) == "tuple") = true := by decide
      simp only [e, if_true]
      refine wpAny_bind (wpAny_pure ?_)
      simp only [Bool.not_true, Bool.false_eq_true, if_false]
      refine wpAny_bind (wpAny_seqItems ho hdt (wpAny_bind ?_))
      show wpAny _ _ (forIn vs _ _) _ _ s
      rw [← Array.forIn_toList]
      refine wpAny_forIn_list _ (fun rest r s' => r.1 = none ∧ s' = s ∧ ∀ y ∈ rest, ∃ k' ∈ ks, NestedIs s.heap k' y) _ ?_ ?_ _ _ ⟨rfl, rfl, all_item ha⟩
      · rintro y rest r s' ⟨_, rfl, hy⟩
        obtain ⟨k', mk, z⟩ := hy y List.mem_cons_self
        refine wpAny_bind (ih k' y s' z (by have := depth_all mk; omega) ?_)
        simp only [Bool.false_eq_true, if_false]
        exact wpAny_pure ⟨rfl, rfl, fun u m => hy u (List.mem_cons_of_mem _ m)⟩
      · rintro ⟨r1, r2⟩ s' ⟨h1, rfl, _⟩
        have h1 : r1 = none := h1
        subst h1
        exact wpAny_pure q
    | _ => exact wpAny_pure q
/-- whether a key's hash follows from its value: an answer, whichever -/
theorem hashBy_key : ∀ (n : Nat) (k : NestedKey) (v : Value) (s : Shared), NestedIs s.heap k v → ∀ {A : Around} {E : Value → Shared → Prop} {Q : Bool → Shared → Prop}, (∀ b, Q b s) → wpAny (model P w) A (hashByValue n v) Q E s := by
  intro n
  induction n with
  | zero =>
    intro k v s hk A E Q q
    cases hk <;> (unfold hashByValue; exact wpAny_pure (q _))
  | succ n ih =>
    intro k v s hk A E Q q
    cases hk with
    | @tup a o vs m ks ho hc hdt ha =>
      unfold hashByValue
      refine wpAny_bind (wpAny_specialOf (T := "tuple") ⟨o, ho, hc⟩ F.slot_tuple_hash.lookup ?_)
      refine wpAny_bind (wpAny_seqItems ho hdt (wpAny_bind ?_))
      show wpAny _ _ (forIn vs _ _) _ _ s
      rw [← Array.forIn_toList]
      refine wpAny_forIn_list _ (fun rest r s' => r.1 = none ∧ s' = s ∧ ∀ y ∈ rest, ∃ k' ∈ ks, NestedIs s.heap k' y) _ ?_ ?_ _ _ ⟨rfl, rfl, all_item ha⟩
      · rintro y rest r s' ⟨_, rfl, hy⟩
        obtain ⟨k', mk, z⟩ := hy y List.mem_cons_self
        refine wpAny_bind (ih k' y s' z fun b => ?_)
        cases b with
        | true =>
          simp only [Bool.not_true, Bool.false_eq_true, if_false]
          exact wpAny_pure ⟨rfl, rfl, fun u m => hy u (List.mem_cons_of_mem _ m)⟩
        | false =>
          simp only [Bool.not_false, if_true]
          exact wpAny_pure (wpAny_pure (q _))
      · rintro ⟨r1, r2⟩ s' ⟨h1, rfl, _⟩
        have h1 : r1 = none := h1
        subst h1
        exact wpAny_pure (q _)
    | _ => unfold hashByValue; exact wpAny_pure (q _)
/-- what a search asks besides: nothing that could be seen -/
theorem seen_key {k : NestedKey} {a : Addr} {s : Shared} {A : Around} {E : Value → Shared → Prop} {Q : Bool → Shared → Prop} (hk : Tk s.heap k a) {ys : List Value} (hy : ∀ y ∈ ys, ∃ k' b, y = Value.ref b ∧ Tk s.heap k' b) (q : Q false s) :
    wpAny (model P w) A (searchCouldBeSeen (.ref a) ys) Q E s := by
  unfold searchCouldBeSeen
  refine wpAny_bind ?_
  refine wpAny_forIn_list _ (fun rest r s' => r.1 = none ∧ s' = s ∧ ∀ y ∈ rest, ∃ k' b, y = Value.ref b ∧ Tk s.heap k' b) _ ?_ ?_ _ _ ⟨rfl, rfl, hy⟩
  · rintro y rest r s' ⟨_, rfl, hall⟩
    obtain ⟨k', b, rfl, hb⟩ := hall y List.mem_cons_self
    have left : ∀ u ∈ rest, ∃ k' b, u = Value.ref b ∧ Tk s'.heap k' b := fun u m => hall u (List.mem_cons_of_mem _ m)
    dsimp only
    split
    · exact wpAny_pure ⟨rfl, rfl, left⟩
    · refine wpAny_bind (quiet_key k (.ref a) 8 s' hk.1 hk.2 _ _ _ ?_)
      simp only [Bool.not_true, Bool.false_eq_true, if_false]
      refine wpAny_bind (quiet_key k' (.ref b) 8 s' hb.1 hb.2 _ _ _ ?_)
      simp only [Bool.not_true, Bool.false_eq_true, if_false]
      refine wpAny_bind (ofA_key 8 k (.ref a) s' hk.1 hk.2 ?_)
      simp only [Bool.false_eq_true, if_false]
      refine wpAny_bind (ofA_key 8 k' (.ref b) s' hb.1 hb.2 ?_)
      simp only [Bool.false_eq_true, if_false]
      exact wpAny_pure ⟨rfl, rfl, left⟩
  · rintro ⟨r1, r2⟩ s' ⟨h1, rfl, _⟩
    have h1 : r1 = none := h1
    subst h1
    exact wpAny_pure q
end
end Ns
namespace Ns
open PySem PySem.Spec PyProof.Rows L2
/-- an element with its key, as the table's row -/
abbrev El := Addr × NestedKey
def row (w : World) (p : El) : Int × Value := (p.2.hash w, .ref p.1)
/-- how the elements L lie in a table -/
structure Lay (w : World) (L : List El) (es : Array (Int × Value)) (t : SetTable) : Prop where
  rows : es.toList = L.map (row w)
  tab : TabOk t (L.map fun p => p.2.hash w)
  led : w.params.followText "set-order" = true ∨ t.led = true
  room : L.length * 5 < t.mask * 3
/-- the set at a has the elements L -/
structure SetN (w : World) (h : Heap) (a : Addr) (L : List El) (o : Obj) (es : Array (Int × Value)) (ep : Nat) (t : SetTable) : Prop where
  at_ : h.get? a = some o
  exact_ : o.ExactSet
  data : o.data = .set es ep t
  lay : Lay w L es t
  nd : (L.map (·.2)).Nodup
  keys : ∀ p ∈ L, Tk h p.2 p.1
  few : L.length < 64
section
variable {P : Program} {w : World} {A : Around} {E : Value → Shared → Prop} {s : Shared} {a : Addr} {L : List El} {o : Obj} {es : Array (Int × Value)} {ep : Nat} {t : SetTable}
theorem Lay.len (l : Lay w L es t) : es.size = L.length := by
  rw [← Array.length_toList, l.rows, List.length_map]
theorem Lay.psz (l : Lay w L es t) : t.place.size = L.length := by
  rw [l.tab.sz, List.length_map]
theorem Lay.fits (l : Lay w L es t) : t.fits es.size = true := by
  have h1 := l.psz
  have h2 := l.len
  have h3 := l.room
  unfold SetTable.fits SetTable.fill
  rw [l.tab.dm, Bool.and_eq_true, beq_iff_eq, decide_eq_true_eq]
  show t.place.size = es.size ∧ t.place.size + 0 ≤ t.mask
  omega
theorem Lay.entry (l : Lay w L es t) {i : Nat} {p : El} (h : L[i]? = some p) : es[i]? = some (row w p) := by
  rw [← Array.getElem?_toList, l.rows, List.getElem?_map, h]
  rfl
theorem Lay.hashAt (l : Lay w L es t) {i : Nat} {p : El} (h : L[i]? = some p) : (es[i]?.map (·.1)).getD 0 = p.2.hash w := by
  rw [l.entry h]
  rfl
theorem Lay.whole (l : Lay w L es t) : ¬ t.gaveWay = true := by
  unfold SetTable.gaveWay
  rw [mask_odd l.tab.mok]
  decide
/-- the steps of a search for the hash h in a table of the mask m -/
def stp (m : Nat) (h : Int) (c : Nat) : SetTable.Probe := nth m (runAt m (SetTable.bits h % (m + 1)) (SetTable.bits h)) c
theorem stp_add (m : Nat) (h : Int) (c q : Nat) : nth m (stp m h c) q = stp m h (c + q) := (nth_add m c _ q).symm
theorem stp_clean (m : Nat) (h : Int) (c : Nat) : (stp m h c).dummy = none := by
  have go : ∀ (n : Nat) (p : SetTable.Probe), p.dummy = none → (nth m p n).dummy = none := fun n => by
    induction n with
    | zero => exact fun p e => e
    | succ n ih => exact fun p e => ih _ (by unfold adv; split <;> exact e)
  exact go c _ rfl
/-- from the c-th step on: it is found, or the first free slot is -/
theorem search_from (S : SetN w s.heap a L o es ep t) {x : Addr} {k : NestedKey} (hx : Tk s.heap k x) (hu : A.units + 8 < cLine) {K : Nat} (hKf : K < 10 * SetTable.turns t.mask)
    (free : way t.mask (k.hash w) K ∉ t.place.toList) (full : ∀ c, c < K → way t.mask (k.hash w) c ∈ t.place.toList) {Q : SetFound → Shared → Prop}
    (yes : k ∈ L.map (·.2) → Q (.there none) s) (no : k ∉ L.map (·.2) → Q (.free (way t.mask (k.hash w) K) false) s) :
    ∀ (f c : Nat) (stand : Option SetTable.Probe), stand.getD (t.probeStart (k.hash w)) = stp t.mask (k.hash w) c → c ≤ K → K - c < f →
      (∀ (i : Nat) (p : El), L[i]? = some p → p.2 = k → ∃ c', c ≤ c' ∧ c' < K ∧ t.place.toList[i]? = some (way t.mask (k.hash w) c')) →
      wpAny (model P w) A (setSearchFrom a (.ref x) (k.hash w) true f stand) Q E s := by
  have ly := S.lay
  intro f
  induction f with
  | zero => exact fun c _ _ _ h => absurd h (Nat.not_lt_zero _)
  | succ f ih =>
    intro c stand hst hc hf ahead
    have at_step : ∀ q, (nth t.mask (stp t.mask (k.hash w) c) q).j = way t.mask (k.hash w) (c + q) := fun q => congrArg SetTable.Probe.j (stp_add _ _ c q)
    have to_K : c + (K - c) = K := by omega
    rw [setSearchFrom_succ]
    refine wpAny_bind (wpAny_setState_of S.at_ S.data ly.fits ?_)
    dsimp only
    refine wp_if_neg ly.whole ?_
    refine wpAny_bind (wpAny_pure ?_)
    rcases go_spec t ly.tab.ris ly.tab.dm (fun i => (es[i]?.map (·.1)).getD 0) (k.hash w) (10 * SetTable.turns t.mask) (K - c) (stp t.mask (k.hash w) c) (stp_clean _ _ c) (by omega)
        (fun q hq => by rw [at_step]; exact full _ (by omega)) (by rw [at_step, to_K]; exact free) with ⟨q, i, hq, hi, _, before, found⟩ | ⟨never, found⟩
    · have found' : t.probe (fun i => (es[i]?.map (·.1)).getD 0) (k.hash w) (stand.getD (t.probeStart (k.hash w))) = some (.candidate (way t.mask (k.hash w) (c + q)) i (stp t.mask (k.hash w) (c + (q + 1)))) := by
        rw [hst, ← at_step, ← stp_add]
        exact found
      rw [found']
      dsimp only
      rw [at_step] at hi
      obtain ⟨p, hp⟩ : ∃ p, L[i]? = some p := by
        have lt := (List.getElem?_eq_some_iff.mp hi).1
        rw [Array.length_toList, ly.psz] at lt
        exact ⟨_, List.getElem?_eq_getElem lt⟩
      have mp := List.mem_of_getElem? hp
      have live := slot_live ly.tab.ris hi
      have goes : wpAny (model P w) A (searchRest a (.ref x) (k.hash w) true f es t (way t.mask (k.hash w) (c + q)) i (stp t.mask (k.hash w) (c + (q + 1)))) Q E s := by
        unfold searchRest
        rw [ly.entry hp]
        dsimp only
        refine wpAny_bind (wpAny_holding ((nestedKind P w).eqBool (show A.units + 8 < cLine from hu) (S.keys p mp) hx ?_))
        refine wpAny_bind (wpAny_setState_of S.at_ S.data ly.fits ?_)
        dsimp only
        by_cases same : p.2 = k
        · refine wp_if_pos (by rw [decide_eq_true same]; rfl) (wpAny_pure (yes ?_))
          exact List.mem_map.mpr ⟨p, mp, same⟩
        · have off : decide (p.2 = k) = false := decide_eq_false same
          refine wp_if_neg (by rw [off]; decide) (wpAny_bind (wpAny_pure ?_))
          rw [sameMem]
          dsimp only
          simp only [if_true, live, ly.entry hp]
          refine wpAny_bind (wpAny_isSame_ref_self (wpAny_bind (wpAny_pure ?_)))
          simp only [if_true]
          refine wp_if_neg (by rw [off]; decide) ?_
          refine ih (c + (q + 1)) _ rfl (by omega) (by omega) fun i0 p0 h0 k0 => ?_
          obtain ⟨c', a1, a2, a3⟩ := ahead i0 p0 h0 k0
          refine ⟨c', ?_, a2, a3⟩
          rcases Nat.lt_trichotomy c' (c + q) with z | z | z
          · refine absurd ((ly.hashAt h0).trans (by rw [k0])) (before (c' - c) i0 (by omega) ?_)
            rw [at_step, show c + (c' - c) = c' by omega]
            exact a3
          · rw [z] at a3
            have l2 := slot_live ly.tab.ris a3
            rw [live] at l2
            injection l2 with l2
            rw [← l2, hp] at h0
            exact absurd (by rw [Option.some.inj h0]; exact k0) same
          · omega
      by_cases hl : t.led = true
      · exact wp_if_neg (by rw [hl]; decide) (wpAny_bind (wpAny_pure goes))
      · refine wp_if_pos (by rw [Bool.not_eq_true] at hl; rw [hl]; rfl) (wpAny_bind (seen_key hx (fun y hy => ?_) ?_))
        · obtain ⟨e, he, rfl⟩ := List.mem_map.mp hy
          have me : e ∈ es.toList := by
            have := (Array.mem_filter.mp (Array.mem_toList_iff.mp he)).1
            exact Array.mem_toList_iff.mpr this
          rw [ly.rows] at me
          obtain ⟨p2, m2, rfl⟩ := List.mem_map.mp me
          exact ⟨p2.2, p2.1, rfl, S.keys p2 m2⟩
        · exact wp_if_neg (by decide) (wpAny_bind (wpAny_pure goes))
    · have found' : t.probe (fun i => (es[i]?.map (·.1)).getD 0) (k.hash w) (stand.getD (t.probeStart (k.hash w))) = some (.empty (way t.mask (k.hash w) K) none) := by
        have e2 : way t.mask (k.hash w) K = (nth t.mask (stp t.mask (k.hash w) c) (K - c)).j := by rw [at_step, to_K]
        rw [hst, e2]
        exact found
      rw [found']
      dsimp only
      refine wpAny_pure (no fun hm => ?_)
      obtain ⟨p0, m0, k0⟩ := List.mem_map.mp hm
      obtain ⟨i0, h0⟩ := List.mem_iff_getElem?.mp m0
      obtain ⟨c', a1, a2, a3⟩ := ahead i0 p0 h0 k0
      refine never (c' - c) i0 (by omega) ?_ ((ly.hashAt h0).trans (by rw [k0]))
      rw [at_step, show c + (c' - c) = c' by omega]
      exact a3
/-- the search that adding asks for -/
theorem search_at (S : SetN w s.heap a L o es ep t) {x : Addr} {k : NestedKey} (hx : Tk s.heap k x) (hu : A.units + 8 < cLine) {Q : SetFound → Shared → Prop} (yes : k ∈ L.map (·.2) → Q (.there none) s)
    (no : ∀ K, k ∉ L.map (·.2) → way t.mask (k.hash w) K ∉ t.place.toList → (∀ c, c < K → way t.mask (k.hash w) c ∈ t.place.toList) → Q (.free (way t.mask (k.hash w) K) false) s) :
    wpAny (model P w) A (setSearch a (.ref x) (k.hash w) true) Q E s := by
  have ly := S.lay
  have rm := ly.room
  obtain ⟨K, hKf, free, full⟩ := ly.tab.first (by rw [List.length_map]; omega) (k.hash w)
  have small : 10 * SetTable.turns t.mask ≤ 1420 := by
    unfold SetTable.turns
    rcases ly.tab.mok with e | e | e <;> omega
  unfold setSearch
  refine search_from S hx hu hKf free full yes (fun n => no K n free full) 100000 0 none rfl (Nat.zero_le _) (by omega) fun i p hp hk => ?_
  have hi : (L.map fun p => p.2.hash w)[i]? = some (k.hash w) := by rw [List.getElem?_map, hp, ← hk]; rfl
  have lt : i < t.place.toList.length := by
    rw [Array.length_toList, ly.psz]
    exact (List.getElem?_eq_some_iff.mp hp).1
  have hj := List.getElem?_eq_getElem lt
  obtain ⟨c, hc, e⟩ := ly.tab.before free hi hj
  exact ⟨c, Nat.zero_le _, hc, by rw [hj, e]⟩
end
end Ns
namespace Ns
open PySem PySem.Spec PyProof.Rows L2
section
variable {P : Program} {w : World} {A : Around} {E : Value → Shared → Prop} {s : Shared} {a : Addr} {L : List El} {o : Obj} {es : Array (Int × Value)} {ep : Nat} {t : SetTable}
/-- a key stays one where only the set changes -/
theorem Tk.same {h h' : Heap} {k : NestedKey} {b : Addr} (x : Tk h k b) (ho : h.get? a = some o) (hd : o.data = .set es ep t) (sb : Heap.SameBut a h h') : Tk h' k b :=
  ⟨NestedIs.at (fun c u vs n hc hv => (sb.2 c fun e => by
    subst e
    rw [ho] at hc
    cases hc
    rw [hd] at hv
    cases hv).trans hc) k _ x.1, x.2⟩
theorem Tk.keep {h h' : Heap} {k : NestedKey} {b : Addr} (x : Tk h k b) (kp : ∀ c u, h.get? c = some u → h'.get? c = some u) : Tk h' k b := ⟨NestedIs.at (fun c u _ _ hc _ => kp c u hc) k _ x.1, x.2⟩
theorem ins_perm {α : Type} (l : List α) (n : Nat) (x : α) : (l.take n ++ x :: l.drop n).Perm (x :: l) := by
  refine List.perm_middle.trans ?_
  rw [List.take_append_drop]
/-- what is picked in an order of the places is the rows in that order -/
theorem picked (es : Array (Int × Value)) (L : List El) (hr : es.toList = L.map (row w)) : ∀ js : List Nat, (∀ j ∈ js, j < L.length) →
    js.filterMap (fun j => es[j]?) = (js.filterMap fun j => L[j]?).map (row w) ∧ (js.filterMap fun j => L[j]?).map (fun p => p.2.hash w) = js.map fun j => (es.map (·.1)).getD j 0
  | [], _ => ⟨rfl, rfl⟩
  | j :: js, h => by
    have lj := h j List.mem_cons_self
    obtain ⟨e1, e2⟩ := picked es L hr js fun i m => h i (List.mem_cons_of_mem _ m)
    have x1 : L[j]? = some L[j] := List.getElem?_eq_getElem lj
    have x2 : es[j]? = some (row w L[j]) := by rw [← Array.getElem?_toList, hr, List.getElem?_map, x1]; rfl
    have x3 : (es.map (·.1)).getD j 0 = (L[j]).2.hash w := by
      rw [Array.getD_eq_getD_getElem?, Array.getElem?_map, x2]
      rfl
    rw [List.filterMap_cons_some x2, List.filterMap_cons_some x1, e1, List.map_cons, List.map_cons, List.map_cons, e2, x3]
    exact ⟨rfl, rfl⟩
theorem all_places {α : Type} : ∀ l : List α, (List.range l.length).filterMap (fun j => l[j]?) = l
  | [] => rfl
  | x :: l => by
    have e0 : (fun j => (x :: l)[j]?) 0 = some x := rfl
    rw [List.length_cons, List.range_succ_eq_map, List.filterMap_cons_some e0, List.filterMap_map]
    exact congrArg (x :: ·) (all_places l)
/-- the table laid anew, larger -/
theorem relay_at (ho : s.heap.get? a = some o) (hx : o.ExactSet) (hd : o.data = .set es ep t) (hr : es.toList = L.map (row w)) (psz : t.place.size = L.length) (dm : t.dummies = #[]) (le : L.length ≤ t.mask) (nd : (L.map (·.2)).Nodup)
    (keys : ∀ p ∈ L, Tk s.heap p.2 p.1) (led : w.params.followText "set-order" = true ∨ t.led = true) (few : L.length < 64) {wanted M : Nat} (hw : SetTable.sizeAbove wanted - 1 = M) (hM : MaskOk M) (top : SetTable.sizeAbove wanted ≤ 128) (room : L.length * 5 < M * 3)
    {Q : Unit → Shared → Prop} (q : ∀ h' L' o' es' ep' t', Heap.SameBut a s.heap h' → SetN w h' a L' o' es' ep' t' → L'.Perm L → Q () { s with heap := h' }) : wpAny (model P w) A (setRelay a wanted) Q E s := by
  have esz : es.size = L.length := by rw [← Array.length_toList, hr, List.length_map]
  have fits : t.fits es.size = true := by
    unfold SetTable.fits SetTable.fill
    rw [dm, Bool.and_eq_true, beq_iff_eq, decide_eq_true_eq]
    show t.place.size = es.size ∧ t.place.size + 0 ≤ t.mask
    omega
  obtain ⟨t', order, laid, pm, tab, em, el, _, _⟩ := relaid_ok t (hs := es.map (·.1)) (wanted := wanted) hw hM (by rw [Array.size_map, esz]; omega)
  rw [Array.size_map, esz] at pm
  obtain ⟨r1, r2⟩ := picked es L hr order.toList fun j m => List.mem_range.mp (pm.mem_iff.mp m)
  have pL : (order.toList.filterMap fun j => L[j]?).Perm L := by
    have z := pm.filterMap fun j => L[j]?
    rw [all_places] at z
    exact z
  have er : (order.filterMap (es[·]?)).toList = (order.toList.filterMap fun j => L[j]?).map (row w) := by
    rw [Array.toList_filterMap]
    exact r1
  generalize order.toList.filterMap (fun j => L[j]?) = L2 at r2 pL er
  rw [← r2] at tab
  have sz2 : (order.filterMap (es[·]?)).size = L.length := by rw [← Array.length_toList, er, List.length_map, pL.length_eq]
  rw [setRelay_eq]
  refine wpAny_bind (wpAny_setState_of ho hd fits ?_)
  dsimp only
  refine wp_if_neg (by rw [sizeLine_eq]; omega) ?_
  rw [laid]
  dsimp only
  refine wpAny_bind (wp_if_neg (by rw [sz2, esz]; simp) (wpAny_pure ?_))
  dsimp only
  refine wpAny_storeSet_of ho hd ?_ (by rw [sz2, sizeLine_eq]; omega)
  have sb : Heap.SameBut a s.heap (s.heap.update a (Obj.putSet (order.filterMap (es[·]?)) t')) := Heap.SameBut.update ..
  refine q _ L2 _ (order.filterMap (es[·]?)) (ep + 1) t' sb ⟨store_at ho hd, ⟨hx.1, hx.2.1, hx.2.2⟩, rfl, ⟨er, tab, by rw [el]; exact led, by rw [pL.length_eq, em]; exact room⟩, (pL.map (·.2)).nodup_iff.mpr nd, fun p m => (keys p (pL.mem_iff.mp m)).same ho hd sb, by rw [pL.length_eq]; exact few⟩ pL
/-- an element is added, or stands there -/
theorem add_at (S : SetN w s.heap a L o es ep t) {x : Addr} {k : NestedKey} (hx : Tk s.heap k x) (hu : A.units + 8 < cLine) (few : L.length + 1 < 64) {Q : Bool → Shared → Prop}
    (q : ∀ b h' L' o' es' ep' t', Heap.SameBut a s.heap h' → SetN w h' a L' o' es' ep' t' → (k ∈ L.map (·.2) → L' = L) → (k ∉ L.map (·.2) → L'.Perm ((x, k) :: L)) → Q b { s with heap := h' }) :
    wpAny (model P w) A (setAddHashed a (.ref x) (k.hash w)) Q E s := by
  have ly := S.lay
  have rm := ly.room
  unfold setAddHashed
  refine wpAny_holding ?_
  rw [show (100000 : Nat) = 99999 + 1 from rfl, setAddHashedIn_succ]
  refine wpAny_bind (wpAny_setState_of S.at_ S.data ly.fits ?_)
  dsimp only
  refine wp_if_neg (by simp [byScan, Value.scannable]) ?_
  refine wpAny_bind (search_at S hx hu (fun m => ?_) fun K n free full => ?_)
  · dsimp only
    exact wpAny_pure (q false s.heap L o es ep t (Heap.SameBut.refl a s.heap) S (fun _ => rfl) fun z => absurd m z)
  dsimp only
  refine wpAny_bind (wpAny_setState_of S.at_ S.data ly.fits ?_)
  dsimp only
  obtain ⟨q1, q2, q3, q4, q5, _, _, _, q9⟩ := ly.tab.put free full
  generalize t.put (way t.mask (k.hash w) K) = tp at q1 q3 q4 q5 q9 ⊢
  obtain ⟨t1, n1⟩ := tp
  dsimp only at q1 q3 q4 q5 q9 ⊢
  subst q1
  generalize SetTable.below t.place (way t.mask (k.hash w) K) = n1 at q2 q3 ⊢
  have pm := ins_perm L n1 (x, k)
  have er : (SetTable.insertAt es n1 (k.hash w, Value.ref x)).toList = (L.take n1 ++ (x, k) :: L.drop n1).map (row w) := by
    rw [SetTable.toList_insertAt, ly.rows, List.map_append, List.map_cons, List.map_take, List.map_drop]
    rfl
  have eh : (L.take n1 ++ (x, k) :: L.drop n1).map (fun p => p.2.hash w) = (L.map fun p => p.2.hash w).take n1 ++ k.hash w :: (L.map fun p => p.2.hash w).drop n1 := by
    rw [List.map_append, List.map_cons, List.map_take, List.map_drop]
  rw [← eh] at q3
  generalize L.take n1 ++ (x, k) :: L.drop n1 = L1 at pm er q3
  have ln : L1.length = L.length + 1 := pm.length_eq
  have sz : (SetTable.insertAt es n1 (k.hash w, Value.ref x)).size = L.length + 1 := by rw [← Array.length_toList, er, List.length_map, ln]
  generalize SetTable.insertAt es n1 (k.hash w, Value.ref x) = es1 at er sz ⊢
  have nd1 : (L1.map (·.2)).Nodup := by
    refine (pm.map (·.2)).nodup_iff.mpr ?_
    rw [List.map_cons]
    exact List.nodup_cons.mpr ⟨n, S.nd⟩
  -- whatever is known of the elements' hashes
  have stored : ∀ t2 : SetTable, TabOk t2 (L1.map fun p => p.2.hash w) → t2.mask = t.mask → t2.led = t.led → t2.tooFull = t1.tooFull → wpAny (model P w) A (do
      storeSet a es1 t2
      if !false && t2.tooFull then setRelay a (SetTable.grown (es.size + 1))
      return true) Q E s := fun t2 tab em el ef => by
    refine wpAny_bind (wpAny_storeSet_of S.at_ S.data ?_ (by rw [sz, sizeLine_eq]; omega))
    have sb : Heap.SameBut a s.heap (s.heap.update a (Obj.putSet es1 t2)) := Heap.SameBut.update ..
    have ho1 := store_at (es' := es1) (t' := t2) S.at_ S.data
    generalize s.heap.update a (Obj.putSet es1 t2) = h1 at sb ho1 ⊢
    have keys1 : ∀ p ∈ L1, Tk h1 p.2 p.1 := fun p m => by
      rcases List.mem_cons.mp (pm.mem_iff.mp m) with z | m
      · rw [z]
        exact hx.same S.at_ S.data sb
      · exact (S.keys p m).same S.at_ S.data sb
    have led1 : w.params.followText "set-order" = true ∨ t2.led = true := by rw [el]; exact ly.led
    have psz1 : t2.place.size = L1.length := by rw [tab.sz, List.length_map]
    have full1 : t2.tooFull = decide ((L.length + 1) * 5 ≥ t2.mask * 3) := by
      rw [ef]
      unfold SetTable.tooFull
      rw [q9, q4, em, List.length_map]
    by_cases c : (L.length + 1) * 5 ≥ t2.mask * 3
    · have hf : t2.tooFull = true := by rw [full1]; exact decide_eq_true c
      refine wp_if_pos (by rw [hf]; rfl) (wpAny_bind ?_)
      rw [ly.len]
      have two : (t.mask = 7 ∧ L.length = 4) ∨ (t.mask = 31 ∧ L.length = 18) := by
        rw [em] at c
        rcases ly.tab.mok with e | e | e <;> rw [e] at c rm
        · exact .inl ⟨e, by omega⟩
        · exact .inr ⟨e, by omega⟩
        · omega
      have go : ∀ M, SetTable.sizeAbove (SetTable.grown (L.length + 1)) - 1 = M → MaskOk M → SetTable.sizeAbove (SetTable.grown (L.length + 1)) ≤ 128 → (L.length + 1) * 5 < M * 3 →
          wpAny (model P w) A (setRelay a (SetTable.grown (L.length + 1))) (fun _ s' => wpAny (model P w) A (pure true) Q E s') E { s with heap := h1 } := fun M m1 m2 m3 m4 => by
        refine relay_at (s := { s with heap := h1 }) ho1 ⟨S.exact_.1, S.exact_.2.1, S.exact_.2.2⟩ rfl er psz1 tab.dm (by rw [ln, em]; rcases two with ⟨e, e2⟩ | ⟨e, e2⟩ <;> omega) nd1 keys1 led1 (by rw [ln]; exact few) m1 m2 m3 (by rw [ln]; exact m4) ?_
        exact fun h2 L2 o2 es2 ep2 t2 sb2 S2 pm2 => wpAny_pure (q true h2 L2 o2 es2 ep2 t2 (sb.trans sb2) S2 (fun z => absurd z n) fun _ => pm2.trans pm)
      rcases two with ⟨_, e2⟩ | ⟨_, e2⟩
      · exact go 31 (by rw [e2, size_20]) (.inr (.inl rfl)) (by rw [e2, size_20]; decide) (by omega)
      · exact go 127 (by rw [e2, size_76]) (.inr (.inr rfl)) (by rw [e2, size_76]; decide) (by omega)
    · have hf : t2.tooFull = false := by rw [full1]; exact decide_eq_false c
      refine wp_if_neg (by rw [hf]; decide) (wpAny_pure ?_)
      exact q true h1 L1 _ es1 (ep + 1) t2 sb ⟨ho1, ⟨S.exact_.1, S.exact_.2.1, S.exact_.2.2⟩, rfl, ⟨er, tab, led1, by rw [ln]; omega⟩, nd1, keys1, by rw [ln]; exact few⟩ (fun z => absurd z n) fun _ => pm
  have both : ∀ b : Bool, wpAny (model P w) A (do
      storeSet a es1 (if b = true then t1 else { t1 with plain := false })
      if !false && (if b = true then t1 else { t1 with plain := false }).tooFull then setRelay a (SetTable.grown (es.size + 1))
      return true) Q E s := fun b => by
    cases b with
    | true => exact stored t1 q3 q4 q5 rfl
    | false => exact stored { t1 with plain := false } ⟨q3.ris, q3.dm, q3.sz, q3.mok, q3.bd, q3.reach⟩ q4 q5 rfl
  by_cases hp : t1.plain = true
  · exact wp_if_pos hp (wpAny_bind (hashBy_key 8 k (.ref x) s hx.1 both))
  · exact wp_if_neg hp (wpAny_bind (wpAny_pure (both true)))
end
end Ns
namespace Ns
open PySem PySem.Spec PyProof.Rows L2
/-! ### over the layer: what a value's key is, the set as a tracked object -/
mutual
inductive KV (K : PySem.W.Frag) (H : Hp) : NestedKey → V → Prop
  | int (i : Int) : KV K H (.num i) (.int i)
  | text (z : Str) : KV K H (.text z) (.str z)
  | tup {a : Addr} {xs : List V} {ks : List NestedKey} (e : SqT K H a xs) (h : KVs K H ks xs) : KV K H (.tup ks) (.ref a)
inductive KVs (K : PySem.W.Frag) (H : Hp) : List NestedKey → List V → Prop
  | nil : KVs K H [] []
  | cons {k : NestedKey} {x : V} {ks : List NestedKey} {xs : List V} (a : KV K H k x) (r : KVs K H ks xs) : KVs K H (k :: ks) (x :: xs)
end
mutual
theorem KV.up {K : PySem.W.Frag} {H H' : Hp} (up : ∀ a xs, SqT K H a xs → SqT K H' a xs) : ∀ {k : NestedKey} {v : V}, KV K H k v → KV K H' k v
  | _, _, .int i => .int i
  | _, _, .text z => .text z
  | _, _, .tup e h => .tup (up _ _ e) (KVs.up up h)
theorem KVs.up {K : PySem.W.Frag} {H H' : Hp} (up : ∀ a xs, SqT K H a xs → SqT K H' a xs) : ∀ {ks : List NestedKey} {xs : List V}, KVs K H ks xs → KVs K H' ks xs
  | _, _, .nil => .nil
  | _, _, .cons a r => .cons (KV.up up a) (KVs.up up r)
end
section
variable {X : Cx} {pins : List (Addr × Obj)} {σ : L2.St} {H : Hp} {s : Shared}
mutual
theorem KV.is (I : Inv X pins σ H s) : ∀ {k : NestedKey} {v : V} {u : Value}, KV X.K H k v → RelV v u → NestedIs s.heap k u
  | _, _, _, .int i, r => by
    obtain ⟨t, rfl⟩ := r
    exact .int i t
  | _, _, _, .text z, r => by
    obtain ⟨t, rfl⟩ := r
    exact .text z t
  | _, _, _, .tup e h, r => by
    cases r
    obtain ⟨its, rv, ⟨o, ho, hc, n, hd⟩, _⟩ := I.tuple e
    exact .tup ho hc hd (KVs.is I h (by simpa using rv))
theorem KVs.is (I : Inv X pins σ H s) : ∀ {ks : List NestedKey} {xs : List V} {us : List Value}, KVs X.K H ks xs → Vals xs us → NestedAll s.heap ks us
  | _, _, _, .nil, .nil => .nil
  | _, _, _, .cons a r, .cons b t => .cons (KV.is I a b) (KVs.is I r t)
end
end
/-- the set at a, its elements' tuples aside -/
def Set0 (w : World) (h : Heap) (a : Addr) (L : List El) : Prop := ∃ o es ep t, h.get? a = some o ∧ o.ExactSet ∧ o.data = .set es ep t ∧ Lay w L es t ∧ (L.map (·.2)).Nodup ∧ L.length < 64
def SetO (w : World) (a : Addr) (L : List El) : HO := .ext fun h => Set0 w h a L
theorem SetN.set0 {w : World} {h : Heap} {a : Addr} {L : List El} {o : Obj} {es : Array (Int × Value)} {ep : Nat} {t : SetTable} (S : SetN w h a L o es ep t) : Set0 w h a L := ⟨o, es, ep, t, S.at_, S.exact_, S.data, S.lay, S.nd, S.few⟩
theorem Set0.full {w : World} {h : Heap} {a : Addr} {L : List El} (S : Set0 w h a L) (keys : ∀ p ∈ L, Tk h p.2 p.1) : ∃ o es ep t, SetN w h a L o es ep t := let ⟨o, es, ep, t, a, b, c, d, e, f⟩ := S; ⟨o, es, ep, t, a, b, c, d, e, keys, f⟩
theorem setO_new {P : Program} {w : World} {H : Hp} {h : Heap} {a : Addr} {L : List El} (S : Set0 w h a L) : ObjOk P w H h a (SetO w a L) := by
  obtain ⟨o, es, ep, t, ho, r⟩ := id S
  refine ⟨S, ⟨o, ho⟩, fun h1 h2 p k => ?_⟩
  obtain ⟨o', es', ep', t', ho', r'⟩ := (show Set0 w h1 a L from p)
  exact ⟨o', es', ep', t', k o' ho', r'⟩
theorem set0_fresh {w : World} {h : Heap} : Set0 w (h.push { cls := .type "set", dict := none, data := .set #[] 0 (.fresh 0 0 (!w.params.followText "set-order")) }) h.objs.size [] := by
  refine ⟨_, #[], 0, _, Heap.get?_push_size _ rfl, ⟨rfl, rfl, rfl⟩, rfl, ⟨rfl, ⟨List.Pairwise.nil, rfl, rfl, .inl rfl, fun x m => absurd (show x ∈ ([] : List Nat) from m) (by simp), fun i _ _ z => absurd z (by simp)⟩, ?_, by show 0 * 5 < 7 * 3; decide⟩, .nil, by show 0 < 64; decide⟩
  show _ ∨ (!w.params.followText "set-order") = true
  cases w.params.followText "set-order"
  · exact .inr rfl
  · exact .inl rfl
/-- what is known of an element: its tuple is its key -/
def ElK (K : PySem.W.Frag) (H : Hp) (p : El) : Prop := KV K H p.2 (.ref p.1) ∧ p.2.depth ≤ 8
section
variable {X : Cx} {pins : List (Addr × Obj)} {σ : L2.St} {H : Hp} {s : Shared}
theorem ElK.tk (I : Inv X pins σ H s) {p : El} (h : ElK X.K H p) : Tk s.heap p.2 p.1 := ⟨KV.is I h.1 rfl, h.2⟩
/-- set.add of a key -/
theorem addN_ok {E : Value → Shared → Prop} {D b : Addr} {L : List El} {k : NestedKey} {Q : Value → Shared → Prop} (I : Inv X pins σ H s) (hD : H D = some (SetO X.w D L)) (kb : ElK X.K H (b, k)) (ks : ∀ p ∈ L, ElK X.K H p) (few : L.length + 1 < 64) (hu : X.A.units + 64 < cLine)
    (q : ∀ L' s', Inv X pins σ (upd H D (SetO X.w D L')) s' → (k ∈ L.map (·.2) → L' = L) → (k ∉ L.map (·.2) → L'.Perm ((b, k) :: L)) → Q .none s') : wpAny (model X.prog X.w) X.A (call (.builtin "set.add") [.ref D, .ref b]) Q E s := by
  have S0 : Set0 X.w s.heap D L := (I.hok D _ hD).1
  obtain ⟨o, es, ep, t, S⟩ := S0.full fun p m => (ks p m).tk I
  have kt := kb.tk I
  have hu1 : X.A.in1.units + 8 < cLine := by
    have e : X.A.in1.units ≤ X.A.units + 1 := by first | exact Nat.le_refl _ | (unfold Around.in1; simp) | simp [Around.in1, Around.units]
    omega
  refine wpAny_call_entry F.slot_set_add ⟨o, S.at_, S.exact_.1⟩ F.entry_set_add ?_ (F.args_set_add_2 _ _)
  unfold Builtin.«set.add» Builtin.Frozenset.oneOther
  simp only [List.isEmpty_nil, bind_assoc]
  unfold Builtin.Frozenset.addrOf setAdd
  refine wpAny_bind (wpAny_pure ?_)
  try dsimp only
  refine wpAny_bind (wpAny_pure ?_)
  try dsimp only
  refine wpAny_bind (wpAny_holding (wpAny_bind ((nestedKind X.prog X.w).pyHash (show _ + 8 < cLine from ?_) kt ?_)))
  · show X.A.in1.units + 8 < cLine
    exact hu1
  refine add_at (s := { s with toks := s.toks + k.draws }) (L := L) ⟨S.at_, S.exact_, S.data, S.lay, S.nd, S.keys, S.few⟩ kt hu1 few fun b' h' L' o' es' ep' t' sb S' y n => ?_
  show wpAny _ _ (ret Value.none) _ _ _
  refine wpAny_pure ⟨_, rfl, q L' _ ?_ y n⟩
  exact I.write (e := D) (t' := s.toks + k.draws) (by rw [hD]; trivial) (.inl rfl) (fun c u hc hu => (sb.2 c hc).trans hu) ⟨o', S'.at_⟩ (setO_new S'.set0)
end
end Ns
namespace Ns
open PySem PySem.Spec PyProof.Rows L2 PpSet
/-! ### {elt for target in iter}, the elements tuples that are keys -/
/-- what the element at hand does to the set at D, whose elements are L -/
def tElt (K : PySem.W.Frag) (w : World) (D : Addr) (Nx : Hp → Prop) : VK := fun y H => ∃ (b : Addr) (k : NestedKey) (L : List El), y = .ref b ∧ H D = some (SetO w D L) ∧ ElK K H (b, k) ∧ (∀ p ∈ L, ElK K H p) ∧ L.length + 1 < 64 ∧
  ∀ L', (k ∈ L.map (·.2) → L' = L) → (k ∉ L.map (·.2) → L'.Perm ((b, k) :: L)) → Nx (upd H D (SetO w D L'))
def tSet (K : PySem.W.Frag) (w : World) (wi : TI) (g : TG) (tt : TT) (te : TE) (vs : List Nat) : TE := fun σ H Q => wi σ H fun J H1 => ∀ D, H1 D = none → ∃ W : Nat → Nat → Hp → Prop, (∃ m, W 0 m (upd H1 D (SetO w D []))) ∧ ∀ i m H, W i m H →
  (J.stop i H ∧ Q (.ref D) H) ∨ (J.go i H ∧ ∃ Nx : Hp → Prop, (∀ H', Nx H' → ∃ m', m' < m ∧ W (i + 1) m' H') ∧ ∀ x H', J.yld i H x H' → g x (wipe σ vs) H' fun σ2 H2 => wipe σ2 vs = wipe σ vs ∧ tt σ2 H2 fun b H3 =>
    if b = true then te σ2 H3 (tElt K w D Nx) else Nx H3)
section
variable {X : Cx}
theorem pe_set {elt tg iter : Expr} {ifs : List Expr} {scope : Scope} {own : List (PySem.Str × Nat)} {pos : Pos} {wi : TI} {g : TG} {tt : TT} {te : TE} (hu : X.A.units + 64 < cLine) (hc : X.calm = true) (hN : X.N.Nodup) (hi : PI X tg iter wi) (ok : BlkOk X.N X.env.scope scope own)
    (hg : ∀ (s : Shared) (H : Hp) (C : Addr) (cl : List (PySem.Str × Addr)) (fp : List Addr), PG (X.blk s H scope (compEnvC scope cl C X.env) fp) tg g) (ht : ∀ (s : Shared) (H : Hp) (C : Addr) (cl : List (PySem.Str × Addr)) (fp : List Addr), PTs (X.blk s H scope (compEnvC scope cl C X.env) fp) ifs tt)
    (he : ∀ (s : Shared) (H : Hp) (C : Addr) (cl : List (PySem.Str × Addr)) (fp : List Addr), PE (X.blk s H scope (compEnvC scope cl C X.env) fp) elt te) (hs : ∀ x, foldedSetIterable iter X.env x = pure x := by intro _; rfl) :
    PE X (.SetComp elt [⟨tg, iter, ifs, 0⟩] scope pos) (tSet X.K X.w wi g tt te (own.map (·.2))) := by
  refine ⟨fun pins s σ H Q I h => ?_⟩
  rw [eval_SetComp]
  have free : ∀ y ∈ scope.names, y.2 = .free → ∃ c, X.env.cells.lookup y.1 = some c := fun y hy e => (ok.free y hy e).elim (fun z => I.ok.has _ (.inl z)) fun z => I.ok.has _ (.inr z)
  refine wpAny_comprehension_free (use := none) rfl hs (closure_ok free) ok.kind (fun y hy e => by rw [ok.uniq y hy, e]) (thn (hi.run pins s σ H _ I h) fun xv s1 hx => thn hx fun itv s2 h2 => ?_)
  obtain ⟨it, fp, tn, J, H2, rfl, I2, T, st2, f2, q⟩ := h2
  refine newSet_ok (newEnv_comp ?_)
  generalize eD : s2.heap.objs.size = D
  have nD : H2 D = none := I2.hok.fresh (Nat.le_of_eq eD)
  obtain ⟨W, ⟨m0, w0⟩, turn⟩ := q D nD
  generalize es3 : ({ s2 with heap := s2.heap.push { cls := .type "set", dict := none, data := .set #[] 0 (.fresh 0 0 (!X.w.params.followText "set-order")) } } : Shared) = s3
  have h3 : s3.heap = s2.heap.push { cls := .type "set", dict := none, data := .set #[] 0 (.fresh 0 0 (!X.w.params.followText "set-order")) } := by rw [← es3]
  have I3 : Inv X pins σ (upd H2 D (SetO X.w D [])) s3 := by
    rw [← es3]
    refine I2.laid (t' := s2.toks) (fun b o e => Heap.get?_push_of_some _ e) (Nat.le_of_eq eD) ?_
    rw [← eD]
    exact setO_new set0_fresh
  have f3 : ∀ b ∈ fp, FpOk X pins (upd H2 D (SetO X.w D [])) b ∧ b < s3.heap.objs.size := fun b hb => by
    obtain ⟨o, e, _⟩ := T.obj _ _ st2 b hb
    have lt := Heap.lt_size e
    exact ⟨⟨(upd_ne (by rw [← eD]; exact Nat.ne_of_lt lt)).trans (f2 b hb).1, (f2 b hb).2⟩, by rw [h3, Heap.size_push]; exact Nat.lt_succ_of_lt lt⟩
  have st3 : tn 0 s3.heap := T.keep _ _ _ st2 fun b _ o e => by rw [h3]; exact Heap.get?_push_of_some _ e
  generalize eH3 : upd H2 D (SetO X.w D []) = H3 at I3 f3 w0
  have I4 := block_start I3 ok hN f3
  have pg := hg s3 H3 s3.heap.objs.size (cellsFrom (s3.heap.objs.size + 1) scope.names (cloFrom X.env.cells scope.names [])) fp
  have pt := ht s3 H3 s3.heap.objs.size (cellsFrom (s3.heap.objs.size + 1) scope.names (cloFrom X.env.cells scope.names [])) fp
  have pe := he s3 H3 s3.heap.objs.size (cellsFrom (s3.heap.objs.size + 1) scope.names (cloFrom X.env.cells scope.names [])) fp
  show codeAny _ _ (.compStart (.SetComp elt [⟨tg, iter, ifs, 0⟩] scope pos) 0 (.ref it) (.ref D) (compEnvC scope (cellsFrom (s3.heap.objs.size + 1) scope.names (cloFrom X.env.cells scope.names [])) s3.heap.objs.size X.env)) _ { s3 with heap := pushCells (s3.heap.push { cls := .type "dict", data := .dict #[] }) scope.names }
  generalize ece : compEnvC scope (cellsFrom (s3.heap.objs.size + 1) scope.names (cloFrom X.env.cells scope.names [])) s3.heap.objs.size X.env = ce at I4 pg pt pe ⊢
  have cL : ce.locals = s3.heap.objs.size := by rw [← ece]; rfl
  generalize es4 : ({ s3 with heap := pushCells (s3.heap.push { cls := .type "dict", data := .dict #[] }) scope.names } : Shared) = s4 at I4 ⊢
  have st4 : tn 0 s4.heap := T.keep _ _ _ st3 fun b _ o e => by rw [← es4]; exact pushCells_keeps _ _ _ _ (Heap.get?_push_of_some _ e)
  -- the iterator's own objects, in the block
  have own_ : ∀ {σ' : L2.St} {H' : Hp} {s' : Shared}, Inv (X.blk s3 H3 scope ce fp) [] σ' H' s' → (∀ b ∈ fp, H' b = none) → ∀ b ∈ fp, FpOk (X.blk s3 H3 scope ce fp) [] H' b := fun {σ' H' s'} I' n b hb =>
    ⟨n b hb, (I'.ok.exf b hb).1, I'.ok.exfs b hb, .inl hb, fun x c e => (I'.ok.exf b hb).2 x c e, fun p hp => absurd (show p ∈ ([] : List (Addr × Obj)) ++ [] from hp) (by simp)⟩
  refine codeAny_compStart_set ?loop (T.self X.A 0 _ _ _ st4 ?loop)
  refine compLoopS_any (fun n s' => ∃ i H', Inv (X.blk s3 H3 scope ce fp) [] (wipe σ (own.map (·.2))) H' s' ∧ tn i s'.heap ∧ (∀ b ∈ fp, H' b = none) ∧ W i n H') ?_ m0 ⟨0, H3, I4, st4, fun b hb => (f3 b hb).1.1, w0⟩
  rintro n s5 ⟨i, H5, I5, st5, n5, w5⟩
  rcases turn i n H5 w5 with ⟨stop, qq⟩ | ⟨go, Nx, hNx, step⟩
  · refine thnF (T.done (X.blk s3 H3 scope ce fp) rfl rfl rfl hc i [] s5 _ H5 (fun _ _ => False) I5 (own_ I5 n5) st5 stop) fun r s6 ⟨hr, I6⟩ => ?_
    subst hr
    have I7 : Inv X pins σ H5 s6 := I3.call' (ch := fp) I6.os I6.base I6.hok I6.bare fun b hb => ⟨(f3 b hb).1.2.2.2.1, (f3 b hb).1.2.1, (f3 b hb).1.2.2.2.2.1, (f3 b hb).1.2.2.2.2.2⟩
    have nC : H5 s3.heap.objs.size = none := cL ▸ (show H5 ce.locals = none from I6.free)
    obtain ⟨m, hn, _⟩ := I6.loc
    have hn : s6.heap.Ns s3.heap.objs.size m := cL ▸ (show s6.heap.Ns ce.locals m from hn)
    obtain ⟨a0, a1, a2, a3, a4, a5⟩ := I3.fpOk (Nat.le_refl _) nC
    exact ⟨m, hn, fun h'' sb => ⟨.ref D, H5, I7.turned (t' := s6.toks) (fun b o hb e => (sb.2 b hb).trans e) a0 a1 a3 a4 a5, rfl, qq⟩⟩
  · refine thnF (T.item (X.blk s3 H3 scope ce fp) rfl rfl rfl hc i [] s5 _ H5 (fun _ _ => False) I5 (own_ I5 n5) st5 go) fun r s6 ⟨u, hr, h6⟩ => ?_
    subst hr
    refine thnF h6 fun _ s7 ⟨x, H7, I7, r7, y7, st7, n7⟩ => ?_
    refine thnF (pg.run _ s7 _ H7 x u _ (I7.pinned (own_ I7 n7) (T.obj _ _ st7)) r7 (step x H7 y7)) fun _ s8 ⟨σ8, H8, I8, hw8, q8⟩ => ?_
    refine thnF (pt.run _ s8 σ8 H8 _ I8 q8) fun b s9 ⟨H9, I9, q9⟩ => ?_
    have fin : ∀ {s' : Shared} {H' : Hp}, Inv (X.blk s3 H3 scope ce fp) ([] ++ pinsAt fp s7.heap) σ8 H' s' → Nx H' → ∃ m, m < n ∧ ∃ i H', Inv (X.blk s3 H3 scope ce fp) [] (wipe σ (own.map (·.2))) H' s' ∧ tn i s'.heap ∧ (∀ b ∈ fp, H' b = none) ∧ W i m H' := fun {s' H'} I' nx => by
      obtain ⟨m', lt, w'⟩ := hNx H' nx
      have pin' : ∀ b ∈ fp, ∀ o, s7.heap.get? b = some o → s'.heap.get? b = some o ∧ H' b = none := fun b hb o e =>
        let z := I'.pin (b, o) (List.mem_append_right _ (List.mem_append_right _ (mem_pinsAt hb e)))
        ⟨z.1, z.2.1⟩
      refine ⟨m', lt, i + 1, H', (I'.unpinned (pins := [])).weak (by rw [← hw8, wipe_length]) (fun j v e => ?_), T.keep _ _ _ st7 fun b hb o e => (pin' b hb o e).1, fun b hb => ?_, w'⟩
      · rw [← hw8] at e
        exact (wipe_some e).1
      · obtain ⟨o, e, _⟩ := T.obj _ _ st7 b hb
        exact (pin' b hb o e).2
    cases b with
    | false =>
      simp only [Bool.false_eq_true, if_false] at q9 ⊢
      exact fin I9 q9
    | true =>
      simp only [if_true] at q9 ⊢
      refine thnF (pe.run _ s9 σ8 H9 _ I9 q9) fun z s10 ⟨yv, H10, I10, r10, bb, k, L, ey, hD, kb, ks, few, nx⟩ => ?_
      subst ey
      cases (show z = Value.ref bb from r10)
      exact addN_ok (X := X.blk s3 H3 scope ce fp) I10 hD kb ks few hu fun L' s11 I11 y n' => fin I11 (nx L' y n')
end
end Ns
/-! ### sets of texts, as the model lays them -/
namespace Ns
open PySem PySem.Spec PyProof.Rows L2
def keyS (e : Int × Value) : Str := match e.2 with | .str k _ => k | _ => Str.empty
def GoodS (P : Program) (w : World) (e : Int × Value) : Prop := ∃ k t, e.2 = Value.str k t ∧ e.1 = (PySem.strKind P w).hash k
/-- the set of bools at a: S its members, n their number; its table rises and can be walked -/
def SetS (P : Program) (w : World) (h : Heap) (a : Addr) (S : Str → Bool) (n : Nat) : Prop :=
  ∃ o es ep t, h.get? a = some o ∧ o.ExactSet ∧ o.data = .set es ep t ∧ (∀ e ∈ es.toList, GoodS P w e) ∧ (es.toList.map keyS).Nodup ∧ (∀ k, S k = true ↔ k ∈ es.toList.map keyS) ∧
    es.size < scanBound ∧ t.fits es.size = true ∧ es.size = n ∧ Ris t.place.toList ∧ (w.params.followText "set-order" = true ∨ t.led = true)

section
variable {P : Program} {w : World} {h h' : Heap} {a : Addr} {S : Str → Bool} {n : Nat}

theorem SetS.at (R : SetS P w h a S n) (k : ∀ o, h.get? a = some o → h'.get? a = some o) : SetS P w h' a S n := by
  obtain ⟨o, es, ep, t, ho, r⟩ := R
  exact ⟨o, es, ep, t, k o ho, r⟩
theorem SetS.lt (R : SetS P w h a S n) : a < h.objs.size := by
  obtain ⟨o, es, ep, t, ho, r⟩ := R
  exact Heap.lt_size ho
theorem SetS.congr {S' : Str → Bool} (R : SetS P w h a S n) (e : ∀ k, S' k = S k) : SetS P w h a S' n := by
  have q : S' = S := funext e
  rw [q]; exact R
theorem goodS_elems {l : List (Int × Value)} (g : ∀ e ∈ l, GoodS P w e) : ElemsOf (PySem.strKind P w) l := fun e he => by
  obtain ⟨k, tk, h1, h2⟩ := g e he
  exact ⟨⟨k, by rw [h1]; exact strKind_is P w k tk, h2⟩, by rw [h1] <;> rfl⟩
theorem goodS_is {e : Int × Value} (g : GoodS P w e) (k : Str) : (PySem.strKind P w).is k e.2 = true ↔ keyS e = k := by
  obtain ⟨k0, tk, h1, _⟩ := g
  unfold keyS
  rw [h1]
  show ((k0 == k) = true) ↔ k0 = k
  exact beq_iff_eq
theorem goodS_mem {l : List (Int × Value)} (g : ∀ e ∈ l, GoodS P w e) (k : Str) : k ∈ l.map keyS ↔ ∃ e ∈ l, (PySem.strKind P w).is k e.2 = true := by
  rw [List.mem_map]
  constructor
  · rintro ⟨e, he, q⟩
    exact ⟨e, he, (goodS_is (g e he) k).2 q⟩
  · rintro ⟨e, he, q⟩
    exact ⟨e, he, (goodS_is (g e he) k).1 q⟩
theorem SetS.setOf (R : SetS P w h a S n) : h.SetOf (PySem.strKind P w) a S n := by
  obtain ⟨o, es, ep, t, ho, hx, hd, g, nd, hm, hb, hf, hn, _⟩ := R
  exact ⟨o, es, ep, t, ho, hx, hd, goodS_elems g, fun k => (hm k).trans (goodS_mem g k), hb, hf, hn⟩
end

section
variable {P : Program} {w : World} {A : Around} {E : Value → Shared → Prop} {s : Shared} {a : Addr} {S : Str → Bool} {n : Nat}

/-! ### add -/
theorem storeS_at {h : Heap} {a : Addr} {o : Obj} {es es' : Array (Int × Value)} {ep : Nat} {t t' : SetTable} (ho : h.get? a = some o) (hd : o.data = .set es ep t) :
    (h.update a (Obj.putSet es' t')).get? a = some { o with data := .set es' (ep + 1) t' } := by
  have q := Heap.get?_update_self (Obj.putSet es' t') ho (by rw [putSet_of es' t' hd]; rfl)
  rw [putSet_of es' t' hd] at q
  exact q

theorem setS_add_tail {g : Bool → Sem Unit} (hg : ∀ (b : Bool) (s₁ : Shared) (Q' : Unit → Shared → Prop), Q' () s₁ → wpAny (model P w) A (g b) Q' E s₁)
    {o : Obj} {es : Array (Int × Value)} {ep : Nat} {t : SetTable} (ho : s.heap.get? a = some o) (hex : o.ExactSet) (hd : o.data = .set es ep t)
    {es1 : Array (Int × Value)} {t2 : SetTable} {S' : Str → Bool} (g1 : ∀ e ∈ es1.toList, GoodS P w e) (nd1 : (es1.toList.map keyS).Nodup) (m1 : ∀ k, S' k = true ↔ k ∈ es1.toList.map keyS)
    (hb1 : es1.size < scanBound) (hf2 : t2.fits es1.size = true) (hr : Ris t2.place.toList) (hl : w.params.followText "set-order" = true ∨ t2.led = true) {wasDummy : Bool} {R : Option Bool → Shared → Prop}
    (hR : ∀ h', Heap.SameBut a s.heap h' → SetS P w h' a S' es1.size → R (some true) { s with heap := h' }) :
    wpAny (model P w) A (do
        storeSet a es1 t2
        if (!wasDummy && t2.tooFull) = true then do
            g (relayAll t2 es1 (SetTable.grown es1.size)).2.2
            storeSet a (relayAll t2 es1 (SetTable.grown es1.size)).1 (relayAll t2 es1 (SetTable.grown es1.size)).2.1
            pure (some true)
          else pure (some true)) R E s := by
  refine wpAny_bind (wpAny_storeSet_of ho hd ?_ (fits_of_scanBound hb1))
  have ho1 := storeS_at (es' := es1) (t' := t2) ho hd
  have sb1 := Heap.SameBut.update s.heap a (Obj.putSet es1 t2)
  split
  · have pm := relayAll_perm t2 es1 (SetTable.grown es1.size)
    have hf3 := relayAll_fits t2 es1 (SetTable.grown es1.size)
    have hr3 := relayAll_ris t2 es1 (SetTable.grown es1.size)
    have hl3 := relayAll_led t2 es1 (SetTable.grown es1.size)
    generalize relayAll t2 es1 (SetTable.grown es1.size) = Z at pm hf3 hr3 hl3 ⊢
    obtain ⟨es2, t3, gave⟩ := Z
    dsimp only at pm hf3 hr3 hl3 ⊢
    have hsz : es2.size = es1.size := by rw [← Array.length_toList, pm.length_eq, Array.length_toList]
    have hb2 : es2.size < scanBound := by rw [hsz]; exact hb1
    refine wpAny_bind (hg _ _ _ ?_)
    refine wpAny_bind (wpAny_storeSet_of ho1 rfl ?_ (fits_of_scanBound hb2))
    have ho2 := storeS_at (es' := es2) (t' := t3) ho1 rfl
    refine wpAny_pure (hR _ (sb1.trans (Heap.SameBut.update _ a _)) ?_)
    exact ⟨_, es2, _, t3, ho2, hex, rfl, fun e he => g1 e (pm.mem_iff.mp he), (pm.map keyS).nodup_iff.mpr nd1, fun k => (m1 k).trans (pm.map keyS).mem_iff.symm, hb2, hf3, hsz, hr3,
      hl.imp id fun z => by rw [hl3]; exact z⟩
  · exact wpAny_pure (hR _ sb1 ⟨_, es1, _, t2, ho1, hex, rfl, g1, nd1, m1, hb1, hf2, rfl, hr, hl⟩)

theorem setS_add_hashed {k : Str} {tk : Tok} {Q : Bool → Shared → Prop} (R : SetS P w s.heap a S n) (room : n + 1 < scanBound)
    (hQ : ∀ h', Heap.SameBut a s.heap h' → SetS P w h' a (fun j => S j || decide (j = k)) (if S k = true then n else n + 1) → Q (!S k) { s with heap := h' }) :
    wpAny (model P w) A (setAddHashed a (.str k tk) ((PySem.strKind P w).hash k)) Q E s := by
  obtain ⟨o, es, ep, t, ho, hex, hd, g, nd, hm, hb, hf, hn, hr, hl⟩ := R
  have hkey : (PySem.strKind P w).is k (.str k tk) = true := strKind_is P w k tk
  have hsc : (Value.str k tk).scannable = true := rfl
  have hel : ElemsOf (PySem.strKind P w) es.toList := goodS_elems g
  unfold setAddHashed setAddHashedIn
  refine wpAny_holding (wpAny_bind (wpAny_setState_of ho hd hf ?_))
  dsimp only
  rw [byScan_of hsc hb hel]
  simp only [↓reduceIte]
  unfold setAddByScan
  refine wpAny_bind ?_
  refine wpAny_bind (wpAny_rule ?_)
  refine wpAny_bind (wpAny_setScan_of hkey ho hd hf hel ?_)
  cases hfi : List.findIdx? (fun e => (PySem.strKind P w).is k e.2) es.toList with
  | some j =>
    dsimp only
    obtain ⟨hj, pj, _⟩ := List.findIdx?_eq_some_iff_getElem.mp hfi
    have hSk : S k = true := (hm k).2 ((goodS_mem (P := P) (w := w) g k).2 ⟨es.toList[j], List.getElem_mem hj, pj⟩)
    refine wpAny_pure (wpAny_pure ?_)
    have q := hQ s.heap (Heap.SameBut.refl a s.heap) ⟨o, es, ep, t, ho, hex, hd, g, nd, fun i => by
      rw [Bool.or_eq_true, decide_eq_true_eq, ← hm i]
      exact ⟨fun z => z.elim id (fun e => e ▸ hSk), .inl⟩, hb, hf, by rw [if_pos hSk]; exact hn, hr, hl⟩
    rw [hSk] at q
    exact q
  | none =>
    dsimp only
    have hnk : k ∉ es.toList.map keyS := fun z => by
      obtain ⟨e, he, q⟩ := (goodS_mem (P := P) (w := w) g k).1 z
      have c := List.findIdx?_eq_none_iff.mp hfi e he
      rw [q] at c
      cases c
    have hSk : S k = false := by
      cases q : S k with
      | false => rfl
      | true => exact absurd ((hm k).1 q) hnk
    have hgw : ∀ (b : Bool) {s₁ : Shared} {Q' : Unit → Shared → Prop}, Q' () s₁ → wpAny (model P w) A (match b with | true => rule "set.scan.the-table-gave-way" | false => pure ()) Q' E s₁ :=
      fun b s₁ Q' q => by cases b <;> first | exact wpAny_pure q | exact wpAny_rule q
    have pm := layNew_perm t es ((PySem.strKind P w).hash k) (.str k tk)
    have hf1 := layNew_fits t es ((PySem.strKind P w).hash k) (.str k tk)
    have hr1 := layNew_ris t es ((PySem.strKind P w).hash k) (.str k tk) hr
    have hl1 := layNew_led t es ((PySem.strKind P w).hash k) (.str k tk)
    generalize layNew t es ((PySem.strKind P w).hash k) (.str k tk) = Z at pm hf1 hr1 hl1 ⊢
    obtain ⟨es1, t1, wasDummy, gave⟩ := Z
    dsimp only at pm hf1 hr1 hl1 ⊢
    rw [Array.toList_push] at pm
    have pc : es1.toList.Perm (((PySem.strKind P w).hash k, Value.str k tk) :: es.toList) := pm.trans (List.perm_append_singleton _ _)
    have pk : (es1.toList.map keyS).Perm (k :: es.toList.map keyS) := pc.map keyS
    have g1 : ∀ e ∈ es1.toList, GoodS P w e := fun e he => by
      rcases List.mem_cons.mp (pc.mem_iff.mp he) with z | z
      · rw [z]; exact ⟨k, tk, rfl, rfl⟩
      · exact g e z
    have nd1 : (es1.toList.map keyS).Nodup := pk.nodup_iff.mpr (List.nodup_cons.mpr ⟨hnk, nd⟩)
    have m1 : ∀ i, (S i || decide (i = k)) = true ↔ i ∈ es1.toList.map keyS := fun i => by
      rw [Bool.or_eq_true, decide_eq_true_eq, hm i, pk.mem_iff, List.mem_cons]
      exact Or.comm
    have hsz : es1.size = n + 1 := by rw [← Array.length_toList, pc.length_eq, List.length_cons, Array.length_toList, hn]
    have hb1 : es1.size < scanBound := by rw [hsz]; exact room
    have hled : w.params.followText "set-order" = true ∨ t1.led = true := hl.imp id fun z => by rw [hl1]; exact z
    have fin : ∀ h', Heap.SameBut a s.heap h' → SetS P w h' a (fun j => S j || decide (j = k)) es1.size → Q true { s with heap := h' } := fun h' sb r => by
      have q := hQ h' sb
      rw [hSk] at q
      rw [hsz] at r
      exact q r
    refine wpAny_bind (hgw _ ?_)
    split
    · refine wpAny_bind ?_
      rw [hashByValue_scannable 8 hsc]
      refine wpAny_pure ?_
      refine setS_add_tail ?_ ho hex hd g1 nd1 m1 hb1 ?_ ?_ ?_ ?_
      · intro b s₁ Q' q; cases b <;> first | exact wpAny_pure q | exact wpAny_rule q
      · first | (split <;> first | exact hf1 | exact SetTable.fits_plain_off hf1) | exact hf1
      · first | (split <;> exact hr1) | exact hr1
      · first | (split <;> exact hled) | exact hled
      · intro h' sb r; dsimp only; exact wpAny_pure (fin h' sb r)
    · refine wpAny_bind (wpAny_pure ?_)
      simp only [↓reduceIte]
      refine setS_add_tail ?_ ho hex hd g1 nd1 m1 hb1 hf1 hr1 hled ?_
      · intro b s₁ Q' q; cases b <;> first | exact wpAny_pure q | exact wpAny_rule q
      · intro h' sb r; dsimp only; exact wpAny_pure (fin h' sb r)

end
end Ns
namespace Ns
open PySem PySem.Spec PyProof.Rows L2
theorem perm_map' {α β : Type} {g : β → α} : ∀ {xs : List α} {l : List β}, xs.Perm (l.map g) → ∃ l' : List β, l'.Perm l ∧ xs = l'.map g := by
  have key : ∀ {xs ys : List α}, xs.Perm ys → ∀ l : List β, ys = l.map g → ∃ l' : List β, l'.Perm l ∧ xs = l'.map g := by
    intro xs ys p
    induction p with
    | nil => exact fun l e => ⟨l, .refl _, e⟩
    | cons x p ih =>
      intro l e
      cases l with
      | nil => cases e
      | cons y l =>
        injection e with e1 e2
        obtain ⟨l', q, e3⟩ := ih l e2
        exact ⟨y :: l', q.cons _, by rw [e1, e3]; rfl⟩
    | swap x y l0 =>
      intro l e
      match l, e with
      | u :: v :: l, e =>
        injection e with e1 e2
        injection e2 with e2 e3
        exact ⟨v :: u :: l, .swap _ _ _, by rw [e1, e2, e3]; rfl⟩
    | trans p q ih1 ih2 =>
      intro l e
      obtain ⟨l1, q1, e1⟩ := ih2 l e
      obtain ⟨l2, q2, e2⟩ := ih1 l1 e1
      exact ⟨l2, q2.trans q1, e2⟩
  exact fun {xs l} p => key p l rfl
theorem strs_of : ∀ ms : List (Int × Value), (∀ e ∈ ms, ∃ tk, e.2 = Value.str (keyS e) tk) → StrsAre (ms.map fun e => e.2) (ms.map keyS)
  | [], _ => .nil
  | e :: ms, h => by
    obtain ⟨tk, q⟩ := h e List.mem_cons_self
    show StrsAre (e.2 :: ms.map fun e => e.2) (keyS e :: ms.map keyS)
    rw [q]
    exact .cons _ _ (strs_of ms fun u m => h u (List.mem_cons_of_mem _ m))
theorem setS_new_at {P : Program} {w : World} {h : Heap} {a : Addr} {ns : List Str} (ho : h.get? a = some { cls := .type "set", dict := none, data := .set #[] 0 (.fresh 0 0 (!w.params.followText "set-order")) }) : SetS P w h a (fun j => decide (j ∈ ns.take 0)) 0 :=
  ⟨_, #[], 0, _, ho, ⟨rfl, rfl, rfl⟩, rfl, (fun e he => by simp at he), (by simp), (fun k => by simp), (by decide), (by rfl), rfl, List.Pairwise.nil, by
    show _ ∨ (!w.params.followText "set-order") = true
    cases w.params.followText "set-order"
    · exact .inr rfl
    · exact .inl rfl⟩
section
variable {P : Program} {w : World} {A : Around} {E : Value → Shared → Prop} {s : Shared} {a : Addr}
theorem set_update_strs {I : Addr} {fp wr : List Addr} {G : Array GenState → Array GenState → Prop} {n : Nat} {Pv : Nat → Value → Prop} {St : Nat → Shared → Prop} {R : Result → Shared → Prop}
    (W : WalksS P w A.in1 I fp wr G n Pv St) (S : Addr) (hSf : S ∉ fp) (ns : List Str) (hn : n = ns.length) (hb : ns.length + 1 < scanBound) (hval : ∀ i v, Pv i v → ∃ k t, ns[i]? = some k ∧ v = .str k t) :
    ∀ (k i : Nat) (s : Shared), n - i = k → i ≤ n → St i s → (∃ c, c ≤ i ∧ SetS P w s.heap S (fun j => decide (j ∈ ns.take i)) c) →
      (∀ s' c, Moved (S :: wr) G s s' → c ≤ n → SetS P w s'.heap S (fun j => decide (j ∈ ns)) c → R (.ok (.ret .none)) s') →
      codeAny (model P w) A (.builtin "set.update.loop" ⟨[.ref S, .ref I], []⟩) R s := by
  have hSw : S ∉ wr := fun h => hSf (W.sub _ h)
  have hsub : ∀ b ∈ wr, b ∈ S :: wr := fun b hb => List.mem_cons_of_mem _ hb
  intro k
  induction k with
  | zero =>
    intro i s hk' hi hst ⟨c, hc, hS⟩ hR
    have hin : i = n := by omega
    subst hin
    refine codeAny_builtin F.entry_set_update_loop ?_
    rw [Around.under_plainId F.plain_set_update_loop _]
    show wpAny _ A.in1 (pyNext (.ref I) >>= _) _ _ s
    refine wpAny_bind (W.done s _ _ hst fun s' hm => ?_)
    show wpAny _ A.in1 (ret Value.none) _ _ s'
    have e : ns.take i = ns := List.take_of_length_le (by omega)
    rw [e] at hS
    exact wpAny_pure (hR s' c (hm.mono hsub) hc (hS.at fun o e => hm.heap S o hSw e))
  | succ k ih =>
    intro i s hk' hi hst ⟨c, hc, hS⟩ hR
    have hlt : i < n := by omega
    refine codeAny_builtin F.entry_set_update_loop ?_
    rw [Around.under_plainId F.plain_set_update_loop _]
    show wpAny _ A.in1 (pyNext (.ref I) >>= _) _ _ s
    refine wpAny_bind (W.item i s _ _ hlt hst fun v s' hP hst' hm => ?_)
    obtain ⟨z, t, hz, rfl⟩ := hval i v hP
    have hS' : SetS P w s'.heap S (fun j => decide (j ∈ ns.take i)) c := hS.at fun o e => hm.heap S o hSw e
    show wpAny _ A.in1 (holding [Value.str z t] (setAdd S (.str z t)) >>= _) _ _ s'
    refine wpAny_bind (wpAny_holding ?_)
    unfold setAdd
    refine wpAny_holding ?_
    refine wpAny_bind ((PySem.strKind P w).pyHash (k := z) (strKind_is _ _ _ _) ?_)
    refine setS_add_hashed (s := { s' with toks := s'.toks + 1 }) hS' (by omega) fun h' hsb hS2 => ?_
    have hS3 : SetS P w h' S (fun j => decide (j ∈ ns.take (i + 1))) (if decide (z ∈ ns.take i) = true then c else c + 1) := hS2.congr fun j => by
      rw [List.take_add_one, hz]
      simp [List.mem_append]
    have hc3 : (if decide (z ∈ ns.take i) = true then c else c + 1) ≤ i + 1 := by
      split <;> omega
    refine wpAny_pure ⟨plainId_quiet F.plain_set_update_loop _, ih (i + 1) _ (by omega) hlt (W.frame _ s' _ _ hst' (Nat.le_succ _) fun b hb o e => ?_) ⟨_, hc3, hS3⟩ fun s'' c2 hm'' hc'' hS'' => ?_⟩
    · rw [hsb.2 b (fun h : b = S => hSf (by rw [← h]; exact hb))]; exact e
    · refine hR s'' c2 (Moved.trans W.gtrans ((hm.mono hsub).then_heap (Nat.le_succ _) fun b o hb e => ?_) hm'') hc'' hS''
      rw [hsb.2 b (fun h : b = S => hb (by rw [h]; exact List.mem_cons_self))]; exact e

set_option maxRecDepth 100000 in
set_option maxHeartbeats 3200000 in
theorem call_set_listS {l : Addr} {items : Array Value} (ns : List Str) {Q : Value → Shared → Prop} (hh : A.handled = none) (hl : s.heap.IsList l items) (hit : StrsAre items.toList ns) (hb : ns.length + 1 < scanBound)
    (h : ∀ (h' : Heap) (tk c : Nat), SetS P w h' s.heap.objs.size (fun j => decide (j ∈ ns)) c → c ≤ ns.length → (∀ b o, s.heap.get? b = some o → h'.get? b = some o) → Q (.ref s.heap.objs.size) { s with heap := h', toks := tk }) :
    wpAny (model P w) A (call (.type "set") [.ref l]) Q E s := by
  have hisz : items.size = ns.length := by
    have q := StrsAre.len_eq hit
    rw [Array.length_toList] at q
    exact q
  obtain ⟨c, tl, hmro⟩ := F.called_set.mro
  have hmade := F.called_set.made
  have hsub := F.called_set.sub
  refine wpAny_call (codeAny_of_tree ?_)
  show wpAny _ _ (callAny (.type "set") _) _ _ _
  refine wpAny_pure ⟨Code.quiet_builtin _ (by decide +kernel), codeAny_builtin F.entry_type_call ?_⟩
  rw [Around.under_plain (weight_type_call_type "set" [.ref l] []) rfl]
  have h1 := F.called_set.notType
  have h2 := F.called_set.canCreate
  have hct := F.typeCall_set_1 (.ref l)
  repeat (any_goals (first | assumption | wp_step))

  refine codeAny_mono (code_set_led1 (.ref l) (E := E) (Q₁ := fun obj s₁ => obj = .ref s.heap.objs.size ∧ s₁ = { s with heap := s.heap.push { cls := .type "set", dict := none, data := .set #[] 0 (.fresh 0 0 (!w.params.followText "set-order")) } }) ⟨rfl, rfl⟩) fun r s₁ hr => ?_
  cases r with
  | error e => exact hr
  | ok fl =>
    cases fl with
    | ret obj =>
      obtain ⟨rfl, rfl⟩ := hr
      have hS : (s.heap.push { cls := .type "set", dict := none, data := .set #[] 0 (.fresh 0 0 (!w.params.followText "set-order")) }).get? s.heap.objs.size = some { cls := .type "set", dict := none, data := .set #[] 0 (.fresh 0 0 (!w.params.followText "set-order")) } := Heap.get?_push_size _ rfl
      have hT : Shared.TypeIs { s with heap := s.heap.push { cls := .type "set", dict := none, data := .set #[] 0 (.fresh 0 0 (!w.params.followText "set-order")) } } (.ref s.heap.objs.size) "set" := ⟨_, hS, rfl⟩
      have hli := F.called_set.init.lookup
      have hbi := F.called_set.init.bind (.ref s.heap.objs.size)
      repeat (any_goals (first | assumption | wp_step))

      refine codeAny_mono (codeAny_call_builtin (R := wants (fun r s₂ => r = .none ∧ ∃ h' tk c, s₂ = { s with heap := h', toks := tk } ∧ SetS P w h' s.heap.objs.size (fun j => decide (j ∈ ns)) c ∧ c ≤ ns.length ∧
          (∀ b o, s.heap.get? b = some o → h'.get? b = some o)) E) F.called_set.init.plain F.entry_set_init (check_set_init_1 hT ?_)) fun r₂ s₂ hr₂ => ?_
      · obtain ⟨ol, hol, hcl, nl, hdl⟩ := hl
        obtain ⟨ocls, odict, odata, oslots⟩ := ol
        simp only at hcl hdl
        subst hcl; subst hdl
        have hol' : (s.heap.push { cls := .type "set", dict := none, data := .set #[] 0 (.fresh 0 0 (!w.params.followText "set-order")) }).get? l = some { cls := .type "list", dict := odict, data := .seq items nl, slots := oslots } := Heap.get?_push_of_some _ hol
        have hsls := F.sub_list_set
        have hslf := F.sub_list_frozenset
        have hne : (Value.type "list" == Value.type "dict") = false := by decide
        have hl1 : (s.heap.push { cls := .type "set", dict := none, data := .set #[] 0 (.fresh 0 0 (!w.params.followText "set-order")) }).IsList l items := ⟨_, hol', rfl, nl, rfl⟩
        unfold Builtin.«set.__init__» noKeywords Builtin.Frozenset.updateFrom
        generalize hPI : pyIter = PI
        wp_walk
        subst hPI

        refine wpAny_pyIter_list hl1 ?_
        refine wpAny_bind (wpAny_runValue ?_)
        have hlS : l < s.heap.objs.size := Heap.lt_size hol
        have hh3 : A.in1.in1.in1.handled = none := by simp [hh]
        have hz1 : (s.heap.push { cls := .type "set", dict := none, data := .set #[] 0 (.fresh 0 0 (!w.params.followText "set-order")) }).objs.size = s.heap.objs.size + 1 := Heap.size_push ..
        have hneI : l ≠ (s.heap.push { cls := .type "set", dict := none, data := .set #[] 0 (.fresh 0 0 (!w.params.followText "set-order")) }).objs.size := by
          rw [Heap.size_push]; exact Nat.ne_of_lt (Nat.lt_succ_of_lt hlS)
        have hSf : s.heap.objs.size ∉ [(s.heap.push { cls := .type "set", dict := none, data := .set #[] 0 (.fresh 0 0 (!w.params.followText "set-order")) }).objs.size, l] := by
          rw [Heap.size_push]; simp only [List.mem_cons, List.mem_singleton, List.not_mem_nil, or_false, not_or]
          exact ⟨Nat.ne_of_lt (Nat.lt_succ_self _), Nat.ne_of_gt hlS⟩
        have hval : ∀ (i : Nat) (v : Value), items[i]? = some v → ∃ k t, ns[i]? = some k ∧ v = .str k t := fun i v hv => by
          have hi : i < ns.length := by rw [← hisz]; exact (Array.getElem?_eq_some_iff.mp hv).1
          obtain ⟨t, e⟩ := SS.strs_at hit i v (by rw [Array.getElem?_toList]; exact hv)
          refine ⟨ns[i], t, List.getElem?_eq_getElem hi, ?_⟩
          rw [e, List.getD_eq_getElem?_getD, List.getElem?_eq_getElem hi] <;> rfl
        refine set_update_strs ((Walks.list hh3 _ l hneI items).toS) s.heap.objs.size
          hSf ns hisz hb hval (items.size - 0) 0 _ (by omega) (Nat.zero_le _)
          ⟨⟨_, Heap.get?_push_size _ rfl, rfl, rfl⟩, (hl1.push _)⟩ ?hS0 ?hR
        case hS0 =>
          have hget : ((s.heap.push { cls := .type "set", dict := none, data := .set #[] 0 (.fresh 0 0 (!w.params.followText "set-order")) }).push { cls := .type "list_iterator", data := .fields #[.ref l, .int 0 0] }).get? s.heap.objs.size
              = some { cls := .type "set", dict := none, data := .set #[] 0 (.fresh 0 0 (!w.params.followText "set-order")) } := Heap.get?_push_of_some _ hS
          exact ⟨0, Nat.le_refl 0, setS_new_at hget⟩
        case hR =>
          intro s' c' hm hc' hS'
          obtain ⟨h', g2, d', tk', os'⟩ := s'
          have eg : g2 = s.gens := hm.gens
          have ed : d' = s.drawn := hm.drawn
          have eo : os' = s.os := hm.os
          subst eg; subst ed; subst eo
          show wpAny _ _ _ _ _ _
          refine wpAny_pure ?_
          show wpAny _ _ (ret Value.none) _ _ _
          rw [hisz] at hc'
          refine wpAny_pure ⟨rfl, h', tk', c', rfl, hS', hc', fun b o e => ?_⟩
          have hb0 : b < s.heap.objs.size := Heap.lt_size e
          have hb1 : b ≠ s.heap.objs.size := Nat.ne_of_lt hb0
          have hb2 : b ≠ (s.heap.push { cls := .type "set", dict := none, data := .set #[] 0 (.fresh 0 0 (!w.params.followText "set-order")) }).objs.size := by
            rw [Heap.size_push]; exact Nat.ne_of_lt (Nat.lt_succ_of_lt hb0)
          exact hm.heap b o (by simp only [List.mem_cons, List.mem_singleton, List.not_mem_nil, or_false, not_or]; exact ⟨hb1, hb2⟩) (Heap.get?_push_of_some _ (Heap.get?_push_of_some _ e))

      · cases r₂ with
        | error e => exact hr₂
        | ok fl₂ =>
          cases fl₂ with
          | ret r =>
            obtain ⟨rfl, h', tk, c', rfl, hS', hc', hk'⟩ := hr₂
            repeat (any_goals (first | assumption | wp_step))
            exact h _ _ _ hS' hc' hk'
          | _ => exact hr₂.elim
    | _ => exact hr.elim

theorem sorted_setS {S : Str → Bool} {n : Nat} {Q : Value → Shared → Prop} (R : SetS P w s.heap a S n) (hh : A.handled = none) (h64 : n < 64)
    (hQ : ∀ s' p (out : Array Value) (c : Nat) (ns : List Str), (∀ b o, s.heap.get? b = some o → s'.heap.get? b = some o) → s'.gens = s.gens → s'.os = s.os → s.heap.objs.size ≤ p →
      s'.heap.get? p = some (seqObj "list" out c) → StrsAre out.toList ns → sortedS ns = true → ns.Nodup → (∀ k, k ∈ ns ↔ S k = true) → ns.length = n → Q (.ref p) s') :
    wpAny (model P w) A (call (.builtin "sorted") [.ref a]) Q E s := by
  obtain ⟨o, es, ep, t, ho, hex, hd, g, nd, hm, hb, hf, hn, hr, hl⟩ := R
  refine Calls.call_function_entry kind_sorted plain_sorted entry_sorted (args_sorted1 _) ?_
  unfold Builtin.«sorted»
  refine wpAny_bind (m := checkCount "sorted" 1 1 _) (wpAny_pure ?_)
  refine wpAny_bind (collect_set (A := A.in1) hh ⟨o, ho, hex.1, hd⟩ hf hb hr hl fun s1 vs k1 hz g1 o1 pm => ?_)
  have hvl : vs.length = n := by rw [pm.length_eq, List.length_map, Array.length_toList]; exact hn
  have ek : ∀ e ∈ es.toList, ∃ tk, e.2 = Value.str (keyS e) tk := fun e he => by
    obtain ⟨k, tk, h1, _⟩ := g e he
    refine ⟨tk, ?_⟩
    unfold keyS
    rw [h1]
  obtain ⟨ms, pms, rfl⟩ := perm_map' (g := fun e : Int × Value => e.2) pm
  have hI : StrsAre (ms.map fun e => e.2) (ms.map keyS) := strs_of ms fun e he => ek e (pms.mem_iff.mp he)
  refine wpAny_bind (wpAny_newList ?_ (by rw [hvl, sizeLine_eq]; omega))
  have hoL : (s1.heap.push (seqObj "list" (ms.map fun e => e.2).toArray 0)).get? s1.heap.objs.size = some (seqObj "list" (ms.map fun e => e.2).toArray 0) := Heap.get?_push_size _ rfl
  refine wpAny_bind (wpAny_holding (wpAny_call_entry slot_list_sort ⟨_, hoL, rfl⟩ entry_list_sort
    (list_sort_treeK strKind_oneLt hoL hI.keysOf (fun v₁ v₂ rest e => keyKind_strs (by rw [← e]; exact hI)) (by rw [hvl]; exact h64) fun st' hp hs => ⟨_, rfl, ?_⟩) (args_list_sort _)))
  obtain ⟨ys, g1', g2', g3'⟩ := sorted_out_str hI hp hs
  obtain ⟨c, hc⟩ := sortedHeap_at (vs := ms.map fun e => e.2) (out := (arrOf st').map (·.2)) hoL
  have pn : ys.Perm (es.toList.map keyS) := g2'.trans (pms.map keyS)
  refine wpAny_pure ⟨_, rfl, hQ _ s1.heap.objs.size ((arrOf st').map (·.2)) c ys (fun b u e => ?_) g1 o1 hz hc g1' g3' (pn.nodup_iff.mpr nd) (fun k => by rw [pn.mem_iff, ← hm k]) ?_⟩
  · have q := k1 b u e
    have hlt := Heap.lt_size q
    show (sortedHeap (s1.heap.push (seqObj "list" (ms.map fun e => e.2).toArray 0)) s1.heap.objs.size (ms.map fun e => e.2) ((arrOf st').map (·.2))).get? b = some u
    rw [sortedHeap_old (Nat.ne_of_lt hlt) (by rw [size_push']; exact Nat.lt_succ_of_lt hlt)]
    exact Heap.get?_push_of_some _ q
  · rw [pn.length_eq, List.length_map, Array.length_toList]; exact hn
end
end Ns
namespace Ns
open PySem PySem.Spec PyProof.Rows L2
/-! ### as tracked things: set(xs), sorted(set) -/
def SetSO (P : Program) (w : World) (a : Addr) (S : Str → Bool) (n : Nat) : HO := .ext fun h => SetS P w h a S n
theorem setSO_new {P : Program} {w : World} {H : Hp} {h : Heap} {a : Addr} {S : Str → Bool} {n : Nat} (R : SetS P w h a S n) : ObjOk P w H h a (SetSO P w a S n) := by
  have ⟨o, _, _, _, ho, _⟩ := R
  exact ⟨R, ⟨o, ho⟩, fun h1 h2 p k => SetS.at p k⟩
section
variable {X : Cx}
theorem nodup_few' : ∀ {l D : List Str}, l.Nodup → (∀ x ∈ l, x ∈ D) → l.length ≤ D.length
  | [], _, _, _ => Nat.zero_le _
  | x :: l, D, hn, hs => by
    obtain ⟨h1, h2⟩ := List.nodup_cons.mp hn
    have hx : x ∈ D := hs x List.mem_cons_self
    have ih := nodup_few' (l := l) (D := D.erase x) h2 fun y hy => by
      have hne : y ≠ x := fun e => h1 (e ▸ hy)
      exact (List.mem_erase_of_ne hne).2 (hs y (List.mem_cons_of_mem _ hy))
    have e := List.length_erase_of_mem hx
    have hp : 0 < D.length := List.length_pos_of_mem hx
    rw [List.length_cons]
    omega
def rSetOfS (K : PySem.W.Frag) (P : Program) (w : World) : List V → Hp → VK → Prop := fun xs H Q => ∃ (l : Addr) (zs : List Str), xs = [V.ref l] ∧ SqL K H l (zs.map V.str) ∧ zs.length + 1 < scanBound ∧
  ∀ a c, H a = none → (∀ D : List Str, (∀ z ∈ zs, z ∈ D) → c ≤ D.length) → Q (.ref a) (upd H a (SetSO P w a (fun z => decide (z ∈ zs)) c))
theorem cr_setOfS (hc : X.calm = true) : CallR X (.type "set") (rSetOfS X.K X.prog X.w) := by
  intro pins s σ H xs us Q I r h
  obtain ⟨l, zs, rfl, hl, hb, q⟩ := h
  rw [Vals.ref1 r]
  obtain ⟨its, rv, pl, hz⟩ := I.list hl
  have hn : H s.heap.objs.size = none := I.hok.fresh (Nat.le_refl _)
  refine call_set_listS (P := X.prog) (w := X.w) zs (I.ok.hd hc) pl.isList (by simpa using rv.strs) hb fun h' tk c R hc' k => ?_
  refine ⟨.ref s.heap.objs.size, upd H s.heap.objs.size (SetSO X.prog X.w s.heap.objs.size (fun z => decide (z ∈ zs)) c), I.laid (t' := tk) k (Nat.le_refl _) (setSO_new R), rfl, q _ c hn fun D hD => ?_⟩
  obtain ⟨o, es, ep, t, _, _, _, _, nd, mem, _, _, en, _⟩ := R
  have e : (es.toList.map keyS).length ≤ D.length := nodup_few' nd fun z m => hD z (of_decide_eq_true ((mem z).mpr m))
  rw [List.length_map, Array.length_toList, en] at e
  exact e
def rSortedSetS (P : Program) (w : World) : List V → Hp → VK → Prop := fun vs H Q => ∃ (a : Addr) (S : Str → Bool) (n : Nat), vs = [V.ref a] ∧ H a = some (SetSO P w a S n) ∧ n < 64 ∧
  ∀ (zs : List Str) (p : Addr), sortedS zs = true → zs.Nodup → (∀ k, k ∈ zs ↔ S k = true) → zs.length = n → H p = none → Q (.ref p) (upd H p (.lst (zs.map V.str)))
theorem cr_sortedSetS (hc : X.calm = true) : CallR X (.builtin "sorted") (rSortedSetS X.prog X.w) := by
  intro pins s σ H vs us Q I r h
  obtain ⟨a, S, n, rfl, ha, h64, q⟩ := h
  have R : SetS X.prog X.w s.heap a S n := (I.hok a _ ha).1
  rw [Vals.ref1 r]
  refine sorted_setS R (I.ok.hd hc) h64 fun s' p out c zs k g o hp hg hi hs nd hm hl => ?_
  have hlen : (zs.map V.str).length ≤ sizeLine := by rw [List.length_map, hl, sizeLine_eq]; omega
  have hn : H p = none := I.hok.fresh hp
  have J : Inv X pins σ (upd H p (.lst (zs.map V.str))) { s with heap := s'.heap, gens := s'.gens, drawn := s'.drawn, toks := s'.toks } :=
    I.call (ch := []) (Un.laid k hp hn) (I.hok.laid k hp ⟨hlen, out.toList, c, vals_of_strs hi, hg⟩) (by rw [g]; exact I.bare) (fun _ z => nomatch z)
  have e : s' = { s with heap := s'.heap, gens := s'.gens, drawn := s'.drawn, toks := s'.toks } := by
    cases s'
    cases s
    cases o
    rfl
  rw [e]
  exact ⟨.ref p, _, J, rfl, q zs p hs nd hm hl hn⟩
end
end Ns
namespace Ns
open PySem PySem.Spec PyProof.Rows L2
/-! ### set(xs), xs a list of tuples that are keys -/
/-- what the set has got from the first i items -/
structure GotE (ks : List (El)) (i : Nat) (L : List (El)) : Prop where
  sub : ∀ p ∈ L, p ∈ ks.take i
  all : ∀ p ∈ ks.take i, p.2 ∈ L.map (·.2)
  len : L.length ≤ i
theorem GotE.zero (ks : List (El)) : GotE ks 0 [] := ⟨fun p h => (by cases h), fun p h => (by simp at h), Nat.le_refl _⟩
theorem GotE.same {ks L : List (El)} {i : Nat} {x : El} (g : GotE ks i L) (h : ks[i]? = some x) (hm : x.2 ∈ L.map (·.2)) : GotE ks (i + 1) L := by
  refine ⟨fun p hp => ?_, fun p hp => ?_, Nat.le_succ_of_le g.len⟩
  · rw [take_next h]
    exact List.mem_append_left _ (g.sub p hp)
  · rw [take_next h] at hp
    rcases List.mem_append.mp hp with z | z
    · exact g.all p z
    · rw [List.mem_singleton.mp z]; exact hm
theorem GotE.more {ks L L' : List (El)} {i : Nat} {x : El} (g : GotE ks i L) (h : ks[i]? = some x) (pm : L'.Perm (x :: L)) : GotE ks (i + 1) L' := by
  refine ⟨fun p hp => ?_, fun p hp => ?_, ?_⟩
  · rw [take_next h]
    rcases List.mem_cons.mp (pm.mem_iff.mp hp) with e | z
    · rw [e]; exact List.mem_append_right _ (List.mem_singleton.mpr rfl)
    · exact List.mem_append_left _ (g.sub p z)
  · rw [(pm.map (·.2)).mem_iff, List.map_cons]
    rw [take_next h] at hp
    rcases List.mem_append.mp hp with z | z
    · exact List.mem_cons_of_mem _ (g.all p z)
    · rw [List.mem_singleton.mp z]; exact List.mem_cons_self
  · rw [pm.length_eq, List.length_cons]
    exact Nat.succ_le_succ g.len

section
variable {P : Program} {w : World} {A : Around} {E : Value → Shared → Prop} {s : Shared}
theorem SetN.keep {h h' : Heap} {a : Addr} {L : List El} {o : Obj} {es : Array (Int × Value)} {ep : Nat} {t : SetTable} (S : SetN w h a L o es ep t) (ha : ∀ o, h.get? a = some o → h'.get? a = some o) (ht : ∀ p ∈ L, Tk h' p.2 p.1) : SetN w h' a L o es ep t :=
  ⟨ha o S.at_, S.exact_, S.data, S.lay, S.nd, ht, S.few⟩
theorem setN_fresh {h : Heap} {a : Addr} (ho : h.get? a = some { cls := .type "set", dict := none, data := .set #[] 0 (.fresh 0 0 (!w.params.followText "set-order")) }) : ∃ o es ep t, SetN w h a [] o es ep t := by
  refine ⟨_, #[], 0, _, ho, ⟨rfl, rfl, rfl⟩, rfl, ⟨rfl, ⟨List.Pairwise.nil, rfl, rfl, .inl rfl, fun x m => absurd (show x ∈ ([] : List Nat) from m) (by simp), fun i _ _ z => absurd z (by simp)⟩, ?_, by show 0 * 5 < 7 * 3; decide⟩, .nil, fun p m => (nomatch m), by show 0 < 64; decide⟩
  show _ ∨ (!w.params.followText "set-order") = true
  cases w.params.followText "set-order"
  · exact .inr rfl
  · exact .inl rfl
/-- set.update's loop -/
theorem set_update_els {I : Addr} {fp wr : List Addr} {G : Array GenState → Array GenState → Prop} {n : Nat} {Pv : Nat → Value → Prop} {St : Nat → Shared → Prop} {R : Result → Shared → Prop}
    (W : WalksS P w A.in1 I fp wr G n Pv St) (S : Addr) (hSf : S ∉ fp) (ks : List El) (hn : n = ks.length) (hfew : ks.length < 64) (hval : ∀ i v, Pv i v → ∃ p, ks[i]? = some p ∧ v = .ref p.1)
    (h0 : Heap) (hk : ∀ p ∈ ks, Tk h0 p.2 p.1) (hS0 : h0.get? S = none) (hw0 : ∀ b ∈ wr, h0.get? b = none) (hu : A.in1.units + 8 < cLine) :
    ∀ (k i : Nat) (s : Shared), n - i = k → i ≤ n → St i s → (∀ b o, h0.get? b = some o → s.heap.get? b = some o) → (∃ L o es ep t, SetN w s.heap S L o es ep t ∧ GotE ks i L) →
      (∀ s' L o es ep t, Moved (S :: wr) G s s' → SetN w s'.heap S L o es ep t → GotE ks n L → (∀ b o, h0.get? b = some o → s'.heap.get? b = some o) → R (.ok (.ret .none)) s') →
      codeAny (model P w) A (.builtin "set.update.loop" ⟨[.ref S, .ref I], []⟩) R s := by
  have hSw : S ∉ wr := fun h => hSf (W.sub _ h)
  have hsub : ∀ b ∈ wr, b ∈ S :: wr := fun b hb => List.mem_cons_of_mem _ hb
  have keepM : ∀ {s s' : Shared}, Moved wr G s s' → (∀ b o, h0.get? b = some o → s.heap.get? b = some o) → ∀ b o, h0.get? b = some o → s'.heap.get? b = some o := fun hm hkp b o e =>
    hm.heap b o (fun hb => by rw [hw0 b hb] at e; cases e) (hkp b o e)
  intro k
  induction k with
  | zero =>
    intro i s hk' hi hst hkp ⟨L, ob, es, ep, t, hS, g⟩ hR
    have hin : i = n := by omega
    subst hin
    refine codeAny_builtin F.entry_set_update_loop ?_
    rw [Around.under_plainId F.plain_set_update_loop _]
    show wpAny _ A.in1 (pyNext (.ref I) >>= _) _ _ s
    refine wpAny_bind (W.done s _ _ hst fun s' hm => ?_)
    show wpAny _ A.in1 (ret Value.none) _ _ s'
    have hkp' := keepM hm hkp
    have sub : ∀ p ∈ L, p ∈ ks := fun p hp => List.mem_of_mem_take (g.sub p hp)
    exact wpAny_pure (hR s' L ob es ep t (hm.mono hsub) (hS.keep (fun o e => hm.heap S o hSw e) fun p hp => (hk p (sub p hp)).keep hkp') g hkp')
  | succ k ih =>
    intro i s hk' hi hst hkp ⟨L, ob, es, ep, t, hS, g⟩ hR
    have hlt : i < n := by omega
    refine codeAny_builtin F.entry_set_update_loop ?_
    rw [Around.under_plainId F.plain_set_update_loop _]
    show wpAny _ A.in1 (pyNext (.ref I) >>= _) _ _ s
    refine wpAny_bind (W.item i s _ _ hlt hst fun v s' hP hst' hm => ?_)
    obtain ⟨p, hp, rfl⟩ := hval i v hP
    have hkp' := keepM hm hkp
    have sub : ∀ p ∈ L, p ∈ ks := fun p hp => List.mem_of_mem_take (g.sub p hp)
    have hS' : SetN w s'.heap S L ob es ep t := hS.keep (fun o e => hm.heap S o hSw e) fun q hq => (hk q (sub q hq)).keep hkp'
    have hx : Tk s'.heap p.2 p.1 := (hk p (List.mem_of_getElem? hp)).keep hkp'
    show wpAny _ A.in1 (holding [Value.ref p.1] (setAdd S (.ref p.1)) >>= _) _ _ s'
    refine wpAny_bind (wpAny_holding ?_)
    unfold setAdd
    refine wpAny_holding ?_
    refine wpAny_bind ((nestedKind P w).pyHash (show _ + 8 < cLine from hu) hx ?_)
    refine add_at (s := { s' with toks := s'.toks + p.2.draws }) hS' hx hu (by have := g.len; omega) fun b h' L' ob' es' ep' t' hsb hS2 c1 c2 => ?_
    have g' : GotE ks (i + 1) L' := by
      rcases Classical.em (p.2 ∈ L.map (·.2)) with c | c
      · rw [c1 c]; exact g.same hp c
      · exact g.more hp (c2 c)
    have hkp2 : ∀ b o, h0.get? b = some o → h'.get? b = some o := fun b o e => (hsb.2 b (fun z => by rw [z, hS0] at e; cases e)).trans (hkp' b o e)
    refine wpAny_pure ⟨plainId_quiet F.plain_set_update_loop _, ih (i + 1) _ (by omega) hlt (W.frame _ s' _ _ hst' (Nat.le_add_right _ _) fun b hb o e => ?_) hkp2 ⟨L', ob', es', ep', t', hS2, g'⟩ fun s'' L2 ob2 es2 ep2 t2 hm'' hS'' g'' hkp'' => ?_⟩
    · rw [hsb.2 b (fun h : b = S => hSf (by rw [← h]; exact hb))]; exact e
    · refine hR s'' L2 ob2 es2 ep2 t2 (Moved.trans W.gtrans ((hm.mono hsub).then_heap (Nat.le_add_right _ _) fun b o hb e => ?_) hm'') hS'' g'' hkp''
      rw [hsb.2 b (fun h : b = S => hb (by rw [h]; exact List.mem_cons_self))]; exact e

set_option maxRecDepth 100000 in
set_option maxHeartbeats 3200000 in
/-- set(xs) -/
theorem call_set_els {l : Addr} {items : Array Value} (ks : List El) {Q : Value → Shared → Prop} (hh : A.handled = none) (hl : s.heap.IsList l items) (hit : items.toList = ks.map fun p => Value.ref p.1)
    (hk : ∀ p ∈ ks, Tk s.heap p.2 p.1) (hfew : ks.length < 64) (hu : A.units + 16 < cLine)
    (h : ∀ (h' : Heap) (tk : Nat) L o es ep t, SetN w h' s.heap.objs.size L o es ep t → GotE ks ks.length L → (∀ b o, s.heap.get? b = some o → h'.get? b = some o) → Q (.ref s.heap.objs.size) { s with heap := h', toks := tk }) :
    wpAny (model P w) A (call (.type "set") [.ref l]) Q E s := by
  have hu8 : A.in1.in1.in1.units + 8 < cLine := by
    have e : A.in1.in1.in1.units ≤ A.units + 3 := by first | (simp [Around.in1]; done) | (unfold Around.in1; simp; done) | exact Nat.le_refl _
    omega
  have hisz : items.size = ks.length := by
    have q := congrArg List.length hit
    rw [Array.length_toList, List.length_map] at q
    exact q
  obtain ⟨c, tl, hmro⟩ := F.called_set.mro
  have hmade := F.called_set.made
  have hsub := F.called_set.sub
  refine wpAny_call (codeAny_of_tree ?_)
  show wpAny _ _ (callAny (.type "set") _) _ _ _
  refine wpAny_pure ⟨Code.quiet_builtin _ (by decide +kernel), codeAny_builtin F.entry_type_call ?_⟩
  rw [Around.under_plain (weight_type_call_type "set" [.ref l] []) rfl]
  have h1 := F.called_set.notType
  have h2 := F.called_set.canCreate
  have hct := F.typeCall_set_1 (.ref l)
  repeat (any_goals (first | assumption | wp_step))

  refine codeAny_mono (code_set_led1 (.ref l) (E := E) (Q₁ := fun obj s₁ => obj = .ref s.heap.objs.size ∧ s₁ = { s with heap := s.heap.push { cls := .type "set", dict := none, data := .set #[] 0 (.fresh 0 0 (!w.params.followText "set-order")) } }) ⟨rfl, rfl⟩) fun r s₁ hr => ?_
  cases r with
  | error e => exact hr
  | ok fl =>
    cases fl with
    | ret obj =>
      obtain ⟨rfl, rfl⟩ := hr
      have hS : (s.heap.push { cls := .type "set", dict := none, data := .set #[] 0 (.fresh 0 0 (!w.params.followText "set-order")) }).get? s.heap.objs.size = some { cls := .type "set", dict := none, data := .set #[] 0 (.fresh 0 0 (!w.params.followText "set-order")) } := Heap.get?_push_size _ rfl
      have hT : Shared.TypeIs { s with heap := s.heap.push { cls := .type "set", dict := none, data := .set #[] 0 (.fresh 0 0 (!w.params.followText "set-order")) } } (.ref s.heap.objs.size) "set" := ⟨_, hS, rfl⟩
      have hli := F.called_set.init.lookup
      have hbi := F.called_set.init.bind (.ref s.heap.objs.size)
      repeat (any_goals (first | assumption | wp_step))

      refine codeAny_mono (codeAny_call_builtin (R := wants (fun r s₂ => r = .none ∧ ∃ h' tk L o es ep t, s₂ = { s with heap := h', toks := tk } ∧ SetN w h' s.heap.objs.size L o es ep t ∧ GotE ks ks.length L ∧
          (∀ b o, s.heap.get? b = some o → h'.get? b = some o)) E) F.called_set.init.plain F.entry_set_init (check_set_init_1 hT ?_)) fun r₂ s₂ hr₂ => ?_
      · obtain ⟨ol, hol, hcl, nl, hdl⟩ := hl
        obtain ⟨ocls, odict, odata, oslots⟩ := ol
        simp only at hcl hdl
        subst hcl; subst hdl
        have hol' : (s.heap.push { cls := .type "set", dict := none, data := .set #[] 0 (.fresh 0 0 (!w.params.followText "set-order")) }).get? l = some { cls := .type "list", dict := odict, data := .seq items nl, slots := oslots } := Heap.get?_push_of_some _ hol
        have hsls := F.sub_list_set
        have hslf := F.sub_list_frozenset
        have hne : (Value.type "list" == Value.type "dict") = false := by decide
        have hl1 : (s.heap.push { cls := .type "set", dict := none, data := .set #[] 0 (.fresh 0 0 (!w.params.followText "set-order")) }).IsList l items := ⟨_, hol', rfl, nl, rfl⟩
        unfold Builtin.«set.__init__» noKeywords Builtin.Frozenset.updateFrom
        generalize hPI : pyIter = PI
        wp_walk
        subst hPI

        refine wpAny_pyIter_list hl1 ?_
        refine wpAny_bind (wpAny_runValue ?_)
        have hlS : l < s.heap.objs.size := Heap.lt_size hol
        have hh3 : A.in1.in1.in1.handled = none := by simp [hh]
        have hz1 : (s.heap.push { cls := .type "set", dict := none, data := .set #[] 0 (.fresh 0 0 (!w.params.followText "set-order")) }).objs.size = s.heap.objs.size + 1 := Heap.size_push ..
        have hneI : l ≠ (s.heap.push { cls := .type "set", dict := none, data := .set #[] 0 (.fresh 0 0 (!w.params.followText "set-order")) }).objs.size := by
          rw [Heap.size_push]; exact Nat.ne_of_lt (Nat.lt_succ_of_lt hlS)
        have hSf : s.heap.objs.size ∉ [(s.heap.push { cls := .type "set", dict := none, data := .set #[] 0 (.fresh 0 0 (!w.params.followText "set-order")) }).objs.size, l] := by
          rw [Heap.size_push]; simp only [List.mem_cons, List.mem_singleton, List.not_mem_nil, or_false, not_or]
          exact ⟨Nat.ne_of_lt (Nat.lt_succ_self _), Nat.ne_of_gt hlS⟩
        have hval : ∀ (i : Nat) (v : Value), items[i]? = some v → ∃ p, ks[i]? = some p ∧ v = .ref p.1 := fun i v hv => by
          have q : items.toList[i]? = some v := by rw [Array.getElem?_toList]; exact hv
          rw [hit, List.getElem?_map] at q
          cases hq : ks[i]? with
          | none => rw [hq] at q; cases q
          | some p =>
            rw [hq] at q
            exact ⟨p, rfl, (Option.some.inj q).symm⟩
        have none_of : ∀ b, s.heap.objs.size ≤ b → s.heap.get? b = none := fun b hb => by
          cases q : s.heap.get? b with
          | none => rfl
          | some o => exact absurd (Nat.lt_of_lt_of_le (Heap.lt_size q) hb) (Nat.lt_irrefl _)
        refine set_update_els ((Walks.list hh3 _ l hneI items).toS) s.heap.objs.size
          hSf ks hisz hfew hval s.heap hk (none_of _ (Nat.le_refl _)) (fun b hb => none_of b (by
            rw [List.mem_singleton.mp hb, Heap.size_push]
            exact Nat.le_succ _)) (by first | exact hu8 | (show _ + 8 < cLine; have e := hu8; omega)) (items.size - 0) 0 _ (by omega) (Nat.zero_le _)
          ⟨⟨_, Heap.get?_push_size _ rfl, rfl, rfl⟩, (hl1.push _)⟩ (fun b o e => Heap.get?_push_of_some _ (Heap.get?_push_of_some _ e)) ?hS0 ?hR
        case hS0 =>
          have hget : ((s.heap.push { cls := .type "set", dict := none, data := .set #[] 0 (.fresh 0 0 (!w.params.followText "set-order")) }).push { cls := .type "list_iterator", data := .fields #[.ref l, .int 0 0] }).get? s.heap.objs.size
              = some { cls := .type "set", dict := none, data := .set #[] 0 (.fresh 0 0 (!w.params.followText "set-order")) } := Heap.get?_push_of_some _ hS
          obtain ⟨o0, es0, ep0, t0, z⟩ := setN_fresh (w := w) hget
          exact ⟨[], o0, es0, ep0, t0, z, GotE.zero ks⟩
        case hR =>
          intro s' L ob es ep t hm hS' g' hkp
          obtain ⟨h', g2, d', tk', os'⟩ := s'
          have eg : g2 = s.gens := hm.gens
          have ed : d' = s.drawn := hm.drawn
          have eo : os' = s.os := hm.os
          subst eg; subst ed; subst eo
          show wpAny _ _ _ _ _ _
          refine wpAny_pure ?_
          show wpAny _ _ (ret Value.none) _ _ _
          rw [hisz] at g'
          exact wpAny_pure ⟨rfl, h', tk', L, ob, es, ep, t, rfl, hS', g', hkp⟩

      · cases r₂ with
        | error e => exact hr₂
        | ok fl₂ =>
          cases fl₂ with
          | ret r =>
            obtain ⟨rfl, h', tk, L, ob, es, ep, t, rfl, hS', g', hk'⟩ := hr₂
            repeat (any_goals (first | assumption | wp_step))
            exact h _ _ _ _ _ _ _ hS' g' hk'
          | _ => exact hr₂.elim
    | _ => exact hr.elim


end
end Ns
namespace Ns
open PySem PySem.Spec PyProof.Rows L2 SrtO
/-! ### tuples of texts, sorted -/
/-- the items of a tuple of texts, as the sort sees them -/
def kw (ws : List Str) : List (Int ⊕ List Nat) := ws.map fun z => .inr z.cps.toList
def allS : Nat → Bool := fun _ => true
/-- v is a tuple of these texts -/
def Wv (h : Heap) (v : Value) (ws : List Str) : Prop := ∃ a o n xs, v = .ref a ∧ h.get? a = some o ∧ o.cls = .type "tuple" ∧ o.data = .seq xs n ∧ StrsAre xs.toList ws
theorem items_kw : ∀ {vs : List Value} {ws : List Str} (i : Nat), StrsAre vs ws → tupItems allS i vs = some (kw ws)
  | _, _, _, .nil => rfl
  | _, _, i, .cons x t r => by
    show (if allS i = true then (tupItems allS (i + 1) _).map (Sum.inr x.cps.toList :: ·) else none) = _
    rw [if_pos (show allS i = true from rfl), items_kw (i + 1) r]
    rfl
theorem Wv.key {h : Heap} {v : Value} {ws : List Str} (x : Wv h v ws) : tupKey h allS v = some (kw ws) := by
  obtain ⟨a, o, n, xs, rfl, ho, hc, hd, hs⟩ := x
  simp only [tupKey, ho, hd]
  exact items_kw 0 hs
theorem Wv.keeps {h h' : Heap} {v : Value} {ws : List Str} (x : Wv h v ws) (k : ∀ b o, h.get? b = some o → o.cls = .type "tuple" → h'.get? b = some o) : Wv h' v ws := by
  obtain ⟨a, o, n, xs, rfl, ho, hc, r⟩ := x
  exact ⟨a, o, n, xs, rfl, k a o ho hc, hc, r⟩
def keyV (h : Heap) (v : Value) : List (Int ⊕ List Nat) := (tupKey h allS v).getD []
theorem Wv.keyV {h : Heap} {v : Value} {ws : List Str} (x : Wv h v ws) : keyV h v = kw ws := by
  unfold Ns.keyV
  rw [x.key]
  rfl
def ltW (h : Heap) (v u : Value) : Bool := lexLt itemOrd (keyV h v) (keyV h u)
theorem swo_lexW {α : Type} (f : α → List (Int ⊕ List Nat)) : Swo fun v u => lexLt itemOrd (f v) (f u) := by
  refine ⟨fun x y h => ?_, fun x y z h1 h2 => ?_⟩
  · cases e : lexLt itemOrd (f y) (f x) with
    | false => rfl
    | true =>
      have t := lex_trans _ _ _ h e
      rw [lex_irrefl] at t
      cases t
  · cases e : lexLt itemOrd (f z) (f x) with
    | false => rfl
    | true =>
      rcases lex_negTrans _ (f y) _ e with k | k
      · rw [k] at h2
        cases h2
      · rw [k] at h1
        cases h1
theorem tups_of {h : Heap} : ∀ {vs : List Value}, (∀ v ∈ vs, ∃ ws, Wv h v ws ∧ ws ≠ []) → ∃ fs, TupsOf h allS vs fs ∧ fs.length = vs.length
  | [], _ => ⟨[], .nil, rfl⟩
  | v :: vs, x => by
    obtain ⟨fs, k, hl⟩ := tups_of (vs := vs) fun u m => x u (List.mem_cons_of_mem _ m)
    obtain ⟨ws, ⟨a, o, n, xs, rfl, ho, hc, hd, hs⟩, ne⟩ := x v List.mem_cons_self
    obtain ⟨L, rfl⟩ : ∃ L : List Value, xs = L.toArray := ⟨xs.toList, rfl⟩
    simp only at hs
    cases hs with
    | nil => exact absurd rfl ne
    | cons z t r =>
      exact ⟨.str z t :: fs, .cons ⟨a, o, _, n, rfl, ho, hc, hd, rfl, fun e => (by cases e), fun _ => ⟨z, t, rfl⟩⟩ k, by rw [List.length_cons, List.length_cons, hl]⟩
section
variable {P : Program} {w : World} {A : Around} {E : Value → Shared → Prop} {s : Shared}
theorem sortable_w {a : Addr} {vs : List Value} (h0 : 0 < vs.length) (hv : ∀ v ∈ vs, ∃ ws, Wv s.heap v ws ∧ ws ≠ []) (ha : ∀ o, s.heap.get? a = some o → o.cls ≠ .type "tuple") : SortableO P w A s a vs (ltW s.heap) := by
  intro h' keep
  have kp : ∀ b o, s.heap.get? b = some o → o.cls = .type "tuple" → h'.get? b = some o := fun b o e c => keep b o (fun z => ha o (z ▸ e) c) e
  have hv' : ∀ v ∈ vs, ∃ ws, Wv h' v ws ∧ ws ≠ [] := fun v m => let ⟨ws, x, ne⟩ := hv v m; ⟨ws, x.keeps kp, ne⟩
  obtain ⟨fs, k, hl⟩ := tups_of hv'
  refine ⟨tuples' true, fun Q E hq => tup_kind (s := { s with heap := h' }) (by omega) k hq, ?_⟩
  intro p q hm hm'
  obtain ⟨w1, x1, _⟩ := hv _ hm
  obtain ⟨w2, x2, _⟩ := hv _ hm'
  refine tup_ltAt (shape := allS) (s := { s with heap := h' }) true _ _ p.1 q.1 (kw w1) (kw w2) (x1.keeps kp).key (x2.keeps kp).key ?_
  refine ⟨rfl, ?_⟩
  show lexLt itemOrd (kw w1) (kw w2) = lexLt itemOrd (keyV s.heap p.1) (keyV s.heap q.1)
  rw [x1.keyV, x2.keyV]
/-- l.sort() of a list of tuples of texts -/
theorem sort_w {l : Addr} {vs : List Value} (hoL : s.heap.get? l = some (seqObj "list" vs.toArray 0)) (hz : vs.length ≤ sizeLine) (hv : ∀ v ∈ vs, ∃ ws, Wv s.heap v ws ∧ ws ≠ []) {Q : Value → Shared → Prop}
    (q : ∀ out : List Value, out.Perm vs → out.Pairwise (fun x y => ltW s.heap y x = false) → Q .none { s with heap := sortedHeap s.heap l vs out.toArray }) : wpAny (model P w) A (call (.builtin "list.sort") [.ref l]) Q E s := by
  refine wpAny_call_entry slot_list_sort ⟨_, hoL, rfl⟩ entry_list_sort (list_sort_ord (swo_lexW (keyV s.heap)) hoL hz (fun h2 => sortable_w (by omega) hv fun o e => ?_) fun out hs hb => ⟨_, rfl, q out hb.perm hs⟩) (args_list_sort _)
  have e' : some o = some (seqObj "list" vs.toArray 0) := e.symm.trans hoL
  cases e'
  intro c
  exact absurd (Value.type.inj c) (by decide)
end
/-! ### over the layer -/
theorem same_new {p : Addr} {H : Hp} {o : HO} (n : H p = none) : Same H (L2.upd H p o) := fun b u h => by rw [upd_ne (ne_of_none h n)]; exact h
theorem sqT_same {K : PySem.W.Frag} {H H' : Hp} {a : Addr} {xs : List V} (h : SqT K H a xs) (s : Same H H') : SqT K H' a xs := by
  rcases h with h | h
  · rcases h with h | ⟨od, h⟩
    · exact .inl (.inl (s _ _ h))
    · exact .inl (.inr ⟨od, s _ _ h⟩)
  · exact .inr h
/-- rows of texts in order -/
def sortedW (ls : List (List Str)) : Prop := ls.Pairwise fun x y => lexLt itemOrd (kw y) (kw x) = false
theorem kw_inj : ∀ {a b : List Str}, kw a = kw b → a = b
  | [], [], _ => rfl
  | [], _ :: _, h => by cases h
  | _ :: _, [], h => by cases h
  | x :: a, y :: b, h => by
    have h' : (Sum.inr x.cps.toList : Int ⊕ List Nat) :: kw a = Sum.inr y.cps.toList :: kw b := h
    injection h' with h1 h2
    injection h1 with h1
    have e : x = y := by
      have hc : x.cps = y.cps := Array.toList_inj.mp h1
      cases x
      cases y
      simp only [Str.mk.injEq]
      exact hc
    rw [e, kw_inj h2]
/-- the same rows in order are one -/
theorem sortedW_one {xs ys : List (List Str)} (hx : sortedW xs) (hy : sortedW ys) (p : xs.Perm ys) : xs = ys :=
  List.Perm.eq_of_pairwise (fun a b _ _ h k => kw_inj (lex_total _ _ k h)) hx hy p
/-- an element of words -/
def elW (q : Addr × List Str) : El := (q.1, .tup (q.2.map .text))
theorem text_inj : ∀ {a b : List Str}, a.map NestedKey.text = b.map NestedKey.text → a = b
  | [], [], _ => rfl
  | [], _ :: _, h => by cases h
  | _ :: _, [], h => by cases h
  | x :: a, y :: b, h => by
    have h' : NestedKey.text x :: a.map NestedKey.text = NestedKey.text y :: b.map NestedKey.text := h
    injection h' with h1 h2
    injection h1 with h1
    rw [h1, text_inj h2]
theorem kvs_words {K : PySem.W.Frag} {H : Hp} : ∀ ws : List Str, KVs K H (ws.map .text) (ws.map V.str)
  | [] => .nil
  | z :: ws => .cons (.text z) (kvs_words ws)
theorem depth_words : ∀ ws : List Str, NestedKey.depthAll (ws.map .text) ≤ 0
  | [] => Nat.le_refl _
  | z :: ws => by
    show max (NestedKey.text z).depth (NestedKey.depthAll (ws.map .text)) ≤ 0
    have := depth_words ws
    have e : (NestedKey.text z).depth = 0 := rfl
    omega
theorem elk_words {K : PySem.W.Frag} {H : Hp} {q : Addr × List Str} (h : SqT K H q.1 (q.2.map V.str)) : ElK K H (elW q) := by
  refine ⟨.tup h (kvs_words q.2), ?_⟩
  show NestedKey.depthAll (q.2.map .text) + 1 ≤ 8
  have := depth_words q.2
  omega
theorem words_refs : ∀ (M : List (Addr × List Str)), Vals (M.map fun q => V.ref q.1) (M.map fun q => Value.ref q.1)
  | [] => .nil
  | q :: M => .cons rfl (words_refs M)
theorem refs_words : ∀ {M : List (Addr × List Str)} {us : List Value}, Vals (M.map fun q => V.ref q.1) us → us = M.map fun q => Value.ref q.1
  | [], _, .nil => rfl
  | q :: M, _, .cons r t => by
    cases r
    rw [refs_words t]
    rfl
section
variable {X : Cx} {pins : List (Addr × Obj)} {σ : L2.St} {H : Hp} {s : Shared}
theorem wv_of (I : Inv X pins σ H s) {b : Addr} {ws : List Str} (h : SqT X.K H b (ws.map V.str)) : Wv s.heap (.ref b) ws := by
  obtain ⟨its, r, ⟨o, ho, hc, n, hd⟩, _⟩ := I.tuple h
  exact ⟨b, o, n, its.toArray, rfl, ho, hc, hd, by simpa using r.strs⟩
/-- set(xs), xs a list of tuples of texts -/
def rSetOfW (K : PySem.W.Frag) (w : World) : List V → Hp → VK → Prop := fun xs H Q => ∃ (l : Addr) (M : List (Addr × List Str)), xs = [V.ref l] ∧ SqL K H l (M.map fun q => V.ref q.1) ∧ (∀ q ∈ M, SqT K H q.1 (q.2.map V.str)) ∧ M.length < 64 ∧
  ∀ (a : Addr) (M' : List (Addr × List Str)), H a = none → (∀ q ∈ M', q ∈ M) → (∀ q ∈ M, q.2 ∈ M'.map (·.2)) → (M'.map (·.2)).Nodup → Q (.ref a) (upd H a (SetO w a (M'.map elW)))
theorem els_words : ∀ {L : List El} {M : List (Addr × List Str)}, (∀ p ∈ L, p ∈ M.map elW) → ∃ M' : List (Addr × List Str), L = M'.map elW ∧ ∀ q ∈ M', q ∈ M
  | [], _, _ => ⟨[], rfl, fun _ m => (nomatch m)⟩
  | p :: L, M, h => by
    obtain ⟨M', e, s⟩ := els_words (L := L) fun u m => h u (List.mem_cons_of_mem _ m)
    obtain ⟨q, mq, eq⟩ := List.mem_map.mp (h p List.mem_cons_self)
    refine ⟨q :: M', by rw [List.map_cons, ← e, eq], fun u m => ?_⟩
    rcases List.mem_cons.mp m with rfl | m
    · exact mq
    · exact s u m
theorem elW_two {q r : Addr × List Str} (h : (elW q).2 = (elW r).2) : q.2 = r.2 := by
  have h' : NestedKey.tup (q.2.map .text) = NestedKey.tup (r.2.map .text) := h
  injection h' with h'
  exact text_inj h'
theorem words_nodup {M : List (Addr × List Str)} : ((M.map elW).map (·.2)).Nodup ↔ (M.map (·.2)).Nodup := by
  rw [List.map_map]
  refine ⟨fun h => ?_, fun h => ?_⟩
  · have h' := List.pairwise_map.mp h
    exact List.pairwise_map.mpr (h'.imp fun {q r} ne e => ne (by show NestedKey.tup (q.2.map .text) = NestedKey.tup (r.2.map .text); rw [e]))
  · have h' := List.pairwise_map.mp h
    exact List.pairwise_map.mpr (h'.imp fun {q r} ne e => ne (elW_two e))
theorem cr_setOfW (hc : X.calm = true) (hu : X.A.units + 64 < cLine) : CallR X (.type "set") (rSetOfW X.K X.w) := by
  intro pins s σ H xs us Q I r h
  obtain ⟨l, M, rfl, hl, hk, hf, q⟩ := h
  rw [Vals.ref1 r]
  obtain ⟨its, rv, pl, hz⟩ := I.list hl
  have hn : H s.heap.objs.size = none := I.hok.fresh (Nat.le_refl _)
  have ek : (M.map elW).map (fun p => Value.ref p.1) = M.map fun q => Value.ref q.1 := by
    rw [List.map_map]
    rfl
  refine call_set_els (P := X.prog) (w := X.w) (M.map elW) (I.ok.hd hc) pl.isList (by rw [ek]; simpa using refs_words rv) (fun p hp => ?_) (by rw [List.length_map]; exact hf) (by omega) fun h' tk L o es ep t R g k => ?_
  · obtain ⟨q, mq, rfl⟩ := List.mem_map.mp hp
    exact (elk_words (hk q mq)).tk I
  · obtain ⟨M', rfl, sub⟩ := els_words (L := L) (M := M) fun p m => List.mem_of_mem_take (g.sub p m)
    refine ⟨.ref s.heap.objs.size, upd H s.heap.objs.size (SetO X.w s.heap.objs.size (M'.map elW)), I.laid (t' := tk) k (Nat.le_refl _) (setO_new R.set0), rfl, q _ M' hn sub (fun q mq => ?_) (words_nodup.mp R.nd)⟩
    have m2 := g.all (elW q) (by rw [List.take_length]; exact List.mem_map_of_mem mq)
    obtain ⟨p, mp, e⟩ := List.mem_map.mp m2
    obtain ⟨r, mr, rfl⟩ := List.mem_map.mp mp
    exact List.mem_map.mpr ⟨r, mr, elW_two e⟩
/-- what a sorted row of such tuples is -/
def rSrtW (K : PySem.W.Frag) (H : Hp) (wss : List (List Str)) (Q : VK) : Prop := ∀ (M : List (Addr × List Str)) (p : Addr) (H' : Hp), (M.map (·.2)).Perm wss → sortedW (M.map (·.2)) → (∀ q ∈ M, SqT K H' q.1 (q.2.map V.str)) → H p = none → Same H H' → H' p = some (.lst (M.map fun q => V.ref q.1)) → Q (.ref p) H'
/-- the tail of sorted: the collected values are put into a new list and sorted -/
theorem sorted_tail {s1 : Shared} {M : List (Addr × List Str)} {Q : VK} (I : Inv X pins σ H s) (k1 : ∀ b o, s.heap.get? b = some o → s1.heap.get? b = some o) (hz : s.heap.objs.size ≤ s1.heap.objs.size) (g1 : s1.gens = s.gens) (o1 : s1.os = s.os)
    (hM : ∀ q ∈ M, SqT X.K H q.1 (q.2.map V.str) ∧ q.2 ≠ []) (few : M.length ≤ 1000) (q : rSrtW X.K H (M.map (·.2)) Q) {A : Around} {E : Value → Shared → Prop} :
    wpAny (model X.prog X.w) A (call (.builtin "list.sort") [.ref s1.heap.objs.size]) (fun _ s' => EP X pins σ Q (.ref s1.heap.objs.size) s') E { s1 with heap := s1.heap.push (seqObj "list" (M.map fun q => Value.ref q.1).toArray 0) } := by
  have hoL : (s1.heap.push (seqObj "list" (M.map fun q => Value.ref q.1).toArray 0)).get? s1.heap.objs.size = some (seqObj "list" (M.map fun q => Value.ref q.1).toArray 0) := Heap.get?_push_size _ rfl
  have wv : ∀ q ∈ M, Wv (s1.heap.push (seqObj "list" (M.map fun q => Value.ref q.1).toArray 0)) (.ref q.1) q.2 := fun q m => (wv_of I (hM q m).1).keeps fun b o e _ => Heap.get?_push_of_some _ (k1 b o e)
  refine sort_w (s := { s1 with heap := s1.heap.push (seqObj "list" (M.map fun q => Value.ref q.1).toArray 0) }) hoL (by rw [List.length_map, sizeLine_eq]; omega) (fun v m => ?_) fun out pm pw => ?_
  · obtain ⟨q, mq, rfl⟩ := List.mem_map.mp m
    exact ⟨q.2, wv q mq, (hM q mq).2⟩
  obtain ⟨c, hc⟩ := sortedHeap_at (vs := M.map fun q => Value.ref q.1) (out := out.toArray) hoL
  obtain ⟨M2, p2, rfl⟩ := perm_map' pm
  have hn : H s1.heap.objs.size = none := I.hok.fresh hz
  have hlen : (M2.map fun q => V.ref q.1).length ≤ sizeLine := by
    rw [List.length_map, p2.length_eq, sizeLine_eq]
    omega
  have k : ∀ b o, s.heap.get? b = some o → (sortedHeap (s1.heap.push (seqObj "list" (M.map fun q => Value.ref q.1).toArray 0)) s1.heap.objs.size (M.map fun q => Value.ref q.1) (M2.map fun q => Value.ref q.1).toArray).get? b = some o := fun b o e => by
    have e1 := k1 b o e
    have hlt := Heap.lt_size e1
    rw [sortedHeap_old (Nat.ne_of_lt hlt) (by rw [size_push']; exact Nat.lt_succ_of_lt hlt)]
    exact Heap.get?_push_of_some _ e1
  have J : Inv X pins σ (upd H s1.heap.objs.size (.lst (M2.map fun q => V.ref q.1))) { s with heap := sortedHeap (s1.heap.push (seqObj "list" (M.map fun q => Value.ref q.1).toArray 0)) s1.heap.objs.size (M.map fun q => Value.ref q.1) (M2.map fun q => Value.ref q.1).toArray, gens := s1.gens, drawn := s1.drawn, toks := s1.toks } :=
    I.call (ch := []) (Un.laid k hz hn) (I.hok.laid k hz ⟨hlen, M2.map fun q => Value.ref q.1, c, words_refs M2, hc⟩) (by rw [g1]; exact I.bare) (fun _ z => nomatch z)
  have es : ({ s1 with heap := sortedHeap (s1.heap.push (seqObj "list" (M.map fun q => Value.ref q.1).toArray 0)) s1.heap.objs.size (M.map fun q => Value.ref q.1) (M2.map fun q => Value.ref q.1).toArray } : Shared) = { s with heap := sortedHeap (s1.heap.push (seqObj "list" (M.map fun q => Value.ref q.1).toArray 0)) s1.heap.objs.size (M.map fun q => Value.ref q.1) (M2.map fun q => Value.ref q.1).toArray, gens := s1.gens, drawn := s1.drawn, toks := s1.toks } := by
    cases s1
    cases s
    cases o1
    rfl
  rw [es]
  refine ⟨.ref s1.heap.objs.size, _, J, rfl, q M2 _ _ (p2.map _) ?_ (fun q m => sqT_same (hM q (p2.mem_iff.mp m)).1 (same_new hn)) hn (same_new hn) upd_same⟩
  refine List.pairwise_map.mpr (List.Pairwise.imp_of_mem (fun {x y} mx my h => ?_) (List.pairwise_map.mp pw))
  have h' : lexLt itemOrd (keyV _ (Value.ref y.1)) (keyV _ (Value.ref x.1)) = false := h
  rw [(wv x (p2.mem_iff.mp mx)).keyV, (wv y (p2.mem_iff.mp my)).keyV] at h'
  exact h'
end
end Ns
namespace Ns
open PySem PySem.Spec PyProof.Rows L2 SrtO
section
variable {X : Cx} {pins : List (Addr × Obj)} {σ : L2.St} {H : Hp} {s : Shared}
/-- sorted(set) of tuples of texts -/
def rSortedSetW (K : PySem.W.Frag) (w : World) : List V → Hp → VK → Prop := fun vs H Q => ∃ (a : Addr) (M : List (Addr × List Str)), vs = [V.ref a] ∧ H a = some (SetO w a (M.map elW)) ∧ (∀ q ∈ M, SqT K H q.1 (q.2.map V.str) ∧ q.2 ≠ []) ∧ rSrtW K H (M.map (·.2)) Q
theorem cr_sortedSetW (hc : X.calm = true) : CallR X (.builtin "sorted") (rSortedSetW X.K X.w) := by
  intro pins s σ H vs us Q I r h
  obtain ⟨a, M, rfl, ha, hM, q⟩ := h
  have S0 : Set0 X.w s.heap a (M.map elW) := (I.hok a _ ha).1
  obtain ⟨o, es, ep, t, S⟩ := S0.full fun p m => by
    obtain ⟨q, mq, rfl⟩ := List.mem_map.mp m
    exact (elk_words (hM q mq).1).tk I
  rw [Vals.ref1 r]
  have ly := S.lay
  have few := S.few
  rw [List.length_map] at few
  have len : es.size = M.length := by rw [ly.len, List.length_map]
  refine Calls.call_function_entry kind_sorted plain_sorted entry_sorted (args_sorted1 _) ?_
  unfold Builtin.«sorted»
  refine wpAny_bind (m := checkCount "sorted" 1 1 _) (wpAny_pure ?_)
  refine wpAny_bind (collect_set (A := X.A.in1) (I.ok.hd hc) ⟨o, S.at_, S.exact_.1, S.data⟩ ly.fits (by unfold scanBound; omega) ly.tab.ris ly.led fun s1 vs k1 hz g1 o1 pm => ?_)
  have hes : es.toList.map (·.2) = M.map fun q => Value.ref q.1 := by
    rw [ly.rows, List.map_map, List.map_map]
    rfl
  rw [hes] at pm
  obtain ⟨M1, p1, rfl⟩ := perm_map' pm
  refine wpAny_bind (wpAny_newList ?_ (by rw [List.length_map, p1.length_eq, sizeLine_eq]; omega))
  refine wpAny_bind (wpAny_holding (wpAny_mono (sorted_tail (M := M1) (Q := Q) I k1 hz g1 o1 (fun q m => hM q (p1.mem_iff.mp m)) (by rw [p1.length_eq]; omega) fun M' p H' pw srt hk hn sm e => q M' p H' (pw.trans (p1.map _)) srt hk hn sm e) (fun v s' hq => ?_) fun _ _ e => e))
  exact wpAny_pure ⟨_, rfl, hq⟩
/-- the words of a dict's keys that are tuples of texts, with the addresses of the keys -/
theorem kt_words {H : Hp} : ∀ {kvs : List (List L2.Key × V)} {xs : List (List L2.Key × Addr × Value)} {wss : List (List Str)}, KT H kvs xs → kvs.map (·.1) = wss.map (fun ws => ws.map Sum.inr) →
    ∃ M : List (Addr × List Str), M.map (·.2) = wss ∧ xs.map (fun x => Value.ref x.2.1) = M.map (fun q => Value.ref q.1) ∧ ∀ q ∈ M, H q.1 = some (.tup (q.2.map V.str))
  | _, _, [], .nil, _ => ⟨[], rfl, rfl, fun _ m => (nomatch m)⟩
  | _, _, _ :: _, .nil, h => by cases h
  | _, _, [], .cons _ _, h => by cases h
  | _, _, ws :: wss, .cons (a := p) (b := x) f r, h => by
    have h' : p.1 :: _ = ws.map Sum.inr :: wss.map (fun ws => ws.map Sum.inr) := h
    injection h' with h1 h2
    obtain ⟨M, e1, e2, e3⟩ := kt_words r h2
    refine ⟨(x.2.1, ws) :: M, by rw [List.map_cons, e1], by rw [List.map_cons, List.map_cons, e2], fun q m => ?_⟩
    rcases List.mem_cons.mp m with rfl | m
    · have e := f.2.1
      rw [h1, List.map_map] at e
      exact e
    · exact e3 q m
theorem kdl_raw {P : Program} {w : World} {d : Addr} {es : Array DictEntry} {ep : Nat} (lo : (d == sysModules) = false) : PySem.W.KdlSrc P w "dict" d d es.size (fun i v => ∃ hi : i < es.size, v = es[i].key) (fun h => h.DictRaw d es ep) where
  type := fun _ hm => hm.typeIs
  there := fun h hm => by
    obtain ⟨o, ho, _⟩ := hm
    exact ⟨Heap.lt_size ho, Heap.lt_size ho⟩
  keep := fun _ _ hm hk => hm.at fun o e => hk d (.inl rfl) o e
  notList := by decide
  notTuple := by decide
  hint := fun _ _ _ _ hm hq => PySem.W.kdl_hint_dict hm.typeIs hq
  iter := fun _ s hh hm => by
    obtain ⟨o, ho, _⟩ := id hm
    exact ⟨_, _, (fun _ _ hq => wpAny_pyIter_dict_raw lo hm hq), Walks.rawKeys hh _ d (Nat.ne_of_lt (Heap.lt_size ho)) es ep, ⟨⟨_, Heap.get?_push_size _ rfl, rfl, rfl⟩, hm.at fun o e => Heap.get?_push_of_some _ e⟩⟩
/-- sorted(d), d a dict whose keys are tuples of texts -/
def rSortedDW (K : PySem.W.Frag) : List V → Hp → VK → Prop := fun vs H Q => ∃ (a : Addr) (kvs : List (List L2.Key × V)) (wss : List (List Str)), vs = [V.ref a] ∧ H a = some (.dT kvs) ∧ kvs.map (·.1) = wss.map (fun ws => ws.map Sum.inr) ∧ wss.length ≤ 1000 ∧ (∀ ws ∈ wss, ws ≠ []) ∧ rSrtW K H wss Q
theorem cr_sortedDW (hc : X.calm = true) : CallR X (.builtin "sorted") (rSortedDW X.K) := by
  intro pins s σ H vs us Q I r h
  obtain ⟨a, kvs, wss, rfl, ha, hk, few, ne, q⟩ := h
  obtain ⟨z, lo, xs, rel, dd⟩ := dt_of I.hok ha
  obtain ⟨M, e1, e2, e3⟩ := kt_words rel hk
  obtain ⟨es, ep, raw, sz, ent⟩ := dd.raw
  rw [Vals.ref1 r]
  have lM : M.length = wss.length := by rw [← e1, List.length_map]
  have lx : xs.length = M.length := by
    have e := congrArg List.length e2
    rw [List.length_map, List.length_map] at e
    exact e
  refine Calls.call_function_entry kind_sorted plain_sorted entry_sorted (args_sorted1 _) ?_
  unfold Builtin.«sorted»
  refine wpAny_bind (m := checkCount "sorted" 1 1 _) (wpAny_pure ?_)
  refine wpAny_bind (PySem.W.kdu_collect (A := X.A.in1) (kdl_raw (P := X.prog) (w := X.w) (es := es) (ep := ep) lo) (I.ok.hd hc) raw (by rw [sizeLine_eq]; omega) fun h' tk acc hk hacc => ?_)
  have eacc : acc.toList = M.map fun q => Value.ref q.1 := by
    rw [← e2]
    refine List.ext_getElem? fun i => ?_
    rw [Array.getElem?_toList, List.getElem?_map]
    by_cases hi : i < es.size
    · obtain ⟨y, y1, y2, _⟩ := ent i hi
      rw [y1]
      have ha : i < acc.size := by rw [hacc.1]; exact hi
      obtain ⟨_, ev⟩ := hacc.2 i _ (Array.getElem?_eq_getElem ha)
      rw [Array.getElem?_eq_getElem ha, ev, y2]
      rfl
    · rw [Array.getElem?_eq_none (by rw [hacc.1]; omega), List.getElem?_eq_none (by omega)]
      rfl
  rw [eacc]
  refine wpAny_bind (wpAny_newList ?_ (by rw [List.length_map, sizeLine_eq]; omega))
  refine wpAny_bind (wpAny_holding (wpAny_mono (sorted_tail (s1 := { s with heap := h', toks := tk }) (M := M) (Q := Q) (I.kept hk) (fun _ _ e => e) (Nat.le_refl _) rfl rfl (fun q m => ⟨.inl (.inl (e3 q m)), ne _ (by rw [← e1]; exact List.mem_map_of_mem m)⟩) (by omega) fun M' p H' pw srt hk hn sm e => q M' p H' (by rw [← e1]; exact pw) srt hk hn sm e) (fun v s' hq => ?_) fun _ _ e => e))
  exact wpAny_pure ⟨_, rfl, hq⟩
/-- len(set) -/
theorem cr_lenSet : CallR X (.builtin "len") (fun xs H Q => ∃ (a : Addr) (L : List El), xs = [V.ref a] ∧ H a = some (SetO X.w a L) ∧ Q (.int L.length) H) := by
  intro pins s σ H vs us Q I r h
  obtain ⟨a, L, rfl, ha, q⟩ := h
  obtain ⟨o, es, ep, t, ho, hex, hd, ly, nd, few⟩ := (show Set0 X.w s.heap a L from (I.hok a _ ha).1)
  rw [Vals.ref1 r]
  refine call_len_set ho hex hd ly.fits (by rw [ly.len]; omega) ⟨.int L.length, H, I.tok _, ⟨_, by rw [ly.len]⟩, q⟩
end
end Ns
/-! ### the dice: the law's own drawn numbers -/
namespace Pr
open PySem PySem.Spec PyProof.Rows L2
/-- all that was tracked, but the object at d, is as it was -/
def Kp (d : Addr) (H H' : Hp) : Prop := ∀ b o, b ≠ d → H b = some o → H' b = some o
theorem Kp.refl (d : Addr) (H : Hp) : Kp d H H := fun _ _ _ h => h
theorem Kp.trans {d : Addr} {H H1 H2 : Hp} (a : Kp d H H1) (b : Kp d H1 H2) : Kp d H H2 := fun c o n h => b c o n (a c o n h)
theorem Kp.upd {d : Addr} {H : Hp} {o : HO} : Kp d H (upd H d o) := fun b u n h => by rw [upd_ne n]; exact h
theorem Kp.new {d p : Addr} {H : Hp} {o : HO} (n : H p = none) : Kp d H (L2.upd H p o) := fun b u _ h => by rw [upd_ne (ne_of_none h n)]; exact h
theorem Kp.same {d : Addr} {H H' : Hp} (s : Same H H') : Kp d H H' := fun b o _ h => s b o h
theorem Same.new {p : Addr} {H : Hp} {o : HO} (n : H p = none) : Same H (L2.upd H p o) := fun b u h => by rw [upd_ne (ne_of_none h n)]; exact h
/-- d is new and then written -/
theorem Kp.over {d : Addr} {H H1 H2 : Hp} (n : H d = none) (s : Same H H1) (k : Kp d H1 H2) : Same H H2 := fun b o h => k b o (ne_of_none h n) (s b o h)
theorem Kp.seq {K : PySem.W.Frag} {d a : Addr} {H H' : Hp} {xs : List V} (k : Kp d H H') (n : a ≠ d) (h : SqL K H a xs) : SqL K H' a xs := by
  rcases h with (h | ⟨o, h⟩) | h
  · exact .inl (.inl (k _ _ n h))
  · exact .inl (.inr ⟨o, k _ _ n h⟩)
  · exact .inr h
/-- the dice that stand at d: what is left of the cell's number, the seed, the number of draws (at most n) -/
structure Dice (H : Hp) (d : Addr) (n : Nat) : Prop where
  at_ : ∃ x y c : Int, H d = some (.lst [.int x, .int y, .int c]) ∧ 0 ≤ x ∧ x < 2 ^ 400 ∧ 0 ≤ y ∧ y < 2 ^ 40 ∧ 0 ≤ c ∧ c ≤ n
  few : n ≤ 1000000
theorem Dice.kept {H H' : Hp} {d : Addr} {n : Nat} (D : Dice H d n) (s : ∀ o, H d = some o → H' d = some o) : Dice H' d n := by
  obtain ⟨⟨x, y, c, e, r⟩, f⟩ := D
  exact ⟨⟨x, y, c, s _ e, r⟩, f⟩
theorem Dice.same {H H' : Hp} {d : Addr} {n : Nat} (D : Dice H d n) (s : Same H H') : Dice H' d n := D.kept fun o e => s _ o e
theorem Dice.more {H : Hp} {d : Addr} {n m : Nat} (D : Dice H d n) (h : n ≤ m) (hm : m ≤ 1000000) : Dice H d m := by
  obtain ⟨⟨x, y, c, e, r1, r2, r3, r4, r5, r6⟩, f⟩ := D
  exact ⟨⟨x, y, c, e, r1, r2, r3, r4, r5, by omega⟩, hm⟩
theorem Dice.there {H : Hp} {d : Addr} {n : Nat} (D : Dice H d n) : ∃ xs, H d = some (.lst xs) := by
  obtain ⟨⟨x, y, c, e, _⟩, _⟩ := D
  exact ⟨_, e⟩
def spDice (K : PySem.W.Frag) : Sp := fun vs H Q _ => ∃ (a : Addr) (ns : List Int) (i : Nat), vs = [.ref a, .int i] ∧ SqL K H a (ns.map V.int) ∧ i < 64 ∧
  ∀ (d : Addr) (H' : Hp), H d = none → Same H H' → Dice H' d 0 → Q (.ref d) H'
def spRoll : Sp := fun vs H Q _ => ∃ (d : Addr) (t : Int) (n : Nat), vs = [.ref d, .int t] ∧ Dice H d n ∧ n < 1000000 ∧ 0 < t ∧ t < 2 ^ 400 ∧
  ∀ (r : Int) (o : HO), 0 ≤ r → r < t → Dice (upd H d o) d (n + 1) → Q (.int r) (upd H d o)
def spPick (K : PySem.W.Frag) : Sp := fun vs H Q _ => ∃ (d p : Addr) (n : Nat) (xs : List V), vs = [.ref d, .ref p] ∧ p ≠ d ∧ (SqL K H p xs ∨ SqT K H p xs) ∧ xs ≠ [] ∧ xs.length ≤ 1000 ∧ Dice H d n ∧ n < 1000000 ∧
  ∀ (v : V) (o : HO), v ∈ xs → Dice (upd H d o) d (n + 1) → Q v (upd H d o)
def spMixed (K : PySem.W.Frag) : Sp := fun vs H Q _ => ∃ (d p : Addr) (n : Nat) (xs : List V), vs = [.ref d, .ref p] ∧ p ≠ d ∧ SqL K H p xs ∧ xs.length ≤ 1000 ∧ Dice H d n ∧ n + xs.length < 1000000 ∧
  ∀ (q : Addr) (ys : List V) (H' : Hp), q ≠ d → H q = none → Kp d H H' → H' q = some (.lst ys) → ys.Perm xs → Dice H' d (n + xs.length) → Q (.ref q) H'
theorem fmod_pos {i j : Int} (h : 0 < j) : 0 ≤ i.fmod j ∧ i.fmod j < j := ⟨Int.fmod_nonneg_of_pos _ h, Int.fmod_lt_of_pos _ h⟩
theorem emod_pos {i j : Int} (h : 0 < j) : 0 ≤ i % j ∧ i % j < j := ⟨Int.emod_nonneg _ (by omega), Int.emod_lt_of_pos _ h⟩
theorem c10 {k : Nat} (h : k ≤ 1000000) : CPow 10 (k : Int) := ⟨by omega, by omega, by decide⟩
end Pr
namespace Pr
open PySem PySem.Spec PyProof.Rows L2
/-! ### the text by places -/
def topS (i : Nat) : Stmt := PySem.Challenge.pw_munchbehind_k10_whole_lines_of_books.main.body.getD i (.Pass ⟨0, 0, 0, 0⟩)
abbrev sEnds : Stmt := topS 2
abbrev sParts : Stmt := topS 3
abbrev sInteger : Stmt := topS 13
abbrev sCount : Stmt := topS 14
abbrev sName : Stmt := topS 15
abbrev sNames : Stmt := topS 16
abbrev sAre : Stmt := topS 20
abbrev sOper : Stmt := topS 21
abbrev sWhole : Stmt := topS 22
abbrev sGoalOf : Stmt := topS 30
abbrev sRuleOf : Stmt := topS 31
abbrev sRule : Stmt := topS 32
abbrev sNonts : Stmt := topS 33
abbrev sIsBook : Stmt := topS 34
abbrev sDice : Stmt := topS 37
abbrev sRoll : Stmt := topS 38
abbrev sPick : Stmt := topS 39
abbrev sMixed : Stmt := topS 40
abbrev sLLines : Stmt := topS 41
abbrev sLNonts : Stmt := topS 42
abbrev sDPat : Stmt := topS 43
abbrev sDBook : Stmt := topS 44
abbrev sLPatternEnd : Stmt := topS 45
abbrev sLIsWord : Stmt := topS 46
abbrev sLIsFigure : Stmt := topS 47
abbrev sLIsRule : Stmt := topS 48
abbrev sLIsPlain : Stmt := topS 49
abbrev sSame : Stmt := topS 50
abbrev sLRead : Stmt := topS 51
abbrev sLDue : Stmt := topS 52
abbrev sLTold : Stmt := topS 53
abbrev sLFromMany : Stmt := topS 54
abbrev sLSpoilt : Stmt := topS 55
abbrev sLRight : Stmt := topS 56
abbrev sLaw : Stmt := topS 57
def inS (i : Nat) : Stmt := match topS 23 with
  | .ClassDef _ _ _ body _ _ _ _ _ _ _ => body.getD i (.Pass ⟨0, 0, 0, 0⟩)
  | _ => .Pass ⟨0, 0, 0, 0⟩
abbrev mInit : Stmt := inS 0
abbrev mFromLines : Stmt := inS 1
abbrev mArities : Stmt := inS 2
abbrev mNames : Stmt := inS 3
abbrev mConstants : Stmt := inS 4
abbrev mLines : Stmt := inS 5
abbrev mIsTree : Stmt := inS 6
abbrev mIsContext : Stmt := inS 7
abbrev mEnd : Stmt := inS 8
abbrev mSubtree : Stmt := inS 9
abbrev mChildren : Stmt := inS 10
abbrev mAbove : Stmt := inS 11
abbrev mLevels : Stmt := inS 12
abbrev mReplaced : Stmt := inS 13
abbrev mCut : Stmt := inS 14
abbrev mFilled : Stmt := inS 15
abbrev mCountTrees : Stmt := inS 16
abbrev mEachTree : Stmt := inS 17
abbrev mTreeAt : Stmt := inS 18
abbrev mNumberOf : Stmt := inS 19
abbrev mLen : Stmt := inS 20
abbrev mContains : Stmt := inS 21
abbrev mIter : Stmt := inS 22
abbrev mEq : Stmt := inS 23
abbrev mStr : Stmt := inS 24
abbrev m_CheckTree : Stmt := inS 25
abbrev m_CheckPlace : Stmt := inS 26
abbrev m_CheckFilling : Stmt := inS 27
abbrev m_End : Stmt := inS 28
abbrev m_Parents : Stmt := inS 29
abbrev m_Count : Stmt := inS 30
abbrev m_Forests : Stmt := inS 31
abbrev m_CountedRows : Stmt := inS 32
def inB (i : Nat) : Stmt := match topS 35 with
  | .ClassDef _ _ _ body _ _ _ _ _ _ _ => body.getD i (.Pass ⟨0, 0, 0, 0⟩)
  | _ => .Pass ⟨0, 0, 0, 0⟩
abbrev bInit : Stmt := inB 0
abbrev bFromLines : Stmt := inB 1
abbrev bOps : Stmt := inB 2
abbrev bGoal : Stmt := inB 3
abbrev bRules : Stmt := inB 4
abbrev bNonts : Stmt := inB 5
abbrev bParts : Stmt := inB 6
abbrev bLines : Stmt := inB 7
abbrev bNumberedSides : Stmt := inB 8
abbrev bKeptAnswers : Stmt := inB 9
abbrev bRulesOf : Stmt := inB 10
abbrev bWithRule : Stmt := inB 11
abbrev bWithoutRule : Stmt := inB 12
abbrev bMoved : Stmt := inB 13
abbrev bWithPrice : Stmt := inB 14
abbrev bScaled : Stmt := inB 15
abbrev bOrdered : Stmt := inB 16
abbrev bLargestFirst : Stmt := inB 17
abbrev bRenamed : Stmt := inB 18
abbrev bLen : Stmt := inB 19
abbrev bIter : Stmt := inB 20
abbrev bEq : Stmt := inB 21
abbrev bStr : Stmt := inB 22
abbrev b_WithRules : Stmt := inB 23
abbrev b_CheckIndex : Stmt := inB 24
abbrev b_CheckNames : Stmt := inB 25
/-- the built-in names that the module leaves alone -/
structure Free (mg : Str → Option Value) : Prop where
  len : mg "len" = none
  int : mg "int" = none
  abs : mg "abs" = none
  max : mg "max" = none
  min : mg "min" = none
  list : mg "list" = none
  range : mg "range" = none
  isi : mg "isinstance" = none
  bool : mg "bool" = none
  tuple : mg "tuple" = none
  str : mg "str" = none
  dict : mg "dict" = none
  sorted : mg "sorted" = none
  all : mg "all" = none
  sum : mg "sum" = none
  repr : mg "repr" = none
  enum : mg "enumerate" = none
  iter : mg "iter" = none
  set : mg "set" = none
end Pr
namespace Pr
open PySem PySem.Spec PyProof.Rows L2
theorem dice_end (l g : Int) (b : Int) {i : Nat} (hi : i < 64) (hb : 0 ≤ b ∧ b ≤ 1) :
    0 ≤ l.fmod (10 ^ (60 : Int).toNat * 10 ^ (60 : Int).toNat) ∧ l.fmod (10 ^ (60 : Int).toNat * 10 ^ (60 : Int).toNat) < 2 ^ 400 ∧
    0 ≤ g % 2147483563 * 41 + 613 * (i : Int) + 17 * b + 7 ∧ g % 2147483563 * 41 + 613 * (i : Int) + 17 * b + 7 < 2 ^ 40 ∧ (0 : Int) ≤ 0 ∧ (0 : Int) ≤ (0 : Nat) := by
  have h1 := fmod_pos (i := l) (j := 10 ^ (60 : Int).toNat * 10 ^ (60 : Int).toNat) (by decide +kernel)
  have h2 : (10 ^ (60 : Int).toNat * 10 ^ (60 : Int).toNat : Int) < 2 ^ 400 := by decide +kernel
  have h3 := emod_pos (i := g) (j := 2147483563) (by decide)
  refine ⟨h1.1, Int.lt_trans h1.2 h2, by omega, by omega, by omega, by omega⟩
section
variable {P : Program} {w : World} {K : PySem.W.Frag} {mg : Str → Option Value} {base : Heap}
theorem scDice : FnScope ["script", "spot", "cell", "great", "left"] ["script", "spot"] (defScope sDice) := ⟨rfl, rfl, rfl, by decide +kernel, rfl, by decide +kernel, by decide +kernel⟩
theorem ok_dice {f : Addr} {fd : FuncData} (F : Fun K "_law_dice" "_law_dice" sDice f fd) (T : Free mg) : FnOk P w K mg base CX0 1 f fd ["script", "spot"] (spDice K) := by
  refine F.ok scDice (fun vs H Q E h => ?_) (fun cdv A outer s H vs Q E hr h => ?_)
  · obtain ⟨a, ns, i, rfl, _⟩ := h
    rfl
  · obtain ⟨a, ns, i, rfl, hS, hi, k⟩ := h
    refine ⟨_, pss_cons (ps_set (i := 2) scDice.nd rfl (.inl rfl) (pe_ifExp (pt_cmpR op_lt (pv 1) (pe_callB call_len_seq (by rfl) T.len PySem.boot_len (pa_cons (pv 0) pa_nil)) (nomark _))
        (pe_callTy call_int1 (by rfl) T.int (by decide +kernel) (pa_cons (pe_ix ix_list (pv 0) (pv 1) (fun _ _ => rfl)) pa_nil)) (pe_op op_add (pe_op op_mul pe_int (pv 1)) pe_int)))
      (pss_cons (ps_set (i := 3) scDice.nd rfl (.inl rfl) (pe_op op_modN (pe_callB call_abs (by rfl) T.abs (by decide +kernel) (pa_cons (pv 2) pa_nil)) (pe_op op_pow pe_int pe_int)))
      (pss_cons (ps_set (i := 4) scDice.nd rfl (.inl rfl) (pe_callB (call_max2 rfl) (by rfl) T.max (by decide +kernel) (pa_cons pe_int (pa_cons (pe_op op_sub (pe_callB call_abs (by rfl) T.abs (by decide +kernel) (pa_cons (pv 2) pa_nil)) (pe_op op_pow pe_int pe_int)) pa_nil))))
      (pss_one (ps_ret (pe_lst (pa_cons (pe_op op_modN (pv 4) (pe_op op_mulW (pe_op op_pow pe_int pe_int) (pe_op op_pow pe_int pe_int)))
        (pa_cons (pe_op op_add (pe_op op_add (pe_op op_add (pe_op op_mul (pe_op op_mod (pv 3) pe_int) pe_int) (pe_op op_mul pe_int (pv 1)))
          (pe_op op_mul pe_int (pe_callTy call_int1 (by rfl) T.int (by decide +kernel) (pa_cons (pe_cmpR op_lt (pv 2) pe_int (nomark _)) pa_nil)))) pe_int) (pa_cons pe_int pa_nil)))))))), ?_⟩
    refine ⟨_, rfl, _, rfl, a, _, rfl, .inl hS, _, _, rfl, rfl, _, rfl, ?_⟩
    refine ite2 (fun c => ?_) (fun c => ?_)
    · have hlt : i < ns.length := by
        have c' := of_decide_eq_true c
        rw [List.length_map] at c'
        omega
      have g : (ns.map V.int)[i]? = some (.int ns[i]) := by
        rw [List.getElem?_map, List.getElem?_eq_getElem hlt]
        rfl
      refine ⟨_, rfl, _, rfl, a, _, _, _, rfl, rfl, hS, atI_nat g, .inl ⟨_, rfl, ?_⟩⟩
      refine ⟨_, rfl, _, rfl, 10, 59, rfl, rfl, c10 (k := 59) (by decide), _, _, rfl, rfl, (by dsimp only; decide +kernel), ?_⟩
      refine ⟨_, rfl, _, rfl, 10, 17, rfl, rfl, c10 (k := 17) (by decide), _, _, rfl, rfl, _, _, rfl, ?_⟩
      refine ⟨_, rfl, 10, 60, rfl, rfl, c10 (k := 60) (by decide), 10, 60, rfl, rfl, c10 (k := 60) (by decide), _, _, rfl, rfl, wide_mul (a := 400) (b := 400) (by decide +kernel) (by decide +kernel) (by decide) (by decide) (by decide), _, _, rfl, rfl, (by dsimp only; decide +kernel), ?_⟩
      refine ⟨_, rfl, _, _, rfl, rfl, (by dsimp only; decide), _, _, rfl, rfl, .inr ⟨by decide, by decide⟩, _, rfl, _, _, rfl, rfl, .inl ⟨by decide, by decide⟩, _, _, rfl, rfl, _, rfl, _, _, rfl, rfl, .inr ⟨_, rfl, ?_⟩⟩
      refine ⟨_, _, rfl, rfl, .inl ⟨by decide, by decide⟩, _, _, rfl, rfl, _, _, rfl, rfl, (by show 3 ≤ sizeLine; decide), fun d hd => ?_⟩
      refine k d _ hd (Same.new hd) ⟨⟨_, _, 0, upd_same, ?_⟩, by decide⟩
      refine dice_end _ _ _ hi ?_
      split <;> omega
    · refine ⟨_, rfl, _, _, rfl, rfl, .inl ⟨by decide, by decide⟩, _, _, rfl, rfl, ?_⟩
      refine ⟨_, rfl, _, rfl, 10, 59, rfl, rfl, c10 (k := 59) (by decide), _, _, rfl, rfl, (by dsimp only; decide +kernel), ?_⟩
      refine ⟨_, rfl, _, rfl, 10, 17, rfl, rfl, c10 (k := 17) (by decide), _, _, rfl, rfl, _, _, rfl, ?_⟩
      refine ⟨_, rfl, 10, 60, rfl, rfl, c10 (k := 60) (by decide), 10, 60, rfl, rfl, c10 (k := 60) (by decide), _, _, rfl, rfl, wide_mul (a := 400) (b := 400) (by decide +kernel) (by decide +kernel) (by decide) (by decide) (by decide), _, _, rfl, rfl, (by dsimp only; decide +kernel), ?_⟩
      refine ⟨_, rfl, _, _, rfl, rfl, (by dsimp only; decide), _, _, rfl, rfl, .inr ⟨by decide, by decide⟩, _, rfl, _, _, rfl, rfl, .inl ⟨by decide, by decide⟩, _, _, rfl, rfl, _, rfl, _, _, rfl, rfl, .inr ⟨_, rfl, ?_⟩⟩
      refine ⟨_, _, rfl, rfl, .inl ⟨by decide, by decide⟩, _, _, rfl, rfl, _, _, rfl, rfl, (by show 3 ≤ sizeLine; decide), fun d hd => ?_⟩
      refine k d _ hd (Same.new hd) ⟨⟨_, _, 0, upd_same, ?_⟩, by decide⟩
      refine dice_end _ _ _ hi ?_
      split <;> omega
end
end Pr
namespace Pr
open PySem PySem.Spec PyProof.Rows L2
theorem div_le {x t : Int} (h0 : 0 ≤ x) (ht : 0 < t) : 0 ≤ x / t ∧ x / t ≤ x := ⟨Int.ediv_nonneg h0 (by omega), Int.ediv_le_self _ h0⟩
theorem mod2 {x y : Int} (h : 0 ≤ x) (a : 0 < y) : 0 ≤ x.fmod y ∧ x.fmod y < y := fmod_pos a
section
variable {P : Program} {w : World} {K : PySem.W.Frag} {mg : Str → Option Value} {base : Heap}
theorem scRoll : FnScope ["dice", "total", "found", "one", "two"] ["dice", "total"] (defScope sRoll) := ⟨rfl, rfl, rfl, by decide +kernel, rfl, by decide +kernel, by decide +kernel⟩
theorem ok_roll {f : Addr} {fd : FuncData} (F : Fun K "_law_roll" "_law_roll" sRoll f fd) (T : Free mg) : FnOk P w K mg base CX0 1 f fd ["dice", "total"] spRoll := by
  refine F.ok scRoll (fun vs H Q E h => ?_) (fun cdv A outer s H vs Q E hr h => ?_)
  · obtain ⟨d, t, n, rfl, _⟩ := h
    rfl
  · obtain ⟨d, t, n, rfl, ⟨⟨x, y, c, e, x0, x1, y0, y1, c0, c1⟩, fw⟩, hn, t0, t1, k⟩ := h
    have sq : SqL K H d [.int x, .int y, .int c] := SqL.of e
    refine ⟨_, pss_cons (ps_if (pt_cmpR op_gt (pe_ix ix_list (pv 0) pe_int (fun _ _ => rfl)) pe_int (nomark _))
        (pss_cons (ps_set (i := 2) scRoll.nd rfl (.inl rfl) (pe_op op_modN (pe_callTy call_int1 (by rfl) T.int (by decide +kernel) (pa_cons (pe_ix ix_list (pv 0) pe_int (fun _ _ => rfl)) pa_nil)) (pv 1)))
        (pss_cons (ps_asg (pe_op op_fdivW (pe_ix ix_list (pv 0) pe_int (fun _ _ => rfl)) (pv 1)) (pg_sub (pv 0) pe_int set_list))
        (pss_one (ps_ret (pv 2))))) pss_nil)
      (pss_cons (ps_asg (pe_op op_add (pe_ix ix_list (pv 0) pe_int (fun _ _ => rfl)) pe_int) (pg_sub (pv 0) pe_int set_list))
      (pss_cons (ps_set (i := 3) scRoll.nd rfl (.inl rfl) (pe_op op_mod (pe_callTy call_int1 (by rfl) T.int (by decide +kernel)
        (pa_cons (pe_op op_add (pe_ix ix_list (pv 0) pe_int (fun _ _ => rfl)) (pe_op op_mul pe_int (pe_ix ix_list (pv 0) pe_int (fun _ _ => rfl)))) pa_nil)) pe_int))
      (pss_cons (ps_set (i := 4) scRoll.nd rfl (.inl rfl) (pe_op op_add (pe_op op_mul (pe_op op_mod (pe_callTy call_int1 (by rfl) T.int (by decide +kernel)
        (pa_cons (pe_op op_add (pe_op op_mul (pv 3) (pv 3)) (pe_op op_mul pe_int (pe_ix ix_list (pv 0) pe_int (fun _ _ => rfl)))) pa_nil)) pe_int) pe_int) (pv 3)))
      (pss_one (ps_ret (pe_op op_modN (pe_callTy call_int1 (by rfl) T.int (by decide +kernel) (pa_cons (pe_op op_fdiv (pv 4) pe_int) pa_nil)) (pv 1))))))), ?_⟩
    refine ⟨_, rfl, d, _, 0, _, rfl, rfl, sq, rfl, _, _, rfl, rfl, _, rfl, ite2 (fun cx => ?_) (fun cx => ?_)⟩
    · -- what is left of the cell's number
      have r := fmod_pos (i := x) t0
      have q := div_le x0 t0
      refine ⟨_, rfl, d, _, 0, _, rfl, rfl, sq, rfl, .inl ⟨_, rfl, _, rfl, _, _, rfl, rfl, (by dsimp only; omega), ?_⟩⟩
      refine ⟨_, rfl, d, _, 0, _, rfl, rfl, sq, rfl, _, rfl, _, _, rfl, rfl, wide_div (b := 400) t0 (by omega) (by decide) (by decide), _, rfl, d, _, 0, 0, rfl, rfl, e, rfl, _, rfl, ?_⟩
      exact k _ _ r.1 r.2 ⟨⟨_, _, _, upd_same, q.1, by omega, y0, y1, c0, by omega⟩, by omega⟩
    · refine ⟨_, rfl, d, _, 2, _, rfl, rfl, sq, rfl, _, _, rfl, rfl, _, rfl, d, _, 2, 2, rfl, rfl, e, rfl, ?_⟩
      have sq2 : SqL K (upd H d (.lst [.int x, .int y, .int (c + 1)])) d [.int x, .int y, .int (c + 1)] := SqL.of upd_same
      have m1 := emod_pos (i := y + 7901 * (c + 1)) (j := 2305843009213693907) (by decide)
      refine ⟨_, rfl, d, _, 1, _, rfl, rfl, sq2, rfl, _, rfl, d, _, 2, _, rfl, rfl, sq2, rfl, _, _, rfl, rfl, .inl ⟨by decide, by decide⟩, _, _, rfl, rfl, .inl ⟨_, rfl, _, _, rfl, rfl, (by dsimp only; decide), ?_⟩⟩
      have m2 := emod_pos (i := (y + 7901 * (c + 1)) % 2305843009213693907 * ((y + 7901 * (c + 1)) % 2305843009213693907) + 71 * (c + 1)) (j := 2305843009213693921) (by decide)
      refine ⟨_, rfl, _, rfl, _, _, rfl, rfl, .inl ⟨by omega, by omega⟩, _, rfl, d, _, 2, _, rfl, rfl, sq2, rfl, _, _, rfl, rfl, .inl ⟨by decide, by decide⟩, _, _, rfl, rfl, .inl ⟨_, rfl, _, _, rfl, rfl, (by dsimp only; decide), ?_⟩⟩
      refine ⟨_, _, rfl, rfl, .inl ⟨by omega, by omega⟩, _, rfl, _, _, rfl, rfl, ?_⟩
      refine ⟨_, rfl, _, _, rfl, rfl, ⟨by decide, by decide⟩, .inl ⟨_, rfl, _, rfl, _, _, rfl, rfl, (by dsimp only; omega), ?_⟩⟩
      exact k _ _ (fmod_pos t0).1 (fmod_pos t0).2 ⟨⟨_, _, _, upd_same, x0, x1, y0, y1, by omega, by omega⟩, by omega⟩
end
end Pr
namespace Pr
open PySem PySem.Spec PyProof.Rows L2
/-- the law's drawing defs, as they stand behind the top -/
structure Draws (K : PySem.W.Frag) (mg : Str → Option Value) (fR fP fM : Addr) (dR dP dM : FuncData) : Prop where
  FR : Fun K "_law_roll" "_law_roll" sRoll fR dR
  bR : Binds K dR ["dice", "total"] []
  gR : mg "_law_roll" = some (.ref fR)
  FP : Fun K "_law_pick" "_law_pick" sPick fP dP
  bP : Binds K dP ["dice", "items"] []
  gP : mg "_law_pick" = some (.ref fP)
  FM : Fun K "_law_mixed" "_law_mixed" sMixed fM dM
  bM : Binds K dM ["dice", "items"] []
  gM : mg "_law_mixed" = some (.ref fM)
theorem erase_perm {α : Type} : ∀ (l : List α) (i : Nat) (h : i < l.length), (l[i] :: l.eraseIdx i).Perm l
  | [], _, h => absurd h (Nat.not_lt_zero _)
  | a :: l, 0, _ => List.Perm.refl _
  | a :: l, i + 1, h => (List.Perm.swap a (l[i]'(Nat.lt_of_succ_lt_succ h)) (l.eraseIdx i)).trans (List.Perm.cons a (erase_perm l i (Nat.lt_of_succ_lt_succ h)))
section
variable {P : Program} {w : World} {K : PySem.W.Frag} {mg : Str → Option Value} {base : Heap} {fR fP fM : Addr} {dR dP dM : FuncData}
theorem scPick : FnScope ["dice", "items"] ["dice", "items"] (defScope sPick) := ⟨rfl, rfl, rfl, by decide +kernel, rfl, by decide +kernel, by decide +kernel⟩
theorem ok_pick (D : Draws K mg fR fP fM dR dP dM) (T : Free mg) : FnOk P w K mg base CX0 2 fP dP ["dice", "items"] (spPick K) := by
  have GR : FnOk P w K mg base CX0 1 fR dR ["dice", "total"] spRoll := ok_roll D.FR T
  refine D.FP.ok scPick (fun vs H Q E h => ?_) (fun cdv A outer s H vs Q E hr h => ?_)
  · obtain ⟨d, p, n, xs, rfl, _⟩ := h
    rfl
  · obtain ⟨d, p, n, xs, rfl, npd, hS, ne, few, di, hn, k⟩ := h
    refine ⟨_, pss_one (ps_ret (pe_ix ix_seq (pv 1) (pe_call GR hr (by rfl) D.gR D.FR.kp D.bR .nil pass0 (pa_cons (pv 0) (pa_cons (pe_callB call_len_seq (by rfl) T.len PySem.boot_len (pa_cons (pv 1) pa_nil)) pa_nil))) (fun _ _ => rfl))), ?_⟩
    have pos : 0 < xs.length := List.length_pos_iff.mpr ne
    refine ⟨_, rfl, _, rfl, _, rfl, p, xs, rfl, hS, d, _, n, rfl, di, hn, by omega, by omega, fun r o r0 r1 di' => ?_⟩
    have hlt : r.toNat < xs.length := by omega
    have g : atI xs r = some xs[r.toNat] := at_of (j := r.toNat) (by omega) (List.getElem?_eq_getElem hlt)
    have kp : Kp d H (upd H d o) := Kp.upd
    rcases hS with hS | hS
    · exact .inl ⟨p, xs, r, _, rfl, rfl, kp.seq npd hS, g, k _ o (List.getElem_mem hlt) di'⟩
    · have hT : SqT K (upd H d o) p xs := by
        rcases hS with (h | ⟨u, h⟩) | h
        · exact .inl (.inl (kp _ _ npd h))
        · exact .inl (.inr ⟨u, kp _ _ npd h⟩)
        · exact .inr h
      exact .inr (.inl ⟨p, xs, r, _, rfl, rfl, hT, g, k _ o (List.getElem_mem hlt) di'⟩)
theorem scMixed : FnScope ["dice", "items", "left", "found", "turn"] ["dice", "items"] (defScope sMixed) := ⟨rfl, rfl, rfl, by decide +kernel, rfl, by decide +kernel, by decide +kernel⟩
theorem ok_mixed (D : Draws K mg fR fP fM dR dP dM) (T : Free mg) : FnOk P w K mg base CX0 2 fM dM ["dice", "items"] (spMixed K) := by
  have GR : FnOk P w K mg base CX0 1 fR dR ["dice", "total"] spRoll := ok_roll D.FR T
  refine D.FM.ok scMixed (fun vs H Q E h => ?_) (fun cdv A outer s H vs Q E hr h => ?_)
  · obtain ⟨d, p, n, xs, rfl, _⟩ := h
    rfl
  · obtain ⟨d, p, n, xs, rfl, npd, hS, few, di, hn, k⟩ := h
    refine ⟨_, pss_cons (ps_par (i := 2) (j := 3) (by rfl) scMixed.nd rfl rfl (by decide) rfl rfl (pa_cons (pe_callTy call_list_of (by rfl) T.list (by decide +kernel) (pa_cons (pv 1) pa_nil)) (pa_cons (pe_lst pa_nil) pa_nil)) (by rfl))
      (pss_cons (ps_for PassesOwn.never rfl (pi_range1 rfl T.range (pa_cons (pe_callB call_len_seq (by rfl) T.len PySem.boot_len (pa_cons (pv 1) pa_nil)) pa_nil)) (pg_name (i := 4) scMixed.nd rfl (.inl rfl))
        (pss_one (ps_expr (pe_bm PySem.F.plainAttrs_list PySem.F.slot_list_append PySem.F.type_list_append mt_append (pv 3)
          (pa_cons (pe_bm PySem.F.plainAttrs_list PySem.F.slot_list_pop PySem.F.type_list_pop mt_popAt (pv 2)
            (pa_cons (pe_call GR hr (by rfl) D.gR D.FR.kp D.bR .nil pass0 (pa_cons (pv 0) (pa_cons (pe_callB call_len_seq (by rfl) T.len PySem.boot_len (pa_cons (pv 2) pa_nil)) pa_nil))) pa_nil)) pa_nil)))))
      (pss_one (ps_ret (pv 3)))), ?_⟩
    obtain ⟨ds, hd⟩ := di.there
    -- left = list(items); found = []
    refine ⟨_, rfl, p, xs, rfl, .inl hS, fun l nl => ⟨Nat.zero_le _, fun q nq => ?_⟩⟩
    refine ⟨_, _, rfl, ?_⟩
    have ndl : d ≠ l := ne_of_none hd nl
    have nql : q ≠ l := fun e => by
      rw [e, upd_same] at nq
      cases nq
    have nHq : H q = none := by
      rw [upd_ne nql] at nq
      exact nq
    have ndq : d ≠ q := ne_of_none hd nHq
    have s1 : Same H (upd (upd H l (.lst xs)) q (.lst [])) := (Same.new nl).trans (Same.new nq)
    have hS1 := s1.seq hS
    -- the loop
    refine ⟨_, rfl, p, xs, rfl, .inl hS1, xs.length, rfl, by omega, by omega, ?_⟩
    refine for_range (lo := 0) (n := ((xs.length : Int)).toNat) (fun i σ H' => ∃ (v : Option V) (rem done : List V), σ = [some (.ref d), some (.ref p), some (.ref l), some (.ref q), v] ∧ Kp d H H' ∧
      H' l = some (.lst rem) ∧ H' q = some (.lst done) ∧ rem.length + i = xs.length ∧ (done ++ rem).Perm xs ∧ Dice H' d (n + i))
      ⟨none, xs, [], rfl, Kp.same s1, by rw [upd_ne nql.symm, upd_same], upd_same, by omega, List.Perm.refl _, di.same s1⟩ ?_ ?_
    · rintro i σ H' hi ⟨v, rem, done, rfl, kp, hl, hq, len, pm, di'⟩
      have hi' : i < xs.length := by omega
      have dl : done.length = i := by
        have := pm.length_eq
        rw [List.length_append] at this
        omega
      refine ⟨_, rfl, .inl ⟨rfl, _, SqL.of hq⟩, _, rfl, .inl ⟨rfl, _, SqL.of hl⟩, _, rfl, _, rfl, l, rem, rfl, .inl (SqL.of hl), d, _, n + i, rfl, di', by omega, by omega, by omega, fun r o r0 r1 di2 => ?_⟩
      have hlt : r.toNat < rem.length := by omega
      have k2 : Kp d H' (upd H' d o) := Kp.upd
      have hl2 := k2 _ _ ndl.symm hl
      have hq2 := k2 _ _ ndq.symm hq
      refine ⟨l, rem, r, r.toNat, rem[r.toNat], rfl, rfl, hl2, by omega, by omega, seqIndex_of r0 (by omega), List.getElem?_eq_getElem hlt, ?_⟩
      have hq3 : (upd (upd H' d o) l (.lst (rem.eraseIdx r.toNat))) q = some (.lst done) := by
        rw [upd_ne nql]
        exact hq2
      refine ⟨q, done, _, rfl, rfl, hq3, small1000 (by omega), ?_⟩
      refine ⟨_, rem.eraseIdx r.toNat, _, rfl, fun b u nb e => ?_, ?_, upd_same, ?_, ?_, ?_⟩
      · rw [upd_ne (ne_of_none e nHq), upd_ne (ne_of_none e nl)]
        exact k2 _ _ nb (kp _ _ nb e)
      · rw [upd_ne nql.symm, upd_same]
      · rw [List.length_eraseIdx_of_lt hlt]
        omega
      · have e1 := erase_perm rem r.toNat hlt
        rw [List.append_assoc]
        exact (List.Perm.append_left done e1).trans pm
      · refine (di2.kept fun u e => ?_).more (by omega) (by omega)
        rw [upd_ne ndq, upd_ne ndl]
        exact e
    · rintro σ H' ⟨v, rem, done, rfl, kp, hl, hq, len, pm, di'⟩
      have e0 : rem = [] := List.length_eq_zero_iff.mp (by omega)
      subst e0
      rw [List.append_nil] at pm
      refine ⟨_, rfl, k q done H' ndq.symm nHq kp hq pm (di'.more (by omega) (by omega))⟩
end
end Pr
namespace Pr
open PySem PySem.Spec PyProof.Rows L2 Gd
/-! ### values that can be judged and shown; all tuples are plain -/
/-- the heap without the dice -/
def Hm (d : Addr) (H : Hp) : Hp := fun b => if b = d then none else H b
theorem Hm.some_of {d b : Addr} {H : Hp} {o : HO} (h : Hm d H b = some o) : H b = some o ∧ b ≠ d := by
  unfold Hm at h
  by_cases e : b = d
  · rw [if_pos e] at h
    cases h
  · rw [if_neg e] at h
    exact ⟨h, e⟩
theorem Hm.of {d b : Addr} {H : Hp} {o : HO} (h : H b = some o) (e : b ≠ d) : Hm d H b = some o := by
  unfold Hm
  rw [if_neg e]
  exact h
theorem Kp.hm {d : Addr} {H H' : Hp} (k : Kp d H H') : Same (Hm d H) (Hm d H') := fun b o h => Hm.of (k b o (Hm.some_of h).2 (Hm.some_of h).1) (Hm.some_of h).2
theorem Same.hm {d : Addr} {H H' : Hp} (s : Same H H') : Same (Hm d H) (Hm d H') := (Kp.same (d := d) s).hm
theorem TT.hm {d a : Addr} {H : Hp} {xs : List V} (h : TT H a xs) (n : a ≠ d) : TT (Hm d H) a xs := Hm.of h n
theorem TT.un {a d : Addr} {H : Hp} {xs : List V} (h : TT (Hm d H) a xs) : TT H a xs ∧ a ≠ d := ⟨(Hm.some_of h).1, (Hm.some_of h).2⟩
/-- the type of a value that is no instance -/
inductive Kd (H : Hp) : V → String → Prop where
  | non : Kd H .non "NoneType"
  | bl (b : Bool) : Kd H (.bl b) "bool"
  | int (i : Int) : Kd H (.int i) "int"
  | str (z : Str) : Kd H (.str z) "str"
  | lst {a : Addr} {xs : List V} (e : H a = some (.lst xs)) : Kd H (.ref a) "list"
  | tup {a : Addr} {xs : List V} (e : TT H a xs) : Kd H (.ref a) "tuple"
  | dK {a : Addr} {kvs : List (Key × V)} (e : H a = some (.dK kvs)) : Kd H (.ref a) "dict"
theorem Kd.same {H H' : Hp} {v : V} {t : String} (k : Kd H v t) (s : Same H H') : Kd H' v t := by
  cases k with
  | non => exact .non
  | bl b => exact .bl b
  | int i => exact .int i
  | str z => exact .str z
  | lst e => exact .lst (s _ _ e)
  | tup e => exact .tup (TT.same e s)
  | dK e => exact .dK (s _ _ e)
theorem Sh.more {H : Hp} : ∀ (n : Nat) (v : V) (t : Str), Sh H n v t → Sh H (n + 1) v t
  | 0, _, _, h => .inl h
  | n + 1, _, _, h => by
    rcases h with h | ⟨a, xs, ts, rfl, e, p, rfl⟩ | ⟨a, xs, ts, rfl, e, p, rfl⟩ | ⟨a, xs, ts, rfl, e, p, rfl⟩
    · exact .inl h
    · exact Sh.lst e (L2.Paired.mapP p fun x t q => Sh.more n x t q)
    · exact Sh.tup e (L2.Paired.mapP p fun x t q => Sh.more n x t q)
    · exact Sh.dK e (L2.Paired.mapP p fun x t q => ⟨q.1, Sh.more n x.2 t q.2⟩)
theorem Sh.le {H : Hp} {n m : Nat} {v : V} {t : Str} (h : n ≤ m) (s : Sh H n v t) : Sh H m v t := by
  induction h with
  | refl => exact s
  | step _ ih => exact Sh.more _ _ _ ih
theorem Sc.kd {H : Hp} {v : V} {t : Str} (h : Sc v t) : ∃ ty, Kd H v ty := by
  cases h with
  | non => exact ⟨_, .non⟩
  | bl b => exact ⟨_, .bl b⟩
  | int i _ => exact ⟨_, .int i⟩
  | str z _ => exact ⟨_, .str z⟩
theorem Sh.kd {H : Hp} {n : Nat} {v : V} {t : Str} (h : Sh H n v t) : ∃ ty, Kd H v ty := by
  cases n with
  | zero => exact Sc.kd h
  | succ n =>
    rcases h with h | ⟨a, xs, ts, rfl, e, p, rfl⟩ | ⟨a, xs, ts, rfl, e, p, rfl⟩ | ⟨a, xs, ts, rfl, e, p, rfl⟩
    · exact Sc.kd h
    · exact ⟨_, .lst e⟩
    · exact ⟨_, .tup e⟩
    · exact ⟨_, .dK e⟩
theorem paired_all {α : Type} {F : α → Str → Prop} {xs : List α} {ts : List Str} (p : Paired F xs ts) : ∀ x ∈ xs, ∃ t, F x t := by
  induction p with
  | nil => intro x m; cases m
  | cons h r ih =>
    intro x m
    rcases List.mem_cons.mp m with e | m
    · rw [e]
      exact ⟨_, h⟩
    · exact ih x m
/-- what can stand in a tuple that is judged -/
def Ji (H : Hp) (v : V) : Prop := ∃ ty, Kd H v ty
theorem Ji.same {H H' : Hp} {v : V} (h : Ji H v) (s : Same H H') : Ji H' v := let ⟨ty, k⟩ := h; ⟨ty, k.same s⟩
theorem Ji.non {H : Hp} : Ji H .non := ⟨_, .non⟩
theorem Ji.int {H : Hp} (i : Int) : Ji H (.int i) := ⟨_, .int i⟩
theorem Ji.str {H : Hp} (z : Str) : Ji H (.str z) := ⟨_, .str z⟩
theorem Ji.lst {H : Hp} {a : Addr} {xs : List V} (e : H a = some (.lst xs)) : Ji H (.ref a) := ⟨_, .lst e⟩
theorem Ji.tup {H : Hp} {a : Addr} {xs : List V} (e : TT H a xs) : Ji H (.ref a) := ⟨_, .tup e⟩
/-- a value that can be shown: its text has at most m signs; what it holds, if it is a tuple, can be judged -/
structure Vd (H : Hp) (n m : Nat) (v : V) : Prop where
  sm : ∃ t, Sh H n v t ∧ t.length ≤ m
  items : ∀ a xs, v = .ref a → TT H a xs → xs.length ≤ 1000 ∧ ∀ x ∈ xs, Ji H x
theorem Vd.kd {H : Hp} {n m : Nat} {v : V} (h : Vd H n m v) : ∃ t, Kd H v t := let ⟨_, s, _⟩ := h.sm; Sh.kd s
theorem Vd.le {H : Hp} {n m n' m' : Nat} {v : V} (h : Vd H n m v) (a : n ≤ n') (b : m ≤ m') : Vd H n' m' v :=
  ⟨let ⟨t, s, l⟩ := h.sm; ⟨t, Sh.le a s, by omega⟩, h.items⟩
theorem Vd.same {H H' : Hp} {n m : Nat} {v : V} (h : Vd H n m v) (s : Same H H') : Vd H' n m v := by
  obtain ⟨ty, hk⟩ := h.kd
  refine ⟨let ⟨t, q, l⟩ := h.sm; ⟨t, Sh.keep s n v t q, l⟩, fun a xs e q => ?_⟩
  subst e
  cases hk with
  | lst e => exact (TT.nl q (s _ _ e)).elim
  | tup e =>
    rw [← TT.eq (TT.same e s) q]
    exact ⟨(h.items a _ rfl e).1, fun x m => ((h.items a _ rfl e).2 x m).same s⟩
  | dK e => exact (TT.nd q (s _ _ e)).elim
theorem Vd.plain {H : Hp} {m : Nat} {v : V} {t : Str} (h : Sc v t) (l : t.length ≤ m) (n : ∀ a, v ≠ .ref a) : Vd H 0 m v := ⟨⟨t, h, l⟩, fun a xs e => absurd e (n a)⟩
theorem Vd.non {H : Hp} : Vd H 0 100 .non := .plain Sc.non (by decide) (fun a e => (nomatch e))
theorem Vd.bl {H : Hp} (b : Bool) : Vd H 0 100 (.bl b) := .plain (Sc.bl b) (by cases b <;> decide) (fun a e => (nomatch e))
theorem Vd.int {H : Hp} (i : Int) (h : i.natAbs < 2 ^ 1900) : Vd H 0 2000 (.int i) := by
  have hl : i.natAbs.log2 < 1920 := Nat.lt_of_lt_of_le (PySem.Flt.log2_lt_of (by decide) h) (by decide)
  exact .plain (Sc.int i hl) (Nat.le_trans (PyProof.Rows.int_text_len_1921 hl) (by decide)) (fun a e => (nomatch e))
theorem Vd.zero {H : Hp} : Vd H 0 100 (.int 0) := .plain (Sc.int 0 (by decide)) (by decide +kernel) (fun a e => (nomatch e))
/-- a text of at most m signs -/
def SOk (m : Nat) (z : Str) : Prop := z.length ≤ m ∧ ∀ c ∈ z.cps.toList, c < 16 ^ 8
theorem SOk.le {m n : Nat} {z : Str} (h : SOk m z) (l : m ≤ n) : SOk n z := ⟨by have := h.1; omega, h.2⟩
theorem Vd.text {H : Hp} {k : Nat} {z : Str} (h : SOk k z) (hk : k ≤ 100000) : Vd H 0 (10 * k + 2) (.str z) := by
  have l := StrLaws.reprText_len z h.2
  have l2 := h.1
  exact .plain (Sc.str z (by rw [sizeLine_eq]; omega)) (by omega) (fun a e => (nomatch e))
theorem paired_of {H : Hp} {n m : Nat} : ∀ {xs : List V}, (∀ x ∈ xs, Vd H n m x) → ∃ ts, Paired (Sh H n) xs ts ∧ (ts.map (·.length)).sum ≤ xs.length * m ∧ ts.length = xs.length
  | [], _ => ⟨[], .nil, by simp, rfl⟩
  | x :: xs, h => by
    obtain ⟨ts, p, s, l⟩ := paired_of (xs := xs) fun y m => h y (List.mem_cons_of_mem _ m)
    obtain ⟨t, q, lt⟩ := (h x List.mem_cons_self).sm
    refine ⟨t :: ts, .cons q p, ?_, by simp [l]⟩
    rw [List.map_cons, List.sum_cons, List.length_cons, Nat.succ_mul]
    omega
theorem Vd.lst {H : Hp} {n m k : Nat} {a : Addr} {xs : List V} (e : H a = some (.lst xs)) (h : ∀ x ∈ xs, Vd H n m x) (hl : xs.length ≤ k) : Vd H (n + 1) (k * (m + 2) + 3) (.ref a) := by
  obtain ⟨ts, p, s, l⟩ := paired_of h
  refine ⟨⟨_, Sh.lst e p, ?_⟩, fun b ys eb q => ?_⟩
  case refine_2 =>
    cases eb
    exact (TT.nl q e).elim
  have := listText_len_le ts
  have h2 : xs.length * (m + 2) ≤ k * (m + 2) := Nat.mul_le_mul_right _ hl
  rw [Nat.mul_add] at h2
  omega
theorem Vd.tup {H : Hp} {n m k : Nat} {a : Addr} {xs : List V} (e : TT H a xs) (h : ∀ x ∈ xs, Vd H n m x) (hj : ∀ x ∈ xs, Ji H x) (hl : xs.length ≤ k) (hk : k ≤ 1000 := by decide) : Vd H (n + 1) (k * (m + 2) + 3) (.ref a) := by
  obtain ⟨ts, p, s, l⟩ := paired_of h
  refine ⟨⟨_, Sh.tup e p, ?_⟩, fun b ys eb q => ?_⟩
  case refine_2 =>
    cases eb
    rw [← TT.eq e q]
    exact ⟨Nat.le_trans hl hk, hj⟩
  have := tupleText_len_le ts
  have h2 : xs.length * (m + 2) ≤ k * (m + 2) := Nat.mul_le_mul_right _ hl
  rw [Nat.mul_add] at h2
  omega
theorem Vd.dK0 {H : Hp} {a : Addr} (e : H a = some (.dK [])) : Vd H 1 100 (.ref a) := ⟨⟨_, Sh.dK e .nil, by decide +kernel⟩, fun b ys eb q => by
  cases eb
  exact (TT.nd q e).elim⟩
theorem Vd.dK1 {H : Hp} {a : Addr} {x : Str} {i : Int} (e : H a = some (.dK [(.inr x, .int i)])) (hx : SOk 10 x) (hi : i.natAbs.log2 < 1920) : Vd H 1 3000 (.ref a) := by
  have l := StrLaws.reprText_len x hx.2
  have l2 := hx.1
  have l3 := PyProof.Rows.int_text_len_1921 hi
  refine ⟨⟨_, Sh.dK (n := 0) (ts := [((toString i : String) : Str)]) e (.cons ⟨by show (reprText x).length ≤ sizeLine; rw [sizeLine_eq]; omega, Sc.int i hi⟩ .nil), ?_⟩, fun b ys eb q => ?_⟩
  case refine_2 =>
    cases eb
    exact (TT.nd q e).elim
  have h := dictText_len_le (List.zipWith (fun (p : Key × V) t => keyText p.1 ++ ": " ++ t) [((.inr x : Key), V.int i)] [((toString i : String) : Str)])
  have e2 : ((keyText (.inr x) ++ ": " ++ ((toString i : String) : Str)) : Str).length = (reprText x).length + 2 + ((toString i : String) : Str).length := by
    rw [strLen_append, strLen_append]
    rfl
  have e3 : (List.zipWith (fun (p : Key × V) t => keyText p.1 ++ ": " ++ t) [((.inr x : Key), V.int i)] [((toString i : String) : Str)]) = [keyText (.inr x) ++ ": " ++ ((toString i : String) : Str)] := rfl
  rw [e3] at h ⊢
  rw [List.map_cons, List.map_nil, List.sum_cons, List.sum_nil, e2, List.length_singleton] at h
  omega
/-- a value as the judges see it: what stands in it, if it is a tuple -/
inductive Vw (H : Hp) : V → Option (List V) → Prop where
  | not {v : V} {ty : String} (k : Kd H v ty) (ne : ty ≠ "tuple") : Vw H v none
  | tup {a : Addr} {xs : List V} (t : TT H a xs) (j : ∀ x ∈ xs, Ji H x) : Vw H (.ref a) (some xs)
theorem Vw.same {H H' : Hp} {v : V} {o : Option (List V)} (h : Vw H v o) (s : Same H H') : Vw H' v o := by
  cases h with
  | not k ne => exact .not (k.same s) ne
  | tup t j => exact .tup (TT.same t s) fun x m => (j x m).same s
theorem Vd.vw {H : Hp} {n m : Nat} {v : V} (h : Vd H n m v) : ∃ o, Vw H v o ∧ ∀ xs, o = some xs → xs.length < 100000 := by
  obtain ⟨ty, k⟩ := h.kd
  cases k with
  | tup e => exact ⟨_, .tup e (h.items _ _ rfl e).2, fun xs q => by cases q; have := (h.items _ _ rfl e).1; omega⟩
  | non => exact ⟨_, .not .non (by decide), fun xs q => (nomatch q)⟩
  | bl b => exact ⟨_, .not (.bl b) (by decide), fun xs q => (nomatch q)⟩
  | int i => exact ⟨_, .not (.int i) (by decide), fun xs q => (nomatch q)⟩
  | str z => exact ⟨_, .not (.str z) (by decide), fun xs q => (nomatch q)⟩
  | lst e => exact ⟨_, .not (.lst e) (by decide), fun xs q => (nomatch q)⟩
  | dK e => exact ⟨_, .not (.dK e) (by decide), fun xs q => (nomatch q)⟩
end Pr
namespace Pr
open PySem PySem.Spec PyProof.Rows L2 Gd
/-! ### drawn operators -/
def pool : List Str := ["c", "v", "p", "s", "add", "operator", "aa", "z", "op", "goal"]
/-- names with arities, as a dict -/
def dkv (l : List (Str × Nat)) : List (Key × V) := l.map fun p => (.inr p.1, .int (p.2 : Int))
structure Ars (l : List (Str × Nat)) : Prop where
  few : 1 ≤ l.length ∧ l.length ≤ 4
  nd : (l.map (·.1)).Nodup
  pool : ∀ p ∈ l, p.1 ∈ pool
  two : ∀ p ∈ l, p.2 ≤ 2
  const : ∃ p ∈ l, p.2 = 0
theorem Ars.perm {l l' : List (Str × Nat)} (h : Ars l) (p : l'.Perm l) : Ars l' :=
  ⟨by rw [p.length_eq]; exact h.few, (p.map _).nodup_iff.mpr h.nd, fun x m => h.pool x (p.mem_iff.mp m), fun x m => h.two x (p.mem_iff.mp m), let ⟨x, m, e⟩ := h.const; ⟨x, p.mem_iff.mpr m, e⟩⟩
theorem val_none {z : Str} : ∀ {l : List (Str × Nat)}, z ∉ l.map (·.1) → valV (dkv l) (.inr z : Key) = none
  | [], _ => rfl
  | p :: l, h => by
    show valV ((.inr p.1, .int (p.2 : Int)) :: dkv l) (.inr z : Key) = none
    rw [valV_neg (fun e => h (by
      have e' : p.1 = z := Sum.inr.inj e
      rw [← e']
      exact List.mem_cons_self))]
    exact val_none fun m => h (List.mem_cons_of_mem _ m)
theorem put_end {l : List (Str × Nat)} {z : Str} {k : Nat} (h : z ∉ l.map (·.1)) : putK (dkv l) (.inr z) (.int (k : Int)) = dkv (l ++ [(z, k)]) := by
  rw [putK_new _ (val_none h)]
  unfold dkv
  rw [List.map_append]
  rfl
theorem merge_end : ∀ (l2 l : List (Str × Nat)), ((l ++ l2).map (·.1)).Nodup → mergeK (dkv l) (dkv l2) = dkv (l ++ l2)
  | [], l, _ => by rw [List.append_nil]; rfl
  | (z, k) :: l2, l, h => by
    have n : z ∉ l.map (·.1) := by
      rw [List.map_append, List.nodup_append] at h
      exact fun m => h.2.2 z m z (by simp) rfl
    show mergeK (putK (dkv l) (.inr z) (.int (k : Int))) (dkv l2) = _
    rw [put_end n, merge_end l2 (l ++ [(z, k)]) (by rw [List.append_assoc]; exact h), List.append_assoc]
    rfl
theorem merge_all {l : List (Str × Nat)} (h : (l.map (·.1)).Nodup) : mergeK [] (dkv l) = dkv l := merge_end l [] h
theorem paired_perm {α β : Type} {F : α → β → Prop} {xs ys : List α} (p : xs.Perm ys) : ∀ {bs : List β}, Paired F ys bs → ∃ cs, cs.Perm bs ∧ Paired F xs cs := by
  induction p with
  | nil => exact fun {bs} h => ⟨bs, .refl _, h⟩
  | cons a p ih =>
    intro bs h
    cases h with
    | cons h r =>
      obtain ⟨cs, q, k⟩ := ih r
      exact ⟨_, q.cons _, .cons h k⟩
  | swap a b l =>
    intro bs h
    cases h with
    | cons h r =>
      cases r with
      | cons k r => exact ⟨_, .swap _ _ _, .cons k (.cons h r)⟩
  | trans p q ih1 ih2 =>
    intro bs h
    obtain ⟨cs, q1, k1⟩ := ih2 h
    obtain ⟨ds, q2, k2⟩ := ih1 k1
    exact ⟨ds, q2.trans q1, k2⟩
theorem paired_of_map {α β : Type} (g : β → α) : ∀ l : List β, Paired (fun a b => a = g b) (l.map g) l
  | [] => .nil
  | _ :: l => .cons rfl (paired_of_map g l)
theorem map_of_paired {α β : Type} {g : β → α} : ∀ {xs : List α} {l : List β}, Paired (fun a b => a = g b) xs l → xs = l.map g
  | _, _, .nil => rfl
  | _, _, .cons h r => by rw [h, map_of_paired r]; rfl
theorem perm_map {α β : Type} {g : β → α} {xs : List α} {l : List β} (p : xs.Perm (l.map g)) : ∃ l' : List β, l'.Perm l ∧ xs = l'.map g := by
  obtain ⟨l', q, k⟩ := paired_perm p (paired_of_map g l)
  exact ⟨l', q, map_of_paired k⟩
theorem Kp.free {d b : Addr} {H H' : Hp} (k : Kp d H H') (n : b ≠ d) (h : H' b = none) : H b = none := by
  cases e : H b with
  | none => rfl
  | some o =>
    rw [k b o n e] at h
    cases h
theorem paired_and {α β : Type} {F : α → β → Prop} {P : α → Prop} : ∀ {xs : List α} {ys : List β}, (∀ a ∈ xs, P a) → Paired F xs ys → Paired (fun a b => P a ∧ F a b) xs ys
  | _, _, _, .nil => .nil
  | _, _, h, .cons k r => .cons ⟨h _ List.mem_cons_self, k⟩ (paired_and (fun a m => h a (List.mem_cons_of_mem _ m)) r)
theorem paired_map {α β : Type} {F G : α → β → Prop} (k : ∀ a b, F a b → G a b) : ∀ {xs : List α} {ys : List β}, Paired F xs ys → Paired G xs ys
  | _, _, .nil => .nil
  | _, _, .cons h r => .cons (k _ _ h) (paired_map k r)
theorem cut_one {x : V} {xs : List V} {r : Int} (h0 : 0 ≤ r) (h1 : r.toNat ≤ xs.length) : cutV (x :: xs) (some 1) (some (1 + r)) = xs.take r.toNat := by
  have a1 : HT.sIx (x :: xs).length 0 (some 1) = 1 := by
    simp [HT.sIx]
  have a2 : HT.sIx (x :: xs).length (x :: xs).length (some (1 + r)) = 1 + r.toNat := by
    show (if 1 + r < 0 then (1 + r + ((xs.length + 1 : Nat) : Int)).toNat else min (1 + r).toNat (xs.length + 1)) = 1 + r.toNat
    rw [if_neg (by omega)]
    omega
  unfold cutV
  rw [a1, a2, List.drop_one, List.tail_cons, Nat.add_sub_cancel_left]
end Pr
namespace Pr
open PySem PySem.Spec PyProof.Rows L2 Gd
theorem if_true_of {c : Bool} {A B : Prop} (hc : c = true) (h : A) : if c = true then A else B := by rw [if_pos hc]; exact h
theorem if_false_of {c : Bool} {A B : Prop} (hc : c = false) (h : B) : if c = true then A else B := by rw [hc, if_neg Bool.false_ne_true]; exact h
theorem val_some {z : Str} {a : Nat} : ∀ {l : List (Str × Nat)}, (l.map (·.1)).Nodup → (z, a) ∈ l → valV (dkv l) (.inr z : Key) = some (.int (a : Int))
  | p :: l, nd, h => by
    show valV ((.inr p.1, .int (p.2 : Int)) :: dkv l) (.inr z : Key) = some (.int (a : Int))
    have nd' := List.nodup_cons.mp nd
    rcases List.mem_cons.mp h with e | h
    · subst e
      rw [valV_pos rfl]
    · rw [valV_neg (fun e => nd'.1 (by
        have e' : p.1 = z := Sum.inr.inj e
        have m : (z, a).1 ∈ l.map (·.1) := List.mem_map_of_mem h
        exact (show p.1 ∈ l.map (·.1) from e' ▸ m)))]
      exact val_some nd'.2 h
theorem pe_imp {X : Cx} {e : Expr} {t t' : TE} (h : PE X e t) (k : ∀ σ H Q, t' σ H Q → t σ H Q) : PE X e t' := ⟨fun pins s σ H Q I q => h.run pins s σ H Q I (k σ H Q q)⟩
end Pr
namespace Pr
open PySem PySem.Spec PyProof.Rows L2
/-! ### integers, counts, coprime pairs -/
theorem Kd.ty {K : PySem.W.Frag} {H : Hp} {v : V} {t : String} (k : Kd H v t) : TyX K H v (.type t) := by
  cases k with
  | non => exact .base .non
  | bl b => exact .base (.bl b)
  | int i => exact .base (.int i)
  | str z => exact .base (.str z)
  | lst e => exact .base (.lst e)
  | tup e => exact .base (.tup e)
  | dK e => exact .base (.dK e)
/-- is it an int (a bool is one); is it a bool -/
def isI : V → Bool
  | .bl _ => true
  | .int _ => true
  | _ => false
def isB : V → Bool
  | .bl _ => true
  | _ => false
theorem kit_int {K : PySem.W.Frag} {H : Hp} {v : V} {t : String} (k : Kd H v t) : PySem.W.kitOne K (.type t) (.type "int") = some (isI v) := by
  cases k <;> first | exact kit_ty (r := true) (by decide +kernel) | exact kit_ty (r := false) (by decide +kernel)
theorem kit_bool {K : PySem.W.Frag} {H : Hp} {v : V} {t : String} (k : Kd H v t) : PySem.W.kitOne K (.type t) (.type "bool") = some (isB v) := by
  cases k <;> first | exact kit_ty (r := true) (by decide +kernel) | exact kit_ty (r := false) (by decide +kernel)
/-- an integer of at most sixty digits; a count -/
def isInt : V → Bool
  | .int i => decide ((if i < 0 then -i else i) < 10 ^ (60 : Int).toNat)
  | _ => false
def isCount : V → Bool
  | .int i => decide ((if i < 0 then -i else i) < 10 ^ (60 : Int).toNat) && decide (0 ≤ i)
  | _ => false
theorem count_nat {v : V} (h : isCount v = true) : ∃ n : Nat, v = .int n ∧ n < 10 ^ 60 := by
  cases v with
  | int i =>
    have h' : (decide ((if i < 0 then -i else i) < 10 ^ (60 : Int).toNat) && decide (0 ≤ i)) = true := h
    rw [Bool.and_eq_true] at h'
    have h1 := of_decide_eq_true h'.1
    have h2 := of_decide_eq_true h'.2
    rw [if_neg (by omega)] at h1
    have e : ((10 : Int) ^ (60 : Int).toNat) = ((10 ^ 60 : Nat) : Int) := by decide +kernel
    rw [e] at h1
    exact ⟨i.toNat, by rw [Int.toNat_of_nonneg h2], by omega⟩
  | _ => cases h
theorem nat_count {n : Nat} (h : n < 10 ^ 60) : isCount (.int n) = true := by
  show (decide ((if (n : Int) < 0 then -(n : Int) else n) < 10 ^ (60 : Int).toNat) && decide ((0 : Int) ≤ n)) = true
  have e : ((10 : Int) ^ (60 : Int).toNat) = ((10 ^ 60 : Nat) : Int) := by decide +kernel
  rw [if_neg (by omega), e, decide_eq_true (by omega), decide_eq_true (by omega)]
  rfl
def spInt : Sp := fun vs H Q _ => ∃ (v : V) (t : String), vs = [v] ∧ Kd H v t ∧ Q (.bl (isInt v)) H
def spCount : Sp := fun vs H Q _ => ∃ (v : V) (t : String), vs = [v] ∧ Kd H v t ∧ Q (.bl (isCount v)) H
section
variable {P : Program} {w : World} {K : PySem.W.Frag} {mg : Str → Option Value} {base : Heap}
theorem scInteger : FnScope ["value"] ["value"] (defScope sInteger) := ⟨rfl, rfl, rfl, by decide +kernel, rfl, by decide +kernel, by decide +kernel⟩
theorem ok_integer {f : Addr} {fd : FuncData} (F : Fun K "is_integer" "is_integer" sInteger f fd) (T : Free mg) : FnOk P w K mg base CX0 1 f fd ["value"] spInt := by
  refine F.ok scInteger (fun vs H Q E h => ?_) (fun cdv A outer s H vs Q E hr h => ?_)
  · obtain ⟨v, t, rfl, _⟩ := h
    rfl
  · obtain ⟨v, t, rfl, kd, q⟩ := h
    refine ⟨_, pss_one (ps_ret (pe_and (pe_callB call_isi (by rfl) T.isi (by decide +kernel) (pa_cons (pv 0) (pa_cons (pe_bltn (v := .ty "int") (by rfl) T.int (by decide +kernel) rfl) pa_nil)))
      (pe_and (pe_not (pe_callB call_isi (by rfl) T.isi (by decide +kernel) (pa_cons (pv 0) (pa_cons (pe_bltn (v := .ty "bool") (by rfl) T.bool (by decide +kernel) rfl) pa_nil))))
        (pe_one (pe_cmpR op_lt (pe_callB call_abs (by rfl) T.abs (by decide +kernel) (pa_cons (pv 0) pa_nil)) (pe_op op_pow pe_int pe_int) (nomark _)))))), ?_⟩
    refine ⟨_, rfl, v, _, _, _, _, rfl, .ty "int", kd.ty, kit_int kd, _, rfl, ?_⟩
    cases kd with
    | int i => exact iteT ⟨_, rfl, _, _, _, _, _, rfl, .ty "bool", (Kd.int i).ty, kit_bool (Kd.int (H := H) i), _, rfl, _, rfl, iteT ⟨_, rfl, i, rfl, 10, 60, rfl, rfl, c10 (k := 60) (by decide), _, _, rfl, rfl, q⟩⟩
    | bl b => exact iteT ⟨_, rfl, _, _, _, _, _, rfl, .ty "bool", (Kd.bl b).ty, kit_bool (Kd.bl (H := H) b), _, rfl, _, rfl, iteF q⟩
    | _ => exact iteF q
end
end Pr
namespace Pr
open PySem PySem.Spec PyProof.Rows L2
/-! ### the same judge, as a name that is never unfolded -/
theorem there_int : ∃ p : V → Bool, p = isInt := ⟨_, rfl⟩
noncomputable def isIntO : V → Bool := Classical.choose there_int
theorem isIntO_eq : isIntO = isInt := Classical.choose_spec there_int
def spIntO : Sp := fun vs H Q _ => ∃ (v : V) (t : String), vs = [v] ∧ Kd H v t ∧ Q (.bl (isIntO v)) H
theorem spIntO_eq : spIntO = spInt := by
  unfold spIntO spInt
  rw [isIntO_eq]
section
variable {P : Program} {w : World} {K : PySem.W.Frag} {mg : Str → Option Value} {base : Heap}
theorem ok_integerO {f : Addr} {fd : FuncData} (F : Fun K "is_integer" "is_integer" sInteger f fd) (T : Free mg) : FnOk P w K mg base CX0 1 f fd ["value"] spIntO := by
  rw [spIntO_eq]
  exact ok_integer F T
end
end Pr
namespace Pr
open PySem PySem.Spec PyProof.Rows L2 Gd
/-! ### names: by the text's methods, and sign by sign -/
def azC (c : Nat) : Bool := decide (97 ≤ c) && decide (c ≤ 122)
def azB (z : Str) : Bool := decide (1 ≤ z.length) && decide (z.length ≤ 8) && z.cps.toList.all azC
def nameB : V → Bool
  | .str z => azB z
  | _ => false
theorem az_table : ((List.range 128).all fun c => ((Unicode.isAlpha c && !(Unicode.isUpper c || Unicode.isTitle c)) == azC c) && (!azC c || Unicode.isLower c)) = true := by decide +kernel
theorem az_at {c : Nat} (h : c < 128) : (Unicode.isAlpha c && !(Unicode.isUpper c || Unicode.isTitle c)) = azC c ∧ (azC c = true → Unicode.isLower c = true) := by
  have q := List.all_eq_true.mp az_table c (List.mem_range.mpr h)
  rw [Bool.and_eq_true] at q
  refine ⟨eq_of_beq q.1, fun e => ?_⟩
  have q2 := q.2
  rw [e] at q2
  simpa using q2
theorem az_lt {c : Nat} (h : azC c = true) : c < 128 := by
  unfold azC at h
  rw [Bool.and_eq_true] at h
  have := of_decide_eq_true h.2
  omega
/-- the three methods say what the signs say -/
theorem by_methods {z : Str} (h8 : z.length ≤ 8) : (Txt.isascii z && (Txt.isalpha z && Txt.islower z)) = azB z := by
  obtain ⟨⟨l⟩⟩ := z
  have hl : l.length ≤ 8 := h8
  have e1 : Txt.isascii ⟨⟨l⟩⟩ = l.all (· < 128) := by simp [Txt.isascii]
  have e2 : Txt.isalpha ⟨⟨l⟩⟩ = (decide (0 < l.length) && l.all Unicode.isAlpha) := by
    unfold Txt.isalpha
    simp [Str.length]
  have e3 : Txt.islower ⟨⟨l⟩⟩ = (l.any Unicode.isLower && !l.any fun c => Unicode.isUpper c || Unicode.isTitle c) := by simp [Txt.islower]
  have e4 : azB ⟨⟨l⟩⟩ = (decide (1 ≤ l.length) && decide (l.length ≤ 8) && l.all azC) := rfl
  rw [e1, e2, e3, e4, decide_eq_true hl, Bool.and_true]
  apply Bool.eq_iff_iff.mpr
  simp only [Bool.and_eq_true, List.all_eq_true, decide_eq_true_eq, Bool.not_eq_true', List.any_eq_false, List.any_eq_true]
  constructor
  · rintro ⟨a, ⟨b, c⟩, d, e⟩
    refine ⟨b, fun x m => ?_⟩
    rw [← (az_at (a x m)).1, c x m, Bool.true_and]
    have := e x m
    simpa using this
  · rintro ⟨a, b⟩
    have lt : ∀ x ∈ l, x < 128 := fun x m => az_lt (b x m)
    have both : ∀ x ∈ l, Unicode.isAlpha x = true ∧ (Unicode.isUpper x || Unicode.isTitle x) = false := fun x m => by
      have q := (az_at (lt x m)).1
      rw [b x m, Bool.and_eq_true] at q
      exact ⟨q.1, by simpa using q.2⟩
    refine ⟨lt, ⟨a, fun x m => (both x m).1⟩, ?_, fun x m => by rw [(both x m).2]; simp⟩
    cases l with
    | nil => simp at a
    | cons x r => exact ⟨x, List.mem_cons_self, (az_at (lt x List.mem_cons_self)).2 (b x List.mem_cons_self)⟩
def spName : Sp := fun vs H Q _ => ∃ (v : V) (t : String), vs = [v] ∧ Kd H v t ∧ (∀ z, v = .str z → z.length ≤ 1000000) ∧ Q (.bl (nameB v)) H
theorem kit_str {K : PySem.W.Frag} {H : Hp} {v : V} {t : String} (k : Kd H v t) : PySem.W.kitOne K (.type t) (.type "str") = some (match v with | .str _ => true | _ => false) := by
  cases k <;> first | exact kit_ty (r := true) (by decide +kernel) | exact kit_ty (r := false) (by decide +kernel)
/-- a list's address (or any other's) is no text -/
theorem nameB_not {H : Hp} {v : V} {t : String} (k : Kd H v t) (h : ∀ z, v ≠ .str z) : nameB v = false := by
  cases k with
  | str z => exact absurd rfl (h z)
  | _ => rfl
section
variable {P : Program} {w : World} {K : PySem.W.Frag} {mg : Str → Option Value} {base : Heap}
theorem scName : FnScope ["value"] ["value"] (defScope sName) := ⟨rfl, rfl, rfl, by decide +kernel, rfl, by decide +kernel, by decide +kernel⟩
theorem ok_name {f : Addr} {fd : FuncData} {tk : Tok} (F : Fun K "is_name" "is_name" sName f fd) (T : Free mg) (gm : mg "MAX_LETTERS" = some (.int 8 tk)) : FnOk P w K mg base CX0 1 f fd ["value"] spName := by
  refine F.ok scName (fun vs H Q E h => ?_) (fun cdv A outer s H vs Q E hr h => ?_)
  · obtain ⟨v, t, rfl, _⟩ := h
    rfl
  · obtain ⟨v, t, rfl, kd, hz, q⟩ := h
    refine ⟨_, pss_cons (ps_if (PW.pt (pw_or (pt_not (pt_val (pe_callB call_isi (by rfl) T.isi (by decide +kernel) (pa_cons (pv 0) (pa_cons (pe_bltn (v := .ty "str") (by rfl) T.str (by decide +kernel) rfl) pa_nil)))))
        (pw_or1 (pt_cmpR op_gt (pe_callB call_len_str (by rfl) T.len PySem.boot_len (pa_cons (pv 0) pa_nil)) (pe_glob (v := .int 8) (by rfl) gm ⟨_, rfl⟩) (nomark _))))) (pss_one (ps_ret pe_bl)) pss_nil)
      (pss_one (ps_ret (pe_and (pe_bm0 PySem.F.plainAttrs_str PySem.F.slot_str_isascii PySem.F.type_str_isascii mt_isascii (pv 0))
        (pe_and (pe_bm0 PySem.F.plainAttrs_str PySem.F.slot_str_isalpha PySem.F.type_str_isalpha mt_isalpha (pv 0))
          (pe_one (pe_bm0 PySem.F.plainAttrs_str PySem.F.slot_str_islower PySem.F.type_str_islower mt_islower (pv 0))))))), ?_⟩
    refine ⟨_, rfl, v, _, _, _, _, rfl, .ty "str", kd.ty, kit_str kd, _, rfl, ?_⟩
    cases kd with
    | str z =>
      have l := hz z rfl
      refine iteF ⟨_, rfl, z, rfl, by rw [sizeLine_eq]; omega, _, _, rfl, rfl, _, rfl, ite2 (fun c => ?_) (fun c => ?_)⟩
      · have e : nameB (.str z) = false := by
          have c' := of_decide_eq_true c
          show (_ && _ && _) = false
          rw [decide_eq_false (show ¬ z.length ≤ 8 by omega), Bool.and_false, Bool.false_and]
        rw [e] at q
        exact q
      · have c' : ¬ (8 : Int) < z.length := fun h => c (decide_eq_true h)
        have e : nameB (.str z) = (Txt.isascii z && (Txt.isalpha z && Txt.islower z)) := (by_methods (by omega)).symm
        rw [e] at q
        refine ⟨_, rfl, rfl, z, rfl, rfl, trivial, _, rfl, ite2 (fun c1 => ?_) (fun c1 => ?_)⟩
        · rw [c1, Bool.true_and] at q
          refine ⟨_, rfl, rfl, z, rfl, rfl, trivial, _, rfl, ite2 (fun c2 => ?_) (fun c2 => ?_)⟩
          · rw [c2, Bool.true_and] at q
            exact ⟨_, rfl, rfl, z, rfl, rfl, trivial, q⟩
          · rw [Bool.eq_false_iff.mpr c2, Bool.false_and] at q
            exact q
        · rw [Bool.eq_false_iff.mpr c1, Bool.false_and] at q
          exact q
    | _ => exact iteT (iteT q)
end
/-! ### a list beside the empty one -/
def rEqE (K : PySem.W.Frag) : R2 := fun x y H Q => ∃ a b xs, x = .ref a ∧ y = .ref b ∧ SqL K H a xs ∧ SqL K H b [] ∧ Q (.bl xs.isEmpty) H
theorem op_eqE {X : Cx} (hu : X.A.units + 64 < cLine) : OpR X (compareOp .Eq) (rEqE X.K) := by
  intro pins s σ H x y v u Q I rx ry h
  obtain ⟨a, b, xs, rfl, rfl, ha, hb, q⟩ := h
  cases (show v = Value.ref a from rx)
  cases (show u = Value.ref b from ry)
  obtain ⟨us, r1, p1, _⟩ := I.list ha
  obtain ⟨ws, r2, p2, _⟩ := I.list hb
  have l2 : ws.length = 0 := r2.length.symm
  have l1 : us.length = xs.length := r1.length.symm
  cases xs with
  | nil =>
    have hsz : us.toArray.size = ws.toArray.size := by
      rw [List.size_toArray, List.size_toArray, l1, l2]
      rfl
    have z := SeqAt.RcAt.lists (e := fun _ => true) p1.isList p2.isList hsz (A := X.A) (s := s) (by omega) (fun j h1 h2 => by
      rw [List.size_toArray, l1] at h1
      exact absurd h1 (Nat.not_lt_zero _))
    rw [show ((List.range us.toArray.size).all fun _ => true) = true from List.all_eq_true.mpr fun _ _ => rfl] at z
    exact z X.prog X.w _ _ ⟨.bl true, H, I, rfl, q⟩
  | cons x r =>
    have hsz : (us.toArray.size != ws.toArray.size) = true := by
      rw [List.size_toArray, List.size_toArray, l1, l2]
      rfl
    exact SeqAt.RcAt.lists_lengths p1.isList p2.isList hsz (A := X.A) (s := s) (by omega) X.prog X.w _ _ ⟨.bl false, H, I, rfl, q⟩
/-- a comprehension over the signs of a text -/
theorem lc_signs {x : Str} {g : TG} {tt : TT} {te : TE} {vs : List Nat} {σ : L2.St} {H1 : Hp} {D : Addr} {Qd : Hp → Prop} (Pv : Nat → Hp → Prop) (h0 : Pv 0 (upd H1 D (.lst [])))
    (hs : ∀ i c H, x.cps[i]? = some c → Pv i H → g (.str ⟨#[c]⟩) (wipe σ vs) H fun σ2 H2 => wipe σ2 vs = wipe σ vs ∧ tt σ2 H2 fun b H3 =>
      if b = true then te σ2 H3 fun y H4 => ∃ acc, H4 D = some (.lst acc) ∧ acc.length < sizeLine ∧ Pv (i + 1) (upd H4 D (.lst (acc ++ [y]))) else Pv (i + 1) H3) (hd : ∀ H, Pv x.cps.size H → Qd H) :
    ∃ W : Nat → Nat → Hp → Prop, (∃ m, W 0 m (upd H1 D (.lst []))) ∧ ∀ i m H, W i m H →
      ((Its x).stop i H ∧ Qd H) ∨ ((Its x).go i H ∧ ∃ Nx : Hp → Prop, (∀ H', Nx H' → ∃ m', m' < m ∧ W (i + 1) m' H') ∧ ∀ y H', (Its x).yld i H y H' → g y (wipe σ vs) H' fun σ2 H2 => wipe σ2 vs = wipe σ vs ∧ tt σ2 H2 fun b H3 =>
        if b = true then te σ2 H3 fun y H4 => ∃ acc, H4 D = some (.lst acc) ∧ acc.length < sizeLine ∧ Nx (upd H4 D (.lst (acc ++ [y]))) else Nx H3) := by
  refine ⟨fun i m H => m = x.cps.size - i ∧ i ≤ x.cps.size ∧ Pv i H, ⟨x.cps.size, by simp, Nat.zero_le _, h0⟩, ?_⟩
  rintro i m H ⟨rfl, hi, p⟩
  rcases Nat.lt_or_ge i x.cps.size with lt | ge
  · refine .inr ⟨lt, Pv (i + 1), fun H' p' => ⟨x.cps.size - (i + 1), by omega, rfl, lt, p'⟩, fun y H' h => ?_⟩
    obtain ⟨rfl, c, hc, rfl⟩ := h
    exact hs i c _ hc p
  · obtain rfl : i = x.cps.size := Nat.le_antisymm hi ge
    exact .inl ⟨Nat.le_refl _, hd H p⟩
end Pr
namespace Pr
open PySem PySem.Spec PyProof.Rows L2 Gd
/-! ### are_arities of any value -/
/-- a value that is no reference -/
def Fl (v : V) : Prop := ∀ H : Hp, ∃ ty, Kd H v ty
theorem Fl.non : Fl .non := fun _ => ⟨_, .non⟩
theorem Fl.int (i : Int) : Fl (.int i) := fun _ => ⟨_, .int i⟩
theorem Fl.bl (b : Bool) : Fl (.bl b) := fun _ => ⟨_, .bl b⟩
theorem Fl.str (z : Str) : Fl (.str z) := fun _ => ⟨_, .str z⟩
def in02 : V → Bool
  | .int i => decide (0 ≤ i) && decide (i ≤ 2)
  | _ => false
noncomputable def goodP (p : Key × V) : Bool := nameB (kV p.1) && (isIntO p.2 && in02 p.2)
noncomputable def goodK (kvs : List (Key × V)) : Bool := decide (1 ≤ kvs.length) && (decide (kvs.length ≤ 8) && kvs.all goodP)
structure Nice (kvs : List (Key × V)) : Prop where
  nd : (kvs.map (·.1)).Nodup
  few : kvs.length ≤ 1000
  flat : ∀ p ∈ kvs, Fl p.2
  key : ∀ p ∈ kvs, ∀ z, p.1 = .inr z → z.length ≤ 1000000
inductive AreB (H : Hp) : V → Bool → Prop where
  | not {v : V} {ty : String} (k : Kd H v ty) (n : ty ≠ "dict") : AreB H v false
  | dict {a : Addr} {kvs : List (Key × V)} (e : H a = some (.dK kvs)) (n : Nice kvs) : AreB H (.ref a) (goodK kvs)
theorem AreB.same {H H' : Hp} {v : V} {b : Bool} (h : AreB H v b) (s : Same H H') : AreB H' v b := by
  cases h with
  | not k n => exact .not (k.same s) n
  | dict e n => exact .dict (s _ _ e) n
theorem val_mem : ∀ {kvs : List (Key × V)} {p : Key × V}, (kvs.map (·.1)).Nodup → p ∈ kvs → valV kvs p.1 = some p.2
  | q :: r, p, nd, m => by
    have nd' := List.nodup_cons.mp nd
    rcases List.mem_cons.mp m with e | m
    · subst e
      exact valV_pos rfl
    · have ne : q.1 ≠ p.1 := fun e => nd'.1 (by show q.1 ∈ _; rw [e]; exact List.mem_map_of_mem m)
      show valV ((q.1, q.2) :: r) p.1 = _
      rw [valV_neg ne]
      exact val_mem nd'.2 m
theorem isIntO_int {v : V} (h : isIntO v = true) : ∃ i, v = .int i := by
  rw [isIntO_eq] at h
  cases v with
  | int i => exact ⟨i, rfl⟩
  | _ => cases h
def spAre7 : Sp := fun vs H Q _ => ∃ (v : V) (b : Bool), vs = [v] ∧ AreB H v b ∧ ∀ H', Same H H' → Q (.bl b) H'
section
variable {P : Program} {w : World} {K : PySem.W.Frag} {mg : Str → Option Value} {base : Heap} {fI fN : Addr} {dI dN : FuncData} {tk tk2 : Tok}
theorem scAre : FnScope ["value", "name"] ["value"] (defScope sAre) := ⟨rfl, rfl, rfl, by decide +kernel, rfl, by decide +kernel, by decide +kernel⟩
theorem ok_are7 {f : Addr} {fd : FuncData} (F : Fun K "are_arities" "are_arities" sAre f fd) (T : Free mg) (gm : mg "MAX_LETTERS" = some (.int 8 tk)) (gm2 : mg "MAX_OPERATORS" = some (.int 8 tk2)) (FN : Fun K "is_name" "is_name" sName fN dN) (bN : Binds K dN ["value"] []) (gN : mg "is_name" = some (.ref fN))
    (FI : Fun K "is_integer" "is_integer" sInteger fI dI) (bI : Binds K dI ["value"] []) (gI : mg "is_integer" = some (.ref fI)) : FnOk P w K mg base CX0 2 f fd ["value"] spAre7 := by
  have GN : FnOk P w K mg base CX0 1 fN dN ["value"] spName := ok_name FN T gm
  have GI : FnOk P w K mg base CX0 1 fI dI ["value"] spIntO := ok_integerO FI T
  refine F.ok scAre (fun vs H Q E h => ?_) (fun cdv A outer s H vs Q E hr h => ?_)
  · obtain ⟨v, b, rfl, _⟩ := h
    rfl
  · obtain ⟨v, b, rfl, ab, q⟩ := h
    have hu := hr.units
    have hu1 : ∀ {u : Nat}, u + 64 < cLine → u + 1 < cLine := fun h => by omega
    refine ⟨_, pss_cons (ps_if (PW.pt (pw_or (pt_not (pt_val (pe_callB call_isi (by rfl) T.isi (by decide +kernel) (pa_cons (pv 0) (pa_cons (pe_bltn (v := .ty "dict") (by rfl) T.dict (by decide +kernel) rfl) pa_nil))))) (pw_or1 (pt_not (pt_chain op_le op_le pe_int (pe_callB call_lenD (by rfl) T.len PySem.boot_len (pa_cons (pv 0) pa_nil)) (pe_glob (v := .int 8) (by rfl) gm2 ⟨_, rfl⟩)))))) (pss_one (ps_ret pe_bl)) pss_nil) (pss_one (ps_ret (pe_callB (cr_all rfl) (by rfl) T.all (by decide +kernel) (pa_cons (pe_lock (pe_lc (own := [("name", 1)]) (g := gName 1) (by rfl) scAre.nd (pi_keys (pv 0)) (blkOk_by (own := [("name", 1)]) (N := ["value", "name"]) (sc := defScope sAre) (by decide +kernel)) (fun _ _ _ _ _ => pg_name (i := 1) scAre.nd rfl (Or.inl rfl)) (fun _ _ _ _ _ => pts_nil) (fun _ _ _ _ _ => pe_and (pe_call GN hr (by rfl) gN FN.kp bN .nil pass0 (pa_cons (pv 1) pa_nil)) (pe_and (pe_call GI hr (by rfl) gI FI.kp bI .nil pass0 (pa_cons (pe_dget (hu1 hu) (pv 0) (pv 1) (fun _ _ => rfl)) pa_nil)) (pe_one (pe_chain op_le op_le pe_int (pe_dget (hu1 hu) (pv 0) (pv 1) (fun _ _ => rfl)) pe_int)))))) pa_nil)))), ?_⟩
    cases ab with
    | @not v ty kd ne =>
      refine ⟨_, rfl, v, _, _, _, false, rfl, .ty "dict", kd.ty, ?_, _, rfl, iteT (q _ (Same.refl _))⟩
      cases kd <;> first | exact absurd rfl ne | exact kit_ty (r := false) (by decide +kernel)
    | @dict a kvs ha nice =>
      have few := nice.few
      refine ⟨_, rfl, .ref a, _, _, _, true, rfl, .ty "dict", (Kd.dK ha).ty, kit_ty (r := true) (by decide +kernel), _, rfl, iteF ⟨_, rfl, a, _, rfl, ha, _, _, rfl, rfl, _, rfl, ?_⟩⟩
      by_cases c1 : 1 ≤ kvs.length
      · refine if_true_of (decide_eq_true (by omega)) ⟨_, _, rfl, rfl, _, rfl, ?_⟩
        by_cases c8 : kvs.length ≤ 8
        · have e8 : decide ((kvs.length : Int) ≤ 8) = true := decide_eq_true (by omega)
          rw [e8]
          refine if_false_of rfl ?_
          have eg : goodK kvs = kvs.all goodP := by
            unfold goodK
            rw [decide_eq_true c1, decide_eq_true c8, Bool.true_and, Bool.true_and]
          rw [eg] at q
          refine ⟨a, _, ha, trivial, fun od => ⟨_, rfl, a, od, rfl, .inl ⟨kvs, upd_same, fun D nD => ?_⟩⟩⟩
          have aD : a ≠ D := ne_of_none upd_same nD
          have nHD : H D = none := by
            rw [upd_ne aD.symm] at nD
            exact nD
          refine lc_it walk_keys (fun i G => G D = some (.lst ((kvs.take i).map fun p => V.bl (goodP p))) ∧ G a = some (.frz od (.dK kvs)) ∧ ∀ b u, b ≠ a → H b = some u → G b = some u) ⟨upd_same, by rw [upd_ne aD, upd_same], fun b u nb e => by rw [upd_ne (ne_of_none e nHD), upd_ne nb]; exact e⟩
            (fun i G _ ⟨_, h, _⟩ => h) ?_ ?_
          · rintro i x G G' hi ⟨eD, eA, sm⟩ ⟨rfl, k, v, hk, rfl⟩
            have mp : (k, v) ∈ kvs := List.mem_of_getElem? hk
            have dg : DGet G' a (kV k) (some v) := val_mem nice.nd mp ▸ (.inl ⟨kvs, k, .inr ⟨od, eA⟩, rfl, rfl⟩)
            obtain ⟨tv, kv⟩ := nice.flat _ mp G'
            have fin : ∃ acc, G' D = some (.lst acc) ∧ acc.length < sizeLine ∧ ((upd G' D (.lst (acc ++ [V.bl (goodP (k, v))]))) D = some (.lst ((kvs.take (i + 1)).map fun p => V.bl (goodP p))) ∧ (upd G' D (.lst (acc ++ [V.bl (goodP (k, v))]))) a = some (.frz od (.dK kvs)) ∧ ∀ b u, b ≠ a → H b = some u → (upd G' D (.lst (acc ++ [V.bl (goodP (k, v))]))) b = some u) := by
              refine ⟨_, eD, ?_, ?_, by rw [upd_ne aD]; exact eA, fun b u nb e => by rw [upd_ne (ne_of_none e nHD)]; exact sm b u nb e⟩
              · have := (List.getElem?_eq_some_iff.mp hk).1
                rw [List.length_map, List.length_take, sizeLine_eq]
                omega
              · rw [upd_same, List.take_add_one, hk, List.map_append]
                rfl
            have kk : ∃ ty, Kd G' (kV k) ty := by
              cases k with
              | inl i => exact ⟨_, .int i⟩
              | inr z => exact ⟨_, .str z⟩
            obtain ⟨ty, kk⟩ := kk
            have hz : ∀ z, kV k = .str z → z.length ≤ 1000000 := fun z e => by
              cases k with
              | inl i => cases e
              | inr y =>
                cases e
                exact nice.key _ mp _ rfl
            refine ⟨rfl, _, rfl, kV k, ty, rfl, kk, hz, _, rfl, ite2 (fun n1 => ?_) (fun n1 => ?_)⟩
            · refine ⟨_, rfl, _, rfl, a, _, rfl, dg, v, tv, rfl, kv, _, rfl, ite2 (fun n2 => ?_) (fun n2 => ?_)⟩
              · obtain ⟨j, rfl⟩ := isIntO_int n2
                refine ⟨_, rfl, _, rfl, a, _, rfl, dg, _, _, rfl, rfl, _, rfl, ite2 (fun n3 => ?_) (fun n3 => ?_)⟩
                · refine ⟨_, _, rfl, rfl, ?_⟩
                  have e : goodP (k, V.int j) = decide (j ≤ 2) := by
                    unfold goodP
                    rw [n1, n2, Bool.true_and, Bool.true_and]
                    show (decide (0 ≤ j) && decide (j ≤ 2)) = _
                    rw [n3, Bool.true_and]
                  rw [e] at fin
                  exact fin
                · have e : goodP (k, V.int j) = false := by
                    unfold goodP
                    rw [n1, n2, Bool.true_and, Bool.true_and]
                    show (decide (0 ≤ j) && decide (j ≤ 2)) = _
                    rw [Bool.eq_false_iff.mpr n3, Bool.false_and]
                  rw [e] at fin
                  exact fin
              · have e : goodP (k, v) = false := by
                  unfold goodP
                  rw [Bool.eq_false_iff.mpr n2, Bool.false_and, Bool.and_false]
                rw [e] at fin
                exact fin
            · have e : goodP (k, v) = false := by
                unfold goodP
                rw [Bool.eq_false_iff.mpr n1, Bool.false_and]
              rw [e] at fin
              exact fin
          · rintro G ⟨eD, eA, sm⟩
            refine ⟨eA, D, kvs.map goodP, rfl, SqL.of ?_, ?_⟩
            · rw [upd_ne aD.symm, eD, List.take_of_length_le (Nat.le_refl _), List.map_map]
              rfl
            · have e : (kvs.map goodP).all id = kvs.all goodP := by
                rw [List.all_map]
                rfl
              rw [e]
              refine q _ fun b u hb => ?_
              by_cases c : b = a
              · rw [c] at hb ⊢
                rw [upd_same, ← ha, hb]
              · rw [upd_ne c]
                exact sm b u c hb
        · have e8 : decide ((kvs.length : Int) ≤ 8) = false := decide_eq_false (by omega)
          rw [e8]
          have eg : goodK kvs = false := by
            unfold goodK
            rw [decide_eq_false c8, Bool.false_and, Bool.and_false]
          rw [eg] at q
          exact if_true_of rfl (q _ (Same.refl _))
      · have eg : goodK kvs = false := by
          unfold goodK
          rw [decide_eq_false c1, Bool.false_and]
        rw [eg] at q
        refine if_false_of (decide_eq_false (by omega)) ⟨_, rfl, if_true_of rfl (q _ (Same.refl _))⟩
end
end Pr
/-! ### list(d.values()) -/
namespace Lv
open PySem PySem.Spec PyProof.Rows L2
def tListVals (te : TE) : TE := fun σ H Q => te σ H fun x H1 => ∃ (d : Addr) (kvs : List (Key × V)), x = .ref d ∧ H1 d = some (.dK kvs) ∧ ∀ p, H1 p = none → Q (.ref p) (upd H1 p (.lst (kvs.map (·.2))))
theorem vals_snd {kvs : List (Key × V)} {vs : List (Key × Value)} (r : KV kvs vs) : Vals (kvs.map (·.2)) (vs.map (·.2)) := by
  unfold KV at r
  induction r with
  | nil => exact .nil
  | cons r t ih => exact .cons r.2 ih
section
variable {X : Cx} {e : Expr} {te : TE} {p apos cpos pos : Pos}
theorem pe_listVals (hc : X.calm = true) (he : PE X e te) (hg : Gl X "list") (hm : X.mg "list" = none) (hv : bootBuiltins "list" = some (.type "list")) (hbase : attributeBase e "values" X.env (eval e X.env) = eval e X.env := by rfl) (hline : (apos.endLine == cpos.line) = true := by rfl)
    (hs : starEach [.Call (.Attribute e "values" apos) [] [] cpos] X.env = (false, eval (.Call (.Attribute e "values" apos) [] [] cpos) X.env) :: starEach [] X.env := by rfl) :
    PE X (.Call (.Name "list" p) [.Call (.Attribute e "values" apos) [] [] cpos] [] pos) (tListVals te) := by
  refine ⟨fun pins s σ H Q I hq => ?_⟩
  refine wpAny_Call_Name_kw (ld_blt I hg hm hv ?_)
  refine PyProof.Rows.callWith_type1 ?_ hs rfl
  rw [hs]
  show wpAny _ _ (spliced ((false, eval (.Call (.Attribute e "values" apos) [] [] cpos) X.env) :: backTo pos (starEach [] X.env))) _ _ s
  refine Calls.spliced_cons ?_
  refine wpAny_Call_method (T := "dict") (id := "dict.values") hbase rfl hline F.plainAttrs_dict F.slot_dict_values F.type_dict_values (thn (he.run pins s σ H _ I hq) fun u s1 ⟨x, H1, I1, rx, d, kvs, ex, hd, q⟩ => ?_)
  subst ex
  obtain rfl : u = Value.ref d := rx
  obtain ⟨hz, hs0, vs, kv, hdo⟩ := I1.hok d _ hd
  obtain ⟨ep, hat⟩ := hdo.dictAt
  have lk : kvs.length = vs.length := Paired.length kv
  have I2 : Inv X pins σ H1 { s1 with heap := s1.heap.push { cls := .type "dict_values", data := .fields #[.ref d] } } := I1.kept (t' := s1.toks) fun b ob q => Heap.get?_push_of_some _ q
  refine ⟨hdo.typeIs, hdo.mapOf.noDict, ?_⟩
  show wpAny _ _ (callWith cpos (.builtin "dict.values") [.ref d] [] []) _ X.xe s1
  refine method_meetsIn F.slot_dict_values F.entry_dict_values rfl (PySem.evalArgs_none ⟨rfl, hdo.typeIs, F.args_dict_values_1 _, _, meets_dict_values (mixKind X.prog X.w) d hs0, ⟨vs, hdo⟩, ?_⟩)
  refine Calls.spliced_nil ?_
  refine PySem.W.kdl_call (PySem.W.kdl_values (knd := mixKind X.prog X.w) (kvs := vs) (ep := ep)) (I1.ok.hd hc) ⟨⟨_, Heap.get?_push_size _ rfl, rfl, rfl⟩, hat.push _⟩ (by omega) fun h' tk acc c hk hS hacc => ?_
  have ev : acc.toList = vs.map (·.2) := PySem.W.kdl_vals_eq acc.toList (by rw [Array.length_toList]; exact hacc.1) fun j v e => hacc.2 j v (by rw [← Array.getElem?_toList]; exact e)
  refine ⟨.ref _, _, I2.laid (o := .lst (kvs.map (·.2))) (t' := tk) hk (Nat.le_refl _) ⟨by rw [List.length_map]; omega, vs.map (·.2), c, vals_snd kv, ?_⟩, rfl, q _ (I2.hok.fresh (Nat.le_refl _))⟩
  rw [← ev, Array.toArray_toList]
  exact hS
end
end Lv
namespace Pr
open PySem PySem.Spec PyProof.Rows L2 Gd
/-! ### Operators(arities) -/
/-- what is known of the class -/
structure OpF (K : PySem.W.Frag) (C : Addr) : Prop where
  cls : Cls K C
  n1 : NoAttr K C "_names"
  n2 : NoAttr K C "_arities"
  n3 : NoAttr K C "_lines"
  n4 : NoAttr K C "_many"
  n5 : NoAttr K C "_counts"
  n6 : NoAttr K C "_rows"
/-- the line of an operator -/
def lnS (p : Str × Nat) : Str := Str.empty ++ ("op " : Str) ++ p.1 ++ (" " : Str) ++ Str.ofString (toString (p.2 : Int))
def lnV (p : Str × Nat) : V := .str (lnS p)
/-- what is known of InvalidOperators -/
structure IopF (K : PySem.W.Frag) (mg : Str → Option Value) (CI : Addr) : Prop where
  x : PySem.W.excIn K CI [.type "ValueError", .type "Exception", .type "BaseException", .type "object"] "ValueError.__new__" = true
  g : mg "InvalidOperators" = some (.ref CI)
  k : PySem.W.keepIn K (.ref CI) = true
  b : PySem.W.subIn K (.ref CI) (.type "BaseException") = some true
  t : PySem.W.typeIn K (.ref CI) = some (.type "type")
/-- operators that are let -/
structure OpsOk (l : List (Str × Nat)) : Prop where
  few : 1 ≤ l.length ∧ l.length ≤ 8
  nd : (l.map (·.1)).Nodup
  name : ∀ p ∈ l, azB p.1 = true
  two : ∀ p ∈ l, p.2 ≤ 2
theorem Ars.ok {l : List (Str × Nat)} (h : Ars l) : OpsOk l := by
  refine ⟨by have := h.few; omega, h.nd, fun p m => ?_, h.two⟩
  have t : ∀ z ∈ Pr.pool, azB z = true := by decide +kernel
  exact t _ (h.pool p m)
theorem good_one {p : Key × V} (h : goodP p = true) : ∃ (z : Str) (n : Nat), p = (.inr z, .int (n : Int)) ∧ azB z = true ∧ n ≤ 2 := by
  obtain ⟨k, v⟩ := p
  unfold goodP at h
  rw [Bool.and_eq_true, Bool.and_eq_true] at h
  obtain ⟨h1, h2, h3⟩ := h
  obtain ⟨i, rfl⟩ := isIntO_int h2
  have h3' : (decide (0 ≤ i) && decide (i ≤ 2)) = true := h3
  rw [Bool.and_eq_true] at h3'
  have a := of_decide_eq_true h3'.1
  have b := of_decide_eq_true h3'.2
  cases k with
  | inl j => cases h1
  | inr z => exact ⟨z, i.toNat, by rw [Int.toNat_of_nonneg a], h1, by omega⟩
theorem good_list : ∀ {kvs : List (Key × V)}, kvs.all goodP = true → ∃ l : List (Str × Nat), kvs = dkv l ∧ (∀ p ∈ l, azB p.1 = true) ∧ ∀ p ∈ l, p.2 ≤ 2
  | [], _ => ⟨[], rfl, fun _ m => (nomatch m), fun _ m => (nomatch m)⟩
  | p :: r, h => by
    rw [List.all_cons, Bool.and_eq_true] at h
    obtain ⟨z, n, rfl, a, b⟩ := good_one h.1
    obtain ⟨l, rfl, x, y⟩ := good_list h.2
    refine ⟨(z, n) :: l, rfl, fun q m => ?_, fun q m => ?_⟩
    · rcases List.mem_cons.mp m with rfl | m
      · exact a
      · exact x q m
    · rcases List.mem_cons.mp m with rfl | m
      · exact b
      · exact y q m
theorem keys_dkv (l : List (Str × Nat)) : (dkv l).map (·.1) = (l.map (·.1)).map Sum.inr := by
  unfold dkv
  rw [List.map_map, List.map_map]
  rfl
theorem good_ok {kvs : List (Key × V)} (n : Nice kvs) (h : goodK kvs = true) : ∃ l : List (Str × Nat), kvs = dkv l ∧ OpsOk l := by
  unfold goodK at h
  rw [Bool.and_eq_true, Bool.and_eq_true] at h
  obtain ⟨h1, h8, h⟩ := h
  obtain ⟨l, rfl, x, y⟩ := good_list h
  have e : (dkv l).length = l.length := List.length_map _
  have h1 := of_decide_eq_true h1
  have h8 := of_decide_eq_true h8
  have nd := n.nd
  rw [keys_dkv] at nd
  exact ⟨l, rfl, ⟨by omega, List.Pairwise.of_map Sum.inr (fun a b h e => h (congrArg _ e)) nd, x, y⟩⟩
theorem good_of {l : List (Str × Nat)} (ok : OpsOk l) : Nice (dkv l) ∧ goodK (dkv l) = true := by
  have e : (dkv l).length = l.length := List.length_map _
  have few := ok.few
  have z8 : ∀ p ∈ l, p.1.length ≤ 8 := fun p m => by
    have h2 : (decide (1 ≤ p.1.length) && decide (p.1.length ≤ 8) && p.1.cps.toList.all azC) = true := ok.name p m
    simp only [Bool.and_eq_true, decide_eq_true_eq] at h2
    omega
  have at_ : ∀ p ∈ dkv l, ∃ q ∈ l, p = (.inr q.1, .int (q.2 : Int)) := fun p m => by
    obtain ⟨q, mq, e⟩ := List.mem_map.mp m
    exact ⟨q, mq, e.symm⟩
  refine ⟨⟨by rw [keys_dkv]; exact List.Pairwise.map Sum.inr (fun a b h e => h (Sum.inr.inj e)) ok.nd, by omega, fun p m => ?_, fun p m z ez => ?_⟩, ?_⟩
  · obtain ⟨q, mq, rfl⟩ := at_ p m
    exact Fl.int _
  · obtain ⟨q, mq, rfl⟩ := at_ p m
    cases ez
    have := z8 q mq
    omega
  · unfold goodK
    rw [decide_eq_true (by omega), decide_eq_true (by omega), Bool.true_and, Bool.true_and, List.all_eq_true]
    intro p m
    obtain ⟨q, mq, rfl⟩ := at_ p m
    unfold goodP
    have h1 : nameB (kV (.inr q.1 : Key)) = true := ok.name q mq
    have h2 := ok.two q mq
    have h3 : isIntO (.int (q.2 : Int)) = true := by
      rw [isIntO_eq]
      show decide ((if (q.2 : Int) < 0 then -(q.2 : Int) else q.2) < 10 ^ (60 : Int).toNat) = true
      have e : ((10 : Int) ^ (60 : Int).toNat) = ((10 ^ 60 : Nat) : Int) := by decide +kernel
      rw [if_neg (by omega), e, decide_eq_true (by omega)]
    have h4 : in02 (.int (q.2 : Int)) = true := by
      show (decide (0 ≤ (q.2 : Int)) && decide ((q.2 : Int) ≤ 2)) = true
      rw [decide_eq_true (by omega), decide_eq_true (by omega)]
      rfl
    rw [h1, h3, h4]
    rfl
/-- operators over l at o -/
structure OpsAt (H : Hp) (C o : Addr) (l : List (Str × Nat)) : Prop where
  ex : ∃ (dx tn ta : Addr) (tl : Addr × Addr × Addr × Addr), H o = some (.ins C dx [("_names", .ref tn), ("_arities", .ref ta), ("_lines", .ref tl.1), ("_many", .ref tl.2.1), ("_counts", .ref tl.2.2.1), ("_rows", .ref tl.2.2.2)]) ∧ H tn = some (.tup (l.map fun p => V.str p.1)) ∧ H ta = some (.dK (dkv l)) ∧ H tl.1 = some (.tup (l.map lnV))
theorem OpsAt.same {H H' : Hp} {C o : Addr} {l : List (Str × Nat)} (h : OpsAt H C o l) (s : Same H H') : OpsAt H' C o l :=
  let ⟨dx, tn, ta, tl, a, b, c, e⟩ := h.ex
  ⟨dx, tn, ta, tl, s _ _ a, s _ _ b, s _ _ c, s _ _ e⟩
abbrev t_line : TE := fun σ H Q => tJs [tC (V.str "op "), tFmt (tVar 2), tC (V.str " "), tFmt (tDGet (tVar 1) (tVar 2))] Str.empty σ H fun out H1 => Q (V.str out) H1
/-- a statement that isn't met -/
def tNever : TS := fun _ _ _ => False
theorem ps_never {X : Cx} {st : Stmt} : PS X st tNever := ⟨fun _ _ _ _ _ _ h => False.elim h⟩
def spInit (C CI : Addr) : Sp := fun vs H Q E => ∃ (x dx : Addr) (v : V) (b : Bool), vs = [.ref x, v] ∧ H x = some (.ins C dx []) ∧ AreB H v b ∧ (b = false → ∀ H', Same H H' → E (.ref CI) none H') ∧
  (∀ a l, b = true → v = .ref a → H a = some (.dK (dkv l)) → OpsOk l → ∀ (l' : List (Str × Nat)) (H' : Hp), l'.Perm l → sortedS (l'.map (·.1)) = true → Kp x H H' → OpsAt H' C x l' → Q .non H')
section
variable {P : Program} {w : World} {K : PySem.W.Frag} {mg : Str → Option Value} {base : Heap} {C CI fA : Addr} {dA : FuncData}
theorem scInit : FnScope ["self", "arities", "name", "told"] ["self", "arities"] (defScope mInit) := ⟨rfl, rfl, rfl, by decide +kernel, rfl, by decide +kernel, by decide +kernel⟩
theorem ok_init {f : Addr} {fd : FuncData} (F : Fun K "__init__" "Operators.__init__" mInit f fd) (T : Free mg) (CF : OpF K C) (IO : IopF K mg CI) (GA : FnOk P w K mg base CX0 2 fA dA ["value"] spAre7) (FA : Fun K "are_arities" "are_arities" sAre fA dA) (bA : Binds K dA ["value"] []) (gA : mg "are_arities" = some (.ref fA)) :
    FnOk P w K mg base (L2.CX P w) 3 f fd ["self", "arities"] (spInit C CI) := by
  refine F.okX scInit (fun vs H Q E h => ?_) (fun cdv A outer s H vs Q E hr h => ?_)
  · obtain ⟨x, dx, v, b, rfl, _⟩ := h
    rfl
  · obtain ⟨x, dx, v, b, rfl, hx, ab, qe, q0⟩ := h
    have hu := hr.units
    have hu1 : ∀ {u : Nat}, u + 64 < cLine → u + 1 < cLine := fun h => by omega
    refine ⟨_, pss_cons (ps_if (pt_not (pt_val (pe_call GA hr (by rfl) gA FA.kp bA .nil pass0 (pa_cons (pv 1) pa_nil)))) (pss_one (ps_raise rfl (takes_of rfl rfl rfl rfl) (pmk_own PySem.F.excBase_ValueError IO.x IO.g IO.k (raises_own IO.b IO.t) rfl))) pss_nil) (pss_cons (ps_fld (pv 0) (pe_callTy call_tuple_of (by rfl) T.tuple (by decide +kernel) (pa_cons (pe_callB (call_sortedD (by rfl)) (by rfl) T.sorted (by decide +kernel) (pa_cons (pv 1) pa_nil)) pa_nil)) rfl) (pss_cons (ps_fld (pv 0) (pe_dc (own := [("name", 2)]) (g := gName 2) (by rfl) scInit.nd (pi_tup (pe_fld (pv 0) rfl)) (blkOk_by (own := [("name", 2)]) (N := ["self", "arities", "name", "told"]) (sc := defScope mInit) (by decide +kernel)) (fun _ _ _ _ _ => pg_name (i := 2) scInit.nd rfl (Or.inl rfl)) (fun _ _ _ _ _ => pts_nil) (fun _ _ _ _ _ => pv 2) (fun _ _ _ _ _ => pe_dget (hu1 hu) (pv 1) (pv 2) (fun _ _ => rfl))) rfl) (pss_cons (ps_fld (pv 0) (pe_callTy call_tuple_of (by rfl) T.tuple (by decide +kernel) (pa_cons (pe_lc (own := [("name", 2)]) (g := gName 2) (by rfl) scInit.nd (pi_tup (pe_fld (pv 0) rfl)) (blkOk_by (own := [("name", 2)]) (N := ["self", "arities", "name", "told"]) (sc := defScope mInit) (by decide +kernel)) (fun _ _ _ _ _ => pg_name (i := 2) scInit.nd rfl (Or.inl rfl)) (fun _ _ _ _ _ => pts_nil) (fun _ _ _ _ _ => pe_joined (.cons pe_str (.cons (pe_fmt (pv 2)) (.cons pe_str (.cons (pe_fmt (pe_dget (hu1 hu) (pv 1) (pv 2) (fun _ _ => rfl))) .nil)))))) pa_nil)) rfl) (pss_cons (ps_set (i := 3) scInit.nd rfl (.inl rfl) (Lv.pe_listVals rfl (pv 1) (by rfl) T.list (by decide +kernel))) (pss_cons (ps_fld (pv 0) (pe_tup (pa_cons (pe_bm PySem.F.plainAttrs_list PySem.F.slot_list_count PySem.F.type_list_count mt_lcount (pv 3) (pa_cons pe_int pa_nil)) (pa_cons (pe_bm PySem.F.plainAttrs_list PySem.F.slot_list_count PySem.F.type_list_count mt_lcount (pv 3) (pa_cons pe_int pa_nil)) (pa_cons (pe_bm PySem.F.plainAttrs_list PySem.F.slot_list_count PySem.F.type_list_count mt_lcount (pv 3) (pa_cons pe_int pa_nil)) pa_nil)))) rfl) (pss_cons (ps_fld (pv 0) (pe_lst (pa_cons pe_int (pa_cons (pe_ix ix_tup (pe_fld (pv 0) rfl) pe_int (fun _ _ => rfl)) pa_nil))) rfl) (pss_one (ps_fld (pv 0) (pe_lst pa_nil) rfl)))))))), ?_⟩
    refine ⟨_, rfl, v, b, rfl, ab, fun H1 s1 => ⟨_, rfl, ?_⟩⟩
    cases b with
    | false => exact if_true_of rfl (qe rfl H1 s1)
    | true =>
    refine if_false_of rfl ?_
    obtain ⟨a, kvs, rfl, ha, eg, nice⟩ : ∃ a kvs, v = .ref a ∧ H a = some (.dK kvs) ∧ goodK kvs = true ∧ Nice kvs := by
      have go : ∀ {b : Bool}, AreB H v b → b = true → ∃ a kvs, v = .ref a ∧ H a = some (.dK kvs) ∧ goodK kvs = true ∧ Nice kvs := fun ab eb => by
        cases ab with
        | not _ _ => cases eb
        | dict e n => exact ⟨_, _, rfl, e, eb, n⟩
      exact go ab rfl
    obtain ⟨l, rfl, ok⟩ := good_ok nice eg
    have q0 := q0 a l rfl rfl ha ok
    have few := ok.few
    have xa : x ≠ a := fun e => by
      rw [e, ha] at hx
      cases hx
    refine ⟨_, rfl, a, dkv l, l.map (·.1), rfl, Rd.of (s1 _ _ ha), by unfold dkv; rw [List.map_map, List.map_map]; rfl, by rw [List.length_map]; omega, fun ks ns pk srt nns => ?_⟩
    obtain ⟨l', pl, rfl⟩ := perm_map pk
    refine ⟨ns, _, rfl, .inl ⟨SqL.of upd_same, fun t nt => ?_⟩⟩
    have s2 := (s1.trans (Same.new nns (o := .lst ((l'.map (·.1)).map V.str)))).trans (Same.new nt (o := .tup ((l'.map (·.1)).map V.str)))
    have ht2 : (upd (upd H1 ns (.lst ((l'.map (·.1)).map V.str))) t (.tup ((l'.map (·.1)).map V.str))) t = some (.tup ((l'.map (·.1)).map V.str)) := upd_same
    generalize upd (upd H1 ns (.lst ((l'.map (·.1)).map V.str))) t (.tup ((l'.map (·.1)).map V.str)) = H2 at s2 ht2 ⊢
    have hx2 := s2 _ _ hx
    have xt : x ≠ t := fun e => by
      rw [e, ht2] at hx2
      cases hx2
    refine ⟨_, rfl, x, C, dx, [], rfl, hx2, CF.cls, CF.n1, by decide, ?_⟩
    have k3 : Kp x H (upd H2 x (.ins C dx (putF "_names" (.ref t) []))) := (Kp.same s2).trans Kp.upd
    have hx3 : (upd H2 x (.ins C dx (putF "_names" (.ref t) []))) x = some (.ins C dx [("_names", .ref t)]) := upd_same
    have ht3 : (upd H2 x (.ins C dx (putF "_names" (.ref t) []))) t = some (.tup ((l'.map (·.1)).map V.str)) := by rw [upd_ne xt.symm]; exact ht2
    have ha3 := k3 a _ xa.symm ha
    have ndl : (l'.map (·.1)).Nodup := (pl.map _).nodup_iff.mpr ok.nd
    have mem : ∀ {i : Nat} {v : V}, ((l'.map (·.1)).map V.str)[i]? = some v → ∃ p, l'[i]? = some p ∧ v = .str p.1 ∧ valV (dkv l) (.inr p.1 : Key) = some (.int (p.2 : Int)) ∧ p.2 ≤ 2 ∧ azB p.1 = true := fun {i v} h => by
      rw [List.map_map, List.getElem?_map] at h
      cases e : l'[i]? with
      | none => rw [e] at h; cases h
      | some p =>
        rw [e] at h
        have mp : p ∈ l := pl.mem_iff.mp (List.mem_of_getElem? e)
        exact ⟨p, rfl, (Option.some.inj h).symm, val_some ok.nd mp, ok.two p mp, ok.name p mp⟩
    have ll : l'.length ≤ 8 := by
      rw [pl.length_eq]
      omega
    generalize upd H2 x (.ins C dx (putF "_names" (.ref t) [])) = H3 at k3 hx3 ht3 ha3 ⊢
    -- _arities
    refine ⟨_, rfl, x, C, dx, _, _, rfl, hx3, CF.cls, CF.n1, rfl, t, rfl, ⟨_, SqT.of ht3⟩, fun D nD => ?_⟩
    refine dc_tup (K := K) (a := t) (xs := (l'.map (·.1)).map V.str) (fun i G => G D = some (.dK (dkv (l'.take i))) ∧ Same H3 G) ⟨upd_same, Same.new nD⟩ (fun i G _ ⟨_, s⟩ => SqT.of (s _ _ ht3)) ?_ ?_
    · rintro i v G hv ⟨eD, s⟩
      obtain ⟨p, hp, rfl, vz, two, _⟩ := mem hv
      have nz : p.1 ∉ (l'.take i).map (·.1) := fun m => by
        obtain ⟨j, hj, e⟩ := List.mem_iff_getElem.mp m
        rw [List.length_map, List.length_take] at hj
        obtain ⟨hi, ep⟩ := List.getElem?_eq_some_iff.mp hp
        have e2 : (l'.map (·.1))[j]'(by rw [List.length_map]; omega) = (l'.map (·.1))[i]'(by rw [List.length_map]; omega) := by
          rw [List.getElem_map, List.getElem_map, ep, ← e, List.getElem_map, List.getElem_take]
        have := (List.getElem_inj ndl).mp e2
        omega
      refine ⟨rfl, _, rfl, _, rfl, _, rfl, a, _, rfl, vz ▸ DGet.k (k := .inr p.1) (s _ _ ha3), dkv (l'.take i), .inr p.1, rfl, eD, ?_, ?_, fun b o q => by rw [upd_ne (ne_of_none q nD)]; exact s b o q⟩
      · have e : (dkv (l'.take i)).length = (l'.take i).length := List.length_map _
        rw [e, List.length_take, sizeLine_eq]
        omega
      · rw [upd_same, put_end nz, List.take_add_one, hp]
        rfl
    rintro G ⟨eD, s3⟩
    have eD : G D = some (.dK (dkv l')) := by
      have t0 := List.take_of_length_le (l := l') (i := ((l'.map (·.1)).map V.str).length) (by rw [List.length_map, List.length_map]; exact Nat.le_refl _)
      rw [t0] at eD
      exact eD
    refine ⟨_, rfl, x, C, dx, _, rfl, s3 _ _ hx3, CF.cls, CF.n2, Nat.le_of_ble_eq_true rfl, ?_⟩
    have xD : x ≠ D := ne_of_none hx3 nD
    have k4 : Kp x H (upd G x (.ins C dx (putF "_arities" (.ref D) [("_names", .ref t)]))) := (k3.trans (Kp.same s3)).trans Kp.upd
    have hx4 : (upd G x (.ins C dx (putF "_arities" (.ref D) [("_names", .ref t)]))) x = some (.ins C dx [("_names", .ref t), ("_arities", .ref D)]) := upd_same
    have ht4 : (upd G x (.ins C dx (putF "_arities" (.ref D) [("_names", .ref t)]))) t = some (.tup ((l'.map (·.1)).map V.str)) := by rw [upd_ne xt.symm]; exact s3 _ _ ht3
    have hD4 : (upd G x (.ins C dx (putF "_arities" (.ref D) [("_names", .ref t)]))) D = some (.dK (dkv l')) := by rw [upd_ne xD.symm]; exact eD
    have ha4 := k4 a _ xa.symm ha
    generalize upd G x (.ins C dx (putF "_arities" (.ref D) [("_names", .ref t)])) = H4 at k4 hx4 ht4 hD4 ha4 ⊢
    -- _lines
    refine ⟨_, rfl, x, C, dx, _, _, rfl, hx4, CF.cls, CF.n1, rfl, t, rfl, ⟨_, SqT.of ht4⟩, fun D2 nD2 => ?_⟩
    refine lc_tup (K := K) (a := t) (xs := (l'.map (·.1)).map V.str) (tt := tYes) (g := gName 2) (te := t_line) (vs := [2]) (fun i G => G D2 = some (.lst ((l'.take i).map lnV)) ∧ Same H4 G) ⟨upd_same, Same.new nD2⟩ (fun i G _ ⟨_, s⟩ => SqT.of (s _ _ ht4)) ?_ ?_
    · rintro i v G2 hv ⟨e2, s⟩
      obtain ⟨p, hp, rfl, vz, two, az⟩ := mem hv
      have z8 : p.1.length ≤ 8 := by
        have h2 : (decide (1 ≤ p.1.length) && decide (p.1.length ≤ 8) && p.1.cps.toList.all azC) = true := az
        simp only [Bool.and_eq_true, decide_eq_true_eq] at h2
        omega
      have lg : ((p.2 : Int)).natAbs.log2 < 1920 := Nat.lt_of_le_of_lt (Nat.log2_le_self _) (by omega)
      have tl : (((toString (p.2 : Int) : String) : Str)).length ≤ 1921 := PyProof.Rows.int_text_len_1921 lg
      have il : i < 8 := by
        have := (List.getElem?_eq_some_iff.mp hp).1
        omega
      have n1 : (Str.empty ++ ("op " : Str)).length = 3 := rfl
      refine ⟨rfl, _, rfl, by rw [n1, sizeLine_eq]; decide, _, rfl, .inl ⟨p.1, rfl, by rw [sizeLine_eq]; omega, _, rfl, by rw [strLen_append, n1, sizeLine_eq]; omega, _, rfl, ?_, _, rfl, _, rfl, a, _, rfl, vz ▸ DGet.k (k := .inr p.1) (s _ _ ha4), .inr ⟨_, rfl, lg, _, rfl, ?_, _, e2, by rw [List.length_map, List.length_take, sizeLine_eq]; omega, by rw [upd_same, List.take_add_one, hp, List.map_append]; rfl, fun b o q => by rw [upd_ne (ne_of_none q nD2)]; exact s b o q⟩⟩⟩
      · rw [strLen_append, strLen_append, n1, sizeLine_eq, show (" " : Str).length = 1 from rfl]
        omega
      · rw [strLen_append, strLen_append, strLen_append, n1, sizeLine_eq, show (" " : Str).length = 1 from rfl]
        have tl' : ((Str.ofString (toString (p.2 : Int)))).length ≤ 1921 := tl
        omega
    · rintro G2 ⟨e2, s⟩
      have e2 : G2 D2 = some (.lst (l'.map lnV)) := by
        rw [List.take_of_length_le (by rw [List.length_map, List.length_map]; exact Nat.le_refl _)] at e2
        exact e2
      generalize hss : l'.map lnV = ss at e2
      refine ⟨D2, ss, rfl, .inl ⟨SqL.of e2, fun t2 nt2 => ⟨_, rfl, x, C, dx, _, rfl, (Same.new nt2) _ _ (s _ _ hx4), CF.cls, CF.n3, Nat.le_of_ble_eq_true rfl, ?_⟩⟩⟩
      have s5 := s.trans (Same.new nt2 (o := .tup ss))
      have xt2 : x ≠ t2 := ne_of_none (s _ _ hx4) nt2
      have xa4 : a ≠ x := xa.symm
      have k5 : Kp x H (upd (upd G2 t2 (.tup ss)) x (.ins C dx (putF "_lines" (.ref t2) [("_names", .ref t), ("_arities", .ref D)]))) := (k4.trans (Kp.same s5)).trans Kp.upd
      have hx5 : (upd (upd G2 t2 (.tup ss)) x (.ins C dx (putF "_lines" (.ref t2) [("_names", .ref t), ("_arities", .ref D)]))) x = some (.ins C dx [("_names", .ref t), ("_arities", .ref D), ("_lines", .ref t2)]) := upd_same
      have ht5 : (upd (upd G2 t2 (.tup ss)) x (.ins C dx (putF "_lines" (.ref t2) [("_names", .ref t), ("_arities", .ref D)]))) t = some (.tup (l'.map fun p => V.str p.1)) := by
        rw [upd_ne xt.symm]
        have := s5 _ _ ht4
        rw [List.map_map] at this
        exact this
      have hD5 : (upd (upd G2 t2 (.tup ss)) x (.ins C dx (putF "_lines" (.ref t2) [("_names", .ref t), ("_arities", .ref D)]))) D = some (.dK (dkv l')) := by
        rw [upd_ne xD.symm]
        exact s5 _ _ hD4
      have hl5 : (upd (upd G2 t2 (.tup ss)) x (.ins C dx (putF "_lines" (.ref t2) [("_names", .ref t), ("_arities", .ref D)]))) t2 = some (.tup ss) := by rw [upd_ne xt2.symm, upd_same]
      generalize upd (upd G2 t2 (.tup ss)) x (.ins C dx (putF "_lines" (.ref t2) [("_names", .ref t), ("_arities", .ref D)])) = H5 at k5 hx5 ht5 hD5 hl5 ⊢
      have ha5 := k5 a _ xa4 ha
      -- told
      refine ⟨_, rfl, a, dkv l, rfl, ha5, fun q nq => ?_⟩
      have s6 := Same.new nq (o := .lst ((dkv l).map (·.2)))
      have xq : x ≠ q := ne_of_none hx5 nq
      have hq6 : (upd H5 q (.lst ((dkv l).map (·.2)))) q = some (.lst ((l.map fun p => (p.2 : Int)).map V.int)) := by
        rw [upd_same]
        unfold dkv
        rw [List.map_map, List.map_map]
        rfl
      generalize upd H5 q (.lst ((dkv l).map (·.2))) = H6 at s6 hq6 ⊢
      have hx6 := s6 _ _ hx5
      have ht6 := s6 _ _ ht5
      have hD6 := s6 _ _ hD5
      have hl6 := s6 _ _ hl5
      have tyq : tyV K "list" (V.ref q) H6 := .inl ⟨rfl, _, SqL.of hq6⟩
      refine ⟨_, rfl, tyq, q, _, 0, rfl, rfl, SqL.of hq6, _, rfl, tyq, q, _, 1, rfl, rfl, SqL.of hq6, _, rfl, tyq, q, _, 2, rfl, rfl, SqL.of hq6, by show 3 ≤ sizeLine; decide, fun m nm => ?_⟩
      have s7 := Same.new nm (o := .tup [.int ((l.map fun p => (p.2 : Int)).count 0 : Nat), .int ((l.map fun p => (p.2 : Int)).count 1 : Nat), .int ((l.map fun p => (p.2 : Int)).count 2 : Nat)])
      have xm : x ≠ m := ne_of_none hx6 nm
      refine ⟨_, rfl, x, C, dx, _, rfl, s7 _ _ hx6, CF.cls, CF.n4, Nat.le_of_ble_eq_true rfl, ?_⟩
      have k7 : Kp x H (upd (upd H6 m (.tup [.int ((l.map fun p => (p.2 : Int)).count 0 : Nat), .int ((l.map fun p => (p.2 : Int)).count 1 : Nat), .int ((l.map fun p => (p.2 : Int)).count 2 : Nat)])) x (.ins C dx (putF "_many" (.ref m) [("_names", .ref t), ("_arities", .ref D), ("_lines", .ref t2)]))) := ((k5.trans (Kp.same s6)).trans (Kp.same s7)).trans Kp.upd
      have hx7 : (upd (upd H6 m (.tup [.int ((l.map fun p => (p.2 : Int)).count 0 : Nat), .int ((l.map fun p => (p.2 : Int)).count 1 : Nat), .int ((l.map fun p => (p.2 : Int)).count 2 : Nat)])) x (.ins C dx (putF "_many" (.ref m) [("_names", .ref t), ("_arities", .ref D), ("_lines", .ref t2)]))) x = some (.ins C dx [("_names", .ref t), ("_arities", .ref D), ("_lines", .ref t2), ("_many", .ref m)]) := upd_same
      have hm7 : (upd (upd H6 m (.tup [.int ((l.map fun p => (p.2 : Int)).count 0 : Nat), .int ((l.map fun p => (p.2 : Int)).count 1 : Nat), .int ((l.map fun p => (p.2 : Int)).count 2 : Nat)])) x (.ins C dx (putF "_many" (.ref m) [("_names", .ref t), ("_arities", .ref D), ("_lines", .ref t2)]))) m = some (.tup [.int ((l.map fun p => (p.2 : Int)).count 0 : Nat), .int ((l.map fun p => (p.2 : Int)).count 1 : Nat), .int ((l.map fun p => (p.2 : Int)).count 2 : Nat)]) := by rw [upd_ne xm.symm, upd_same]
      have ht7 : (upd (upd H6 m (.tup [.int ((l.map fun p => (p.2 : Int)).count 0 : Nat), .int ((l.map fun p => (p.2 : Int)).count 1 : Nat), .int ((l.map fun p => (p.2 : Int)).count 2 : Nat)])) x (.ins C dx (putF "_many" (.ref m) [("_names", .ref t), ("_arities", .ref D), ("_lines", .ref t2)]))) t = some (.tup (l'.map fun p => V.str p.1)) := by
        rw [upd_ne xt.symm]
        exact s7 _ _ ht6
      have hD7 : (upd (upd H6 m (.tup [.int ((l.map fun p => (p.2 : Int)).count 0 : Nat), .int ((l.map fun p => (p.2 : Int)).count 1 : Nat), .int ((l.map fun p => (p.2 : Int)).count 2 : Nat)])) x (.ins C dx (putF "_many" (.ref m) [("_names", .ref t), ("_arities", .ref D), ("_lines", .ref t2)]))) D = some (.dK (dkv l')) := by
        rw [upd_ne xD.symm]
        exact s7 _ _ hD6
      have hl7 : (upd (upd H6 m (.tup [.int ((l.map fun p => (p.2 : Int)).count 0 : Nat), .int ((l.map fun p => (p.2 : Int)).count 1 : Nat), .int ((l.map fun p => (p.2 : Int)).count 2 : Nat)])) x (.ins C dx (putF "_many" (.ref m) [("_names", .ref t), ("_arities", .ref D), ("_lines", .ref t2)]))) t2 = some (.tup ss) := by
        rw [upd_ne xt2.symm]
        exact s7 _ _ hl6
      generalize upd (upd H6 m (.tup [.int ((l.map fun p => (p.2 : Int)).count 0 : Nat), .int ((l.map fun p => (p.2 : Int)).count 1 : Nat), .int ((l.map fun p => (p.2 : Int)).count 2 : Nat)])) x (.ins C dx (putF "_many" (.ref m) [("_names", .ref t), ("_arities", .ref D), ("_lines", .ref t2)])) = H7 at k7 hx7 hm7 ht7 hD7 hl7 ⊢
      -- _counts
      refine ⟨_, rfl, x, C, dx, _, _, rfl, hx7, CF.cls, CF.n4, rfl, m, _, _, _, rfl, rfl, SqT.of hm7, rfl, by show 2 ≤ sizeLine; decide, fun c nc => ?_⟩
      have xc : x ≠ c := ne_of_none hx7 nc
      have s8 := Same.new nc (o := .lst [.int 0, .int ((l.map fun p => (p.2 : Int)).count 0 : Nat)])
      refine ⟨_, rfl, x, C, dx, _, rfl, s8 _ _ hx7, CF.cls, CF.n5, Nat.le_of_ble_eq_true rfl, ?_⟩
      have k8 : Kp x H (upd (upd H7 c (.lst [.int 0, .int ((l.map fun p => (p.2 : Int)).count 0 : Nat)])) x (.ins C dx (putF "_counts" (.ref c) [("_names", .ref t), ("_arities", .ref D), ("_lines", .ref t2), ("_many", .ref m)]))) := (k7.trans (Kp.same s8)).trans Kp.upd
      have hx8 : (upd (upd H7 c (.lst [.int 0, .int ((l.map fun p => (p.2 : Int)).count 0 : Nat)])) x (.ins C dx (putF "_counts" (.ref c) [("_names", .ref t), ("_arities", .ref D), ("_lines", .ref t2), ("_many", .ref m)]))) x = some (.ins C dx [("_names", .ref t), ("_arities", .ref D), ("_lines", .ref t2), ("_many", .ref m), ("_counts", .ref c)]) := upd_same
      have ht8 : (upd (upd H7 c (.lst [.int 0, .int ((l.map fun p => (p.2 : Int)).count 0 : Nat)])) x (.ins C dx (putF "_counts" (.ref c) [("_names", .ref t), ("_arities", .ref D), ("_lines", .ref t2), ("_many", .ref m)]))) t = some (.tup (l'.map fun p => V.str p.1)) := by
        rw [upd_ne xt.symm]
        exact s8 _ _ ht7
      have hD8 : (upd (upd H7 c (.lst [.int 0, .int ((l.map fun p => (p.2 : Int)).count 0 : Nat)])) x (.ins C dx (putF "_counts" (.ref c) [("_names", .ref t), ("_arities", .ref D), ("_lines", .ref t2), ("_many", .ref m)]))) D = some (.dK (dkv l')) := by
        rw [upd_ne xD.symm]
        exact s8 _ _ hD7
      have hl8 : (upd (upd H7 c (.lst [.int 0, .int ((l.map fun p => (p.2 : Int)).count 0 : Nat)])) x (.ins C dx (putF "_counts" (.ref c) [("_names", .ref t), ("_arities", .ref D), ("_lines", .ref t2), ("_many", .ref m)]))) t2 = some (.tup ss) := by
        rw [upd_ne xt2.symm]
        exact s8 _ _ hl7
      generalize upd (upd H7 c (.lst [.int 0, .int ((l.map fun p => (p.2 : Int)).count 0 : Nat)])) x (.ins C dx (putF "_counts" (.ref c) [("_names", .ref t), ("_arities", .ref D), ("_lines", .ref t2), ("_many", .ref m)])) = H8 at k8 hx8 ht8 hD8 hl8 ⊢
      -- _rows
      refine ⟨by show 0 ≤ sizeLine; decide, fun r nr => ?_⟩
      have s9 := Same.new nr (o := .lst [])
      refine ⟨_, rfl, x, C, dx, _, rfl, s9 _ _ hx8, CF.cls, CF.n6, Nat.le_of_ble_eq_true rfl, ?_⟩
      refine q0 l' _ pl srt ((k8.trans (Kp.same s9)).trans Kp.upd) ⟨dx, t, D, (t2, m, c, r), upd_same, ?_, ?_, ?_⟩
      · rw [upd_ne xt.symm]
        exact s9 _ _ ht8
      · rw [upd_ne xD.symm]
        exact s9 _ _ hD8
      · show (upd (upd H8 r (.lst [])) x _) t2 = _
        rw [upd_ne xt2.symm, hss]
        exact s9 _ _ hl8
end
end Pr

namespace Pr
open PySem PySem.Spec PyProof.Rows L2 Gd
/-! ### names in their one order -/
theorem not_lt_trans {a b c : List Nat} (h : ¬ b < a) (k : ¬ c < b) : ¬ c < a := List.not_lt.mpr (List.le_trans (List.not_lt.mp h) (List.not_lt.mp k))
theorem rising_all : ∀ (p : Str) (l : List Str), risingS p l = true → ∀ x ∈ l, ¬ x.cps.toList < p.cps.toList
  | _, [], _, x, m => nomatch m
  | p, y :: r, h, x, m => by
    have h' : (!ltCps y.cps.toList p.cps.toList && risingS y r) = true := h
    rw [Bool.and_eq_true, ltCps_eq] at h'
    have h1 : ¬ y.cps.toList < p.cps.toList := by simpa using h'.1
    rcases List.mem_cons.mp m with rfl | m
    · exact h1
    · exact not_lt_trans h1 (rising_all y r h'.2 x m)
theorem rising_pair : ∀ (p : Str) (l : List Str), risingS p l = true → (p :: l).Pairwise fun a b => ¬ b.cps.toList < a.cps.toList
  | p, [], _ => by simp
  | p, y :: r, h => by
    have h' : (!ltCps y.cps.toList p.cps.toList && risingS y r) = true := h
    rw [Bool.and_eq_true] at h'
    exact List.pairwise_cons.mpr ⟨rising_all p (y :: r) h, rising_pair y r h'.2⟩
theorem sorted_pair : ∀ (l : List Str), sortedS l = true → l.Pairwise fun a b => ¬ b.cps.toList < a.cps.toList
  | [], _ => .nil
  | p :: r, h => rising_pair p r h
theorem str_ext {a b : Str} (h : a.cps.toList = b.cps.toList) : a = b := by
  cases a
  cases b
  congr 1
  exact Array.toList_inj.mp h
theorem sorted_one {xs ys : List Str} (hx : sortedS xs = true) (hy : sortedS ys = true) (p : xs.Perm ys) : xs = ys :=
  List.Perm.eq_of_pairwise (fun a b _ _ h k => str_ext (List.le_antisymm (List.not_lt.mp h) (List.not_lt.mp k))) (sorted_pair xs hx) (sorted_pair ys hy) p
/-! ### what operators tell -/
def spPA (C : Addr) : Sp := fun vs H Q _ => ∃ (o : Addr) (l : List (Str × Nat)), vs = [.ref o] ∧ OpsAt H C o l ∧ ∀ p, H p = none → Q (.ref p) (upd H p (.dK (dkv l)))
def spPL (C : Addr) : Sp := fun vs H Q _ => ∃ (o : Addr) (l : List (Str × Nat)), vs = [.ref o] ∧ OpsAt H C o l ∧ ∀ tn, H tn = some (.tup (l.map lnV)) → Q (.ref tn) H
section
variable {P : Program} {w : World} {K : PySem.W.Frag} {mg : Str → Option Value} {base : Heap} {C : Addr}
theorem scPL : FnScope ["self"] ["self"] (defScope mLines) := ⟨rfl, rfl, rfl, by decide +kernel, rfl, by decide +kernel, by decide +kernel⟩
theorem ok_pl {f : Addr} {fd : FuncData} (F : Fun K "lines" "Operators.lines" mLines f fd) (cf : OpF K C) (T : Free mg) : FnOk P w K mg base CX0 1 f fd ["self"] (spPL C) := by
  refine F.ok scPL (fun vs H Q E h => ?_) (fun cdv A outer s H vs Q E hr h => ?_)
  · obtain ⟨o, l, rfl, _⟩ := h
    rfl
  · obtain ⟨o, l, rfl, op, q⟩ := h
    refine ⟨_, pss_one (ps_ret (pe_fld (pv 0) rfl)), ?_⟩
    obtain ⟨dx, tn, ta, tl, ho, hn, ha, hl⟩ := op.ex
    exact ⟨_, rfl, o, C, dx, _, _, rfl, ho, cf.cls, cf.n3, rfl, q tl.1 hl⟩
theorem scPA : FnScope ["self"] ["self"] (defScope mArities) := ⟨rfl, rfl, rfl, by decide +kernel, rfl, by decide +kernel, by decide +kernel⟩
theorem ok_pa {f : Addr} {fd : FuncData} (F : Fun K "arities" "Operators.arities" mArities f fd) (cf : OpF K C) (T : Free mg) : FnOk P w K mg base CX0 1 f fd ["self"] (spPA C) := by
  refine F.ok scPA (fun vs H Q E h => ?_) (fun cdv A outer s H vs Q E hr h => ?_)
  · obtain ⟨o, l, rfl, _⟩ := h
    rfl
  · obtain ⟨o, l, rfl, op, q⟩ := h
    refine ⟨_, pss_one (ps_ret (pe_callTy call_dictD (by rfl) T.dict (by decide +kernel) (pa_cons (pe_fld (pv 0) rfl) pa_nil))), ?_⟩
    obtain ⟨dx, tn, ta, tl, ho, hn, ha, hl⟩ := op.ex
    exact ⟨_, rfl, o, C, dx, _, _, rfl, ho, cf.cls, cf.n2, rfl, ta, _, rfl, .inl ha, q⟩
end
end Pr
/-! ### enumerate over a tuple -/
namespace PySem
namespace EnT
open PySem.W PySem.Calls PyProof.Rows AutoSeq1
section
variable {prog : Program} {w : World} {A : Around} {E : Value → Shared → Prop} {s : Shared} {it t : Addr} {i : Nat} {ys : Array Value}
theorem nextT {x : Value} {Q : Value → Shared → Prop} (hit : s.heap.IsTupleIter it t i) (ht : s.heap.IsTuple t ys) (hx : ys[i]? = some x) (hQ : ∀ h', h'.IsTupleIter it t (i + 1) → Heap.SameBut it s.heap h' → Q x { s with heap := h' }) : wpAny (model prog w) A (Builtin.SmallTypes.nextOf (.ref it)) Q E s := by
  obtain ⟨⟨o, ho, hc, hd⟩, ⟨ot, hot, _, nt, hdt⟩⟩ := And.intro (id hit) ht
  refine (show wpAny _ _ _ _ _ _ from wpAny_bind (wpAny_callSpecial?_slot (name := Str.ofString "__next__") hit.typeIs F.slot_tuple_iterator_next (wpAny_call_entry F.slot_tuple_iterator_next hit.typeIs F.entry_tuple_iterator_next ?_ (F.args_tuple_iterator_next_1 _))))
  refine (show wpAny _ _ (field (.ref it) 0 >>= _) _ _ s from wpAny_bind (wpAny_field ho hd (x := .ref t) rfl ?_))
  refine (show wpAny _ _ (if (Value.ref t == Value.none) = true then _ else _) _ _ s from ?_); rw [if_neg (show ¬ ((Value.ref t == Value.none) = true) from Bool.false_ne_true)]
  refine (show wpAny _ _ (field (.ref it) 1 >>= _) _ _ s from wpAny_bind (wpAny_field ho hd (x := .int i 0) rfl ?_))
  refine (show wpAny _ _ (seqItems? (.ref t) >>= _) _ _ s from wpAny_bind (wpAny_seqItems hot hdt ?_)); simp only [Int.toNat_natCast, hx]
  exact wpAny_bind (wpAny_setField ho hd (by simp) (wpAny_pure ⟨x, rfl, wpAny_pure (hQ _ ⟨_, Heap.get?_update_self _ ho (Obj.isFreed_of_fields (Obj.data_mapFields hd _)), (Obj.cls_mapFields ..).trans hc, by rw [Obj.data_mapFields hd]; simp [rawInt]⟩ (Heap.SameBut.update ..))⟩))
theorem lastT {Q : Value → Shared → Prop} (hh : A.handled = none) (hit : s.heap.IsTupleIter it t i) (ht : s.heap.IsTuple t ys) (hx : ys[i]? = none) (hE : ∀ h' e, Heap.ExtBut it s.heap h' → (∃ o, h'.get? e = some o ∧ o.cls = .type "StopIteration") → E (.ref e) { s with heap := h' }) : wpAny (model prog w) A (Builtin.SmallTypes.nextOf (.ref it)) Q E s := by
  obtain ⟨⟨o, ho, hc, hd⟩, ⟨ot, hot, _, nt, hdt⟩⟩ := And.intro (id hit) ht
  refine (show wpAny _ _ _ _ _ _ from wpAny_bind (wpAny_callSpecial?_slot (name := Str.ofString "__next__") hit.typeIs F.slot_tuple_iterator_next (wpAny_call_entry F.slot_tuple_iterator_next hit.typeIs F.entry_tuple_iterator_next ?_ (F.args_tuple_iterator_next_1 _))))
  refine (show wpAny _ _ (field (.ref it) 0 >>= _) _ _ s from wpAny_bind (wpAny_field ho hd (x := .ref t) rfl ?_))
  refine (show wpAny _ _ (if (Value.ref t == Value.none) = true then _ else _) _ _ s from ?_); rw [if_neg (show ¬ ((Value.ref t == Value.none) = true) from Bool.false_ne_true)]
  refine (show wpAny _ _ (field (.ref it) 1 >>= _) _ _ s from wpAny_bind (wpAny_field ho hd (x := .int i 0) rfl ?_))
  refine (show wpAny _ _ (seqItems? (.ref t) >>= _) _ _ s from wpAny_bind (wpAny_seqItems hot hdt ?_)); simp only [Int.toNat_natCast, hx]
  refine wpAny_bind (wpAny_rule (wpAny_bind (wpAny_setField ho hd (by simp) (show wpAny _ _ (newExc (.type "StopIteration") [] >>= _) _ _ _ from wpAny_bind ?_)))); simp only [newExc, newTuple]
  refine wpAny_bind (wpAny_newObj_type (wpAny_bind (m := firstArgMember _ _) (wpAny_of_eq (a := Value.none) (by first | rfl | (simp only [firstArgMember]; rfl)) (wpAny_newObj_type ?_ (by size_fits)))) (by size_fits)); simp only [raiseNew]
  refine wpAny_bind (wpAny_handled ?_); first | rw [show A.in1.handled = none from hh] | rw [hh]
  exact wpAny_bind (wpAny_pure (wpAny_throw (hE _ _ (((Heap.SameBut.update ..).extBut.push _).push _) ⟨_, Heap.get?_push_size _ rfl, rfl⟩)))
end
theorem drawsT {prog : Program} {w : World} {A : Around} (hh : A.handled = none) (it t : Addr) (hne : t ≠ it) (ys : Array Value) : Draws prog w A it [it, t] ys.size (fun i v => ys[i]? = some v) (fun i h => h.IsTupleIter it t i ∧ h.IsTuple t ys) where
  live := fun _ _ st => let ⟨o, ho, _⟩ := st.1; ⟨o, ho⟩
  frame := fun _ _ _ st hk => ⟨st.1.at fun o e => hk it (by simp) o e, let ⟨o, ho, r⟩ := st.2; ⟨o, hk t (by simp) o ho, r⟩⟩
  item := fun i s Q E hi st hQ => nextT st.1 st.2 (x := ys[i]) (by simp [hi]) fun h' a b => hQ _ h' s.toks (by simp [hi]) ⟨a, st.2.extBut b.extBut hne⟩ b
  done := fun s Q E st hE => lastT hh st.1 st.2 (by simp) hE
end EnT
end PySem
namespace PySem
namespace EnT
open PySem.W PySem.Calls PyProof.Rows AutoSeq1
theorem newT (l : Addr) (ys : Array Value) (n : Nat) (dct : Option Addr) (sl : Array (Option Value)) :
    Meets (Builtin.«enumerate.__new__» ⟨[.type "enumerate", .ref l], []⟩) (fun _ R s => s.heap.get? l = some { cls := .type "tuple", dict := dct, data := .seq ys n, slots := sl } ∧
      R (.ok (.ret (.ref (s.heap.push { cls := .type "tuple_iterator", data := .fields #[.ref l, .int 0 0] }).objs.size)))
        { s with heap := (s.heap.push { cls := .type "tuple_iterator", data := .fields #[.ref l, .int 0 0] }).push { cls := .type "enumerate", data := .fields #[.none, .bool false, .ref s.heap.objs.size, rawInt 0, .none, .none] } }) :=
  .of_wp fun prog w A R s h => by
    obtain ⟨hp, g, d, tk, os⟩ := s; obtain ⟨hl, h⟩ := h
    have c1 := sub_enumerate
    have c2 : Heap.IsTuple (Shared.heap ⟨hp, g, d, tk, os⟩) l ys := ⟨_, hl, rfl, n, rfl⟩
    wp_walk using wpAny_loadPart' hl
    refine wpAny_stack_any fun _ => wpAny_pure (show _ from ?_); split
    · rename_i c _ _ _ _ _
      cases (c == Value.type "enumerate") <;> (wp_walk using wpAny_loadPart' hl, wpAny_pyIter_tuple c2; exact ⟨_, rfl, h⟩)
    · wp_walk using wpAny_loadPart' hl, wpAny_pyIter_tuple c2
      exact ⟨_, rfl, h⟩
theorem callT {prog : Program} {w : World} {A : Around} {E : Value → Shared → Prop} {s : Shared} {l : Addr} {ys : Array Value} {Q : Value → Shared → Prop} (hL : s.heap.IsTuple l ys)
    (h : ∀ h', IsEnum h' (s.heap.objs.size + 1) s.heap.objs.size 0 .none → h'.IsTupleIter s.heap.objs.size l 0 → h'.objs.size = s.heap.objs.size + 2 → (∀ b o, s.heap.get? b = some o → h'.get? b = some o) → Q (.ref (s.heap.objs.size + 1)) { s with heap := h' }) :
    wpAny (model prog w) A (call (.type "enumerate") [.ref l]) Q E s := by
  obtain ⟨⟨c, dct, dt, sl⟩, hl, hc, n, hd⟩ := hL
  cases (show c = .type "tuple" from hc)
  cases (show dt = .seq ys n from hd)
  refine callType_new F.called_enumerate (by decide) (F.typeCall_enumerate_1 _) (F.newCall_enumerate_1 _) (fun o => F.args_object_init_2 o _) F.entry_enumerate_new (newT l ys n dct sl) ⟨hl, ?_⟩
  have z : (s.heap.push { cls := .type "tuple_iterator", data := .fields #[.ref l, .int 0 0] }).objs.size = s.heap.objs.size + 1 := Heap.size_push ..
  refine (show _ ∧ _ from ?_)
  rw [z]
  have e1 : IsEnum ((s.heap.push { cls := .type "tuple_iterator", data := .fields #[.ref l, .int 0 0] }).push { cls := .type "enumerate", data := .fields #[.none, .bool false, .ref s.heap.objs.size, rawInt 0, .none, .none] }) (s.heap.objs.size + 1) s.heap.objs.size 0 .none := by
    have q := Heap.get?_push_size (s.heap.push { cls := .type "tuple_iterator", data := .fields #[.ref l, .int 0 0] }) (o := { cls := .type "enumerate", data := .fields #[.none, .bool false, .ref s.heap.objs.size, rawInt 0, .none, .none] }) rfl
    rw [z] at q
    exact q
  exact ⟨⟨_, e1, rfl⟩, h _ e1 ⟨_, Heap.get?_push_of_some _ (Heap.get?_push_size _ rfl), rfl, rfl⟩ (by rw [Heap.size_push, z]) fun b o x => Heap.get?_push_of_some _ (Heap.get?_push_of_some _ x)⟩
theorem endT {prog : Program} {w : World} {A : Around} {E : Value → Shared → Prop} {s : Shared} {e it t : Addr} {j : Nat} {i : Int} {old : Value} {ys : Array Value} {Q : Option Value → Shared → Prop} (hh : A.handled = none) (he : IsEnum s.heap e it i old) (hit : s.heap.IsTupleIter it t j) (ht : s.heap.IsTuple t ys) (hx : ys[j]? = none)
    (hQ : ∀ h', Heap.ExtBut it s.heap h' → Q none { s with heap := h' }) : wpAny (model prog w) A (pyNext (.ref e)) Q E s := by
  have ty : s.TypeIs (.ref e) "enumerate" := ⟨_, he, rfl⟩
  unfold pyNext
  refine (show wpAny _ _ _ _ _ _ from wpAny_bind (wpAny_attempt (wpAny_callSpecial?_slot (name := Str.ofString "__next__") ty F.slot_enumerate_next (wpAny_call_entry F.slot_enumerate_next ty F.entry_enumerate_next ?_ (F.args_enumerate_next_1 _)))))
  refine (show wpAny _ _ (field (.ref e) 2 >>= _) _ _ _ from wpAny_bind (wpAny_field he rfl (x := .ref it) rfl ?_))
  refine wpAny_bind (lastT (show A.in1.handled = none from hh) hit ht hx fun h' x eb ⟨o, ho, hc⟩ => ?_)
  exact wpAny_bind (wpAny_isInstance (T := "StopIteration") (b := true) ⟨o, ho, hc⟩ isSubtype_stop (wpAny_pure (hQ _ eb)))
end EnT
end PySem
namespace L2
open PySem PySem.Spec PyProof.Rows
/-- the tuple at a, each item in a new pair -/
def Iet (K : PySem.W.Frag) (a : Addr) : It :=
  ⟨fun i H => ∃ (xs : List V) (x : V), SqT K H a xs ∧ xs[i]? = some x, fun i H v H' => ∃ U x, v = .ref U ∧ H U = none ∧ H' = upd H U (.tup [.int (i : Nat), x]) ∧ ∀ xs, SqT K H a xs → xs[i]? = some x, fun i H => ∃ xs : List V, SqT K H a xs ∧ xs.length ≤ i⟩
theorem turn_enT {P : Program} {w : World} {K : PySem.W.Frag} {elts : List Expr} {kk : Nat} {tpos : Pos} (a e it : Addr) (ne2 : a ≠ it) (ne3 : a ≠ e) :
    Turn P w K (.Tuple elts kk tpos) (Iet K a) [e, it] e (fun i h => (∃ old, IsEnum h e it ((i : Nat) : Int) old) ∧ h.IsTupleIter it a i ∧ e ≠ it) where
  mem := by simp
  obj := fun i h ⟨⟨old, he⟩, ⟨o, ho, hc, hd⟩, _⟩ b hb => by
    rcases (show b = e ∨ b = it by simpa using hb) with z | z
    · rw [z]; exact ⟨_, he, fun v q => nomatch q⟩
    · rw [z]; exact ⟨o, ho, fun v q => by rw [hd] at q; cases q⟩
  keep := fun i h h' ⟨⟨old, he⟩, hi, hne⟩ k => ⟨⟨old, k e (by simp) _ he⟩, hi.at fun o q => k it (by simp) o q, hne⟩
  item := by
    intro X hP hw hK hc i pins s σ H E I hf ⟨⟨old, he⟩, hit, hne⟩ ⟨xs, x, hq, hx⟩
    subst hP hw hK
    obtain ⟨its, rv, p, hz⟩ := I.tuple hq
    obtain ⟨u, hu, ru⟩ := rv.get hx
    have l1 : e < s.heap.objs.size := Heap.lt_size he
    have l2 : it < s.heap.objs.size := by obtain ⟨_, q, _⟩ := hit; exact Heap.lt_size q
    have hi : i < its.toArray.size := by
      have := (List.getElem?_eq_some_iff.mp hu).1
      simpa using this
    have D := PySem.EnT.drawsT (prog := X.prog) (w := X.w) (A := X.A.in1) (show X.A.in1.handled = none from I.ok.hd hc) it a ne2 its.toArray
    refine wpAny_pyNext_enum_itemD D he ⟨hit, (show s.heap.IsTuple a its.toArray from p)⟩ hi hne (by simp [hne, Ne.symm ne3]) fun x' h' tk hP ho hit' hT hsz hk => ?_
    have ex : x' = u := by
      have q : its.toArray[i]? = some x' := hP
      rw [List.getElem?_toArray, hu] at q
      exact (Option.some.inj q).symm
    subst ex
    refine ⟨_, rfl, wpAny_letOwnedTupleGo_enum (s := { s with heap := h', toks := tk + 1 }) ho fun h'' he' sb => ?_⟩
    have t2 : h''.get? s.heap.objs.size = some { cls := .type "tuple", data := .seq #[.int i tk, x'] } := (sb.2 _ (Nat.ne_of_gt l1)).trans hT
    have fresh : ObjOk X.prog X.w (upd H s.heap.objs.size (.tup [.int (i : Nat), x])) h'' s.heap.objs.size (.tup [.int (i : Nat), x]) := ⟨by show 2 ≤ sizeLine; decide, [.int i tk, x'], .cons ⟨_, rfl⟩ (.cons ru .nil), ⟨_, t2, rfl, _, rfl⟩⟩
    have J : Inv X pins σ (upd H s.heap.objs.size (.tup [.int (i : Nat), x])) { s with heap := h'', toks := tk + 1 } := I.turnedNew (ch := [e, it]) (fun b ob hb q => (sb.2 b (fun z => hb (by simp [z]))).trans (hk b ob (fun z => hb (by simp [z])) (fun z => hb (by simp [z])) q)) hf (Nat.le_refl _) fresh
    refine ⟨.ref s.heap.objs.size, _, J, rfl, ⟨_, x, rfl, I.hok.fresh (Nat.le_refl _), rfl, fun zs hy => by rw [I.tuple_inj hy hq]; exact hx⟩, ⟨⟨x', ?_⟩, hit'.1.at fun o q => (sb.2 it (Ne.symm hne)).trans q, hne⟩, fun b hb => ?_⟩
    · rw [show ((i + 1 : Nat) : Int) = (i : Int) + 1 by omega]
      exact he'
    · have lb : b < s.heap.objs.size := by
        rcases (show b = e ∨ b = it by simpa using hb) with z | z <;> rw [z] <;> assumption
      rw [upd_ne (Nat.ne_of_lt lb)]
      exact (hf b hb).1
  done := by
    intro X hP hw hK hc i pins s σ H E I hf ⟨⟨old, he⟩, hit, hne⟩ ⟨xs, hq, hx⟩
    subst hP hw hK
    obtain ⟨its, rv, p, hz⟩ := I.tuple hq
    obtain ⟨f0, f1, f2, f3, f4, f5⟩ := hf it (by simp)
    have hl := rv.length
    exact PySem.EnT.endT (I.ok.hd hc) he hit (show s.heap.IsTuple a its.toArray from p) (by simp; omega) fun h' eb => ⟨rfl, I.turned (t' := s.toks) (fun b o hb q => eb b o hb q) f0 f1 f3 f4 f5⟩
  self := fun A i s Q E ⟨⟨_, he⟩, _⟩ h => wpAny_pyIter_enum he h
def iEnumT (K : PySem.W.Frag) (ta : TA) : TI := fun σ H R => ta σ H fun vs H1 => ∃ a xs, vs = [.ref a] ∧ SqT K H1 a xs ∧ R (Iet K a) H1
/-- enumerate(a tuple) -/
theorem pi_enumT {X : Cx} {e : Expr} {ta : TA} {p pos tpos : Pos} {elts : List Expr} {kk : Nat} (hg : Gl X "enumerate") (hm : X.mg "enumerate" = none) (ha : PA X [e] ta) (hs : starEach [e] X.env = [(false, eval e X.env)] := by rfl) : PI X (.Tuple elts kk tpos) (.Call (.Name "enumerate" p) [e] [] pos) (iEnumT X.K ta) := by
  refine ⟨fun pins s σ H R I h => ?_⟩
  refine Call_ (ld_blt I hg hm boot_enumerate (PyProof.Rows.callWith_type1 (thn (ha.run pos pins s σ H _ I h) fun us s1 ⟨vs, H1, I1, r1, a, xs, ex, hq, q⟩ => ?_) hs rfl))
  subst ex
  rw [Vals.ref1 r1]
  obtain ⟨its, rv, pt, hz⟩ := I1.tuple hq
  have old : a < s1.heap.objs.size := by
    obtain ⟨o, ho, _⟩ := (show s1.heap.IsTuple a its.toArray from pt)
    exact Heap.lt_size ho
  refine PySem.EnT.callT (show s1.heap.IsTuple a its.toArray from pt) fun h' he hit hsz hk => wpAny_pyIter_enum he ?_
  have I2 : Inv X pins σ H1 { s1 with heap := h' } := I1.kept (t' := s1.toks) hk
  refine ⟨s1.heap.objs.size + 1, [s1.heap.objs.size + 1, s1.heap.objs.size], _, _, H1, rfl, I2, turn_enT a (s1.heap.objs.size + 1) s1.heap.objs.size (Nat.ne_of_lt old) (Nat.ne_of_lt (Nat.lt_succ_of_lt old)), ⟨⟨.none, he⟩, hit, Nat.succ_ne_self _⟩, fun b hb => ?_, q⟩
  have hle : s1.heap.objs.size ≤ b := by
    rcases (show b = s1.heap.objs.size + 1 ∨ b = s1.heap.objs.size by simpa using hb) with z | z
    · rw [z]; exact Nat.le_succ _
    · rw [z]; exact Nat.le_refl _
  exact I1.fpOk hle (I1.hok.fresh hle)
theorem walk_enumT {K : PySem.W.Frag} {a : Addr} {xs : List V} : Walk (Iet K a) xs.length (fun H => SqT K H a xs) (YPair (fun i => some (.int (i : Nat))) (fun i => xs[i]?)) := by
  refine ⟨fun i _ hi q => ⟨xs, xs[i], q, by simp [hi]⟩, fun _ q => ⟨xs, q, Nat.le_refl _⟩, fun i H v H' _ q y => ?_⟩
  obtain ⟨U, x, h1, h2, h3, h4⟩ := y
  exact ⟨U, .int (i : Nat), x, h1, h2, h3, rfl, h4 xs q⟩
end L2
/-! ### {**d, k: v} -/
namespace Du
theorem twice {R A : Prop} (f : R → A) (r : R) : A := f r
open PySem PySem.Spec PyProof.Rows L2
section
variable {prog : Program} {w : World} {K : Type} [DecidableEq K] {knd : KeyKind prog w K} {A : Around} {E : Value → Shared → Prop} {s : Shared}
/-- a key that isn't there goes to the end -/
theorem put_fresh {d : Addr} {old : List (K × Value)} {k : K} {kv vv : Value} {Q : Unit → Shared → Prop} (is : knd.is k kv = true) (at_ : s.heap.DictOf knd d old) (few : old.length ≤ sizeLine) (fresh : k ∉ old.map (·.1))
    (then_ : ∀ h2, h2.DictOf knd d (old ++ [(k, vv)]) → Heap.SameBut d s.heap h2 → Q () { s with heap := h2 }) : wpAny (model prog w) A (dictPut d (knd.hash k) kv vv) Q E s := by
  obtain ⟨ob, rows, age, there, exact_, dat, ks, prs, ndk⟩ := at_
  have sz : rows.size ≤ sizeLine := by
    have e := prs.length
    rw [Array.length_toList] at e
    omega
  have no : (rows.findIdx? fun e => knd.is k e.key) = none := by
    have e1 := prs.findIdx k
    have e2 : (old.findIdx? fun kv => decide (kv.1 = k)) = none := by
      rw [List.findIdx?_eq_none_iff]
      intro x hx
      exact decide_eq_false fun e => fresh (e ▸ List.mem_map_of_mem hx)
    rw [e2] at e1
    rw [← e1]
    obtain ⟨l⟩ := rows
    simp
  unfold dictPut
  refine wpAny_bind (wpAny_dictFind_of is there dat ks ?_)
  rw [no]
  refine wpAny_updateDictKeys (hz := sz) there dat (then_ _ ⟨_, _, age + 1, Heap.get?_update_self _ there (Obj.isFreed_of_dict (Obj.data_mapDictKeys dat _)), exact_.mapDictKeys _,
    Obj.data_mapDictKeys dat _, ks.push is _, ?_, ?_⟩ (Heap.SameBut.update ..))
  · have := prs.append is (knd.hash k) vv
    obtain ⟨l⟩ := rows
    simpa using this
  · rw [List.map_append, List.nodup_append]
    refine ⟨ndk, by simp, fun x hx y hy e => ?_⟩
    rw [List.map_cons, List.map_nil, List.mem_singleton] at hy
    rw [e, hy] at hx
    exact fresh hx
/-- all of one dict behind what another one has -/
theorem merge_fresh {d a : Addr} {acc more : List (K × Value)} {Q : Unit → Shared → Prop} (da : d ≠ a) (sys : (a == sysModules) = false) (hd : s.heap.DictOf knd d acc) (ha : s.heap.DictOf knd a more) (nodup : ((acc ++ more).map (·.1)).Nodup)
    (few : acc.length + more.length ≤ sizeLine) (byV : ∀ (k : K) (v : Value), knd.is k v = true → ∀ b, v ≠ .ref b)
    (then_ : ∀ h2, h2.DictOf knd d (acc ++ more) → Heap.SameBut d s.heap h2 → Q () { s with heap := h2 }) : wpAny (model prog w) A (mergeMapping d (.ref a) false) Q E s := by
  have tyA := ha.typeIs
  obtain ⟨od, rd, gd, atd, exd, datd, ksd, prd, ndd⟩ := id hd
  obtain ⟨oa, ra, ga, ata, exa, data_, ksa, pra, nda⟩ := id ha
  have len : more.length = ra.size := by
    rw [← pra.length]
    simp
  unfold mergeMapping
  refine wpAny_bind (wpAny_isInstance (T := "dict") (U := "dict") (b := true) tyA (by rw [isSubtype_type]; kernel_rfl) ?_)
  rw [if_pos rfl]
  refine wpAny_bind (wpAny_specialOf tyA F.slot_dict_iter.lookup ?_)
  refine wpAny_bind (wpAny_pure ?_)
  have e : (some (Value.builtin "dict.__iter__") == some (Value.builtin "dict.__iter__")) = true := by decide +kernel
  rw [e]
  dsimp only
  rw [if_neg (by rw [sys]; exact Bool.false_ne_true)]
  refine wpAny_bind (wpAny_dictEntries atd datd ?_)
  apply twice
  · intro rest
    refine wpAny_ite_split (fun _ => ?_) (fun _ => ?_)
    · refine wpAny_bind (wpAny_dictEntries ata data_ ?_)
      refine wpAny_bind ?_
      rw [← Array.forIn_toList]
      refine wpAny_forIn_list _ (fun l _ s' => s' = s ∧ ∀ e ∈ l, e ∈ ra) _ ?_ ?_ _ _ ⟨rfl, fun e he => Array.mem_toList_iff.mp he⟩
      · rintro e l b s' ⟨es, hin⟩
        rw [es]
        obtain ⟨k, hk, _⟩ := ksa e (hin e List.mem_cons_self)
        have no := byV k e.key hk
        split
        · rename_i b eb
          exact absurd eb (no b)
        · exact wpAny_pure ⟨rfl, fun x hx => hin x (List.mem_cons_of_mem _ hx)⟩
      · rintro b s' ⟨es, _⟩
        rw [es]
        exact rest
    · exact rest
  refine wpAny_bind (wpAny_dictEntries ata data_ ?_)
  refine wpAny_bind (wpAny_dictEpoch ata data_ ?_)
  refine wpAny_bind ?_
  refine wpAny_forIn_list _ (fun l _ s' => ∃ (h2 : Heap) (i : Nat), s' = { s with heap := h2 } ∧ l = List.range' i (ra.size - i) ∧ i ≤ ra.size ∧ h2.DictOf knd d (acc ++ more.take i) ∧ h2.get? a = some oa ∧ Heap.SameBut d s.heap h2) _ ?_ ?_ _ _
    ⟨s.heap, 0, rfl, by rw [List.range_eq_range', Nat.sub_zero], Nat.zero_le _, by rw [List.take_zero, List.append_nil]; exact hd, ata, Heap.SameBut.refl _ _⟩
  · rintro x l b s' ⟨h2, i, rfl, el, hi, hd2, ata2, same⟩
    have lt : i < ra.size := by
      rcases Nat.lt_or_ge i ra.size with h | h
      · exact h
      · rw [Nat.sub_eq_zero_of_le h] at el
        cases el
    have e1 : ra.size - i = (ra.size - (i + 1)) + 1 := by omega
    rw [e1, List.range'_succ] at el
    injection el with ex el
    subst ex
    refine wpAny_bind (wpAny_dictEntries ata2 data_ ?_)
    rw [Array.getElem?_eq_getElem lt]
    have ltm : x < more.length := by omega
    obtain ⟨hk, hv⟩ := pra.get? (i := x) (e := ra[x]) (k := more[x].1) (v := more[x].2) (by rw [Array.getElem?_toList, Array.getElem?_eq_getElem lt]) (List.getElem?_eq_getElem ltm)
    obtain ⟨k2, hk2, hh⟩ := ksa ra[x] (Array.getElem_mem lt)
    have ek : k2 = more[x].1 := knd.inj _ _ _ hk2 hk
    subst ek
    have split_ : more = more.take x ++ more[x] :: more.drop (x + 1) := by rw [List.getElem_cons_drop, List.take_append_drop]
    have fresh : more[x].1 ∉ (acc ++ more.take x).map (·.1) := fun m => by
      have nd2 := nodup
      rw [split_, ← List.append_assoc, List.map_append, List.nodup_append] at nd2
      exact nd2.2.2 _ m _ (List.mem_map_of_mem List.mem_cons_self) rfl
    refine wpAny_bind (wpAny_holding ?_)
    rw [if_neg Bool.false_ne_true, hh, hv]
    have few2 : (acc ++ more.take x).length ≤ sizeLine := by
      rw [List.length_append, List.length_take]
      omega
    refine put_fresh hk hd2 few2 fresh fun h3 hd3 same3 => ?_
    have ata3 : h3.get? a = some oa := (same3.2 a (Ne.symm da)).trans ata2
    refine wpAny_bind (wpAny_dictEpoch ata3 data_ ?_)
    rw [if_neg (by simp)]
    refine wpAny_pure ⟨h3, x + 1, rfl, el, lt, ?_, ata3, same.trans same3⟩
    rw [List.take_add_one, List.getElem?_eq_getElem ltm, ← List.append_assoc]
    exact hd3
  · rintro b s' ⟨h2, i, rfl, el, hi, hd2, ata2, same⟩
    have ei : i = ra.size := by
      rcases Nat.lt_or_ge i ra.size with h | h
      · have e1 : ra.size - i = (ra.size - (i + 1)) + 1 := by omega
        rw [e1, List.range'_succ] at el
        cases el
      · omega
    rw [ei, ← len, List.take_length] at hd2
    exact wpAny_pure (then_ h2 hd2 same)
end
/-- {**d, k: v}: a new dict with all of d and, at its end, one key more -/
def tDunp (t0 tk tv : TE) : TE := fun σ H Q => ∀ p, H p = none → t0 σ (upd H p (.dK [])) fun x H1 => ∃ (a : Addr) (kvs : List (Key × V)), x = .ref a ∧ a ≠ p ∧ H1 p = some (.dK []) ∧ H1 a = some (.dK kvs) ∧
  ∀ q, (upd H1 p (.dK kvs)) q = none → tk σ (upd (upd H1 p (.dK kvs)) q (.dK [])) fun y H2 => tv σ H2 fun z H3 => ∃ k : Key, y = kV k ∧ H3 q = some (.dK []) ∧ H3 p = some (.dK kvs) ∧ k ∉ kvs.map (·.1) ∧ kvs.length < 1000 ∧
    Q (.ref p) (upd (upd H3 q (.dK [(k, z)])) p (.dK (kvs ++ [(k, z)])))
theorem key_byV {prog : Program} {w : World} (k : Key) (v : Value) (h : (mixKind prog w).is k v = true) (b : Addr) : v ≠ .ref b := by
  rcases keyIs_shape (k := k) (v := v) h with ⟨i, t, _, rfl⟩ | ⟨x, t, _, rfl⟩ <;> intro e <;> cases e
theorem KV.keys {kvs : List (Key × V)} {vs : List (Key × Value)} (r : KV kvs vs) : vs.map (·.1) = kvs.map (·.1) := by
  unfold KV at r
  induction r with
  | nil => rfl
  | cons h t ih => rw [List.map_cons, List.map_cons, ih, h.1]
theorem KV.app {kvs ks2 : List (Key × V)} {vs vs2 : List (Key × Value)} (r : KV kvs vs) (r2 : KV ks2 vs2) : KV (kvs ++ ks2) (vs ++ vs2) := by
  unfold KV at r
  induction r with
  | nil => exact r2
  | cons h t ih => exact .cons h ih
section
variable {X : Cx} {pos : Pos} {e0 k v : Expr} {t0 tk tv : TE}
theorem pe_dunp (h0 : PE X e0 t0) (hk : PE X k tk) (hv : PE X v tv) : PE X (.Dict [none, some k] [e0, v] pos) (tDunp t0 tk tv) := by
  refine ⟨fun pins s σ H Q I q => ?_⟩
  have hn := I.hok.fresh (Nat.le_refl s.heap.objs.size)
  have I1 := I.laid (a := s.heap.objs.size) (o := .dK []) (h' := s.heap.push { cls := .type "dict", data := .dict #[] }) (t' := s.toks) (fun _ _ q => Heap.get?_push_of_some _ q) (Nat.le_refl _) (dk_empty s.heap I.big)
  rw [arm_eval_Dict]
  refine wpAny_bind (wpAny_standAt ?_)
  have items : (evalEachOpt [none, some k] X.env).zip ((evalEach [e0, v] X.env).map fun v => do let x ← v; standAt pos; pure x) =
    [(none, do let x ← eval e0 X.env; standAt pos; pure x), (some (eval k X.env), do let x ← eval v X.env; standAt pos; pure x)] := rfl
  rw [items]
  unfold dictDisplay
  simp only [List.forIn_cons, List.forIn_nil]
  refine wpAny_bind (wpAny_bind ?_)
  refine wpAny_bind (wpAny_of_eq (a := none) rfl ?_)
  dsimp only
  refine wpAny_bind (wpAny_alloc ?_)
  refine wpAny_bind (wpAny_holding (wpAny_bind (thn (h0.run pins _ σ _ _ I1 (q _ hn)) fun u s1 ⟨x, H1, I2, rx, a, kvs, ex, ap, hp1, ha1, q1⟩ => wpAny_bind (wpAny_standAt (wpAny_pure ?_)))))
  subst ex
  obtain rfl : u = Value.ref a := rx
  obtain ⟨za, sysa, va, ra, da⟩ := dk_of I2.hok ha1
  obtain ⟨zp, sysp, vp, rp, dp⟩ := dk_of I2.hok hp1
  cases rp
  have nda : ((([] : List (Key × Value)) ++ va).map fun (x : Key × Value) => x.1).Nodup := by
    obtain ⟨_, _, _, _, _, _, _, _, nd⟩ := da
    rw [List.nil_append]
    exact nd
  have lva : kvs.length = va.length := Paired.length ra
  refine wpAny_bind (wpAny_onRaise (wpAny_tryCatch (wpAny_onRaise (wpAny_holding (merge_fresh (knd := mixKind X.prog X.w) (Ne.symm ap) sysa dp da nda (by rw [List.length_nil]; omega) key_byV fun h2 dp2 same2 => wpAny_pure (wpAny_pure ?_))))))
  rw [List.nil_append] at dp2
  have hpe : ∃ q, h2.get? s.heap.objs.size = some q := let ⟨q, _, _, hq, _⟩ := dp2; ⟨q, hq⟩
  have I3 := d_write (t' := s1.toks) I2 (a := s.heap.objs.size) (ob := .dK kvs) (by rw [hp1]; exact True.intro) same2 hpe (dk_new za sysp ra dp2)
  dsimp only
  refine wpAny_bind ?_
  show wpAny _ _ (holding [.ref s.heap.objs.size] (subDict (pairTrees [some k] [v] X.env pos)) >>= _) _ _ _
  have nq : (upd H1 s.heap.objs.size (.dK kvs)) h2.objs.size = none := I3.hok.fresh (Nat.le_refl _)
  have I4 := I3.laid (a := h2.objs.size) (o := .dK []) (h' := h2.push { cls := .type "dict", data := .dict #[] }) (t' := s1.toks) (fun _ _ q => Heap.get?_push_of_some _ q) (Nat.le_refl _) (dk_empty h2 I3.big)
  refine wpAny_bind (wpAny_holding (wpAny_subDict (knd := mixKind X.prog X.w) (by rw [pairTrees_length _ _ _ _ rfl rfl]; show 1 ≤ 15; decide) ?_))
  refine pairTrees_cons_walk (thn (hk.run pins _ σ _ _ I4 (q1 _ nq)) fun kv s2 ⟨y, H2, I5, ry, q2⟩ => thn (hv.run pins s2 σ H2 _ I5 q2) fun vv s3 ⟨z, H3, I6, rz, key, ey, hq3, hp3, fresh, few, q3⟩ => pairTrees_nil_walk ?_)
  subst ey
  obtain ⟨zq, sysq, vq, rq, dq⟩ := dk_of I6.hok hq3
  cases rq
  refine ⟨[(key, vv)], ⟨kV_is ry, rfl, True.intro⟩, dq, fun h4 dq4 same4 => ?_⟩
  have dq5 : h4.DictOf (mixKind X.prog X.w) h2.objs.size [(key, vv)] := dq4
  have hqe : ∃ q, h4.get? h2.objs.size = some q := let ⟨q, _, _, hq, _⟩ := dq5; ⟨q, hq⟩
  have I7 := d_write (t' := s3.toks + 1) I6 (a := h2.objs.size) (ob := .dK [(key, z)]) (by rw [hq3]; exact True.intro) same4 hqe (dk_new (by show 1 ≤ sizeLine; decide) sysq (.cons ⟨rfl, rz⟩ .nil) dq5)
  have pq : s.heap.objs.size ≠ h2.objs.size := fun e => by
    rw [← e, upd_same] at nq
    cases nq
  have hp7 : (upd H3 h2.objs.size (.dK [(key, z)])) s.heap.objs.size = some (.dK kvs) := by
    rw [upd_ne pq]
    exact hp3
  obtain ⟨zp7, sysp7, vp7, rp7, dp7⟩ := dk_of I7.hok hp7
  have nd7 : ((vp7 ++ [(key, vv)]).map fun (x : Key × Value) => x.1).Nodup := by
    obtain ⟨_, _, _, _, _, _, _, _, nd⟩ := id dp7
    rw [List.map_append, List.nodup_append]
    refine ⟨nd, by simp, fun x hx y hy e => ?_⟩
    rw [KV.keys rp7] at hx
    rw [List.map_cons, List.map_nil, List.mem_singleton] at hy
    rw [e, hy] at hx
    exact fresh hx
  have lv7 : kvs.length = vp7.length := Paired.length rp7
  refine wpAny_bind (wpAny_onRaise (wpAny_holding (merge_fresh (knd := mixKind X.prog X.w) pq sysq dp7 dq5 nd7 (by rw [sizeLine_eq, ← lv7]; simp only [List.length_cons, List.length_nil]; omega) key_byV fun h5 dp8 same5 => wpAny_pure ?_)))
  have hpe5 : ∃ q, h5.get? s.heap.objs.size = some q := let ⟨q, _, _, hq, _⟩ := dp8; ⟨q, hq⟩
  have I8 := d_write (t' := s3.toks + 1) I7 (a := s.heap.objs.size) (ob := .dK (kvs ++ [(key, z)])) (by rw [hp7]; exact True.intro) same5 hpe5
    (dk_new (by rw [List.length_append, sizeLine_eq]; simp only [List.length_cons, List.length_nil]; omega) sysp7 (KV.app rp7 (.cons ⟨rfl, rz⟩ .nil)) dp8)
  exact wpAny_pure ⟨.ref s.heap.objs.size, _, I8, rfl, q3⟩
end
end Du
/-! ### tuple.count; t[:h:-1]; list.extend(t) -/
namespace Tb
open PySem PySem.Spec PyProof.Rows L2
/-- how often a flat value stands in a tuple of flat values -/
def rTCnt (K : PySem.W.Frag) : V → List V → Hp → VK → Prop := fun x xs H Q => ∃ (p : Addr) (ys : List V) (z : V), x = .ref p ∧ xs = [z] ∧ SqT K H p ys ∧ flatV z = true ∧ ys.all flatV = true ∧ Q (.int (ys.countP fun y => eqV y z : Nat)) H
theorem count_eqU {x : V} : ∀ {xs : List V} {us : List Value}, Vals xs us → xs.all flatV = true → us.countP (eqU x) = xs.countP fun y => eqV y x
  | _, _, .nil, _ => rfl
  | y :: xs, u :: us, .cons r t, f => by
    rw [List.all_cons, Bool.and_eq_true] at f
    rw [List.countP_cons, List.countP_cons, eqU_of r f.1, count_eqU t f.2]
theorem mt_tcount {X : Cx} : MtR X "tuple.count" (rTCnt X.K) := by
  intro pins s σ H x xs v us Q I rx rxs h
  obtain ⟨p, ys, z, rfl, rfl, ht, fz, fs, q⟩ := h
  cases rx
  obtain ⟨u, rfl, ru⟩ := rxs.one
  obtain ⟨its, rel, ⟨⟨ocl, odi, oda, osl⟩, hat, hcl, cnt, hda⟩, _⟩ := I.tuple ht
  dsimp only at hcl hda
  subst hcl hda
  have each : ∀ y, y ∈ its.toArray → SeqAt.EqAt X.A.in1 s y u (eqU z y) := fun y hy => mem_eqAt ru fz rel fs y (by simpa using hy)
  refine call_meets PySem.F.slot_tuple_count ⟨_, hat, rfl⟩
    PySem.F.entry_tuple_count (PySem.F.args_tuple_count_2 _ _)
    (SeqAt.tuple_countAt p its.toArray cnt odi osl u (eqU z)) ⟨hat, each, ?_⟩
  have e : its.toArray.toList.countP (eqU z) = ys.countP fun y => eqV y z := count_eqU rel fs
  refine ⟨.int (ys.countP fun y => eqV y z : Nat), H, I.tok _, ⟨s.toks, ?_⟩, q⟩
  show Value.int ((its.toArray.toList.countP (eqU z) : Nat) : Int) s.toks = _
  rw [e]
theorem fm_congr {α β : Type} {f g : α → Option β} : ∀ {l : List α}, (∀ x ∈ l, f x = g x) → l.filterMap f = l.filterMap g
  | [], _ => rfl
  | x :: l, h => by rw [List.filterMap_cons, List.filterMap_cons, h x List.mem_cons_self, fm_congr fun y m => h y (List.mem_cons_of_mem _ m)]
theorem back_pick (xs : Array Value) {h : Nat} (hh : h < xs.size) : ((List.range (xs.size - 1 - h)).filterMap fun (k : Nat) => xs[(((xs.size : Int) - 1) + (k : Int) * (-1)).toNat]?).toArray = ((xs.toList.drop (h + 1)).reverse).toArray := by
  congr 1
  have len : (xs.toList.drop (h + 1)).reverse.length = xs.size - 1 - h := by
    rw [List.length_reverse, List.length_drop, Array.length_toList]
    omega
  have all : ∀ l : List Value, (List.range l.length).filterMap (fun k => l[k]?) = l := fun l => by
    induction l with
    | nil => rfl
    | cons a l ih =>
      rw [List.length_cons, List.range_succ_eq_map, List.filterMap_cons]
      show a :: ((List.range l.length).map Nat.succ).filterMap (fun k => (a :: l)[k]?) = a :: l
      rw [List.filterMap_map]
      exact congrArg (a :: ·) ih
  have e := all (xs.toList.drop (h + 1)).reverse
  rw [len] at e
  refine Eq.trans ?_ e
  refine fm_congr fun k hk => ?_
  have hk := List.mem_range.mp hk
  rw [List.getElem?_reverse (by rw [List.length_drop, Array.length_toList]; omega), List.getElem?_drop, List.length_drop, Array.length_toList, Array.getElem?_toList]
  congr 1
  omega
section
variable {prog : Program} {w : World} {A : Around} {E : Value → Shared → Prop} {s : Shared}
theorem applied_back {sl : Addr} {vl vu vs : Value} {h n : Nat} {Q : Int × Int × Nat → Shared → Prop} (so : s.heap.IsSliceOf sl vl vu vs) (p0 : IsPart vl none) (p1 : IsPart vu (some (h : Int))) (p2 : IsPart vs (some (-1))) (hn : h < n)
    (k : Q ((n : Int) - 1, -1, n - 1 - h) s) : wpAny (model prog w) A (Builtin.Slice.sliceApplied (.ref sl) (pure (n : Int))) Q E s := by
  obtain ⟨ob, at_, _, dat⟩ := id so
  unfold Builtin.Slice.sliceApplied Builtin.Slice.sliceFields
  refine wpAny_bind (wpAny_bind (wpAny_field at_ dat (x := vl) rfl ?_))
  refine wpAny_bind (wpAny_field at_ dat (x := vu) rfl ?_)
  refine wpAny_bind (wpAny_field at_ dat (x := vs) rfl (wpAny_pure ?_))
  refine wpAny_bind (HT.slicePart_ p2 ?_)
  show wpAny _ _ (if ((-1 : Int) == 0) = true then _ else _) _ _ s
  rw [if_neg (by decide)]
  refine wpAny_bind (HT.slicePart_ p0 ?_)
  refine wpAny_bind (HT.slicePart_ p1 ?_)
  refine wpAny_bind (wpAny_pure ?_)
  have adj : Builtin.Slice.sliceAdjust none (some (h : Int)) (-1) (n : Int) = ((n : Int) - 1, (h : Int)) := by
    unfold Builtin.Slice.sliceAdjust
    have e : ¬ ((h : Int) < 0) := by omega
    have e2 : min (h : Int) ((n : Int) - 1) = h := by omega
    simp [e, e2]
  have pl : Builtin.Slice.slicePlaces ((n : Int) - 1) (h : Int) (-1) = n - 1 - h := by
    unfold Builtin.Slice.slicePlaces
    rw [if_neg (by decide)]
    by_cases c : (n : Int) - 1 > (h : Int)
    · rw [if_pos c]
      have e : ((n : Int) - 1 - (h : Int) - 1) / (- -1) = (n : Int) - 1 - (h : Int) - 1 := by
        rw [show (- -1 : Int) = 1 by decide, Int.ediv_one]
      rw [e]
      omega
    · rw [if_neg c]
      omega
  show wpAny _ _ (match Builtin.Slice.sliceAdjust none (some (h : Int)) (-1) (n : Int) with | (lo, hi) => pure (lo, (-1 : Int), Builtin.Slice.slicePlaces lo hi (-1))) _ _ s
  rw [adj]
  show wpAny _ _ (pure ((n : Int) - 1, (-1 : Int), Builtin.Slice.slicePlaces ((n : Int) - 1) (h : Int) (-1))) _ _ s
  rw [pl]
  exact wpAny_pure k
theorem item_back {t sl : Addr} {items : Array Value} {vl vu vs : Value} {h : Nat} {Q : Value → Shared → Prop} (tt : IsTup s.heap t items) (so : s.heap.IsSliceOf sl vl vu vs) (p0 : IsPart vl none) (p1 : IsPart vu (some (h : Int))) (p2 : IsPart vs (some (-1))) (hn : h < items.size) (few : items.size ≤ sizeLine)
    (k : Q (.ref s.heap.objs.size) { s with heap := s.heap.push { cls := .type "tuple", data := .seq ((items.toList.drop (h + 1)).reverse).toArray } }) : wpAny (model prog w) A (getItem (.ref t) (.ref sl)) Q E s := by
  have okSize : sizeOk (.seq ((items.toList.drop (h + 1)).reverse).toArray) := by
    show ((items.toList.drop (h + 1)).reverse).toArray.size ≤ sizeLine
    rw [List.size_toArray, List.length_reverse, List.length_drop, Array.length_toList]
    omega
  obtain ⟨ob, at_, cl, dat⟩ := id so
  have tyS : s.TypeIs (.ref sl) "slice" := ⟨ob, at_, cl⟩
  unfold getItem
  refine wpAny_holding ?_
  refine wpAny_bind (wpAny_sequenceKey tt.typeIs (by decide) ?_)
  refine wpAny_bind (wpAny_callSpecial?_slot (name := Str.ofString "__getitem__") tt.typeIs PyProof.Rows.slot_tuple_getitem
    (wpAny_call_entry PyProof.Rows.slot_tuple_getitem tt.typeIs PyProof.Rows.entry_tuple_getitem ?_ (PyProof.Rows.args_tuple_getitem _ _)))
  show wpAny _ _ (Builtin.Tuple.tupleItemsOf (.ref t) >>= _) _ _ s
  refine wpAny_bind (PyProof.Rows.tupleItemsOf_ tt ?_)
  refine wpAny_bind (wpAny_typeOf tyS ?_)
  rw [if_pos (by decide)]
  refine wpAny_bind (applied_back so p0 p1 p2 hn ?_)
  show wpAny _ _ (if (((items.size : Int) - 1) == 0 && (-1 : Int) == 1 && (items.size - 1 - h) == items.size) = true then _ else _) _ _ s
  have no : ¬ ((((items.size : Int) - 1) == 0 && (-1 : Int) == 1 && (items.size - 1 - h) == items.size) = true) := by
    rw [show ((-1 : Int) == 1) = false by decide, Bool.and_false, Bool.false_and]
    exact Bool.false_ne_true
  rw [if_neg no, back_pick items hn]
  exact wpAny_bind (m := Builtin.Tuple.tupleExact _) (wpAny_newObj_type (wpAny_pure ⟨_, rfl, wpAny_pure k⟩) okSize)
end
/-- t[:h:-1] -/
def tRevUp (K : PySem.W.Frag) (te th : TE) : TE := fun σ H Q => te σ H fun x H1 => tPart th σ H1 fun y H2 => ∃ (a : Addr) (xs : List V) (h : Nat), x = .ref a ∧ y = some (h : Int) ∧ SqT K H2 a xs ∧ h < xs.length ∧ ∀ p, H2 p = none → Q (.ref p) (upd H2 p (.tup (xs.drop (h + 1)).reverse))
section
variable {X : Cx}
theorem pe_revUp {e eh : Expr} {te th : TE} {c : Nat} {p1 p2 p3 pos : Pos} (he : PE X e te) (hh : PE X eh th) : PE X (.Subscript e (.Slice none (some eh) (some (.UnaryOp .USub (.Constant (.int 1) c p1) p2)) p3) pos) (tRevUp X.K te th) := by
  refine ⟨fun pins s0 σ G0 Q J0 q0 => ?_⟩
  refine Subscript_ (thn (he.run pins s0 σ G0 _ J0 q0) fun v0 s1 ⟨x, G1, J1, r0, q1⟩ => ?_)
  refine wpAny_Slice (thn (po_none.run pins s1 σ G1 (fun o G => o = none ∧ G = G1) J1 ⟨rfl, rfl⟩) fun vl s2 ⟨l, G2, J2, pl, el, e2⟩ => ?_)
  subst el e2
  have up : PO X (some eh) (tPart th) := po_some hh
  refine thn (up.run pins s2 σ G2 _ J2 q1) fun vu s3 ⟨u, G3, J3, pu, a, xs, h, ex, eu, hx, hl, q2⟩ => ?_
  subst ex eu
  cases r0
  have back : PO X (some (.UnaryOp .USub (.Constant (.int 1) c p1) p2)) (tPart (tUn (rU fun i => .int (-i)) (tC (.int 1)))) := po_some (pe_un un_neg pe_int)
  refine thn (back.run pins s3 σ G3 (fun o G => o = some (-1) ∧ G = G3) J3 ⟨1, rfl, -1, rfl, rfl, rfl⟩) fun vs s4 ⟨o, G4, J4, ps, eo, e4⟩ => ?_
  subst eo e4
  have J5 : Inv X pins σ G4 { s4 with heap := s4.heap.push { cls := .type "slice", data := .fields #[vl, vu, vs] } } := J4.kept (t' := s4.toks) fun b ob z => Heap.get?_push_of_some _ z
  obtain ⟨its, rel, tt, few⟩ := J5.tuple hx
  have len := rel.length
  show wpAny (model X.prog X.w) X.A (subscriptTail e (.Slice none (some eh) (some (.UnaryOp .USub (.Constant (.int 1) c p1) p2)) p3) (.ref a) (.ref s4.heap.objs.size)) (EP X pins σ Q) X.xe { s4 with heap := s4.heap.push { cls := .type "slice", data := .fields #[vl, vu, vs] } }
  refine tail_any (ops := [.ref a, .ref s4.heap.objs.size]) tt.typeIs
    PyProof.Rows.slot_tuple_getitem.lookup ?_ (by with_unfolding_all rfl)
  refine item_back (h := h) tt (Heap.IsSliceOf.new _ vl vu vs) pl pu ps (by rw [List.size_toArray]; omega) (by rw [List.size_toArray]; omega) ?_
  refine ⟨.ref _, _, J5.laid (t' := s4.toks) (o := .tup (xs.drop (h + 1)).reverse) (fun b ob z => Heap.get?_push_of_some _ z) (Nat.le_refl _) ?_, rfl, q2 _ (J5.hok.fresh (Nat.le_refl _))⟩
  refine ⟨by rw [List.length_reverse, List.length_drop]; omega, (its.drop (h + 1)).reverse, ?_, IsTup.new _ _⟩
  exact (rel.drop (h + 1)).reverse
end
end Tb
/-! ### {**d, **e} -/
namespace Du
open PySem PySem.Spec PyProof.Rows L2
section
variable {prog : Program} {w : World} {K : Type} [DecidableEq K] {knd : KeyKind prog w K} {A : Around} {E : Value → Shared → Prop} {s : Shared}
/-- d[k] = v as a display puts it -/
theorem put_any {d : Addr} {kvs : List (K × Value)} {k : K} {key v : Value} {Q : Unit → Shared → Prop} (hkey : knd.is k key = true) (hm : s.heap.DictOf knd d kvs) (hsz : kvs.length ≤ sizeLine)
    (hQ : ∀ h', h'.DictOf knd d (stored kvs k v) → Heap.SameBut d s.heap h' → Q () { s with heap := h' }) : wpAny (model prog w) A (dictPut d (knd.hash k) key v) Q E s := by
  obtain ⟨o, es, ep, ho, hc, hd, hk, hp, hn⟩ := id hm
  have hidx : (es.findIdx? fun e => knd.is k e.key) = kvs.findIdx? fun kv => decide (kv.1 = k) := by
    rw [← hp.findIdx k]; obtain ⟨l⟩ := es; simp
  cases hi : es.findIdx? fun e => knd.is k e.key with
  | some i =>
    unfold dictPut
    refine wpAny_bind (wpAny_dictFind_of hkey ho hd hk ?_)
    rw [hi]
    refine wpAny_updateDict ho hd (hQ _ ⟨_, _, ep, Heap.get?_update_self _ ho (Obj.isFreed_of_dict (Obj.data_mapDict hd _)), hc.mapDict _, Obj.data_mapDict hd _, hk.modify _ _, ?_, ?_⟩ (Heap.SameBut.update ..))
    · rw [stored, if_pos (any_of_findIdx_some (hidx ▸ hi))]
      have hl : (es.toList.findIdx? fun e => knd.is k e.key) = some i := by rw [← hi]; obtain ⟨l⟩ := es; simp
      have := hp.modify hn hl v
      obtain ⟨l⟩ := es
      simpa using this
    · rw [stored, if_pos (any_of_findIdx_some (hidx ▸ hi)), keys_map_store]; exact hn
  | none =>
    have hnot : k ∉ kvs.map (·.1) := not_mem_of_findIdx_none (hidx ▸ hi)
    have hany : ¬ (kvs.any fun kv => decide (kv.1 = k)) = true := by
      rw [List.any_eq_true]; rintro ⟨kv, hkv, he⟩
      exact hnot (List.mem_map.mpr ⟨kv, hkv, of_decide_eq_true he⟩)
    refine put_fresh hkey hm hsz hnot fun h2 hd2 sb => hQ h2 ?_ sb
    rw [stored, if_neg hany]
    exact hd2
/-- all of one dict behind what another one has -/
theorem merge_any {d a : Addr} {acc more : List (K × Value)} {Q : Unit → Shared → Prop} (da : d ≠ a) (sys : (a == sysModules) = false) (hd : s.heap.DictOf knd d acc) (ha : s.heap.DictOf knd a more) (few : acc.length + more.length ≤ sizeLine) (byV : ∀ (k : K) (v : Value), knd.is k v = true → ∀ b, v ≠ .ref b)
    (then_ : ∀ h2, h2.DictOf knd d (merged acc more) → Heap.SameBut d s.heap h2 → Q () { s with heap := h2 }) : wpAny (model prog w) A (mergeMapping d (.ref a) false) Q E s := by
  have tyA := ha.typeIs
  obtain ⟨od, rd, gd, atd, exd, datd, ksd, prd, ndd⟩ := id hd
  obtain ⟨oa, ra, ga, ata, exa, data_, ksa, pra, nda⟩ := id ha
  have len : more.length = ra.size := by
    rw [← pra.length]
    simp
  unfold mergeMapping
  refine wpAny_bind (wpAny_isInstance (T := "dict") (U := "dict") (b := true) tyA (by rw [isSubtype_type]; kernel_rfl) ?_)
  rw [if_pos rfl]
  refine wpAny_bind (wpAny_specialOf tyA F.slot_dict_iter.lookup ?_)
  refine wpAny_bind (wpAny_pure ?_)
  have e : (some (Value.builtin "dict.__iter__") == some (Value.builtin "dict.__iter__")) = true := by decide +kernel
  rw [e]
  dsimp only
  rw [if_neg (by rw [sys]; exact Bool.false_ne_true)]
  refine wpAny_bind (wpAny_dictEntries atd datd ?_)
  apply twice
  · intro rest
    refine wpAny_ite_split (fun _ => ?_) (fun _ => ?_)
    · refine wpAny_bind (wpAny_dictEntries ata data_ ?_)
      refine wpAny_bind ?_
      rw [← Array.forIn_toList]
      refine wpAny_forIn_list _ (fun l _ s' => s' = s ∧ ∀ e ∈ l, e ∈ ra) _ ?_ ?_ _ _ ⟨rfl, fun e he => Array.mem_toList_iff.mp he⟩
      · rintro e l b s' ⟨es, hin⟩
        rw [es]
        obtain ⟨k, hk, _⟩ := ksa e (hin e List.mem_cons_self)
        have no := byV k e.key hk
        split
        · rename_i b eb
          exact absurd eb (no b)
        · exact wpAny_pure ⟨rfl, fun x hx => hin x (List.mem_cons_of_mem _ hx)⟩
      · rintro b s' ⟨es, _⟩
        rw [es]
        exact rest
    · exact rest
  refine wpAny_bind (wpAny_dictEntries ata data_ ?_)
  refine wpAny_bind (wpAny_dictEpoch ata data_ ?_)
  refine wpAny_bind ?_
  refine wpAny_forIn_list _ (fun l _ s' => ∃ (h2 : Heap) (i : Nat), s' = { s with heap := h2 } ∧ l = List.range' i (ra.size - i) ∧ i ≤ ra.size ∧ h2.DictOf knd d (merged acc (more.take i)) ∧ h2.get? a = some oa ∧ Heap.SameBut d s.heap h2) _ ?_ ?_ _ _
    ⟨s.heap, 0, rfl, by rw [List.range_eq_range', Nat.sub_zero], Nat.zero_le _, by rw [List.take_zero]; exact hd, ata, Heap.SameBut.refl _ _⟩
  · rintro x l b s' ⟨h2, i, rfl, el, hi, hd2, ata2, same⟩
    have lt : i < ra.size := by
      rcases Nat.lt_or_ge i ra.size with h | h
      · exact h
      · rw [Nat.sub_eq_zero_of_le h] at el
        cases el
    have e1 : ra.size - i = (ra.size - (i + 1)) + 1 := by omega
    rw [e1, List.range'_succ] at el
    injection el with ex el
    subst ex
    refine wpAny_bind (wpAny_dictEntries ata2 data_ ?_)
    rw [Array.getElem?_eq_getElem lt]
    have ltm : x < more.length := by omega
    obtain ⟨hk, hv⟩ := pra.get? (i := x) (e := ra[x]) (k := more[x].1) (v := more[x].2) (by rw [Array.getElem?_toList, Array.getElem?_eq_getElem lt]) (List.getElem?_eq_getElem ltm)
    obtain ⟨k2, hk2, hh⟩ := ksa ra[x] (Array.getElem_mem lt)
    have ek : k2 = more[x].1 := knd.inj _ _ _ hk2 hk
    subst ek
    refine wpAny_bind (wpAny_holding ?_)
    rw [if_neg Bool.false_ne_true, hh, hv]
    have few2 : (merged acc (more.take x)).length ≤ sizeLine := by
      have e1 := merged_length_le acc (more.take x)
      rw [List.length_take] at e1
      omega
    refine put_any hk hd2 few2 fun h3 hd3 same3 => ?_
    have ata3 : h3.get? a = some oa := (same3.2 a (Ne.symm da)).trans ata2
    refine wpAny_bind (wpAny_dictEpoch ata3 data_ ?_)
    rw [if_neg (by simp)]
    refine wpAny_pure ⟨h3, x + 1, rfl, el, lt, ?_, ata3, same.trans same3⟩
    rw [merged_take_succ acc more x more[x] (List.getElem?_eq_getElem ltm)]
    exact hd3
  · rintro b s' ⟨h2, i, rfl, el, hi, hd2, ata2, same⟩
    have ei : i = ra.size := by
      rcases Nat.lt_or_ge i ra.size with h | h
      · have e1 : ra.size - i = (ra.size - (i + 1)) + 1 := by omega
        rw [e1, List.range'_succ] at el
        cases el
      · omega
    rw [ei, ← len, List.take_length] at hd2
    exact wpAny_pure (then_ h2 hd2 same)
end
/-- {**d, **e}: a new dict with all of d, then all of e -/
def tDunp2 (t0 t1 : TE) : TE := fun σ H Q => ∀ p, H p = none → t0 σ (upd H p (.dK [])) fun x H1 => ∃ (a : Addr) (kvs : List (Key × V)), x = .ref a ∧ a ≠ p ∧ H1 p = some (.dK []) ∧ H1 a = some (.dK kvs) ∧
  t1 σ (upd H1 p (.dK kvs)) fun y H2 => ∃ (b : Addr) (more : List (Key × V)), y = .ref b ∧ b ≠ p ∧ H2 p = some (.dK kvs) ∧ H2 b = some (.dK more) ∧ kvs.length + more.length < 1000 ∧ Q (.ref p) (upd H2 p (.dK (mergeK kvs more)))
section
variable {X : Cx} {pos : Pos} {e0 e1 : Expr} {t0 t1 : TE}
theorem pe_dunp2 (h0 : PE X e0 t0) (h1 : PE X e1 t1) : PE X (.Dict [none, none] [e0, e1] pos) (tDunp2 t0 t1) := by
  refine ⟨fun pins s σ H Q I q => ?_⟩
  have hn := I.hok.fresh (Nat.le_refl s.heap.objs.size)
  have I1 := I.laid (a := s.heap.objs.size) (o := .dK []) (h' := s.heap.push { cls := .type "dict", data := .dict #[] }) (t' := s.toks) (fun _ _ q => Heap.get?_push_of_some _ q) (Nat.le_refl _) (dk_empty s.heap I.big)
  rw [arm_eval_Dict]
  refine wpAny_bind (wpAny_standAt ?_)
  have items : (evalEachOpt [none, none] X.env).zip ((evalEach [e0, e1] X.env).map fun v => do let x ← v; standAt pos; pure x) =
    [(none, do let x ← eval e0 X.env; standAt pos; pure x), (none, do let x ← eval e1 X.env; standAt pos; pure x)] := rfl
  rw [items]
  unfold dictDisplay
  simp only [List.forIn_cons, List.forIn_nil]
  refine wpAny_bind (wpAny_bind ?_)
  refine wpAny_bind (wpAny_of_eq (a := none) rfl ?_)
  dsimp only
  refine wpAny_bind (wpAny_alloc ?_)
  refine wpAny_bind (wpAny_holding (wpAny_bind (thn (h0.run pins _ σ _ _ I1 (q _ hn)) fun u s1 ⟨x, H1, I2, rx, a, kvs, ex, ap, hp1, ha1, q1⟩ => wpAny_bind (wpAny_standAt (wpAny_pure ?_)))))
  subst ex
  obtain rfl : u = Value.ref a := rx
  obtain ⟨za, sysa, va, ra, da⟩ := dk_of I2.hok ha1
  obtain ⟨zp, sysp, vp, rp, dp⟩ := dk_of I2.hok hp1
  cases rp
  have nda : ((([] : List (Key × Value)) ++ va).map fun (x : Key × Value) => x.1).Nodup := by
    obtain ⟨_, _, _, _, _, _, _, _, nd⟩ := da
    rw [List.nil_append]
    exact nd
  have lva : kvs.length = va.length := Paired.length ra
  refine wpAny_bind (wpAny_onRaise (wpAny_tryCatch (wpAny_onRaise (wpAny_holding (merge_fresh (knd := mixKind X.prog X.w) (Ne.symm ap) sysa dp da nda (by rw [List.length_nil]; omega) key_byV fun h2 dp2 same2 => wpAny_pure ?_)))))
  rw [List.nil_append] at dp2
  have hpe : ∃ q, h2.get? s.heap.objs.size = some q := let ⟨q, _, _, hq, _⟩ := dp2; ⟨q, hq⟩
  have I3 := d_write (t' := s1.toks) I2 (a := s.heap.objs.size) (ob := .dK kvs) (by rw [hp1]; exact True.intro) same2 hpe (dk_new za sysp ra dp2)
  dsimp only
  refine wpAny_bind ?_
  refine wpAny_bind (wpAny_pure ?_)
  dsimp only
  refine wpAny_bind (wpAny_pure ?_)
  refine wpAny_bind (wpAny_holding (wpAny_bind (thn (h1.run pins _ σ _ _ I3 q1) fun u2 s3 ⟨y, H2, I4, ry, b, more, ey, bp, hp2, hb2, few, q2⟩ => wpAny_bind (wpAny_standAt (wpAny_pure ?_)))))
  subst ey
  obtain rfl : u2 = Value.ref b := ry
  obtain ⟨zb, sysb, vb, rb, db⟩ := dk_of I4.hok hb2
  obtain ⟨zp3, sysp3, vp3, rp3, dp3⟩ := dk_of I4.hok hp2
  have l1 : kvs.length = vp3.length := Paired.length rp3
  have l2 : more.length = vb.length := Paired.length rb
  refine wpAny_bind (wpAny_onRaise (wpAny_tryCatch (wpAny_onRaise (wpAny_holding (merge_any (knd := mixKind X.prog X.w) (Ne.symm bp) sysb dp3 db (by rw [sizeLine_eq]; omega) key_byV fun h4 dp4 same4 => wpAny_pure (wpAny_pure ?_))))))
  have hpe4 : ∃ q, h4.get? s.heap.objs.size = some q := let ⟨q, _, _, hq, _⟩ := dp4; ⟨q, hq⟩
  have rel : KV (mergeK kvs more) (merged vp3 vb) := KV.merge rb rp3
  have lm : (mergeK kvs more).length ≤ sizeLine := by
    have e := Paired.length rel
    have e2 := merged_length_le vp3 vb
    rw [sizeLine_eq]
    omega
  have I5 := d_write (t' := s3.toks) I4 (a := s.heap.objs.size) (ob := .dK (mergeK kvs more)) (by rw [hp2]; exact True.intro) same4 hpe4 (dk_new lm sysp3 rel dp4)
  dsimp only
  refine wpAny_bind (wpAny_of_eq (a := some s.heap.objs.size) rfl ?_)
  exact wpAny_pure ⟨.ref s.heap.objs.size, _, I5, rfl, q2⟩
end
end Du
namespace Pr
open PySem PySem.Spec PyProof.Rows L2 Gd
/-! ### books as data: names with arities, a goal, rules -/
abbrev Rl := Str × Nat × List Str
/-- the arity of a word (0 where it is no operator) -/
def ar (l : List (Str × Nat)) (z : Str) : Nat := match valV (dkv l) (.inr z : Key) with
  | some (.int a) => a.toNat
  | _ => 0
/-- zs are n trees, one behind the other -/
def Wh (f : Str → Nat) : Nat → List Str → Prop
  | n, [] => n = 0
  | 0, _ :: _ => False
  | n + 1, z :: zs => Wh f (n + f z) zs
/-- how many words n trees take -/
def fin (f : Str → Nat) : Nat → List Str → Nat
  | 0, _ => 0
  | _ + 1, [] => 0
  | n + 1, z :: zs => fin f (n + f z) zs + 1
theorem fin_zero {f : Str → Nat} (zs : List Str) : fin f 0 zs = 0 := by cases zs <;> rfl
theorem fin_nil {f : Str → Nat} (n : Nat) : fin f n [] = 0 := by cases n <;> rfl
theorem fin_le {f : Str → Nat} : ∀ (zs : List Str) (n : Nat), fin f n zs ≤ zs.length
  | [], n => by rw [fin_nil]; exact Nat.le_refl _
  | z :: zs, 0 => by rw [fin_zero]; exact Nat.zero_le _
  | z :: zs, n + 1 => Nat.succ_le_succ (fin_le zs _)
theorem fin_add {f : Str → Nat} : ∀ (zs : List Str) (a b : Nat), fin f (a + b) zs = fin f a zs + fin f b (zs.drop (fin f a zs))
  | [], a, b => by rw [fin_nil, fin_nil, List.drop_nil, fin_nil]
  | z :: zs, 0, b => by rw [Nat.zero_add, fin_zero, Nat.zero_add, List.drop_zero]
  | z :: zs, a + 1, b => by
    have e : a + 1 + b = (a + b) + 1 := by omega
    have e2 : a + b + f z = (a + f z) + b := by omega
    rw [e]
    show fin f (a + b + f z) zs + 1 = fin f (a + f z) zs + 1 + fin f b (zs.drop (fin f (a + f z) zs))
    rw [e2, fin_add zs (a + f z) b]
    omega
/-- behind k of the trees the others stand -/
theorem Wh.split_ {f : Str → Nat} : ∀ (zs : List Str) (k m : Nat), Wh f (k + m) zs → Wh f m (zs.drop (fin f k zs))
  | [], k, m, h => by
    have h' : k + m = 0 := h
    rw [List.drop_nil]
    show m = 0
    omega
  | z :: zs, 0, m, h => by
    rw [fin_zero, List.drop_zero]
    rw [Nat.zero_add] at h
    exact h
  | z :: zs, k + 1, m, h => by
    have e : k + 1 + m = (k + m) + 1 := by omega
    rw [e] at h
    have h' : Wh f (k + m + f z) zs := h
    have e2 : k + m + f z = (k + f z) + m := by omega
    rw [e2] at h'
    exact Wh.split_ zs (k + f z) m h'
theorem Wh.split {f : Str → Nat} {zs : List Str} {k m : Nat} (h : Wh f (k + m) zs) : Wh f m (zs.drop (fin f k zs)) := Wh.split_ zs k m h
/-- where trees are still wanted, words are left -/
theorem Wh.left {f : Str → Nat} {zs : List Str} {m : Nat} (h : Wh f (m + 1) zs) : zs ≠ [] := fun e => by
  subst e
  have h' : m + 1 = 0 := h
  omega
theorem Wh.lt {f : Str → Nat} {zs : List Str} {k m : Nat} (h : Wh f (k + (m + 1)) zs) : fin f k zs < zs.length := by
  have := (Wh.split h).left
  rcases Nat.lt_or_ge (fin f k zs) zs.length with c | c
  · exact c
  · exact absurd (List.drop_of_length_le c) this
/-- at each place of a whole row trees are wanted -/
theorem Wh.at_ {f : Str → Nat} : ∀ (zs : List Str) (n p : Nat), Wh f n zs → p < zs.length → ∃ m, Wh f (m + 1) (zs.drop p)
  | [], _, p, _, h => absurd h (Nat.not_lt_zero _)
  | z :: zs, 0, p, h, _ => h.elim
  | z :: zs, n + 1, 0, h, _ => ⟨n, h⟩
  | z :: zs, n + 1, p + 1, h, hp => by
    have h' : Wh f (n + f z) zs := h
    exact Wh.at_ zs _ p h' (by have e : (z :: zs).length = zs.length + 1 := rfl; omega)
theorem Wh.at {f : Str → Nat} {zs : List Str} {n p : Nat} (h : Wh f n zs) (hp : p < zs.length) : ∃ m, Wh f (m + 1) (zs.drop p) := Wh.at_ zs n p h hp
/-- one rule -/
structure RlOk (l : List (Str × Nat)) (r : Rl) : Prop where
  head : azB r.1 = true
  new : r.1 ∉ l.map (·.1)
  price : r.2.1 ≤ 9
  some_ : 1 ≤ r.2.2.length
  few : r.2.2.length ≤ 7
  names : ∀ z ∈ r.2.2, azB z = true
  other : r.2.2 ≠ [r.1]
  whole : Wh (ar l) 1 r.2.2
/-- what is a nonterminal -/
def isNt (l : List (Str × Nat)) (g : Str) (rs : List Rl) (z : Str) : Prop := z = g ∨ ∃ r ∈ rs, (z = r.1 ∨ z ∈ r.2.2) ∧ z ∉ l.map (·.1)
/-- what is a part -/
def isPart (l : List (Str × Nat)) (rs : List Rl) (ws : List Str) : Prop := ∃ r ∈ rs, ∃ i z, r.2.2[i]? = some z ∧ z ∈ l.map (·.1) ∧ ws = (r.2.2.drop i).take (fin (ar l) 1 (r.2.2.drop i))
/-- a book -/
structure BkOk (l : List (Str × Nat)) (g : Str) (rs : List Rl) : Prop where
  ops : OpsOk l
  goal : azB g = true
  gnew : g ∉ l.map (·.1)
  few : rs.length ≤ 12
  rules : ∀ r ∈ rs, RlOk l r
  nd : (rs.map fun r => (r.1, r.2.2)).Nodup
  six : ∃ D : List Str, D.length ≤ 6 ∧ ∀ z, isNt l g rs z → z ∈ D
/-- distinct items of a short row are few -/
theorem nodup_few : ∀ {l D : List Str}, l.Nodup → (∀ x ∈ l, x ∈ D) → l.length ≤ D.length
  | [], _, _, _ => Nat.zero_le _
  | x :: l, D, hn, hs => by
    obtain ⟨h1, h2⟩ := List.nodup_cons.mp hn
    have hx : x ∈ D := hs x List.mem_cons_self
    have ih := nodup_few (l := l) (D := D.erase x) h2 fun y hy => by
      have hne : y ≠ x := fun e => h1 (e ▸ hy)
      exact (List.mem_erase_of_ne hne).2 (hs y (List.mem_cons_of_mem _ hy))
    have e := List.length_erase_of_mem hx
    have hp : 0 < D.length := List.length_pos_of_mem hx
    rw [List.length_cons]
    omega
/-- a rule as a tuple, its pattern a tuple -/
def RuleAt (H : Hp) (a : Addr) (r : Rl) : Prop := ∃ t, H a = some (.tup [.str r.1, .int (r.2.1 : Int), .ref t]) ∧ H t = some (.tup (r.2.2.map V.str))
theorem RuleAt.same {H H' : Hp} {a : Addr} {r : Rl} (h : RuleAt H a r) (s : Same H H') : RuleAt H' a r := let ⟨t, x, y⟩ := h; ⟨t, s _ _ x, s _ _ y⟩
/-- the names of a word's length -/
theorem az_len {z : Str} (h : azB z = true) : z.length ≤ 8 := by
  have h2 : (decide (1 ≤ z.length) && decide (z.length ≤ 8) && z.cps.toList.all azC) = true := h
  simp only [Bool.and_eq_true, decide_eq_true_eq] at h2
  omega
/-! ### dicts of texts and numbers, with one put -/
def putL (l : List (Str × Nat)) (z : Str) (k : Nat) : List (Str × Nat) := if (l.any fun p => decide (p.1 = z)) = true then l.map (fun p => if p.1 = z then (p.1, k) else p) else l ++ [(z, k)]
theorem put_dkv (l : List (Str × Nat)) (z : Str) (k : Nat) : putK (dkv l) (.inr z) (.int (k : Int)) = dkv (putL l z k) := by
  have ea : ((dkv l).any fun kv => decide (kv.1 = (.inr z : Key))) = l.any fun p => decide (p.1 = z) := by
    unfold dkv
    rw [List.any_map]
    congr 1
    funext p
    show decide ((Sum.inr p.1 : Key) = .inr z) = decide (p.1 = z)
    by_cases e : p.1 = z
    · rw [e]; simp
    · rw [decide_eq_false e, decide_eq_false fun c => e (Sum.inr.inj c)]
  unfold putK putL
  rw [ea]
  split
  · unfold dkv
    rw [List.map_map, List.map_map]
    refine List.map_congr_left fun p _ => ?_
    show (if (Sum.inr p.1 : Key) = .inr z then ((Sum.inr p.1 : Key), V.int (k : Int)) else (.inr p.1, .int (p.2 : Int))) = (fun q : Str × Nat => ((.inr q.1 : Key), V.int (q.2 : Int))) (if p.1 = z then (p.1, k) else p)
    by_cases e : p.1 = z
    · rw [if_pos e, if_pos (by rw [e])]
    · rw [if_neg e, if_neg fun c => e (Sum.inr.inj c)]
  · unfold dkv
    rw [List.map_append]
    rfl
def mergeL (l more : List (Str × Nat)) : List (Str × Nat) := more.foldl (fun acc p => putL acc p.1 p.2) l
theorem merge_dkv : ∀ (more l : List (Str × Nat)), mergeK (dkv l) (dkv more) = dkv (mergeL l more)
  | [], l => rfl
  | p :: more, l => by
    show mergeK (putK (dkv l) (.inr p.1) (.int (p.2 : Int))) (dkv more) = dkv (mergeL (putL l p.1 p.2) more)
    rw [put_dkv, merge_dkv more]
theorem val_putL (l : List (Str × Nat)) (z x : Str) (k : Nat) : valV (dkv (putL l z k)) (.inr x : Key) = if x = z then some (.int (k : Int)) else valV (dkv l) (.inr x : Key) := by
  rw [← put_dkv, valV_put]
  by_cases e : x = z
  · rw [if_pos e, if_pos (by rw [e])]
  · rw [if_neg e, if_neg fun c => e (Sum.inr.inj c)]
/-- a field's value -/
def FldAt (H : Hp) (o : Addr) (f : Str) (v : V) : Prop := ∃ C dx fs, H o = some (.ins C dx fs) ∧ fs.lookup f = some v
theorem FldAt.same {H H' : Hp} {o : Addr} {f : Str} {v : V} (h : FldAt H o f v) (s : Same H H') : FldAt H' o f v := let ⟨C, dx, fs, a, b⟩ := h; ⟨C, dx, fs, s _ _ a, b⟩
end Pr
namespace Pr
open PySem PySem.Spec PyProof.Rows L2 Gd
theorem tyR {K : PySem.W.Frag} {H : Hp} {a : Addr} {xs : List V} (h : Rd H a (.tup xs)) : TyX K H (.ref a) (.type "tuple") := by
  rcases h with h | ⟨o, h⟩
  · exact .base (.tup h)
  · exact .fTuple h
theorem Rd.same {H H' : Hp} {a : Addr} {u : HO} (h : Rd H a u) (s : Same H H') : Rd H' a u := by
  rcases h with h | ⟨o, h⟩
  · exact .inl (s _ _ h)
  · exact .inr ⟨o, s _ _ h⟩
theorem TXr {H : Hp} {a : Addr} {xs : List V} (h : Tx.TX H a xs) : Rd H a (.tup xs) := let ⟨o, e, _⟩ := h; .inr ⟨o, e⟩
end Pr
namespace Pr
open PySem PySem.Spec PyProof.Rows L2 Gd
/-! ### are_names, is_rule -/
def spNames : Sp := fun vs H Q _ => ∃ (t : Addr) (ws : List Str), vs = [.ref t] ∧ H t = some (.tup (ws.map V.str)) ∧ (∀ z ∈ ws, azB z = true) ∧ ws.length ≤ 1000 ∧ ∀ H', Same H H' → Q (.bl true) H'
section
variable {P : Program} {w : World} {K : PySem.W.Frag} {mg : Str → Option Value} {base : Heap} {fN : Addr} {dN : FuncData} {tk : Tok}
theorem scNames : FnScope ["value", "word"] ["value"] (defScope sNames) := ⟨rfl, rfl, rfl, by decide +kernel, rfl, by decide +kernel, by decide +kernel⟩
theorem ok_names {f : Addr} {fd : FuncData} (F : Fun K "are_names" "are_names" sNames f fd) (T : Free mg) (gm : mg "MAX_LETTERS" = some (.int 8 tk)) (FN : Fun K "is_name" "is_name" sName fN dN) (bN : Binds K dN ["value"] []) (gN : mg "is_name" = some (.ref fN)) : FnOk P w K mg base CX0 2 f fd ["value"] spNames := by
  have GN : FnOk P w K mg base CX0 1 fN dN ["value"] spName := ok_name FN T gm
  refine F.ok scNames (fun vs H Q E h => ?_) (fun cdv A outer s H vs Q E hr h => ?_)
  · obtain ⟨t, ws, rfl, _⟩ := h
    rfl
  · obtain ⟨t, ws, rfl, ht, az, few, q⟩ := h
    have hu := hr.units
    refine ⟨_, (pss_one (ps_ret (pe_and (pe_callB call_isi (by rfl) T.isi (by decide +kernel) (pa_cons (pv 0) (pa_cons (pe_bltn (v := .ty "tuple") (by rfl) T.tuple (by decide +kernel) rfl) pa_nil))) (pe_one (pe_callB (cr_all rfl) (by rfl) T.all (by decide +kernel) (pa_cons (pe_lc (own := [("word", 1)]) (g := gName 1) (by rfl) scNames.nd (pi_tup (pv 0)) (blkOk_by (own := [("word", 1)]) (N := ["value", "word"]) (sc := defScope sNames) (by decide +kernel)) (fun _ _ _ _ _ => pg_name (i := 1) scNames.nd rfl (.inl rfl)) (fun _ _ _ _ _ => pts_nil) (fun _ _ _ _ _ => pe_call GN hr (by rfl) gN FN.kp bN .nil pass0 (pa_cons (pv 1) pa_nil))) pa_nil)))))), ?_⟩
    refine ⟨_, rfl, .ref t, _, _, _, true, rfl, .ty "tuple", tyR (.inl ht), kit_ty (r := true) (by decide +kernel), _, rfl, iteT ?_⟩
    refine ⟨_, rfl, t, rfl, ⟨_, SqT.of ht⟩, fun D nD => ?_⟩
    refine lc_tup (K := K) (a := t) (xs := ws.map V.str) (fun i G => G D = some (.lst (List.replicate i (V.bl true))) ∧ Same H G) ⟨upd_same, Same.new nD⟩ (fun i G _ ⟨_, s⟩ => SqT.of (s _ _ ht)) ?_ ?_
    · rintro i x G hx ⟨eD, s⟩
      obtain ⟨z, hz, rfl⟩ : ∃ z, ws[i]? = some z ∧ x = .str z := by
        rw [List.getElem?_map] at hx
        cases e : ws[i]? with
        | none => rw [e] at hx; cases hx
        | some z => rw [e] at hx; exact ⟨z, rfl, (Option.some.inj hx).symm⟩
      have hi := (List.getElem?_eq_some_iff.mp hz).1
      have zz := az z (List.mem_of_getElem? hz)
      refine ⟨rfl, _, rfl, .str z, "str", rfl, .str z, fun y e => (by cases e; have := az_len zz; omega), _, eD, by rw [List.length_replicate, sizeLine_eq]; omega, ?_, fun b o q => by rw [upd_ne (ne_of_none q nD)]; exact s b o q⟩
      rw [upd_same]
      have e : nameB (.str z) = true := zz
      rw [e, List.replicate_succ']
    · rintro G ⟨eD, s⟩
      refine ⟨D, List.replicate (ws.map V.str).length true, rfl, SqL.of (by rw [eD, List.map_replicate]), ?_⟩
      have e : (List.replicate (ws.map V.str).length true).all id = true := by
        rw [List.all_eq_true]
        intro b m
        exact (List.mem_replicate.mp m).2
      rw [e]
      exact q G s
end
end Pr
namespace Pr
open PySem PySem.Spec PyProof.Rows L2 Gd
/-! ### rows of names and of numbers, told apart -/
def strD (z : Str) : PyData := .str z
theorem dp_strs {K : PySem.W.Frag} {H : Hp} : ∀ zs : List Str, DpAll K H (zs.map V.str) (zs.map strD)
  | [] => .nil
  | z :: zs => .cons (.str z) (dp_strs zs)
theorem low_depth : ∀ {ds : List PyData}, (∀ d ∈ ds, d.depth = 0) → PyData.depthAll ds = 0
  | [], _ => rfl
  | d :: ds, h => by
    simp only [PyData.depthAll]
    rw [h d List.mem_cons_self, low_depth fun x m => h x (List.mem_cons_of_mem _ m)]
    rfl
theorem lay_all : ∀ {ds : List PyData}, (∀ d ∈ ds, d.canLay0 = true) → PyData.canLayAll0 ds = true
  | [], _ => rfl
  | d :: ds, h => by
    simp only [PyData.canLayAll0]
    rw [h d List.mem_cons_self, lay_all fun x m => h x (List.mem_cons_of_mem _ m)]
    rfl
theorem shaped_row {ds : List PyData} (h : ∀ d ∈ ds, d.depth = 0 ∧ d.canLay0 = true) : SeqAt.shaped (.tuple ds) = true := by
  have e : PyData.depth (.tuple ds) = PyData.depthAll ds + 1 := by simp only [PyData.depth]
  have e2 : PyData.canLay0 (.tuple ds) = PyData.canLayAll0 ds := by simp only [PyData.canLay0]
  unfold SeqAt.shaped
  rw [e, e2, low_depth fun d m => (h d m).1, lay_all fun d m => (h d m).2]
  rfl
theorem shaped_strs {zs : List Str} (h : ∀ z ∈ zs, PyData.strOk z = true) : SeqAt.shaped (.tuple (zs.map strD)) = true := shaped_row fun d m => by
  obtain ⟨z, hz, rfl⟩ := List.mem_map.mp m
  exact ⟨by unfold strD; simp only [PyData.depth], by unfold strD; simp only [PyData.canLay0]; exact h z hz⟩
theorem neT {K : PySem.W.Frag} {H : Hp} {x y : V} {Q : VK} {ds : List PyData} (hx : Dp K H x (.tuple ds)) (hy : Dp K H y (.tuple ds)) (hs : SeqAt.shaped (.tuple ds) = true) (q : Q (.bl false) H) : rNeD K x y H Q :=
  ⟨_, _, hx, hy, hs, hs, by rw [SeqAt.eqv_refl _ (SeqAt.canLay_of_shaped hs)]; exact q⟩
theorem eqT {K : PySem.W.Frag} {H : Hp} {x y : V} {Q : VK} {ds : List PyData} (hx : Dp K H x (.tuple ds)) (hy : Dp K H y (.tuple ds)) (hs : SeqAt.shaped (.tuple ds) = true) (q : Q (.bl true) H) : rEqD K x y H Q :=
  ⟨_, _, hx, hy, hs, hs, by rw [SeqAt.eqv_refl _ (SeqAt.canLay_of_shaped hs)]; exact q⟩
theorem neStrs {K : PySem.W.Frag} {H : Hp} {a b : Addr} {Q : VK} {zs : List Str} (ha : H a = some (.tup (zs.map V.str))) (hb : H b = some (.tup (zs.map V.str))) (hz : ∀ z ∈ zs, PyData.strOk z = true) (q : Q (.bl false) H) : rNeD K (.ref a) (.ref b) H Q :=
  neT (.tup (SqT.of ha) (dp_strs zs)) (.tup (SqT.of hb) (dp_strs zs)) (shaped_strs hz) q
theorem eqStrs {K : PySem.W.Frag} {H : Hp} {a b : Addr} {Q : VK} {zs : List Str} (ha : H a = some (.tup (zs.map V.str))) (hb : H b = some (.tup (zs.map V.str))) (hz : ∀ z ∈ zs, PyData.strOk z = true) (q : Q (.bl true) H) : rEqD K (.ref a) (.ref b) H Q :=
  eqT (.tup (SqT.of ha) (dp_strs zs)) (.tup (SqT.of hb) (dp_strs zs)) (shaped_strs hz) q
/-- a slice of a row of names -/
theorem cut_strs {zs : List Str} {p e : Nat} (hp : p ≤ zs.length) (he : e ≤ zs.length) (pe : p ≤ e) : cutV (zs.map V.str) (some (p : Int)) (some (e : Int)) = ((zs.drop p).take (e - p)).map V.str ∧ HT.sIx (zs.map V.str).length 0 (some (p : Int)) = p ∧ HT.sIx (zs.map V.str).length (zs.map V.str).length (some (e : Int)) = e := by
  have lz : (zs.map V.str).length = zs.length := List.length_map _
  have i1 : HT.sIx (zs.map V.str).length 0 (some (p : Int)) = p := by
    rw [HT.sIx_nat, lz]
    omega
  have i2 : HT.sIx (zs.map V.str).length (zs.map V.str).length (some (e : Int)) = e := by
    rw [HT.sIx_nat, lz]
    omega
  refine ⟨?_, i1, i2⟩
  unfold cutV
  rw [i1, i2, ← List.map_drop, ← List.map_take]
end Pr
namespace Pr
open PySem PySem.Spec PyProof.Rows L2 Gd
/-! ### rows of names, rules, rows of rows: told apart -/
theorem az_ok {z : Str} (h : azB z = true) : PyData.strOk z = true := by
  have h2 : (decide (1 ≤ z.length) && decide (z.length ≤ 8) && z.cps.toList.all azC) = true := h
  simp only [Bool.and_eq_true] at h2
  unfold PyData.strOk
  rw [← Array.all_toList]
  refine List.all_eq_true.mpr fun c m => ?_
  have := az_lt (List.all_eq_true.mp h2.2 c m)
  exact decide_eq_true (by omega)
theorem eqv_strs : ∀ xs ys : List Str, PyData.eqvAll (xs.map strD) (ys.map strD) = decide (xs = ys)
  | [], [] => by rw [List.map_nil]; unfold PyData.eqvAll; simp
  | [], _ :: _ => by rw [List.map_nil, List.map_cons]; unfold PyData.eqvAll; simp
  | _ :: _, [] => by rw [List.map_nil, List.map_cons]; unfold PyData.eqvAll; simp
  | x :: xs, y :: ys => by
    rw [List.map_cons, List.map_cons]
    unfold PyData.eqvAll
    rw [eqv_strs xs ys]
    have e : PyData.eqv (strD x) (strD y) = decide (x = y) := by
      unfold strD PyData.eqv
      by_cases c : x = y
      · rw [c]; simp
      · rw [decide_eq_false c]
        exact beq_eq_false_iff_ne.mpr c
    rw [e]
    by_cases c : x = y
    · by_cases d : xs = ys
      · rw [c, d]; simp
      · rw [c, decide_eq_false d]; simp [d]
    · rw [decide_eq_false c]; simp [c]
/-- two tuples of texts, == -/
theorem eqTx {K : PySem.W.Frag} {H : Hp} {a b : Addr} {Q : VK} {xs ys : List Str} (ha : SqT K H a (xs.map V.str)) (hb : SqT K H b (ys.map V.str)) (hx : ∀ z ∈ xs, azB z = true) (hy : ∀ z ∈ ys, azB z = true) (q : Q (.bl (decide (xs = ys))) H) : rEqD K (.ref a) (.ref b) H Q := by
  refine ⟨_, _, .tup ha (dp_strs xs), .tup hb (dp_strs ys), shaped_strs fun z m => az_ok (hx z m), shaped_strs fun z m => az_ok (hy z m), ?_⟩
  have e : PyData.eqv (.tuple (xs.map strD)) (.tuple (ys.map strD)) = decide (xs = ys) := by
    rw [← eqv_strs]
    unfold PyData.eqv
    rfl
  rw [e]
  exact q
theorem neTx {K : PySem.W.Frag} {H : Hp} {a b : Addr} {Q : VK} {xs ys : List Str} (ha : SqT K H a (xs.map V.str)) (hb : SqT K H b (ys.map V.str)) (hx : ∀ z ∈ xs, azB z = true) (hy : ∀ z ∈ ys, azB z = true) (q : Q (.bl (!decide (xs = ys))) H) : rNeD K (.ref a) (.ref b) H Q := by
  refine ⟨_, _, .tup ha (dp_strs xs), .tup hb (dp_strs ys), shaped_strs fun z m => az_ok (hx z m), shaped_strs fun z m => az_ok (hy z m), ?_⟩
  have e : PyData.eqv (.tuple (xs.map strD)) (.tuple (ys.map strD)) = decide (xs = ys) := by
    rw [← eqv_strs]
    unfold PyData.eqv
    rfl
  rw [e]
  exact q
/-- what can be laid, of a small depth -/
theorem shaped_rows {ds : List PyData} {n : Nat} (hn : n ≤ 60) (h : ∀ d ∈ ds, d.depth ≤ n ∧ d.canLay0 = true) : SeqAt.shaped (.tuple ds) = true := by
  have dep : ∀ {ds : List PyData}, (∀ d ∈ ds, d.depth ≤ n) → PyData.depthAll ds ≤ n := by
    intro ds
    induction ds with
    | nil => exact fun _ => Nat.zero_le _
    | cons d ds ih =>
      intro h
      simp only [PyData.depthAll]
      exact Nat.max_le.mpr ⟨h d List.mem_cons_self, ih fun x m => h x (List.mem_cons_of_mem _ m)⟩
  have e : PyData.depth (.tuple ds) = PyData.depthAll ds + 1 := by simp only [PyData.depth]
  have e2 : PyData.canLay0 (.tuple ds) = PyData.canLayAll0 ds := by simp only [PyData.canLay0]
  unfold SeqAt.shaped
  rw [e, e2, lay_all fun d m => (h d m).2, Bool.true_and]
  have := dep fun d m => (h d m).1
  exact decide_eq_true (by omega)
theorem strs_flat {zs : List Str} (h : ∀ z ∈ zs, azB z = true) : (PyData.tuple (zs.map strD)).depth ≤ 1 ∧ (PyData.tuple (zs.map strD)).canLay0 = true := by
  have s := shaped_strs fun z m => az_ok (h z m)
  refine ⟨?_, SeqAt.canLay_of_shaped s⟩
  have e : PyData.depth (.tuple (zs.map strD)) = PyData.depthAll (zs.map strD) + 1 := by simp only [PyData.depth]
  rw [e, low_depth fun d m => ?_]
  · exact Nat.le_refl _
  · obtain ⟨z, _, rfl⟩ := List.mem_map.mp m
    unfold strD
    simp only [PyData.depth]
/-- a rule as data -/
def rlD (r : Rl) : PyData := .tuple [.str r.1, .int (r.2.1 : Int), .tuple (r.2.2.map strD)]
theorem rl_flat {r : Rl} (h1 : azB r.1 = true) (h : ∀ z ∈ r.2.2, azB z = true) : (rlD r).depth ≤ 2 ∧ (rlD r).canLay0 = true := by
  obtain ⟨a, b⟩ := strs_flat h
  have z := az_ok h1
  unfold rlD
  refine ⟨?_, ?_⟩
  · simp only [PyData.depth, PyData.depthAll] at a ⊢
    omega
  · simp only [PyData.canLay0, PyData.canLayAll0] at b ⊢
    rw [z, b]
    rfl
theorem rl_dp {K : PySem.W.Frag} {H : Hp} {a : Addr} {r : Rl} (h : RuleAt H a r) : Dp K H (.ref a) (rlD r) := by
  obtain ⟨t, x, y⟩ := h
  exact .tup (SqT.of x) (.cons (.str _) (.cons (.int _) (.cons (.tup (SqT.of y) (dp_strs _)) .nil)))
theorem rls_dp {K : PySem.W.Frag} {H : Hp} : ∀ {as : List Addr} {rs : List Rl}, Paired (fun a r => RuleAt H a r) as rs → DpAll K H (as.map V.ref) (rs.map rlD)
  | _, _, .nil => .nil
  | _, _, .cons h r => .cons (rl_dp h) (rls_dp r)
theorem rls_shaped {rs : List Rl} (h : ∀ r ∈ rs, azB r.1 = true ∧ ∀ z ∈ r.2.2, azB z = true) : SeqAt.shaped (.tuple (rs.map rlD)) = true := shaped_rows (n := 2) (by decide) fun d m => by
  obtain ⟨r, mr, rfl⟩ := List.mem_map.mp m
  exact rl_flat (h r mr).1 (h r mr).2
theorem rows_dp {K : PySem.W.Frag} {H : Hp} : ∀ {M : List (Addr × List Str)}, (∀ q ∈ M, SqT K H q.1 (q.2.map V.str)) → DpAll K H (M.map fun q => V.ref q.1) ((M.map (·.2)).map fun ws => .tuple (ws.map strD))
  | [], _ => .nil
  | q :: M, h => .cons (.tup (h q List.mem_cons_self) (dp_strs _)) (rows_dp fun u m => h u (List.mem_cons_of_mem _ m))
theorem rows_shaped {ls : List (List Str)} (h : ∀ ws ∈ ls, ∀ z ∈ ws, azB z = true) : SeqAt.shaped (.tuple (ls.map fun ws => .tuple (ws.map strD))) = true := shaped_rows (n := 1) (by decide) fun d m => by
  obtain ⟨ws, mw, rfl⟩ := List.mem_map.mp m
  exact strs_flat (h ws mw)
end Pr
namespace Pr
open PySem PySem.Spec PyProof.Rows L2 Gd
/-! ### is_whole -/
/-- the arity of a word that is one -/
def arity (l : List (Str × Nat)) : V → Option Int
  | .str z => (match valV (dkv l) (.inr z : Key) with
    | some (.int a) => some a
    | _ => none)
  | _ => none
/-- whether xs are n trees, one behind the other -/
def wgo (l : List (Str × Nat)) : Int → List V → Bool
  | n, [] => decide (n = 0)
  | n, x :: xs => if n = 0 then false else match arity l x with
    | some a => wgo l (n + (a - 1)) xs
    | none => false
theorem wgo_zero {l : List (Str × Nat)} {n : Int} {x : V} {xs : List V} (h : n = 0) : wgo l n (x :: xs) = false := if_pos h
theorem wgo_none {l : List (Str × Nat)} {n : Int} {x : V} {xs : List V} (h : arity l x = none) : wgo l n (x :: xs) = false := by
  show (if n = 0 then false else match arity l x with | some a => wgo l (n + (a - 1)) xs | none => false) = false
  rw [h]
  exact ite_self _
theorem wgo_some {l : List (Str × Nat)} {n a : Int} {x : V} {xs : List V} (h0 : n ≠ 0) (h : arity l x = some a) : wgo l n (x :: xs) = wgo l (n + (a - 1)) xs := by
  show (if n = 0 then false else match arity l x with | some a => wgo l (n + (a - 1)) xs | none => false) = _
  rw [if_neg h0, h]
theorem val_int {z : Str} {v : V} : ∀ {l : List (Str × Nat)}, valV (dkv l) (.inr z : Key) = some v → ∃ a, v = .int a
  | [], h => nomatch h
  | p :: l, h => by
    have h' : valV ((.inr p.1, .int (p.2 : Int)) :: dkv l) (.inr z : Key) = some v := h
    by_cases e : (.inr p.1 : Key) = .inr z
    · rw [valV_pos e] at h'
      exact ⟨_, (Option.some.inj h').symm⟩
    · rw [valV_neg e] at h'
      exact val_int h'
def spWhole : Sp := fun vs H Q _ => ∃ (t a : Addr) (xs : List V) (l : List (Str × Nat)), vs = [.ref t, .ref a] ∧ Rd H t (.tup xs) ∧ (∀ x ∈ xs, ∃ ty, Kd H x ty) ∧ H a = some (.dK (dkv l)) ∧ Q (.bl (wgo l 1 xs)) H
section
variable {P : Program} {w : World} {K : PySem.W.Frag} {mg : Str → Option Value} {base : Heap}
theorem scWhole : FnScope ["words", "arities", "awaited", "word"] ["words", "arities"] (defScope sWhole) := ⟨rfl, rfl, rfl, by decide +kernel, rfl, by decide +kernel, by decide +kernel⟩
theorem ok_whole {f : Addr} {fd : FuncData} (F : Fun K "is_whole" "is_whole" sWhole f fd) (T : Free mg) : FnOk P w K mg base CX0 1 f fd ["words", "arities"] spWhole := by
  refine F.ok scWhole (fun vs H Q E h => ?_) (fun cdv A outer s H vs Q E hr h => ?_)
  · obtain ⟨t, a, xs, l, rfl, _⟩ := h
    rfl
  · obtain ⟨t, a, xs, l, rfl, ht, all, ha, q⟩ := h
    have hu := hr.units
    have hu1 : ∀ {u : Nat}, u + 64 < cLine → u + 1 < cLine := fun h => by omega
    refine ⟨_, pss_cons (ps_set (i := 2) scWhole.nd rfl (.inl rfl) pe_int) (pss_cons (ps_for PassesOwn.never rfl (pi_tup (pv 0)) (pg_name (i := 3) scWhole.nd rfl (.inl rfl)) (pss_cons (ps_if (PW.pt (pw_or (pt_cmpR op_eq (pv 2) pe_int (nomark _)) (pw_or (pt_not (pt_val (pe_callB call_isi (by rfl) T.isi (by decide +kernel) (pa_cons (pv 3) (pa_cons (pe_bltn (v := .ty "str") (by rfl) T.str (by decide +kernel) rfl) pa_nil))))) (pw_or1 (pt_cmp (pc_dnotin (hu1 hu) (pv 3) (pv 1))))))) (pss_one (ps_ret pe_bl)) pss_nil) (pss_one (ps_aug (i := 2) scWhole.nd rfl (.inl rfl) (pe_op op_sub (pe_dget (hu1 hu) (pv 1) (pv 3) (fun _ _ => rfl)) pe_int) ip_add)))) (pss_one (ps_ret (pe_cmpR op_eq (pv 2) pe_int (nomark _))))), ?_⟩
    refine ⟨_, rfl, t, rfl, ⟨_, Or.inl ht⟩, ?_⟩
    refine for_tup (K := K) (a := t) (xs := xs) (fun i σ H' => H' = H ∧ ∃ (n : Int) (v3 : Option V), σ = [some (.ref t), some (.ref a), some (.int n), v3] ∧ wgo l 1 xs = wgo l n (xs.drop i))
      ⟨rfl, 1, none, rfl, rfl⟩ (fun i σ H' _ ⟨e, _⟩ => by rw [e]; exact Or.inl ht) ?_ ?_
    · rintro i x σ H' hx ⟨rfl, n, v3, rfl, hw⟩
      have hd : xs.drop i = x :: xs.drop (i + 1) := by
        obtain ⟨hi, e⟩ := List.getElem?_eq_some_iff.mp hx
        rw [← e]
        exact List.drop_eq_getElem_cons hi
      obtain ⟨ty, kd⟩ := all x (List.mem_of_getElem? hx)
      rw [hd] at hw
      refine ⟨_, rfl, rfl, _, rfl, ?_⟩
      by_cases c : n = 0
      · refine if_true_of (decide_eq_true (by rw [c])) ?_
        rw [hw, wgo_zero c] at q
        exact q
      · refine if_false_of (decide_eq_false fun z => c (V.int.inj z)) ⟨_, rfl, x, _, _, _, _, rfl, .ty "str", kd.ty, kit_str kd, _, rfl, ?_⟩
        cases kd with
        | str z =>
          refine if_false_of rfl ⟨_, rfl, _, rfl, a, _, rfl, DGet.k (k := .inr z) ha, _, rfl, ?_⟩
          cases e : valV (dkv l) (.inr z : Key) with
          | none =>
            refine if_true_of rfl ?_
            have an : arity l (.str z) = none := by
              show (match valV (dkv l) (.inr z : Key) with | some (.int a) => some a | _ => none) = none
              rw [e]
            rw [hw, wgo_none an] at q
            exact q
          | some v =>
            obtain ⟨a1, rfl⟩ := val_int e
            have an : arity l (.str z) = some a1 := by
              show (match valV (dkv l) (.inr z : Key) with | some (.int a) => some a | _ => none) = some a1
              rw [e]
            refine if_false_of rfl ⟨_, rfl, _, rfl, _, rfl, a, _, rfl, e ▸ DGet.k (k := .inr z) ha, _, _, rfl, rfl, _, _, rfl, rfl, rfl, _, _, rfl, ?_⟩
            rw [hw, wgo_some c an]
        | _ =>
          refine if_true_of rfl ?_
          rw [hw, wgo_none rfl] at q
          exact q
    · rintro σ H' ⟨rfl, n, v3, rfl, hw⟩
      rw [List.drop_of_length_le (Nat.le_refl _)] at hw
      refine ⟨_, rfl, rfl, ?_⟩
      have e : decide (V.int n = V.int 0) = wgo l 1 xs := by
        rw [hw]
        show _ = decide (n = 0)
        rw [dec_int]
        by_cases c : n = 0 <;> simp [c]
      rw [e]
      exact q
end
end Pr

namespace Pr
open PySem PySem.Spec PyProof.Rows L2 Gd
/-! ### the arities of a pattern's words -/
theorem val_nat {z : Str} {v : V} : ∀ {l : List (Str × Nat)}, valV (dkv l) (.inr z : Key) = some v → ∃ n : Nat, v = .int (n : Int) ∧ (z, n) ∈ l
  | [], h => nomatch h
  | p :: l, h => by
    have h' : valV ((.inr p.1, .int (p.2 : Int)) :: dkv l) (.inr z : Key) = some v := h
    by_cases e : (.inr p.1 : Key) = .inr z
    · rw [valV_pos e] at h'
      refine ⟨p.2, (Option.some.inj h').symm, ?_⟩
      have e' : p.1 = z := Sum.inr.inj e
      rw [← e']
      exact List.mem_cons_self
    · rw [valV_neg e] at h'
      obtain ⟨n, a, b⟩ := val_nat h'
      exact ⟨n, a, List.mem_cons_of_mem _ b⟩
theorem ar_of {l : List (Str × Nat)} {z : Str} {n : Nat} (h : valV (dkv l) (.inr z : Key) = some (.int (n : Int))) : ar l z = n := by
  unfold ar
  rw [h]
  rfl
theorem ar_none {l : List (Str × Nat)} {z : Str} (h : valV (dkv l) (.inr z : Key) = none) : ar l z = 0 := by
  unfold ar
  rw [h]
theorem val_mem_iff {l : List (Str × Nat)} {z : Str} : (valV (dkv l) (.inr z : Key)).isSome = true ↔ z ∈ l.map (·.1) := by
  constructor
  · intro h
    cases e : valV (dkv l) (.inr z : Key) with
    | none => rw [e] at h; cases h
    | some v =>
      obtain ⟨n, _, m⟩ := val_nat e
      exact List.mem_map.mpr ⟨_, m, rfl⟩
  · intro h
    cases e : valV (dkv l) (.inr z : Key) with
    | none =>
      exfalso
      have key : ∀ {l : List (Str × Nat)}, z ∈ l.map (·.1) → valV (dkv l) (.inr z : Key) ≠ none := by
        intro l
        induction l with
        | nil => exact fun m => nomatch m
        | cons p l ih =>
          intro m q
          have q' : valV ((.inr p.1, .int (p.2 : Int)) :: dkv l) (.inr z : Key) = none := q
          by_cases c : (.inr p.1 : Key) = .inr z
          · rw [valV_pos c] at q'
            cases q'
          · rw [valV_neg c] at q'
            rcases List.mem_cons.mp m with rfl | m
            · exact c rfl
            · exact ih m q'
      exact key h e
    | some v => rfl
/-- what the arity of a word is asked for -/
theorem ar_getD (l : List (Str × Nat)) (z : Str) : (valV (dkv l) (.inr z : Key)).getD (.int 0) = .int (ar l z : Int) := by
  cases e : valV (dkv l) (.inr z : Key) with
  | none => rw [ar_none e]; rfl
  | some v =>
    obtain ⟨n, rfl, _⟩ := val_nat e
    rw [ar_of e]
    rfl
theorem val_mergeL (x : Str) : ∀ (more acc : List (Str × Nat)), (more.map (·.1)).Nodup → valV (dkv (mergeL acc more)) (.inr x : Key) = (valV (dkv more) (.inr x : Key)).or (valV (dkv acc) (.inr x : Key))
  | [], acc, _ => rfl
  | p :: more, acc, nd => by
    obtain ⟨n1, n2⟩ := List.nodup_cons.mp nd
    show valV (dkv (mergeL (putL acc p.1 p.2) more)) (.inr x : Key) = (valV ((.inr p.1, .int (p.2 : Int)) :: dkv more) (.inr x : Key)).or _
    rw [val_mergeL x more _ n2, val_putL]
    by_cases e : x = p.1
    · rw [valV_pos (by rw [e]), if_pos e]
      have : valV (dkv more) (.inr x : Key) = none := by
        cases q : valV (dkv more) (.inr x : Key) with
        | none => rfl
        | some v => exact absurd (val_mem_iff.mp (by rw [q]; rfl)) (by rw [e]; exact n1)
      rw [this]
      rfl
    · rw [valV_neg fun c => e (Sum.inr.inj c).symm, if_neg e]
/-- each word with 0 -/
def zl (ws : List Str) : List (Str × Nat) := ws.foldl (fun acc z => putL acc z 0) []
theorem val_zl (x : Str) : ∀ (ws : List Str) (acc : List (Str × Nat)), (x ∈ ws ∨ valV (dkv acc) (.inr x : Key) = some (.int 0)) → valV (dkv (ws.foldl (fun acc z => putL acc z 0) acc)) (.inr x : Key) = some (.int 0)
  | [], acc, h => h.elim (fun m => nomatch m) id
  | z :: ws, acc, h => by
    refine val_zl x ws (putL acc z 0) ?_
    rw [val_putL]
    by_cases e : x = z
    · exact .inr (by rw [if_pos e]; rfl)
    · rw [if_neg e]
      rcases h with h | h
      · rcases List.mem_cons.mp h with c | m
        · exact absurd c e
        · exact .inl m
      · exact .inr h
theorem putL_few (l : List (Str × Nat)) (z : Str) (k : Nat) : (putL l z k).length ≤ l.length + 1 := by
  unfold putL
  split
  · rw [List.length_map]; omega
  · rw [List.length_append]; simp
theorem zl_few : ∀ (ws : List Str) (acc : List (Str × Nat)), (ws.foldl (fun acc z => putL acc z 0) acc).length ≤ acc.length + ws.length
  | [], acc => Nat.le_refl _
  | z :: ws, acc => by
    have a := zl_few ws (putL acc z 0)
    have b := putL_few acc z 0
    show (ws.foldl (fun acc z => putL acc z 0) (putL acc z 0)).length ≤ acc.length + (ws.length + 1)
    omega
theorem wgo_of {l' l : List (Str × Nat)} : ∀ (ws : List Str) (n : Nat), (∀ z ∈ ws, arity l' (.str z) = some (ar l z : Int)) → Wh (ar l) n ws → wgo l' (n : Int) (ws.map V.str) = true
  | [], n, _, h => by
    have h' : n = 0 := h
    rw [h']
    rfl
  | z :: ws, 0, _, h => h.elim
  | z :: ws, n + 1, ha, h => by
    have h' : Wh (ar l) (n + ar l z) ws := h
    rw [List.map_cons, wgo_some (by omega) (ha z List.mem_cons_self)]
    have e : ((n + 1 : Nat) : Int) + ((ar l z : Int) - 1) = ((n + ar l z : Nat) : Int) := by omega
    rw [e]
    exact wgo_of ws _ (fun y m => ha y (List.mem_cons_of_mem _ m)) h'
theorem arity_merge {l : List (Str × Nat)} (nd : (l.map (·.1)).Nodup) {ws : List Str} {z : Str} (m : z ∈ ws) : arity (mergeL (zl ws) l) (.str z) = some (ar l z : Int) := by
  show (match valV (dkv (mergeL (zl ws) l)) (.inr z : Key) with | some (.int a) => some a | _ => none) = _
  rw [val_mergeL z l (zl ws) nd]
  cases e : valV (dkv l) (.inr z : Key) with
  | none =>
    rw [ar_none e]
    have : valV (dkv (zl ws)) (.inr z : Key) = some (.int 0) := val_zl z ws [] (.inl m)
    rw [this]
    rfl
  | some v =>
    obtain ⟨n, rfl, _⟩ := val_nat e
    rw [ar_of e]
    rfl
/-! ### the program's small defs -/
/-- the program's small defs -/
structure Low (K : PySem.W.Frag) (mg : Str → Option Value) (fN fI fA fW : Addr) (dN dI dA dW : FuncData) (tk tk9 tk7 : Tok) : Prop where
  FN : Fun K "is_name" "is_name" sName fN dN
  bN : Binds K dN ["value"] []
  gN : mg "is_name" = some (.ref fN)
  FI : Fun K "is_integer" "is_integer" sInteger fI dI
  bI : Binds K dI ["value"] []
  gI : mg "is_integer" = some (.ref fI)
  FA : Fun K "are_names" "are_names" sNames fA dA
  bA : Binds K dA ["value"] []
  gA : mg "are_names" = some (.ref fA)
  FW : Fun K "is_whole" "is_whole" sWhole fW dW
  bW : Binds K dW ["words", "arities"] []
  gW : mg "is_whole" = some (.ref fW)
  l8 : mg "MAX_LETTERS" = some (.int 8 tk)
  p9 : mg "MAX_PRICE" = some (.int 9 tk9)
  p7 : mg "MAX_PATTERN" = some (.int 7 tk7)
theorem int_small {n : Nat} (h : n ≤ 1000) : isIntO (.int (n : Int)) = true := by
  rw [isIntO_eq]
  show decide ((if (n : Int) < 0 then -(n : Int) else n) < 10 ^ (60 : Int).toNat) = true
  have e : ((10 : Int) ^ (60 : Int).toNat) = ((10 ^ 60 : Nat) : Int) := by decide +kernel
  rw [if_neg (by omega), e, decide_eq_true (by omega)]
end Pr
namespace Pr
open PySem PySem.Spec PyProof.Rows L2 Gd
/-! ### is_rule -/
def spRule : Sp := fun vs H Q _ => ∃ (a d : Addr) (l : List (Str × Nat)) (r : Rl), vs = [.ref a, .ref d] ∧ RuleAt H a r ∧ H d = some (.dK (dkv l)) ∧ OpsOk l ∧ RlOk l r ∧ ∀ H', Same H H' → Q (.bl true) H'
section
variable {P : Program} {w : World} {K : PySem.W.Frag} {mg : Str → Option Value} {base : Heap} {fN fI fA fW : Addr} {dN dI dA dW : FuncData} {tk tk9 tk7 : Tok}
theorem scRule : FnScope ["value", "arities", "nonterminal", "price", "pattern", "word"] ["value", "arities"] (defScope sRule) := ⟨rfl, rfl, rfl, by decide +kernel, rfl, by decide +kernel, by decide +kernel⟩
theorem ok_rule {f : Addr} {fd : FuncData} (F : Fun K "is_rule" "is_rule" sRule f fd) (T : Free mg) (L : Low K mg fN fI fA fW dN dI dA dW tk tk9 tk7) : FnOk P w K mg base CX0 3 f fd ["value", "arities"] spRule := by
  have GN : FnOk P w K mg base CX0 1 fN dN ["value"] spName := ok_name L.FN T L.l8
  have GI : FnOk P w K mg base CX0 1 fI dI ["value"] spIntO := ok_integerO L.FI T
  have GA : FnOk P w K mg base CX0 2 fA dA ["value"] spNames := ok_names L.FA T L.l8 L.FN L.bN L.gN
  have GW : FnOk P w K mg base CX0 1 fW dW ["words", "arities"] spWhole := ok_whole L.FW T
  refine F.ok scRule (fun vs H Q E h => ?_) (fun cdv A outer s H vs Q E hr h => ?_)
  · obtain ⟨a, d, l, r, rfl, _⟩ := h
    rfl
  · obtain ⟨a, d, l, r, rfl, ra, hd, oo, ok, q⟩ := h
    have hu := hr.units
    have hu1 : ∀ {u : Nat}, u + 64 < cLine → u + 1 < cLine := fun h => by omega
    have r1 : Room 1 _ := hr.mono (by decide)
    have r2 : Room 2 _ := hr.mono (by decide)
    refine ⟨_, (pss_cons (ps_if (PW.pt (pw_or (pt_not (pt_val (pe_callB call_isi (by rfl) T.isi (by decide +kernel) (pa_cons (pv 0) (pa_cons (pe_bltn (v := .ty "tuple") (by rfl) T.tuple (by decide +kernel) rfl) pa_nil))))) (pw_or1 (pt_cmpR op_ne (pe_callB call_len_seq (by rfl) T.len PySem.boot_len (pa_cons (pv 0) pa_nil)) pe_int (nomark _))))) (pss_one (ps_ret pe_bl)) pss_nil) (pss_cons (ps_asg (pv 0) (pg_tup rfl (pgs_cons (pg_name (i := 2) scRule.nd rfl (.inl rfl)) (pgs_cons (pg_name (i := 3) scRule.nd rfl (.inl rfl)) (pgs_cons (pg_name (i := 4) scRule.nd rfl (.inl rfl)) pgs_nil))))) (pss_cons (ps_if (PW.pt (pw_or (pt_not (pt_val (pe_call GN r1 (by rfl) L.gN L.FN.kp L.bN .nil pass0 (pa_cons (pv 2) pa_nil)))) (pw_or (pt_cmp (pc_din (hu1 hu) (pv 2) (pv 1))) (pw_or (pt_not (pt_val (pe_call GI r1 (by rfl) L.gI L.FI.kp L.bI .nil pass0 (pa_cons (pv 3) pa_nil)))) (pw_or1 (pt_not (pt_chain op_le op_le pe_int (pv 3) (pe_glob (v := .int 9) (by rfl) L.p9 ⟨_, rfl⟩)))))))) (pss_one (ps_ret pe_bl)) pss_nil) (pss_cons (ps_if (PW.pt (pw_or (pt_not (pt_val (pe_call GA r2 (by rfl) L.gA L.FA.kp L.bA .nil pass0 (pa_cons (pv 4) pa_nil)))) (pw_or (pt_not (pt_chain op_le op_le pe_int (pe_callB call_len_seq (by rfl) T.len PySem.boot_len (pa_cons (pv 4) pa_nil)) (pe_glob (v := .int 7) (by rfl) L.p7 ⟨_, rfl⟩))) (pw_or1 (pt_cmpR (op_eqD hu) (pv 4) (pe_tup (pa_cons (pv 2) pa_nil)) (nomark _)))))) (pss_one (ps_ret pe_bl)) pss_nil) (pss_one (ps_ret (pe_call GW r1 (by rfl) L.gW L.FW.kp L.bW .nil pass0 (pa_cons (pv 4) (pa_cons (Du.pe_dunp2 (pe_dc (own := [("word", 5)]) (g := gName 5) (by rfl) scRule.nd (pi_tup (pv 4)) (blkOk_by (own := [("word", 5)]) (N := ["value", "arities", "nonterminal", "price", "pattern", "word"]) (sc := defScope sRule) (by decide +kernel)) (fun _ _ _ _ _ => pg_name (i := 5) scRule.nd rfl (.inl rfl)) (fun _ _ _ _ _ => pts_nil) (fun _ _ _ _ _ => pv 5) (fun _ _ _ _ _ => pe_int)) (pv 1)) pa_nil))))))))), ?_⟩
    obtain ⟨t, ha, ht⟩ := ra
    obtain ⟨h, p, ws⟩ := r
    have ok_h : azB h = true := ok.head
    have ok_new : h ∉ l.map (·.1) := ok.new
    have ok_p : p ≤ 9 := ok.price
    have ok_s : 1 ≤ ws.length := ok.some_
    have ok_f : ws.length ≤ 7 := ok.few
    have ok_n : ∀ z ∈ ws, azB z = true := ok.names
    have ok_o : ws ≠ [h] := ok.other
    have ok_w : Wh (ar l) 1 ws := ok.whole
    refine ⟨_, rfl, .ref a, _, _, _, true, rfl, .ty "tuple", tyR (.inl ha), kit_ty (r := true) (by decide +kernel), _, rfl, if_false_of rfl ?_⟩
    have kn : ∀ y, V.str h = .str y → y.length ≤ 1000000 := fun y e => by
      cases e
      have := az_len ok_h
      omega
    refine ⟨_, rfl, a, _, rfl, .inr (SqT.of ha), rfl, _, rfl, if_false_of rfl ?_⟩
    refine ⟨_, rfl, a, _, rfl, SqT.of ha, rfl, _, _, rfl, _, _, rfl, _, _, rfl, rfl, ?_⟩
    have nh : (valV (dkv l) (.inr h : Key)).isSome = false := by
      cases e : (valV (dkv l) (.inr h : Key)).isSome with
      | false => rfl
      | true => exact absurd (val_mem_iff.mp e) ok_new
    have ip : isIntO (.int (p : Int)) = true := int_small (by omega)
    refine ⟨_, rfl, .str h, "str", rfl, .str h, kn, _, rfl, if_false_of (by rw [show nameB (.str h) = true from ok_h]; rfl) ?_⟩
    refine ⟨_, rfl, _, rfl, d, _, rfl, DGet.k (k := .inr h) hd, _, rfl, if_false_of nh ?_⟩
    refine ⟨_, rfl, .int (p : Int), "int", rfl, .int _, _, rfl, if_false_of (by rw [ip]; rfl) ?_⟩
    refine ⟨_, rfl, _, _, rfl, rfl, _, rfl, if_true_of (decide_eq_true (by show (0 : Int) ≤ (p : Int); omega)) ⟨_, _, rfl, rfl, _, rfl, if_false_of (by rw [decide_eq_true (show ((h, p, ws).2.1 : Int) ≤ 9 by show (p : Int) ≤ 9; omega)]; rfl) ?_⟩⟩
    refine ⟨_, rfl, t, ws, rfl, ht, ok_n, by omega, fun H1 s1 => ⟨_, rfl, if_false_of rfl ?_⟩⟩
    have ht1 := s1 _ _ ht
    have hd1 := s1 _ _ hd
    have lw : (ws.map V.str).length = ws.length := List.length_map _
    refine ⟨_, rfl, t, _, rfl, .inr (SqT.of ht1), _, _, rfl, rfl, _, rfl, if_true_of (decide_eq_true (by rw [lw]; omega)) ⟨_, _, rfl, rfl, _, rfl, if_false_of (by rw [lw, decide_eq_true (by omega)]; rfl) ?_⟩⟩
    refine ⟨_, rfl, _, rfl, by show 1 ≤ sizeLine; decide, fun p1 np1 => ?_⟩
    refine eqTx (xs := ws) (ys := [h]) (SqT.of ((Same.new np1) _ _ ht1)) (SqT.of upd_same) ok_n (fun z m => by rw [List.mem_singleton.mp m]; exact ok_h) ⟨_, rfl, if_false_of (decide_eq_false ok_o) ?_⟩
    have ht2 := (Same.new np1 (o := .tup [.str h])) _ _ ht1
    have hd2 := (Same.new np1 (o := .tup [.str h])) _ _ hd1
    have s2 := s1.trans (Same.new np1 (o := .tup [.str h]))
    generalize upd H1 p1 (.tup [.str h]) = H2 at ht2 hd2 s2 ⊢
    refine ⟨_, rfl, fun m nm => ?_⟩
    have s3 := s2.trans (Same.new nm (o := .dK []))
    have hm3 : (upd H2 m (.dK [])) m = some (.dK []) := upd_same
    generalize upd H2 m (.dK []) = H3 at s3 hm3 ⊢
    have ht3 := s3 _ _ ht
    refine ⟨_, rfl, t, rfl, ⟨_, SqT.of ht3⟩, fun D nD => ?_⟩
    refine dc_tup (K := K) (a := t) (xs := ws.map V.str) (fun i G => G D = some (.dK (dkv (zl (ws.take i)))) ∧ Same H3 G) ⟨upd_same, Same.new nD⟩ (fun i G _ ⟨_, s⟩ => SqT.of (s _ _ ht3)) ?_ ?_
    · rintro i x G hx ⟨eD, s⟩
      obtain ⟨z, hz, rfl⟩ : ∃ z, ws[i]? = some z ∧ x = .str z := by
        rw [List.getElem?_map] at hx
        cases e : ws[i]? with
        | none => rw [e] at hx; cases hx
        | some z => rw [e] at hx; exact ⟨z, rfl, (Option.some.inj hx).symm⟩
      have hi := (List.getElem?_eq_some_iff.mp hz).1
      refine ⟨rfl, _, rfl, _, .inr z, rfl, eD, ?_, ?_, fun b o q => by rw [upd_ne (ne_of_none q nD)]; exact s b o q⟩
      · have e1 := zl_few (ws.take i) []
        have e2 : (dkv (zl (ws.take i))).length = (zl (ws.take i)).length := List.length_map _
        have e3 : (ws.take i).length ≤ ws.length := by rw [List.length_take]; omega
        have e4 : (zl (ws.take i)).length ≤ 0 + (ws.take i).length := e1
        rw [e2, sizeLine_eq]
        omega
      · rw [upd_same, show (V.int 0) = V.int ((0 : Nat) : Int) from rfl, put_dkv, List.take_add_one, hz]
        unfold zl
        rw [List.foldl_append]
        rfl
    · rintro G ⟨eD, s⟩
      rw [List.take_of_length_le (by rw [lw]; exact Nat.le_refl _)] at eD
      have dm : D ≠ m := fun e => by
        rw [e, hm3] at nD
        cases nD
      have gm_ := s _ _ hm3
      refine ⟨D, _, rfl, dm, gm_, eD, ?_⟩
      have hdm : d ≠ m := fun e => by
        rw [← e, hd2] at nm
        cases nm
      have hd4 : (upd G m (.dK (dkv (zl ws)))) d = some (.dK (dkv l)) := by
        rw [upd_ne hdm]
        exact s _ _ (s3 _ _ hd)
      refine ⟨_, rfl, d, _, rfl, hdm, upd_same, hd4, ?_, ?_⟩
      · have e1 := zl_few ws []
        have e2 : (dkv (zl ws)).length = (zl ws).length := List.length_map _
        have e3 : (dkv l).length = l.length := List.length_map _
        have e4 : (zl ws).length ≤ 0 + ws.length := e1
        have e5 := oo.few
        omega
      rw [merge_dkv]
      have s5 : Same H (upd (upd G m (.dK (dkv (zl ws)))) m (.dK (dkv (mergeL (zl ws) l)))) := fun b u e => by
        have nb : b ≠ m := fun c => by
          rw [← c] at nm
          have := s2 _ _ e
          rw [this] at nm
          cases nm
        rw [upd_ne nb, upd_ne nb]
        exact s _ _ (s3 _ _ e)
      have hm5 : (upd (upd G m (.dK (dkv (zl ws)))) m (.dK (dkv (mergeL (zl ws) l)))) m = some (.dK (dkv (mergeL (zl ws) l))) := upd_same
      generalize upd (upd G m (.dK (dkv (zl ws)))) m (.dK (dkv (mergeL (zl ws) l))) = H5 at s5 hm5 ⊢
      refine ⟨t, m, ws.map V.str, mergeL (zl ws) l, rfl, .inl (s5 _ _ ht), fun x mx => ?_, hm5, ?_⟩
      · obtain ⟨z, _, rfl⟩ := List.mem_map.mp mx
        exact ⟨_, .str z⟩
      · have e := wgo_of (l' := mergeL (zl ws) l) (l := l) ws 1 (fun z mz => arity_merge oo.nd mz) ok_w
        rw [show ((1 : Nat) : Int) = 1 from rfl] at e
        rw [e]
        exact q H5 s5
end
end Pr
namespace Pr
open PySem PySem.Spec PyProof.Rows L2 Gd
/-! ### nonterminals_of -/
/-- words as the keys of a dict of True -/
def kd (ys : List Str) : List (Key × V) := ys.map fun z => (.inr z, .bl true)
theorem kd_len (ys : List Str) : (kd ys).length = ys.length := List.length_map _
theorem kd_put {ys : List Str} {z : Str} : putK (kd ys) (.inr z) (.bl true) = if z ∈ ys then kd ys else kd (ys ++ [z]) := by
  have ea : ((kd ys).any fun kv => decide (kv.1 = (.inr z : Key))) = decide (z ∈ ys) := by
    unfold kd
    rw [List.any_map, Bool.eq_iff_iff, List.any_eq_true, decide_eq_true_eq]
    constructor
    · rintro ⟨y, m, e⟩
      have e' : (Sum.inr y : Key) = .inr z := of_decide_eq_true e
      rw [← Sum.inr.inj e']
      exact m
    · intro m
      exact ⟨z, m, decide_eq_true rfl⟩
  unfold putK
  rw [ea]
  by_cases m : z ∈ ys
  · rw [if_pos (decide_eq_true m), if_pos m]
    unfold kd
    rw [List.map_map]
    refine List.map_congr_left fun y _ => ?_
    show (if (Sum.inr y : Key) = .inr z then ((Sum.inr y : Key), V.bl true) else (.inr y, .bl true)) = _
    split <;> rfl
  · rw [if_neg (by rw [decide_eq_false m]; exact Bool.false_ne_true), if_neg m]
    unfold kd
    rw [List.map_append]
    rfl
theorem isNt_of_at {l : List (Str × Nat)} {g : Str} {rs : List Rl} {i : Nat} {z : Str} (h : isNt l g (rs.take i) z) : isNt l g rs z := by
  rcases h with h | ⟨r, m, k⟩
  · exact .inl h
  · exact .inr ⟨r, List.mem_of_mem_take m, k⟩
/-- the rules at a, in a tuple -/
structure RulesAt (H : Hp) (a : Addr) (rs : List Rl) : Prop where
  ex : ∃ as : List Addr, H a = some (.tup (as.map V.ref)) ∧ Paired (fun b r => RuleAt H b r) as rs
theorem RulesAt.same {H H' : Hp} {a : Addr} {rs : List Rl} (h : RulesAt H a rs) (s : Same H H') : RulesAt H' a rs := let ⟨as, x, y⟩ := h.ex; ⟨as, s _ _ x, paired_map (fun _ _ k => k.same s) y⟩
theorem pget9 {α β : Type} {F : α → β → Prop} : ∀ {xs : List α} {ys : List β} {i : Nat} {x : α}, Paired F xs ys → xs[i]? = some x → ∃ y, ys[i]? = some y ∧ F x y
  | _, _, i, x, .nil, h => by simp at h
  | _, _, 0, x, .cons f _, h => by
    simp only [List.getElem?_cons_zero] at h
    cases h
    exact ⟨_, rfl, f⟩
  | _, _, i + 1, x, .cons _ t, h => by
    simp only [List.getElem?_cons_succ] at h
    obtain ⟨y, h1, h2⟩ := pget9 t h
    exact ⟨y, by rw [List.getElem?_cons_succ]; exact h1, h2⟩
theorem ref_at {as : List Addr} {i : Nat} {x : V} (h : (as.map V.ref)[i]? = some x) : ∃ b, as[i]? = some b ∧ x = .ref b := by
  rw [List.getElem?_map] at h
  cases e : as[i]? with
  | none => rw [e] at h; cases h
  | some b => rw [e] at h; exact ⟨b, rfl, (Option.some.inj h).symm⟩
theorem str_at {zs : List Str} {i : Nat} {x : V} (h : (zs.map V.str)[i]? = some x) : ∃ z, zs[i]? = some z ∧ x = .str z := by
  rw [List.getElem?_map] at h
  cases e : zs[i]? with
  | none => rw [e] at h; cases h
  | some b => rw [e] at h; exact ⟨b, rfl, (Option.some.inj h).symm⟩
def spNonts : Sp := fun vs H Q _ => ∃ (g : Str) (ra d : Addr) (l : List (Str × Nat)) (rs : List Rl), vs = [.str g, .ref ra, .ref d] ∧ RulesAt H ra rs ∧ H d = some (.dK (dkv l)) ∧ BkOk l g rs ∧
  ∀ (ys : List Str) (p : Addr) (H' : Hp), sortedS ys = true → ys.Nodup → (∀ z, z ∈ ys ↔ isNt l g rs z) → H p = none → Same H H' → H' p = some (.tup (ys.map V.str)) → Q (.ref p) H'
section
variable {P : Program} {w : World} {K : PySem.W.Frag} {mg : Str → Option Value} {base : Heap}
theorem scNonts : FnScope ["goal", "rules", "arities", "found", "nonterminal", "_", "pattern", "word"] ["goal", "rules", "arities"] (defScope sNonts) := ⟨rfl, rfl, rfl, by decide +kernel, rfl, by decide +kernel, by decide +kernel⟩
theorem ok_nonts {f : Addr} {fd : FuncData} (F : Fun K "nonterminals_of" "nonterminals_of" sNonts f fd) (T : Free mg) : FnOk P w K mg base CX0 1 f fd ["goal", "rules", "arities"] spNonts := by
  refine F.ok scNonts (fun vs H Q E h => ?_) (fun cdv A outer s H vs Q E hr h => ?_)
  · obtain ⟨g, ra, d, l, rs, rfl, _⟩ := h
    rfl
  · obtain ⟨g, ra, d, l, rs, rfl, hra, hd, ok, q⟩ := h
    have hu := hr.units
    have hu1 : ∀ {u : Nat}, u + 64 < cLine → u + 1 < cLine := fun h => by omega
    refine ⟨_, (pss_cons (ps_set (i := 3) scNonts.nd rfl (.inl rfl) (pe_disp (pps_cons (pv 0) pe_bl pps_nil) (by rfl) (by rfl) (fun z => by cases z) (by decide))) (pss_cons (ps_for PassesOwn.never rfl (pi_tup (pv 1)) (pg_tup rfl (pgs_cons (pg_name (i := 4) scNonts.nd rfl (.inl rfl)) (pgs_cons (pg_name (i := 5) scNonts.nd rfl (.inl rfl)) (pgs_cons (pg_name (i := 6) scNonts.nd rfl (.inl rfl)) pgs_nil)))) (pss_one (ps_for PassesOwn.never rfl (pi_tup (pe_tup (pa_cons (pv 4) (StX.pa_star (pv 6) pa_nil)))) (pg_name (i := 7) scNonts.nd rfl (.inl rfl)) (pss_one (ps_if (pt_cmp (pc_dnotin (hu1 hu) (pv 7) (pv 2))) (pss_one (ps_asg pe_bl (pg_sub (pv 3) (pv 7) (set_dict (Nat.lt_of_le_of_lt (Nat.add_le_add_left (by decide : 1 ≤ 64) _) hu))))) pss_nil))))) (pss_one (ps_ret (pe_callTy call_tuple_of (by rfl) T.tuple (by decide +kernel) (pa_cons (pe_callB (call_sortedD (by rfl)) (by rfl) T.sorted (by decide +kernel) (pa_cons (pv 3) pa_nil)) pa_nil)))))), ?_⟩
    obtain ⟨D6, hD6, inD⟩ := ok.six
    obtain ⟨as, hra0, pr⟩ := hra.ex
    refine fun fa nfa => ⟨_, rfl, upd_same, [(.inr g, .bl true)], rfl, Nat.le_of_ble_eq_true rfl, ?_⟩
    rw [upd_upd]
    have sA : ∀ {G : Hp} {u : HO}, Same H G → Same H (upd G fa u) := fun {G u} s b o e => by rw [upd_ne (ne_of_none e nfa)]; exact s b o e
    have s0 : Same H H := Same.refl H
    refine ⟨_, rfl, ra, rfl, ⟨_, SqT.of ((sA s0) _ _ hra0)⟩, ?_⟩
    refine for_tup (K := K) (a := ra) (xs := as.map V.ref) (fun i σ G => ∃ (v4 v5 v6 v7 : Option V) (ys : List Str), σ = [some (.str g), some (.ref ra), some (.ref d), some (.ref fa), v4, v5, v6, v7] ∧ G fa = some (.dK (kd ys)) ∧ ys.Nodup ∧ (∀ z, z ∈ ys ↔ isNt l g (rs.take i) z) ∧ Same H G)
      ⟨none, none, none, none, [g], rfl, upd_same, by simp, fun z => ?_, sA s0⟩ (fun i σ G _ ⟨_, _, _, _, _, _, _, _, _, s⟩ => SqT.of (s _ _ hra0)) ?_ ?_
    · rw [List.mem_singleton]
      constructor
      · exact .inl
      · rintro (h | ⟨r, m, _⟩)
        · exact h
        · simp at m
    · rintro i x σ G hx ⟨v4, v5, v6, v7, ys, rfl, eF, nd, mem, s⟩
      obtain ⟨b, hb, rfl⟩ := ref_at hx
      obtain ⟨r, hr', rat⟩ := pget9 pr hb
      have rok := ok.rules r (List.mem_of_getElem? hr')
      obtain ⟨t, hbt, htt⟩ := rat.same s
      refine ⟨b, _, rfl, SqT.of hbt, rfl, _, _, rfl, _, _, rfl, _, _, rfl, rfl, ?_⟩
      have lt : (r.2.2.map V.str).length = r.2.2.length := List.length_map _
      have few := rok.few
      refine ⟨_, rfl, _, rfl, t, _, rfl, .inl (SqT.of htt), by show (r.2.2.map V.str ++ []).length + 1 ≤ sizeLine; rw [List.append_nil, lt, sizeLine_eq]; omega, fun tw ntw => ?_⟩
      rw [List.append_nil]
      have etw : V.str r.1 :: r.2.2.map V.str = (r.1 :: r.2.2).map V.str := rfl
      rw [etw]
      have s1 := Same.new ntw (o := .tup ((r.1 :: r.2.2).map V.str))
      have htw : (upd G tw (.tup ((r.1 :: r.2.2).map V.str))) tw = some (.tup ((r.1 :: r.2.2).map V.str)) := upd_same
      have eF1 := s1 _ _ eF
      have s2 := s.trans s1
      have twf : tw ≠ fa := fun e => by
        rw [e, eF] at ntw
        cases ntw
      generalize upd G tw (.tup ((r.1 :: r.2.2).map V.str)) = G1 at s1 htw eF1 s2 ⊢
      refine ⟨tw, rfl, ⟨_, SqT.of htw⟩, ?_⟩
      refine for_tup (K := K) (a := tw) (xs := (r.1 :: r.2.2).map V.str) (fun j σ G => ∃ (v7 : Option V) (ys : List Str), σ = [some (.str g), some (.ref ra), some (.ref d), some (.ref fa), some (.str r.1), some (.int (r.2.1 : Int)), some (.ref t), v7] ∧ G fa = some (.dK (kd ys)) ∧ ys.Nodup ∧
          (∀ z, z ∈ ys ↔ isNt l g (rs.take i) z ∨ (z ∈ (r.1 :: r.2.2).take j ∧ z ∉ l.map (·.1))) ∧ Same H G ∧ G tw = some (.tup ((r.1 :: r.2.2).map V.str)))
        ⟨v7, ys, rfl, eF1, nd, fun z => ?_, s2, htw⟩ (fun i σ G _ ⟨_, _, _, _, _, _, _, h⟩ => SqT.of h) ?_ ?_
      · rw [mem z, List.take_zero]
        simp
      · rintro j y σ G2 hy ⟨v7, ys, rfl, eF, nd, mem, s, htw⟩
        obtain ⟨z, hz, rfl⟩ := str_at hy
        have step : ∀ x, x ∈ (r.1 :: r.2.2).take (j + 1) ↔ x ∈ (r.1 :: r.2.2).take j ∨ x = z := fun x => by
          rw [List.take_add_one, hz, List.mem_append]
          simp
        refine ⟨_, rfl, _, rfl, d, _, rfl, DGet.k (k := .inr z) (s _ _ hd), _, rfl, ?_⟩
        by_cases c : z ∈ l.map (·.1)
        · have e := val_mem_iff.mpr c
          refine if_false_of (by rw [e]; rfl) ⟨_, _, rfl, eF, nd, fun x => ?_, s, htw⟩
          rw [mem x, step x]
          constructor
          · rintro (h | ⟨h, n⟩)
            · exact .inl h
            · exact .inr ⟨.inl h, n⟩
          · rintro (h | ⟨h | h, n⟩)
            · exact .inl h
            · exact .inr ⟨h, n⟩
            · exact absurd (h ▸ c) n
        · have e : (valV (dkv l) (.inr z : Key)).isSome = false := by
            cases q : (valV (dkv l) (.inr z : Key)).isSome with
            | false => rfl
            | true => exact absurd (val_mem_iff.mp q) c
          refine if_true_of (by rw [e]; rfl) ?_
          have lys : ys.length ≤ 6 := Nat.le_trans (nodup_few nd fun x m => inD x (by
            rcases (mem x).mp m with h | ⟨h, n⟩
            · exact isNt_of_at h
            · refine .inr ⟨r, List.mem_of_getElem? hr', ?_, n⟩
              have := List.mem_of_mem_take h
              rcases List.mem_cons.mp this with k | k
              · exact .inl k
              · exact .inr k)) hD6
          refine ⟨_, rfl, _, rfl, fa, _, rfl, .inl ⟨kd ys, .inr z, eF, rfl, by rw [kd_len, sizeLine_eq]; omega, rfl⟩, ?_⟩
          rw [kd_put]
          by_cases m : z ∈ ys
          · rw [if_pos m]
            refine ⟨_, ys, rfl, upd_same, nd, fun x => ?_, sA s, by rw [upd_ne twf]; exact htw⟩
            rw [mem x, step x]
            constructor
            · rintro (h | ⟨h, n⟩)
              · exact .inl h
              · exact .inr ⟨.inl h, n⟩
            · rintro (h | ⟨h | h, n⟩)
              · exact .inl h
              · exact .inr ⟨h, n⟩
              · rw [h]
                exact (mem z).mp m
          · rw [if_neg m]
            refine ⟨_, ys ++ [z], rfl, upd_same, ?_, fun x => ?_, sA s, by rw [upd_ne twf]; exact htw⟩
            · rw [List.nodup_append]
              refine ⟨nd, by simp, fun x mx y my e => m ?_⟩
              rw [List.mem_singleton] at my
              rw [← my, ← e]
              exact mx
            · rw [List.mem_append, mem x, step x, List.mem_singleton]
              constructor
              · rintro ((h | ⟨h, n⟩) | h)
                · exact .inl h
                · exact .inr ⟨.inl h, n⟩
                · exact .inr ⟨.inr h, h ▸ c⟩
              · rintro (h | ⟨h | h, n⟩)
                · exact .inl (.inl h)
                · exact .inl (.inr ⟨h, n⟩)
                · exact .inr h
      · rintro σ G2 ⟨v7, ys, rfl, eF, nd, mem, s, htw⟩
        refine ⟨_, _, _, _, ys, rfl, eF, nd, fun z => ?_, s⟩
        have et : (r.1 :: r.2.2).take ((r.1 :: r.2.2).map V.str).length = r.1 :: r.2.2 := List.take_of_length_le (by rw [List.length_map]; exact Nat.le_refl _)
        rw [mem z, et]
        unfold isNt
        rw [List.take_add_one, hr']
        constructor
        · rintro ((h | ⟨r2, m2, k⟩) | ⟨h, n⟩)
          · exact .inl h
          · exact .inr ⟨r2, List.mem_append_left _ m2, k⟩
          · refine .inr ⟨r, List.mem_append_right _ (by simp), ?_, n⟩
            rcases List.mem_cons.mp h with k | k
            · exact .inl k
            · exact .inr k
        · rintro (h | ⟨r2, m2, k, n⟩)
          · exact .inl (.inl h)
          · rcases List.mem_append.mp m2 with m2 | m2
            · exact .inl (.inr ⟨r2, m2, k, n⟩)
            · have e2 : r2 = r := by simpa using m2
              rw [e2] at k
              refine .inr ⟨?_, n⟩
              rcases k with k | k
              · rw [k]; exact List.mem_cons_self
              · exact List.mem_cons_of_mem _ k
    · rintro σ G ⟨v4, v5, v6, v7, ys, rfl, eF, nd, mem, s⟩
      have la : as.length = rs.length := Paired.length pr
      rw [List.take_of_length_le (by rw [List.length_map, la]; exact Nat.le_refl _)] at mem
      have lys : ys.length ≤ 6 := Nat.le_trans (nodup_few nd fun x m => inD x ((mem x).mp m)) hD6
      refine ⟨_, rfl, fa, kd ys, ys, rfl, .inl eF, by unfold kd; rw [List.map_map]; rfl, by omega, fun zs lp pm srt nlp => ?_⟩
      refine ⟨lp, _, rfl, .inl ⟨SqL.of upd_same, fun tp ntp => ?_⟩⟩
      have nH : H lp = none := Same.free s nlp
      have s3 := (s.trans (Same.new nlp (o := .lst (zs.map V.str)))).trans (Same.new ntp (o := .tup (zs.map V.str)))
      refine q zs tp _ srt (pm.nodup_iff.mpr nd) (fun z => by rw [pm.mem_iff, mem z]) ?_ s3 upd_same
      exact Same.free (s.trans (Same.new nlp (o := .lst (zs.map V.str)))) ntp
end
end Pr
namespace Ns
open PySem PySem.Spec PyProof.Rows L2
theorem set_tup {K : PySem.W.Frag} {w : World} {a : Addr} {xs : List V} {g : TG} {tt : TT} {te : TE} {vs : List Nat} {σ : L2.St} {H1 : Hp} {D : Addr} {Qd : Hp → Prop} (Pv : Nat → Hp → Prop) (h0 : Pv 0 (upd H1 D (SetO w D []))) (hl : ∀ i H, i ≤ xs.length → Pv i H → SqT K H a xs)
    (hs : ∀ i x H, xs[i]? = some x → Pv i H → g x (wipe σ vs) H fun σ2 H2 => wipe σ2 vs = wipe σ vs ∧ tt σ2 H2 fun b H3 => if b = true then te σ2 H3 (tElt K w D (Pv (i + 1))) else Pv (i + 1) H3) (hd : ∀ H, Pv xs.length H → Qd H) :
    ∃ W : Nat → Nat → Hp → Prop, (∃ m, W 0 m (upd H1 D (SetO w D []))) ∧ ∀ i m H, W i m H →
      ((Itt K a).stop i H ∧ Qd H) ∨ ((Itt K a).go i H ∧ ∃ Nx : Hp → Prop, (∀ H', Nx H' → ∃ m', m' < m ∧ W (i + 1) m' H') ∧ ∀ x H', (Itt K a).yld i H x H' → g x (wipe σ vs) H' fun σ2 H2 => wipe σ2 vs = wipe σ vs ∧ tt σ2 H2 fun b H3 =>
        if b = true then te σ2 H3 (tElt K w D Nx) else Nx H3) := by
  refine ⟨fun i m H => m = xs.length - i ∧ i ≤ xs.length ∧ Pv i H, ⟨xs.length, by simp, Nat.zero_le _, h0⟩, ?_⟩
  rintro i m H ⟨rfl, hi, p⟩
  have q := hl i H hi p
  by_cases hlt : i < xs.length
  · refine .inr ⟨⟨xs, xs[i], q, by simp [hlt]⟩, Pv (i + 1), fun H' p' => ⟨xs.length - (i + 1), by omega, rfl, hlt, p'⟩, fun x H' y => ?_⟩
    obtain ⟨e, y⟩ := y
    subst e
    exact hs i x _ (y xs q) p
  · have e : i = xs.length := by omega
    subst e
    exact .inl ⟨⟨xs, q, Nat.le_refl _⟩, hd H p⟩
/-- tuples stay where only a set changes -/
theorem sqT_set {K : PySem.W.Frag} {w : World} {H : Hp} {D a : Addr} {L : List El} {o : HO} {xs : List V} (hD : H D = some (SetO w D L)) (h : SqT K H a xs) : SqT K (upd H D o) a xs := by
  rcases h with h | h
  · have ne : a ≠ D := fun e => by
      rw [e] at h
      rcases h with h | ⟨_, h⟩ <;> (rw [hD] at h; cases h)
    rcases h with h | ⟨od, h⟩
    · exact .inl (.inl (by rw [upd_ne ne]; exact h))
    · exact .inl (.inr ⟨od, by rw [upd_ne ne]; exact h⟩)
  · exact .inr h
theorem elK_set {K : PySem.W.Frag} {w : World} {H : Hp} {D : Addr} {L : List El} {o : HO} {p : El} (hD : H D = some (SetO w D L)) (h : ElK K H p) : ElK K (upd H D o) p := ⟨KV.up (fun _ _ q => sqT_set hD q) h.1, h.2⟩
theorem elK_same {K : PySem.W.Frag} {H H' : Hp} {p : El} (s : Same H H') (h : ElK K H p) : ElK K H' p := ⟨KV.up (fun _ _ q => sqT_same q s) h.1, h.2⟩
end Ns
namespace Pr
open PySem PySem.Spec PyProof.Rows L2 Gd Ns
/-! ### is_book -/
/-- the key of a rule's head with its pattern -/
def keyR (r : Rl) : NestedKey := .tup [.text r.1, .tup (r.2.2.map .text)]
theorem keyR_inj {r q : Rl} (h : keyR r = keyR q) : (r.1, r.2.2) = (q.1, q.2.2) := by
  unfold keyR at h
  injection h with h
  injection h with h1 h2
  injection h1 with h1
  injection h2 with h2 _
  injection h2 with h2
  rw [h1, text_inj h2]
def spIsBook : Sp := fun vs H Q _ => ∃ (g : Str) (ra d : Addr) (l : List (Str × Nat)) (rs : List Rl), vs = [.str g, .ref ra, .ref d] ∧ RulesAt H ra rs ∧ H d = some (.dK (dkv l)) ∧ BkOk l g rs ∧ ∀ H', Same H H' → Q (.bl true) H'
/-- the program's defs of books -/
structure Mid (K : PySem.W.Frag) (mg : Str → Option Value) (fR fT : Addr) (dR dT : FuncData) (tk12 tk6 : Tok) : Prop where
  FR : Fun K "is_rule" "is_rule" sRule fR dR
  bR : Binds K dR ["value", "arities"] []
  gR : mg "is_rule" = some (.ref fR)
  FT : Fun K "nonterminals_of" "nonterminals_of" sNonts fT dT
  bT : Binds K dT ["goal", "rules", "arities"] []
  gT : mg "nonterminals_of" = some (.ref fT)
  r12 : mg "MAX_RULES" = some (.int 12 tk12)
  n6 : mg "MAX_NONTERMINALS" = some (.int 6 tk6)
section
variable {P : Program} {w : World} {K : PySem.W.Frag} {mg : Str → Option Value} {base : Heap} {fN fI fA fW fR fT : Addr} {dN dI dA dW dR dT : FuncData} {tk tk9 tk7 tk12 tk6 : Tok}
theorem scIsBook : FnScope ["goal", "rules", "arities", "rule", "nonterminal", "_", "pattern"] ["goal", "rules", "arities"] (defScope sIsBook) := ⟨rfl, rfl, rfl, by decide +kernel, rfl, by decide +kernel, by decide +kernel⟩
theorem ok_isBook {f : Addr} {fd : FuncData} (F : Fun K "is_book" "is_book" sIsBook f fd) (T : Free mg) (L : Low K mg fN fI fA fW dN dI dA dW tk tk9 tk7) (M : Mid K mg fR fT dR dT tk12 tk6) : FnOk P w K mg base CX0 4 f fd ["goal", "rules", "arities"] spIsBook := by
  have GN : FnOk P w K mg base CX0 1 fN dN ["value"] spName := ok_name L.FN T L.l8
  have GR : FnOk P w K mg base CX0 3 fR dR ["value", "arities"] spRule := ok_rule M.FR T L
  have GT : FnOk P w K mg base CX0 1 fT dT ["goal", "rules", "arities"] spNonts := ok_nonts M.FT T
  refine F.ok scIsBook (fun vs H Q E h => ?_) (fun cdv A outer s H vs Q E hr h => ?_)
  · obtain ⟨g, ra, d, l, rs, rfl, _⟩ := h
    rfl
  · obtain ⟨g, ra, d, l, rs, rfl, hra, hd, ok, q⟩ := h
    have hu := hr.units
    have hu1 : ∀ {u : Nat}, u + 64 < cLine → u + 1 < cLine := fun h => by omega
    have r1 : Room 1 _ := hr.mono (by decide)
    have r3 : Room 3 _ := hr.mono (by decide)
    refine ⟨_, (pss_cons (ps_if (PW.pt (pw_or (pt_not (pt_val (pe_call GN r1 (by rfl) L.gN L.FN.kp L.bN .nil pass0 (pa_cons (pv 0) pa_nil)))) (pw_or (pt_cmp (pc_din (hu1 hu) (pv 0) (pv 2))) (pw_or (pt_not (pt_val (pe_callB call_isi (by rfl) T.isi (by decide +kernel) (pa_cons (pv 1) (pa_cons (pe_bltn (v := .ty "tuple") (by rfl) T.tuple (by decide +kernel) rfl) pa_nil))))) (pw_or1 (pt_cmpR op_gt (pe_callB call_len_seq (by rfl) T.len PySem.boot_len (pa_cons (pv 1) pa_nil)) (pe_glob (v := .int 12) (by rfl) M.r12 ⟨_, rfl⟩) (nomark _))))))) (pss_one (ps_ret pe_bl)) pss_nil) (pss_cons (ps_if (pt_not (pt_val (pe_callB (cr_all rfl) (by rfl) T.all (by decide +kernel) (pa_cons (pe_lc (own := [("rule", 3)]) (g := gName 3) (by rfl) scIsBook.nd (pi_tup (pv 1)) (blkOk_by (own := [("rule", 3)]) (N := ["goal", "rules", "arities", "rule", "nonterminal", "_", "pattern"]) (sc := defScope sIsBook) (by decide +kernel)) (fun _ _ _ _ _ => pg_name (i := 3) scIsBook.nd rfl (.inl rfl)) (fun _ _ _ _ _ => pts_nil) (fun _ _ _ _ _ => pe_call GR r3 (by rfl) M.gR M.FR.kp M.bR .nil pass0 (pa_cons (pv 3) (pa_cons (pv 2) pa_nil)))) pa_nil)))) (pss_one (ps_ret pe_bl)) pss_nil) (pss_cons (ps_if (pt_cmpR op_lt (pe_callB Ns.cr_lenSet (by rfl) T.len PySem.boot_len (pa_cons (Ns.pe_set (own := [("nonterminal", 4), ("_", 5), ("pattern", 6)]) (g := gTup K 3 (gCons (gName 4) (gCons (gName 5) (gCons (gName 6) gNil)))) hu (by rfl) scIsBook.nd (pi_tup (pv 1)) (blkOk_by (own := [("nonterminal", 4), ("_", 5), ("pattern", 6)]) (N := ["goal", "rules", "arities", "rule", "nonterminal", "_", "pattern"]) (sc := defScope sIsBook) (by decide +kernel)) (fun _ _ _ _ _ => pg_tup rfl (pgs_cons (pg_name (i := 4) scIsBook.nd rfl (.inl rfl)) (pgs_cons (pg_name (i := 5) scIsBook.nd rfl (.inl rfl)) (pgs_cons (pg_name (i := 6) scIsBook.nd rfl (.inl rfl)) pgs_nil)))) (fun _ _ _ _ _ => pts_nil) (fun _ _ _ _ _ => pe_tup (pa_cons (pv 4) (pa_cons (pv 6) pa_nil)))) pa_nil)) (pe_callB call_len_seq (by rfl) T.len PySem.boot_len (pa_cons (pv 1) pa_nil)) (nomark _)) (pss_one (ps_ret pe_bl)) pss_nil) (pss_one (ps_ret (pe_cmpR op_le (pe_callB call_len_seq (by rfl) T.len PySem.boot_len (pa_cons (pe_call GT r1 (by rfl) M.gT M.FT.kp M.bT .nil pass0 (pa_cons (pv 0) (pa_cons (pv 1) (pa_cons (pv 2) pa_nil)))) pa_nil)) (pe_glob (v := .int 6) (by rfl) M.n6 ⟨_, rfl⟩) (nomark _))))))), ?_⟩
    obtain ⟨as, hra0, pr⟩ := hra.ex
    have la : as.length = rs.length := Paired.length pr
    have lm : (as.map V.ref).length = rs.length := by rw [List.length_map, la]
    have few := ok.few
    have kn : ∀ y, V.str g = .str y → y.length ≤ 1000000 := fun y e => by
      cases e
      have := az_len ok.goal
      omega
    have ng : (valV (dkv l) (.inr g : Key)).isSome = false := by
      cases e : (valV (dkv l) (.inr g : Key)).isSome with
      | false => rfl
      | true => exact absurd (val_mem_iff.mp e) ok.gnew
    refine ⟨_, rfl, .str g, "str", rfl, .str g, kn, _, rfl, if_false_of (by rw [show nameB (.str g) = true from ok.goal]; rfl) ?_⟩
    refine ⟨_, rfl, _, rfl, d, _, rfl, DGet.k (k := .inr g) hd, _, rfl, if_false_of ng ?_⟩
    refine ⟨_, rfl, .ref ra, _, _, _, true, rfl, .ty "tuple", tyR (.inl hra0), kit_ty (r := true) (by decide +kernel), _, rfl, if_false_of rfl ?_⟩
    refine ⟨_, rfl, ra, _, rfl, .inr (SqT.of hra0), _, _, rfl, rfl, _, rfl, if_false_of (decide_eq_false (by rw [lm]; omega)) ?_⟩
    -- all rules
    refine ⟨_, rfl, ra, rfl, ⟨_, SqT.of hra0⟩, fun D nD => ?_⟩
    refine lc_tup (K := K) (a := ra) (xs := as.map V.ref) (fun i G => G D = some (.lst (List.replicate i (V.bl true))) ∧ Same H G) ⟨upd_same, Same.new nD⟩ (fun i G _ ⟨_, s⟩ => SqT.of (s _ _ hra0)) ?_ ?_
    · rintro i x G hx ⟨eD, s⟩
      obtain ⟨b, hb, rfl⟩ := ref_at hx
      obtain ⟨r, hr', rat⟩ := pget9 pr hb
      have hi := (List.getElem?_eq_some_iff.mp hr').1
      refine ⟨rfl, _, rfl, _, rfl, b, d, l, r, rfl, rat.same s, s _ _ hd, ok.ops, ok.rules r (List.mem_of_getElem? hr'), fun G' s' => ⟨_, s' _ _ eD, by rw [List.length_replicate, sizeLine_eq]; omega, ?_, fun b o q => by rw [upd_ne (ne_of_none q nD)]; exact s' _ _ (s b o q)⟩⟩
      rw [upd_same, List.replicate_succ']
    rintro G ⟨eD, s1⟩
    refine ⟨D, List.replicate (as.map V.ref).length true, rfl, SqL.of (by rw [eD, List.map_replicate]), ?_⟩
    have eall : (List.replicate (as.map V.ref).length true).all id = true := by
      rw [List.all_eq_true]
      intro b m
      exact (List.mem_replicate.mp m).2
    rw [eall]
    refine ⟨_, rfl, if_false_of rfl ?_⟩
    -- heads with their patterns
    have hra1 := s1 _ _ hra0
    refine ⟨_, rfl, ra, rfl, ⟨_, SqT.of hra1⟩, fun D2 nD2 => ?_⟩
    refine set_tup (K := K) (w := w) (a := ra) (xs := as.map V.ref) (fun i G2 => ∃ L : List El, G2 D2 = some (SetO w D2 L) ∧ (L.map (·.2)).Perm ((rs.take i).map keyR) ∧ (∀ p ∈ L, ElK K G2 p) ∧ Kp D2 G G2)
      ⟨[], upd_same, .refl _, fun p m => (nomatch m), Kp.upd⟩ (fun i G2 _ ⟨_, _, _, _, k⟩ => SqT.of (k _ _ (ne_of_none hra1 nD2) hra1)) ?_ ?_
    · rintro i x G2 hx ⟨L, eS, pm, els, k⟩
      obtain ⟨b, hb, rfl⟩ := ref_at hx
      obtain ⟨r, hr', rat⟩ := pget9 pr hb
      have hi := (List.getElem?_eq_some_iff.mp hr').1
      obtain ⟨t, hbt, htt⟩ := rat.same s1
      have hbt2 := k _ _ (ne_of_none hbt nD2) hbt
      have htt2 := k _ _ (ne_of_none htt nD2) htt
      refine ⟨b, _, rfl, SqT.of hbt2, rfl, _, _, rfl, _, _, rfl, _, _, rfl, rfl, rfl, ?_⟩
      refine ⟨_, rfl, _, rfl, by show 2 ≤ sizeLine; decide, fun e ne => ?_⟩
      have se := Same.new ne (o := .tup [.str r.1, .ref t])
      have lL : L.length = i := by
        have e1 := pm.length_eq
        rw [List.length_map, List.length_map, List.length_take] at e1
        omega
      have eS2 := se _ _ eS
      have kb : ElK K (upd G2 e (.tup [.str r.1, .ref t])) (e, keyR r) := by
        refine ⟨.tup (SqT.of upd_same) (.cons (.text _) (.cons (.tup (SqT.of (se _ _ htt2)) (kvs_words _)) .nil)), ?_⟩
        show NestedKey.depthAll [.text r.1, .tup (r.2.2.map .text)] + 1 ≤ 8
        have e1 := depth_words r.2.2
        have e2 : NestedKey.depthAll [.text r.1, .tup (r.2.2.map .text)] = max 0 (max (NestedKey.depthAll (r.2.2.map .text) + 1) 0) := rfl
        rw [e2]
        omega
      have els2 : ∀ p ∈ L, ElK K (upd G2 e (.tup [.str r.1, .ref t])) p := fun p m => elK_same se (els p m)
      have new : keyR r ∉ L.map (·.2) := fun m => by
        have m2 := pm.mem_iff.mp m
        obtain ⟨r2, mr2, e2⟩ := List.mem_map.mp m2
        obtain ⟨j, hj⟩ := List.mem_iff_getElem?.mp mr2
        rw [List.getElem?_take] at hj
        split at hj
        · rename_i lt
          have nd := ok.nd
          have x1 : (rs.map fun r => (r.1, r.2.2))[j]? = some (r.1, r.2.2) := by rw [List.getElem?_map, hj]; exact congrArg some (keyR_inj e2)
          have x2 : (rs.map fun r => (r.1, r.2.2))[i]? = some (r.1, r.2.2) := by rw [List.getElem?_map, hr']; rfl
          have e3 : j = i := (List.getElem?_inj (List.getElem?_eq_some_iff.mp x1).1 nd).mp (x1.trans x2.symm)
          omega
        · cases hj
      refine ⟨e, keyR r, L, rfl, eS2, kb, els2, by omega, fun L' _ c2 => ?_⟩
      have pl := c2 new
      refine ⟨L', upd_same, ?_, fun p m => elK_set eS2 ?_, fun c u nc hc => ?_⟩
      · refine (pl.map (·.2)).trans ?_
        rw [List.take_add_one, hr', List.map_cons, List.map_append]
        exact (pm.cons _).trans (List.perm_append_singleton _ _).symm
      · rcases List.mem_cons.mp (pl.mem_iff.mp m) with z | z
        · rw [z]; exact kb
        · exact els2 p z
      · rw [upd_ne nc]
        exact se _ _ (k c u nc hc)
    rintro G2 ⟨L, eS, pm, els, k⟩
    have lL : L.length = rs.length := by
      have e1 := pm.length_eq
      rw [List.length_map, List.length_map, List.length_take, lm] at e1
      omega
    have hra2 := k _ _ (ne_of_none hra1 nD2) hra1
    have s2 : Same H G2 := fun b o e => k _ _ (ne_of_none (s1 b o e) nD2) (s1 b o e)
    refine ⟨D2, L, rfl, eS, _, rfl, ra, _, rfl, .inr (SqT.of hra2), _, _, rfl, rfl, _, rfl, if_false_of (decide_eq_false (by rw [lL, lm]; omega)) ?_⟩
    refine ⟨_, rfl, _, rfl, _, rfl, g, ra, d, l, rs, rfl, hra.same s2, s2 _ _ hd, ok, fun ys p H3 srt nd mem np s3 hp => ?_⟩
    refine ⟨p, _, rfl, .inr (SqT.of hp), _, _, rfl, rfl, ?_⟩
    obtain ⟨D6, hD6, inD⟩ := ok.six
    have lys : ys.length ≤ 6 := Nat.le_trans (nodup_few nd fun x m => inD x ((mem x).mp m)) hD6
    have e6 : decide (((ys.map V.str).length : Int) ≤ 6) = true := decide_eq_true (by rw [List.length_map]; omega)
    show Q (.bl (decide (((ys.map V.str).length : Int) ≤ 6))) H3
    rw [e6]
    exact q H3 (s2.trans s3)
end
end Pr
namespace Pr
open PySem PySem.Spec PyProof.Rows L2 Gd
/-! ### values that a judge of rules may meet -/
/-- what is of a known kind, nested n deep in tuples; its names are among D -/
def Tx1 (D : List Str) (v : V) : Prop := ∀ z, v = .str z → z.length ≤ 100000 ∧ (azB z = true → z ∈ D)
def Jv (D : List Str) (H : Hp) : Nat → V → Prop
  | 0, v => (∃ ty, Kd H v ty) ∧ Tx1 D v
  | n + 1, v => (∃ ty, Kd H v ty) ∧ Tx1 D v ∧ ∀ a xs, v = .ref a → H a = some (.tup xs) → xs.length ≤ 1000 ∧ ∀ x ∈ xs, Jv D H n x
section
variable {D : List Str}
theorem Jv.kd {H : Hp} {n : Nat} {v : V} (h : Jv D H n v) : ∃ ty, Kd H v ty := by
  cases n with
  | zero => exact h.1
  | succ n => exact h.1
theorem Jv.tx {H : Hp} {n : Nat} {v : V} (h : Jv D H n v) : Tx1 D v := by
  cases n with
  | zero => exact h.2
  | succ n => exact h.2.1
theorem Jv.str_ {H : Hp} {n : Nat} {v : V} (h : Jv D H n v) : ∀ z, v = .str z → z.length ≤ 100000 := fun z e => (h.tx z e).1
theorem Jv.items {H : Hp} {n : Nat} {a : Addr} {xs : List V} (h : Jv D H (n + 1) (.ref a)) (e : H a = some (.tup xs)) : xs.length ≤ 1000 ∧ ∀ x ∈ xs, Jv D H n x := h.2.2 a xs rfl e
theorem Kd.back {H H' : Hp} {a : Addr} {xs : List V} {ty : String} (k : Kd H (.ref a) ty) (s : Same H H') (e : H' a = some (.tup xs)) : H a = some (.tup xs) := by
  cases k with
  | lst e2 =>
    rw [s _ _ e2] at e
    cases e
  | tup e2 =>
    have e3 := s _ _ e2
    rw [e3] at e
    cases e
    exact e2
  | dK e2 =>
    rw [s _ _ e2] at e
    cases e
theorem Jv.same {H H' : Hp} (s : Same H H') : ∀ {n : Nat} {v : V}, Jv D H n v → Jv D H' n v
  | 0, v, h => ⟨let ⟨ty, k⟩ := h.1; ⟨ty, k.same s⟩, h.2⟩
  | n + 1, v, h => ⟨let ⟨ty, k⟩ := h.1; ⟨ty, k.same s⟩, h.2.1, fun a xs e e2 => by
      subst e
      obtain ⟨ty, k⟩ := h.1
      obtain ⟨l, j⟩ := h.2.2 a xs rfl (k.back s e2)
      exact ⟨l, fun x m => Jv.same s (j x m)⟩⟩
theorem Jv.less {H : Hp} : ∀ {n : Nat} {v : V}, Jv D H (n + 1) v → Jv D H n v
  | 0, v, h => ⟨h.1, h.2.1⟩
  | n + 1, v, h => ⟨h.1, h.2.1, fun a xs e e2 => let ⟨l, j⟩ := h.2.2 a xs e e2; ⟨l, fun x m => Jv.less (j x m)⟩⟩
/-- what is no tuple is of any depth -/
theorem Jv.flat {H : Hp} {n : Nat} {v : V} {ty : String} (k : Kd H v ty) (ne : ty ≠ "tuple") (l : Tx1 D v) : Jv D H n v := by
  cases n with
  | zero => exact ⟨⟨_, k⟩, l⟩
  | succ n =>
    refine ⟨⟨_, k⟩, l, fun a xs e e2 => ?_⟩
    subst e
    cases k with
    | lst e3 =>
      rw [e3] at e2
      cases e2
    | tup e3 => exact absurd rfl ne
    | dK e3 =>
      rw [e3] at e2
      cases e2
theorem Jv.tup {H : Hp} {n : Nat} {a : Addr} {xs : List V} (e : H a = some (.tup xs)) (l : xs.length ≤ 1000) (h : ∀ x ∈ xs, Jv D H n x) : Jv D H (n + 1) (.ref a) :=
  ⟨⟨_, .tup e⟩, (fun z q => (nomatch q)), fun b ys q e2 => by
    cases q
    rw [e] at e2
    cases e2
    exact ⟨l, h⟩⟩
theorem Jv.non {H : Hp} {n : Nat} : Jv D H n .non := .flat .non (by decide) fun z q => nomatch q
theorem Jv.bl {H : Hp} {n : Nat} (b : Bool) : Jv D H n (.bl b) := .flat (.bl b) (by decide) fun z q => nomatch q
theorem Jv.int {H : Hp} {n : Nat} (i : Int) : Jv D H n (.int i) := .flat (.int i) (by decide) fun z q => nomatch q
theorem Jv.text {H : Hp} {n : Nat} {z : Str} (l : z.length ≤ 100000) (h : azB z = true → z ∈ D) : Jv D H n (.str z) := .flat (.str z) (by decide) fun y q => by cases q; exact ⟨l, h⟩
theorem Jv.lst {H : Hp} {n : Nat} {a : Addr} {xs : List V} (e : H a = some (.lst xs)) : Jv D H n (.ref a) := .flat (.lst e) (by decide) fun z q => nomatch q
theorem Jv.dct {H : Hp} {n : Nat} {a : Addr} {kvs : List (Key × V)} (e : H a = some (.dK kvs)) : Jv D H n (.ref a) := .flat (.dK e) (by decide) fun z q => nomatch q
theorem Jv.words {H : Hp} {n : Nat} {a : Addr} {ws : List Str} (e : H a = some (.tup (ws.map V.str))) (l : ws.length ≤ 1000) (h : ∀ z ∈ ws, z.length ≤ 100000 ∧ (azB z = true → z ∈ D)) : Jv D H (n + 1) (.ref a) := .tup e (by rw [List.length_map]; exact l) fun x m => by
  obtain ⟨z, mz, rfl⟩ := List.mem_map.mp m
  exact .text (h z mz).1 (h z mz).2
end
/-- v is the rule r -/
def RuleR (H : Hp) (v : V) (r : Rl) : Prop := ∃ a, v = .ref a ∧ RuleAt H a r
theorem RuleR.same {H H' : Hp} {v : V} {r : Rl} (h : RuleR H v r) (s : Same H H') : RuleR H' v r := let ⟨a, e, k⟩ := h; ⟨a, e, k.same s⟩
theorem RuleAt.one {H : Hp} {a : Addr} {r q : Rl} (h : RuleAt H a r) (k : RuleAt H a q) : r = q := by
  obtain ⟨t, x, y⟩ := h
  obtain ⟨t', x', y'⟩ := k
  rw [x] at x'
  injection x' with x'
  injection x' with x'
  injection x' with e1 x'
  injection x' with e2 x'
  injection x' with e3 _
  cases e3
  rw [y] at y'
  injection y' with y'
  injection y' with y'
  have e4 : r.2.2 = q.2.2 := (List.map_inj_right (fun a b h => V.str.inj h)).mp y'
  have e5 : r.1 = q.1 := V.str.inj e1
  have e6 : r.2.1 = q.2.1 := by
    have := V.int.inj e2
    omega
  obtain ⟨a1, b1, c1⟩ := r
  obtain ⟨a2, b2, c2⟩ := q
  simp only at e4 e5 e6
  rw [e4, e5, e6]
/-- a rule at b, where only more stands, stood there before if it was known -/
theorem RuleAt.back {H H' : Hp} {v : V} {r : Rl} {D : List Str} (j : Jv D H 2 v) (s : Same H H') (h : RuleR H' v r) : RuleR H v r := by
  obtain ⟨a, rfl, t, x, y⟩ := h
  obtain ⟨ty, k⟩ := j.kd
  have x' := k.back s x
  obtain ⟨ty2, k2⟩ := (j.items x').2 (.ref t) (by simp) |>.kd
  exact ⟨a, rfl, t, x', k2.back s y⟩
/-- v is the tuple of the rules rs -/
def RulesR (H : Hp) (v : V) (rs : List Rl) : Prop := ∃ a, v = .ref a ∧ RulesAt H a rs
/-- a promise out of two -/
theorem fn_or {P : Program} {w : World} {K : PySem.W.Frag} {mg : Str → Option Value} {base : Heap} {CX : CXT} {k : Nat} {f : Addr} {fd : FuncData} {ps : List Str} {sp sp2 : Sp} (a : FnOk P w K mg base CX k f fd ps sp) (b : FnOk P w K mg base CX k f fd ps sp2) :
    FnOk P w K mg base CX k f fd ps (fun vs H Q E => sp vs H Q E ∨ sp2 vs H Q E) where
  len := fun vs H Q E h => h.elim (a.len vs H Q E) (b.len vs H Q E)
  run := fun A outer s H args us vs Q E hr env bind rel h => h.elim (a.run A outer s H args us vs Q E hr env bind rel) (b.run A outer s H args us vs Q E hr env bind rel)
theorem fn_imp {P : Program} {w : World} {K : PySem.W.Frag} {mg : Str → Option Value} {base : Heap} {CX : CXT} {k : Nat} {f : Addr} {fd : FuncData} {ps : List Str} {sp sp2 : Sp} (a : FnOk P w K mg base CX k f fd ps sp) (h : ∀ vs H Q E, sp2 vs H Q E → sp vs H Q E) :
    FnOk P w K mg base CX k f fd ps sp2 where
  len := fun vs H Q E q => a.len vs H Q E (h vs H Q E q)
  run := fun A outer s H args us vs Q E hr env bind rel q => a.run A outer s H args us vs Q E hr env bind rel (h vs H Q E q)
end Pr
namespace Pr
open PySem PySem.Spec PyProof.Rows L2 Gd
/-! ### are_names of any value -/
/-- v is the tuple of the words ws -/
def WordsR (H : Hp) (v : V) (ws : List Str) : Prop := ∃ a, v = .ref a ∧ H a = some (.tup (ws.map V.str))
def NamesV (H : Hp) (v : V) : Prop := ∃ ws, WordsR H v ws ∧ ∀ z ∈ ws, azB z = true
theorem Kd.no_tup {H : Hp} {v : V} {ty : String} (k : Kd H v ty) (ne : ty ≠ "tuple") {a : Addr} {xs : List V} (e : v = .ref a) (h : H a = some (.tup xs)) : False := by
  subst e
  cases k with
  | lst e3 => rw [e3] at h; cases h
  | tup e3 => exact absurd rfl ne
  | dK e3 => rw [e3] at h; cases h
theorem kit_tupB {K : PySem.W.Frag} {H : Hp} {v : V} {t : String} (k : Kd H v t) : PySem.W.kitOne K (.type t) (.type "tuple") = some (t == "tuple") := by
  cases k <;> first | exact kit_ty (r := true) (by decide +kernel) | exact kit_ty (r := false) (by decide +kernel)
theorem tup_one {H : Hp} {a : Addr} {xs ys : List V} (h : H a = some (.tup xs)) (k : H a = some (.tup ys)) : xs = ys := by
  rw [h] at k
  injection k with k
  injection k with k
/-- a value is a tuple or none -/
theorem Kd.split {H : Hp} {v : V} {ty : String} (k : Kd H v ty) : (ty ≠ "tuple") ∨ (ty = "tuple" ∧ ∃ a xs, v = .ref a ∧ H a = some (.tup xs)) := by
  cases k with
  | tup e => exact .inr ⟨rfl, _, _, rfl, e⟩
  | _ => exact .inl (by decide)
theorem names_of : ∀ {xs : List V}, (∀ x ∈ xs, nameB x = true) → ∃ ws : List Str, xs = ws.map V.str ∧ ∀ z ∈ ws, azB z = true
  | [], _ => ⟨[], rfl, fun z m => nomatch m⟩
  | x :: xs, h => by
    obtain ⟨ws, e, k⟩ := names_of (xs := xs) fun y m => h y (List.mem_cons_of_mem _ m)
    have hx := h x List.mem_cons_self
    cases x with
    | str z => exact ⟨z :: ws, by rw [e]; rfl, fun y m => (List.mem_cons.mp m).elim (fun e => by rw [e]; exact hx) (k y)⟩
    | _ => cases hx
def spNamesG : Sp := fun vs H Q _ => ∃ (v : V) (D : List Str), vs = [v] ∧ Jv D H 1 v ∧ ∀ b H', Same H H' → (b = true ↔ NamesV H v) → Q (.bl b) H'
section
variable {P : Program} {w : World} {K : PySem.W.Frag} {mg : Str → Option Value} {base : Heap} {fN : Addr} {dN : FuncData} {tk : Tok}
theorem ok_namesG {f : Addr} {fd : FuncData} (F : Fun K "are_names" "are_names" sNames f fd) (T : Free mg) (gm : mg "MAX_LETTERS" = some (.int 8 tk)) (FN : Fun K "is_name" "is_name" sName fN dN) (bN : Binds K dN ["value"] []) (gN : mg "is_name" = some (.ref fN)) : FnOk P w K mg base CX0 2 f fd ["value"] spNamesG := by
  have GN : FnOk P w K mg base CX0 1 fN dN ["value"] spName := ok_name FN T gm
  refine F.ok scNames (fun vs H Q E h => ?_) (fun cdv A outer s H vs Q E hr h => ?_)
  · obtain ⟨v, D, rfl, _⟩ := h
    rfl
  · obtain ⟨v, D0, rfl, j, q⟩ := h
    have hu := hr.units
    have hu1 : ∀ {u : Nat}, u + 64 < cLine → u + 1 < cLine := fun h => by omega
    refine ⟨_, (pss_one (ps_ret (pe_and (pe_callB call_isi (by rfl) T.isi (by decide +kernel) (pa_cons (pv 0) (pa_cons (pe_bltn (v := .ty "tuple") (by rfl) T.tuple (by decide +kernel) rfl) pa_nil))) (pe_one (pe_callB (cr_all rfl) (by rfl) T.all (by decide +kernel) (pa_cons (pe_lc (own := [("word", 1)]) (g := gName 1) (by rfl) scNames.nd (pi_tup (pv 0)) (blkOk_by (own := [("word", 1)]) (N := ["value", "word"]) (sc := defScope sNames) (by decide +kernel)) (fun _ _ _ _ _ => pg_name (i := 1) scNames.nd rfl (.inl rfl)) (fun _ _ _ _ _ => pts_nil) (fun _ _ _ _ _ => pe_call GN hr (by rfl) gN FN.kp bN .nil pass0 (pa_cons (pv 1) pa_nil))) pa_nil)))))), ?_⟩
    obtain ⟨ty, kd⟩ := j.kd
    rcases kd.split with ne | ⟨rfl, a, xs, rfl, ha⟩
    · refine ⟨_, rfl, v, _, _, _, _, rfl, .ty "tuple", kd.ty, kit_tupB kd, _, rfl, ?_⟩
      rw [beq_eq_false_iff_ne.mpr ne]
      refine iteF (q false H (Same.refl H) ⟨fun e => (nomatch e), fun ⟨ws, ⟨a, e, h⟩, _⟩ => (kd.no_tup ne e h).elim⟩)
    · refine ⟨_, rfl, .ref a, _, _, _, true, rfl, .ty "tuple", tyR (.inl ha), kit_ty (r := true) (by decide +kernel), _, rfl, iteT ?_⟩
      refine ⟨_, rfl, a, rfl, ⟨_, SqT.of ha⟩, fun D nD => ?_⟩
      have few := (j.items ha).1
      refine lc_tup (K := K) (a := a) (xs := xs) (fun i G => G D = some (.lst ((xs.take i).map fun x => V.bl (nameB x))) ∧ Same H G) ⟨upd_same, Same.new nD⟩ (fun i G _ ⟨_, s⟩ => SqT.of (s _ _ ha)) ?_ ?_
      · rintro i x G hx ⟨eD, s⟩
        have jx := (j.items ha).2 x (List.mem_of_getElem? hx)
        obtain ⟨tx, kx⟩ := jx.kd
        refine ⟨rfl, _, rfl, x, tx, rfl, kx.same s, fun y e => Nat.le_trans (jx.str_ y e) (by decide), _, eD, ?_, ?_, fun b o q => by rw [upd_ne (ne_of_none q nD)]; exact s b o q⟩
        · rw [List.length_map, List.length_take, sizeLine_eq]
          omega
        · rw [upd_same, List.take_add_one, hx, List.map_append]
          rfl
      · rintro G ⟨eD, s⟩
        rw [List.take_length] at eD
        refine ⟨D, xs.map nameB, rfl, SqL.of (by rw [eD, List.map_map]; rfl), q _ G s ?_⟩
        rw [List.all_map, List.all_eq_true]
        constructor
        · intro h
          obtain ⟨ws, e, k⟩ := names_of h
          exact ⟨ws, ⟨a, rfl, by rw [ha, e]⟩, k⟩
        · rintro ⟨ws, ⟨a', e, h⟩, k⟩ x m
          cases e
          rw [tup_one ha h] at m
          obtain ⟨z, mz, rfl⟩ := List.mem_map.mp m
          exact k z mz
end
end Pr
namespace Pr
open PySem PySem.Spec PyProof.Rows L2 Gd
/-! ### is_rule of any value -/
theorem wgo_iff {l' l : List (Str × Nat)} : ∀ (ws : List Str) (n : Nat), (∀ z ∈ ws, arity l' (.str z) = some (ar l z : Int)) → (wgo l' (n : Int) (ws.map V.str) = true ↔ Wh (ar l) n ws)
  | [], n, _ => by
    show decide ((n : Int) = 0) = true ↔ n = 0
    rw [decide_eq_true_eq]
    omega
  | z :: ws, 0, _ => by
    rw [List.map_cons, show (((0 : Nat) : Int)) = 0 from rfl, wgo_zero rfl]
    exact ⟨fun e => (nomatch e), fun h => h.elim⟩
  | z :: ws, n + 1, ha => by
    rw [List.map_cons, wgo_some (by omega) (ha z List.mem_cons_self)]
    have e : ((n + 1 : Nat) : Int) + ((ar l z : Int) - 1) = ((n + ar l z : Nat) : Int) := by omega
    rw [e, wgo_iff ws _ (fun y m => ha y (List.mem_cons_of_mem _ m))]
    exact Iff.rfl
/-- v is a rule over the operators l -/
def RuleV (H : Hp) (l : List (Str × Nat)) (v : V) : Prop := ∃ r, RuleR H v r ∧ RlOk l r
theorem WordsR.one {H : Hp} {v : V} {ws us : List Str} (h : WordsR H v ws) (k : WordsR H v us) : ws = us := by
  obtain ⟨a, rfl, h⟩ := h
  obtain ⟨b, e, k⟩ := k
  cases e
  exact (List.map_inj_right (fun a b h => V.str.inj h)).mp (tup_one h k)
/-- the three items of a rule -/
theorem RuleV.items {H : Hp} {l : List (Str × Nat)} {a : Addr} {xs : List V} (ha : H a = some (.tup xs)) (h : RuleV H l (.ref a)) : ∃ z n ws t, xs = [.str z, .int ((n : Nat) : Int), .ref t] ∧ H t = some (.tup (ws.map V.str)) ∧ RlOk l (z, n, ws) := by
  obtain ⟨r, ⟨b, e, t, hb, ht⟩, ok⟩ := h
  cases e
  exact ⟨r.1, r.2.1, r.2.2, t, tup_one ha hb, ht, ok⟩
def spRuleG : Sp := fun vs H Q _ => ∃ (v : V) (D : List Str) (d : Addr) (l : List (Str × Nat)), vs = [v, .ref d] ∧ Jv D H 2 v ∧ H d = some (.dK (dkv l)) ∧ OpsOk l ∧ ∀ b H', Same H H' → (b = true ↔ RuleV H l v) → Q (.bl b) H'
section
variable {P : Program} {w : World} {K : PySem.W.Frag} {mg : Str → Option Value} {base : Heap} {fN fI fA fW : Addr} {dN dI dA dW : FuncData} {tk tk9 tk7 : Tok}
theorem ok_ruleG {f : Addr} {fd : FuncData} (F : Fun K "is_rule" "is_rule" sRule f fd) (T : Free mg) (L : Low K mg fN fI fA fW dN dI dA dW tk tk9 tk7) : FnOk P w K mg base CX0 3 f fd ["value", "arities"] spRuleG := by
  have GN : FnOk P w K mg base CX0 1 fN dN ["value"] spName := ok_name L.FN T L.l8
  have GI : FnOk P w K mg base CX0 1 fI dI ["value"] spIntO := ok_integerO L.FI T
  have GA : FnOk P w K mg base CX0 2 fA dA ["value"] spNamesG := ok_namesG L.FA T L.l8 L.FN L.bN L.gN
  have GW : FnOk P w K mg base CX0 1 fW dW ["words", "arities"] spWhole := ok_whole L.FW T
  refine F.ok scRule (fun vs H Q E h => ?_) (fun cdv A outer s H vs Q E hr h => ?_)
  · obtain ⟨v, D0, d, l, rfl, _⟩ := h
    rfl
  · obtain ⟨v, D0, d, l, rfl, j, hd, oo, q⟩ := h
    have hu := hr.units
    have hu1 : ∀ {u : Nat}, u + 64 < cLine → u + 1 < cLine := fun h => by omega
    have r1 : Room 1 _ := hr.mono (by decide)
    have r2 : Room 2 _ := hr.mono (by decide)
    refine ⟨_, (pss_cons (ps_if (PW.pt (pw_or (pt_not (pt_val (pe_callB call_isi (by rfl) T.isi (by decide +kernel) (pa_cons (pv 0) (pa_cons (pe_bltn (v := .ty "tuple") (by rfl) T.tuple (by decide +kernel) rfl) pa_nil))))) (pw_or1 (pt_cmpR op_ne (pe_callB call_len_seq (by rfl) T.len PySem.boot_len (pa_cons (pv 0) pa_nil)) pe_int (nomark _))))) (pss_one (ps_ret pe_bl)) pss_nil) (pss_cons (ps_asg (pv 0) (pg_tup rfl (pgs_cons (pg_name (i := 2) scRule.nd rfl (.inl rfl)) (pgs_cons (pg_name (i := 3) scRule.nd rfl (.inl rfl)) (pgs_cons (pg_name (i := 4) scRule.nd rfl (.inl rfl)) pgs_nil))))) (pss_cons (ps_if (PW.pt (pw_or (pt_not (pt_val (pe_call GN r1 (by rfl) L.gN L.FN.kp L.bN .nil pass0 (pa_cons (pv 2) pa_nil)))) (pw_or (pt_cmp (pc_din (hu1 hu) (pv 2) (pv 1))) (pw_or (pt_not (pt_val (pe_call GI r1 (by rfl) L.gI L.FI.kp L.bI .nil pass0 (pa_cons (pv 3) pa_nil)))) (pw_or1 (pt_not (pt_chain op_le op_le pe_int (pv 3) (pe_glob (v := .int 9) (by rfl) L.p9 ⟨_, rfl⟩)))))))) (pss_one (ps_ret pe_bl)) pss_nil) (pss_cons (ps_if (PW.pt (pw_or (pt_not (pt_val (pe_call GA r2 (by rfl) L.gA L.FA.kp L.bA .nil pass0 (pa_cons (pv 4) pa_nil)))) (pw_or (pt_not (pt_chain op_le op_le pe_int (pe_callB call_len_seq (by rfl) T.len PySem.boot_len (pa_cons (pv 4) pa_nil)) (pe_glob (v := .int 7) (by rfl) L.p7 ⟨_, rfl⟩))) (pw_or1 (pt_cmpR (op_eqD hu) (pv 4) (pe_tup (pa_cons (pv 2) pa_nil)) (nomark _)))))) (pss_one (ps_ret pe_bl)) pss_nil) (pss_one (ps_ret (pe_call GW r1 (by rfl) L.gW L.FW.kp L.bW .nil pass0 (pa_cons (pv 4) (pa_cons (Du.pe_dunp2 (pe_dc (own := [("word", 5)]) (g := gName 5) (by rfl) scRule.nd (pi_tup (pv 4)) (blkOk_by (own := [("word", 5)]) (N := ["value", "arities", "nonterminal", "price", "pattern", "word"]) (sc := defScope sRule) (by decide +kernel)) (fun _ _ _ _ _ => pg_name (i := 5) scRule.nd rfl (.inl rfl)) (fun _ _ _ _ _ => pts_nil) (fun _ _ _ _ _ => pv 5) (fun _ _ _ _ _ => pe_int)) (pv 1)) pa_nil))))))))), ?_⟩
    obtain ⟨ty, kd⟩ := j.kd
    have no : ¬ RuleV H l v → ∀ H', Same H H' → Q (.bl false) H' := fun n H' s => q false H' s ⟨fun e => (nomatch e), fun h => (n h).elim⟩
    rcases kd.split with ne | ⟨rfl, a, xs, rfl, ha⟩
    · refine ⟨_, rfl, v, _, _, _, _, rfl, .ty "tuple", kd.ty, kit_tupB kd, _, rfl, ?_⟩
      rw [beq_eq_false_iff_ne.mpr ne]
      exact if_true_of rfl (no (fun ⟨r, ⟨b, e, t, h, _⟩, _⟩ => kd.no_tup ne e h) H (Same.refl H))
    refine ⟨_, rfl, .ref a, _, _, _, true, rfl, .ty "tuple", tyR (.inl ha), kit_ty (r := true) (by decide +kernel), _, rfl, if_false_of rfl ?_⟩
    refine ⟨_, rfl, a, _, rfl, .inr (SqT.of ha), rfl, _, rfl, ?_⟩
    have it := j.items ha
    by_cases c3 : xs.length = 3
    case neg =>
      refine if_true_of (by rw [decide_eq_false (fun e => c3 (by have := V.int.inj e; omega))]; rfl) (no (fun h => ?_) H (Same.refl H))
      obtain ⟨z, n, ws, t, e, _⟩ := h.items ha
      exact c3 (by rw [e]; rfl)
    obtain ⟨x0, x1, x2, rfl⟩ : ∃ a b c, xs = [a, b, c] := by
      match xs, c3 with
      | [a, b, c], _ => exact ⟨a, b, c, rfl⟩
    refine if_false_of rfl ?_
    refine ⟨_, rfl, a, _, rfl, SqT.of ha, rfl, _, _, rfl, _, _, rfl, _, _, rfl, rfl, ?_⟩
    have j0 := it.2 x0 (by simp)
    have j1 := it.2 x1 (by simp)
    have j2 := it.2 x2 (by simp)
    obtain ⟨t0, k0⟩ := j0.kd
    obtain ⟨t1, k1⟩ := j1.kd
    refine ⟨_, rfl, x0, t0, rfl, k0, fun y e => Nat.le_trans (j0.str_ y e) (by decide), _, rfl, ?_⟩
    cases c0 : nameB x0 with
    | false =>
      refine if_true_of rfl (no (fun h => ?_) H (Same.refl H))
      obtain ⟨z, n, ws, t, e, _, ok⟩ := h.items ha
      injection e with e _
      rw [e] at c0
      have : azB z = true := ok.head
      rw [show nameB (.str z) = azB z from rfl, this] at c0
      cases c0
    | true => ?_
    obtain ⟨h, rfl, ok_h⟩ : ∃ h, x0 = .str h ∧ azB h = true := by
      cases x0 with
      | str z => exact ⟨z, rfl, c0⟩
      | _ => cases c0
    refine if_false_of rfl ?_
    refine ⟨_, rfl, _, rfl, d, _, rfl, DGet.k (k := .inr h) hd, _, rfl, ?_⟩
    cases cn : (valV (dkv l) (.inr h : Key)).isSome with
    | true =>
      refine if_true_of rfl (no (fun hh => ?_) H (Same.refl H))
      obtain ⟨z, n, ws, t, e, _, ok⟩ := hh.items ha
      injection e with e _
      cases e
      exact ok.new (val_mem_iff.mp cn)
    | false => ?_
    have ok_new : h ∉ l.map (·.1) := fun m => by
      rw [val_mem_iff.mpr m] at cn
      cases cn
    refine if_false_of rfl ?_
    refine ⟨_, rfl, x1, t1, rfl, k1, _, rfl, ?_⟩
    cases ci : isIntO x1 with
    | false =>
      refine if_true_of rfl (no (fun hh => ?_) H (Same.refl H))
      obtain ⟨z, n, ws, t, e, _, ok⟩ := hh.items ha
      injection e with _ e
      injection e with e _
      have l9 : n ≤ 9 := ok.price
      rw [e, int_small (by omega)] at ci
      cases ci
    | true => ?_
    obtain ⟨p, rfl⟩ : ∃ p, x1 = .int p := by
      rw [isIntO_eq] at ci
      cases x1 with
      | int p => exact ⟨p, rfl⟩
      | _ => cases ci
    refine if_false_of rfl ?_
    refine ⟨_, rfl, _, _, rfl, rfl, _, rfl, ?_⟩
    by_cases cp : (0 : Int) ≤ p ∧ p ≤ 9
    case neg =>
      have nr : ¬ RuleV H l (.ref a) := fun hh => by
        obtain ⟨z, n, ws, t, e, _, ok⟩ := hh.items ha
        injection e with _ e
        injection e with e _
        have l9 : n ≤ 9 := ok.price
        have := V.int.inj e
        omega
      by_cases c00 : (0 : Int) ≤ p
      · exact if_true_of (decide_eq_true c00) ⟨_, _, rfl, rfl, _, rfl, if_true_of (by rw [decide_eq_false (show ¬ p ≤ 9 by omega)]; rfl) (no nr H (Same.refl H))⟩
      · exact if_false_of (decide_eq_false c00) ⟨_, rfl, if_true_of rfl (no nr H (Same.refl H))⟩
    obtain ⟨cp0, cp9⟩ := cp
    obtain ⟨n, rfl⟩ : ∃ n : Nat, p = (n : Int) := ⟨p.toNat, by omega⟩
    refine if_true_of (decide_eq_true cp0) ⟨_, _, rfl, rfl, _, rfl, if_false_of (by rw [decide_eq_true cp9]; rfl) ?_⟩
    refine ⟨_, rfl, x2, D0, rfl, j2, fun b H1 s1 hb => ⟨_, rfl, ?_⟩⟩
    cases b with
    | false =>
      refine if_true_of rfl (no (fun hh => ?_) H1 s1)
      obtain ⟨z, m, ws, t, e, ht, ok⟩ := hh.items ha
      injection e with _ e
      injection e with _ e
      injection e with e _
      have := hb.mpr ⟨ws, ⟨t, e, ht⟩, ok.names⟩
      cases this
    | true => ?_
    obtain ⟨ws, ⟨t, rfl, ht⟩, ok_n⟩ := hb.mp rfl
    -- what a rule is, once its items are known
    have iff1 : RuleV H l (.ref a) ↔ RlOk l (h, n, ws) := by
      constructor
      · intro hh
        obtain ⟨z, m, us, t', e, ht', ok⟩ := hh.items ha
        injection e with e1 e
        injection e with e2 e
        injection e with e3 _
        cases e1
        cases e3
        have e4 : n = m := by have := V.int.inj e2; omega
        have e5 : ws = us := WordsR.one ⟨t, rfl, ht⟩ ⟨t, rfl, ht'⟩
        rw [e4, e5]
        exact ok
      · intro ok
        exact ⟨(h, n, ws), ⟨a, rfl, t, ha, ht⟩, ok⟩
    refine if_false_of rfl ?_
    have ht1 := s1 _ _ ht
    have hd1 := s1 _ _ hd
    have lw : (ws.map V.str).length = ws.length := List.length_map _
    refine ⟨_, rfl, t, _, rfl, .inr (SqT.of ht1), _, _, rfl, rfl, _, rfl, ?_⟩
    by_cases cl : 1 ≤ ws.length ∧ ws.length ≤ 7
    case neg =>
      have nr : ¬ RuleV H l (.ref a) := fun hh => by
        have ok := iff1.mp hh
        exact cl ⟨ok.some_, ok.few⟩
      by_cases c00 : 1 ≤ ws.length
      · exact if_true_of (decide_eq_true (by rw [lw]; omega)) ⟨_, _, rfl, rfl, _, rfl, if_true_of (by rw [lw, decide_eq_false (by omega)]; rfl) (no nr H1 s1)⟩
      · exact if_false_of (decide_eq_false (by rw [lw]; omega)) ⟨_, rfl, if_true_of rfl (no nr H1 s1)⟩
    obtain ⟨ok_s, ok_f⟩ := cl
    refine if_true_of (decide_eq_true (by rw [lw]; omega)) ⟨_, _, rfl, rfl, _, rfl, if_false_of (by rw [lw, decide_eq_true (by omega)]; rfl) ?_⟩
    refine ⟨_, rfl, _, rfl, by show 1 ≤ sizeLine; decide, fun p1 np1 => ?_⟩
    have ht2 := (Same.new np1 (o := .tup [.str h])) _ _ ht1
    have hd2 := (Same.new np1 (o := .tup [.str h])) _ _ hd1
    have s2 := s1.trans (Same.new np1 (o := .tup [.str h]))
    refine eqTx (xs := ws) (ys := [h]) (SqT.of ht2) (SqT.of upd_same) ok_n (fun z m => by rw [List.mem_singleton.mp m]; exact ok_h) ⟨_, rfl, ?_⟩
    generalize upd H1 p1 (.tup [.str h]) = H2 at ht2 hd2 s2 ⊢
    by_cases co : ws = [h]
    · exact if_true_of (decide_eq_true co) (no (fun hh => (iff1.mp hh).other co) H2 s2)
    refine if_false_of (decide_eq_false co) ?_
    refine ⟨_, rfl, fun m nm => ?_⟩
    have s3 := s2.trans (Same.new nm (o := .dK []))
    have hm3 : (upd H2 m (.dK [])) m = some (.dK []) := upd_same
    generalize upd H2 m (.dK []) = H3 at s3 hm3 ⊢
    have ht3 := s3 _ _ ht
    refine ⟨_, rfl, t, rfl, ⟨_, SqT.of ht3⟩, fun D nD => ?_⟩
    refine dc_tup (K := K) (a := t) (xs := ws.map V.str) (fun i G => G D = some (.dK (dkv (zl (ws.take i)))) ∧ Same H3 G) ⟨upd_same, Same.new nD⟩ (fun i G _ ⟨_, s⟩ => SqT.of (s _ _ ht3)) ?_ ?_
    · rintro i x G hx ⟨eD, s⟩
      obtain ⟨z, hz, rfl⟩ : ∃ z, ws[i]? = some z ∧ x = .str z := by
        rw [List.getElem?_map] at hx
        cases e : ws[i]? with
        | none => rw [e] at hx; cases hx
        | some z => rw [e] at hx; exact ⟨z, rfl, (Option.some.inj hx).symm⟩
      have hi := (List.getElem?_eq_some_iff.mp hz).1
      refine ⟨rfl, _, rfl, _, .inr z, rfl, eD, ?_, ?_, fun b o q => by rw [upd_ne (ne_of_none q nD)]; exact s b o q⟩
      · have e1 := zl_few (ws.take i) []
        have e2 : (dkv (zl (ws.take i))).length = (zl (ws.take i)).length := List.length_map _
        have e3 : (ws.take i).length ≤ ws.length := by rw [List.length_take]; omega
        have e4 : (zl (ws.take i)).length ≤ 0 + (ws.take i).length := e1
        rw [e2, sizeLine_eq]
        omega
      · rw [upd_same, show (V.int 0) = V.int ((0 : Nat) : Int) from rfl, put_dkv, List.take_add_one, hz]
        unfold zl
        rw [List.foldl_append]
        rfl
    · rintro G ⟨eD, s⟩
      rw [List.take_of_length_le (by rw [lw]; exact Nat.le_refl _)] at eD
      have dm : D ≠ m := fun e => by
        rw [e, hm3] at nD
        cases nD
      have gm_ := s _ _ hm3
      refine ⟨D, _, rfl, dm, gm_, eD, ?_⟩
      have hdm : d ≠ m := fun e => by
        rw [← e, hd2] at nm
        cases nm
      have hd4 : (upd G m (.dK (dkv (zl ws)))) d = some (.dK (dkv l)) := by
        rw [upd_ne hdm]
        exact s _ _ (s3 _ _ hd)
      refine ⟨_, rfl, d, _, rfl, hdm, upd_same, hd4, ?_, ?_⟩
      · have e1 := zl_few ws []
        have e2 : (dkv (zl ws)).length = (zl ws).length := List.length_map _
        have e3 : (dkv l).length = l.length := List.length_map _
        have e4 : (zl ws).length ≤ 0 + ws.length := e1
        have e5 := oo.few
        omega
      rw [merge_dkv]
      have s5 : Same H (upd (upd G m (.dK (dkv (zl ws)))) m (.dK (dkv (mergeL (zl ws) l)))) := fun b u e => by
        have nb : b ≠ m := fun c => by
          rw [← c] at nm
          have := s2 _ _ e
          rw [this] at nm
          cases nm
        rw [upd_ne nb, upd_ne nb]
        exact s _ _ (s3 _ _ e)
      have hm5 : (upd (upd G m (.dK (dkv (zl ws)))) m (.dK (dkv (mergeL (zl ws) l)))) m = some (.dK (dkv (mergeL (zl ws) l))) := upd_same
      generalize upd (upd G m (.dK (dkv (zl ws)))) m (.dK (dkv (mergeL (zl ws) l))) = H5 at s5 hm5 ⊢
      refine ⟨t, m, ws.map V.str, mergeL (zl ws) l, rfl, .inl (s5 _ _ ht), fun x mx => ?_, hm5, q _ H5 s5 ?_⟩
      · obtain ⟨z, _, rfl⟩ := List.mem_map.mp mx
        exact ⟨_, .str z⟩
      · have e := wgo_iff (l' := mergeL (zl ws) l) (l := l) ws 1 (fun z mz => arity_merge oo.nd mz)
        rw [show ((1 : Nat) : Int) = 1 from rfl] at e
        rw [e, iff1]
        exact ⟨fun wh => ⟨ok_h, ok_new, by show n ≤ 9; omega, ok_s, ok_f, ok_n, co, wh⟩, fun ok => ok.whole⟩
end
end Pr
namespace Pr
open PySem PySem.Spec PyProof.Rows L2 Gd
/-! ### nonterminals_of any row of rules -/
structure NtOk (l : List (Str × Nat)) (rs : List Rl) : Prop where
  few : rs.length ≤ 12
  rules : ∀ r ∈ rs, RlOk l r
  six : ∃ D : List Str, D.length ≤ 60 ∧ ∀ r ∈ rs, r.1 ∈ D ∧ ∀ z ∈ r.2.2, z ∈ D
theorem NtOk.all {l : List (Str × Nat)} {rs : List Rl} (h : NtOk l rs) (g : Str) : ∃ D : List Str, D.length ≤ 61 ∧ ∀ z, isNt l g rs z → z ∈ D := by
  obtain ⟨D, hl, hd⟩ := h.six
  refine ⟨g :: D, by rw [List.length_cons]; omega, fun z hz => ?_⟩
  rcases hz with rfl | ⟨r, m, k, _⟩
  · exact List.mem_cons_self
  · refine List.mem_cons_of_mem _ ?_
    rcases k with k | k
    · rw [k]; exact (hd r m).1
    · exact (hd r m).2 z k
def spNontsG : Sp := fun vs H Q _ => ∃ (g : Str) (ra d : Addr) (l : List (Str × Nat)) (rs : List Rl), vs = [.str g, .ref ra, .ref d] ∧ RulesAt H ra rs ∧ H d = some (.dK (dkv l)) ∧ NtOk l rs ∧
  ∀ (ys : List Str) (p : Addr) (H' : Hp), sortedS ys = true → ys.Nodup → (∀ z, z ∈ ys ↔ isNt l g rs z) → H p = none → Same H H' → H' p = some (.tup (ys.map V.str)) → Q (.ref p) H'
section
variable {P : Program} {w : World} {K : PySem.W.Frag} {mg : Str → Option Value} {base : Heap}
theorem ok_nontsG {f : Addr} {fd : FuncData} (F : Fun K "nonterminals_of" "nonterminals_of" sNonts f fd) (T : Free mg) : FnOk P w K mg base CX0 1 f fd ["goal", "rules", "arities"] spNontsG := by
  refine F.ok scNonts (fun vs H Q E h => ?_) (fun cdv A outer s H vs Q E hr h => ?_)
  · obtain ⟨g, ra, d, l, rs, rfl, _⟩ := h
    rfl
  · obtain ⟨g, ra, d, l, rs, rfl, hra, hd, ok, q⟩ := h
    have hu := hr.units
    have hun := hr.un
    have hu1 : ∀ {u : Nat}, u + 64 < cLine → u + 1 < cLine := fun h => by omega
    refine ⟨_, (pss_cons (ps_set (i := 3) scNonts.nd rfl (.inl rfl) (pe_disp (pps_cons (pv 0) pe_bl pps_nil) (by rfl) (by rfl) (fun z => by cases z) (by decide))) (pss_cons (ps_for PassesOwn.never rfl (pi_tup (pv 1)) (pg_tup rfl (pgs_cons (pg_name (i := 4) scNonts.nd rfl (.inl rfl)) (pgs_cons (pg_name (i := 5) scNonts.nd rfl (.inl rfl)) (pgs_cons (pg_name (i := 6) scNonts.nd rfl (.inl rfl)) pgs_nil)))) (pss_one (ps_for PassesOwn.never rfl (pi_tup (pe_tup (pa_cons (pv 4) (StX.pa_star (pv 6) pa_nil)))) (pg_name (i := 7) scNonts.nd rfl (.inl rfl)) (pss_one (ps_if (pt_cmp (pc_dnotin (hu1 hu) (pv 7) (pv 2))) (pss_one (ps_asg pe_bl (pg_sub (pv 3) (pv 7) (set_dict (Nat.lt_of_le_of_lt (Nat.add_le_add_left (by decide : 1 ≤ 64) _) hu))))) pss_nil))))) (pss_one (ps_ret (pe_callTy call_tuple_of (by rfl) T.tuple (by decide +kernel) (pa_cons (pe_callB (call_sortedD (by rfl)) (by rfl) T.sorted (by decide +kernel) (pa_cons (pv 3) pa_nil)) pa_nil)))))), ?_⟩
    obtain ⟨D6, hD6, inD⟩ := ok.all g
    obtain ⟨as, hra0, pr⟩ := hra.ex
    refine fun fa nfa => ⟨_, rfl, upd_same, [(.inr g, .bl true)], rfl, Nat.le_of_ble_eq_true rfl, ?_⟩
    rw [upd_upd]
    have sA : ∀ {G : Hp} {u : HO}, Same H G → Same H (upd G fa u) := fun {G u} s b o e => by rw [upd_ne (ne_of_none e nfa)]; exact s b o e
    have s0 : Same H H := Same.refl H
    refine ⟨_, rfl, ra, rfl, ⟨_, SqT.of ((sA s0) _ _ hra0)⟩, ?_⟩
    refine for_tup (K := K) (a := ra) (xs := as.map V.ref) (fun i σ G => ∃ (v4 v5 v6 v7 : Option V) (ys : List Str), σ = [some (.str g), some (.ref ra), some (.ref d), some (.ref fa), v4, v5, v6, v7] ∧ G fa = some (.dK (kd ys)) ∧ ys.Nodup ∧ (∀ z, z ∈ ys ↔ isNt l g (rs.take i) z) ∧ Same H G)
      ⟨none, none, none, none, [g], rfl, upd_same, by simp, fun z => ?_, sA s0⟩ (fun i σ G _ ⟨_, _, _, _, _, _, _, _, _, s⟩ => SqT.of (s _ _ hra0)) ?_ ?_
    · rw [List.mem_singleton]
      constructor
      · exact .inl
      · rintro (h | ⟨r, m, _⟩)
        · exact h
        · simp at m
    · rintro i x σ G hx ⟨v4, v5, v6, v7, ys, rfl, eF, nd, mem, s⟩
      obtain ⟨b, hb, rfl⟩ := ref_at hx
      obtain ⟨r, hr', rat⟩ := pget9 pr hb
      have rok := ok.rules r (List.mem_of_getElem? hr')
      obtain ⟨t, hbt, htt⟩ := rat.same s
      refine ⟨b, _, rfl, SqT.of hbt, rfl, _, _, rfl, _, _, rfl, _, _, rfl, rfl, ?_⟩
      have lt : (r.2.2.map V.str).length = r.2.2.length := List.length_map _
      have few := rok.few
      refine ⟨_, rfl, _, rfl, t, _, rfl, .inl (SqT.of htt), by show (r.2.2.map V.str ++ []).length + 1 ≤ sizeLine; rw [List.append_nil, lt, sizeLine_eq]; omega, fun tw ntw => ?_⟩
      rw [List.append_nil]
      have etw : V.str r.1 :: r.2.2.map V.str = (r.1 :: r.2.2).map V.str := rfl
      rw [etw]
      have s1 := Same.new ntw (o := .tup ((r.1 :: r.2.2).map V.str))
      have htw : (upd G tw (.tup ((r.1 :: r.2.2).map V.str))) tw = some (.tup ((r.1 :: r.2.2).map V.str)) := upd_same
      have eF1 := s1 _ _ eF
      have s2 := s.trans s1
      have twf : tw ≠ fa := fun e => by
        rw [e, eF] at ntw
        cases ntw
      generalize upd G tw (.tup ((r.1 :: r.2.2).map V.str)) = G1 at s1 htw eF1 s2 ⊢
      refine ⟨tw, rfl, ⟨_, SqT.of htw⟩, ?_⟩
      refine for_tup (K := K) (a := tw) (xs := (r.1 :: r.2.2).map V.str) (fun j σ G => ∃ (v7 : Option V) (ys : List Str), σ = [some (.str g), some (.ref ra), some (.ref d), some (.ref fa), some (.str r.1), some (.int (r.2.1 : Int)), some (.ref t), v7] ∧ G fa = some (.dK (kd ys)) ∧ ys.Nodup ∧
          (∀ z, z ∈ ys ↔ isNt l g (rs.take i) z ∨ (z ∈ (r.1 :: r.2.2).take j ∧ z ∉ l.map (·.1))) ∧ Same H G ∧ G tw = some (.tup ((r.1 :: r.2.2).map V.str)))
        ⟨v7, ys, rfl, eF1, nd, fun z => ?_, s2, htw⟩ (fun i σ G _ ⟨_, _, _, _, _, _, _, h⟩ => SqT.of h) ?_ ?_
      · rw [mem z, List.take_zero]
        simp
      · rintro j y σ G2 hy ⟨v7, ys, rfl, eF, nd, mem, s, htw⟩
        obtain ⟨z, hz, rfl⟩ := str_at hy
        have step : ∀ x, x ∈ (r.1 :: r.2.2).take (j + 1) ↔ x ∈ (r.1 :: r.2.2).take j ∨ x = z := fun x => by
          rw [List.take_add_one, hz, List.mem_append]
          simp
        refine ⟨_, rfl, _, rfl, d, _, rfl, DGet.k (k := .inr z) (s _ _ hd), _, rfl, ?_⟩
        by_cases c : z ∈ l.map (·.1)
        · have e := val_mem_iff.mpr c
          refine if_false_of (by rw [e]; rfl) ⟨_, _, rfl, eF, nd, fun x => ?_, s, htw⟩
          rw [mem x, step x]
          constructor
          · rintro (h | ⟨h, n⟩)
            · exact .inl h
            · exact .inr ⟨.inl h, n⟩
          · rintro (h | ⟨h | h, n⟩)
            · exact .inl h
            · exact .inr ⟨h, n⟩
            · exact absurd (h ▸ c) n
        · have e : (valV (dkv l) (.inr z : Key)).isSome = false := by
            cases q : (valV (dkv l) (.inr z : Key)).isSome with
            | false => rfl
            | true => exact absurd (val_mem_iff.mp q) c
          refine if_true_of (by rw [e]; rfl) ?_
          have lys : ys.length ≤ 61 := Nat.le_trans (nodup_few nd fun x m => inD x (by
            rcases (mem x).mp m with h | ⟨h, n⟩
            · exact isNt_of_at h
            · refine .inr ⟨r, List.mem_of_getElem? hr', ?_, n⟩
              have := List.mem_of_mem_take h
              rcases List.mem_cons.mp this with k | k
              · exact .inl k
              · exact .inr k)) hD6
          refine ⟨_, rfl, _, rfl, fa, _, rfl, .inl ⟨kd ys, .inr z, eF, rfl, by rw [kd_len, sizeLine_eq]; omega, rfl⟩, ?_⟩
          rw [kd_put]
          by_cases m : z ∈ ys
          · rw [if_pos m]
            refine ⟨_, ys, rfl, upd_same, nd, fun x => ?_, sA s, by rw [upd_ne twf]; exact htw⟩
            rw [mem x, step x]
            constructor
            · rintro (h | ⟨h, n⟩)
              · exact .inl h
              · exact .inr ⟨.inl h, n⟩
            · rintro (h | ⟨h | h, n⟩)
              · exact .inl h
              · exact .inr ⟨h, n⟩
              · rw [h]
                exact (mem z).mp m
          · rw [if_neg m]
            refine ⟨_, ys ++ [z], rfl, upd_same, ?_, fun x => ?_, sA s, by rw [upd_ne twf]; exact htw⟩
            · rw [List.nodup_append]
              refine ⟨nd, by simp, fun x mx y my e => m ?_⟩
              rw [List.mem_singleton] at my
              rw [← my, ← e]
              exact mx
            · rw [List.mem_append, mem x, step x, List.mem_singleton]
              constructor
              · rintro ((h | ⟨h, n⟩) | h)
                · exact .inl h
                · exact .inr ⟨.inl h, n⟩
                · exact .inr ⟨.inr h, h ▸ c⟩
              · rintro (h | ⟨h | h, n⟩)
                · exact .inl (.inl h)
                · exact .inl (.inr ⟨h, n⟩)
                · exact .inr h
      · rintro σ G2 ⟨v7, ys, rfl, eF, nd, mem, s, htw⟩
        refine ⟨_, _, _, _, ys, rfl, eF, nd, fun z => ?_, s⟩
        have et : (r.1 :: r.2.2).take ((r.1 :: r.2.2).map V.str).length = r.1 :: r.2.2 := List.take_of_length_le (by rw [List.length_map]; exact Nat.le_refl _)
        rw [mem z, et]
        unfold isNt
        rw [List.take_add_one, hr']
        constructor
        · rintro ((h | ⟨r2, m2, k⟩) | ⟨h, n⟩)
          · exact .inl h
          · exact .inr ⟨r2, List.mem_append_left _ m2, k⟩
          · refine .inr ⟨r, List.mem_append_right _ (by simp), ?_, n⟩
            rcases List.mem_cons.mp h with k | k
            · exact .inl k
            · exact .inr k
        · rintro (h | ⟨r2, m2, k, n⟩)
          · exact .inl (.inl h)
          · rcases List.mem_append.mp m2 with m2 | m2
            · exact .inl (.inr ⟨r2, m2, k, n⟩)
            · have e2 : r2 = r := by simpa using m2
              rw [e2] at k
              refine .inr ⟨?_, n⟩
              rcases k with k | k
              · rw [k]; exact List.mem_cons_self
              · exact List.mem_cons_of_mem _ k
    · rintro σ G ⟨v4, v5, v6, v7, ys, rfl, eF, nd, mem, s⟩
      have la : as.length = rs.length := Paired.length pr
      rw [List.take_of_length_le (by rw [List.length_map, la]; exact Nat.le_refl _)] at mem
      have lys : ys.length ≤ 61 := Nat.le_trans (nodup_few nd fun x m => inD x ((mem x).mp m)) hD6
      refine ⟨_, rfl, fa, kd ys, ys, rfl, .inl eF, by unfold kd; rw [List.map_map]; rfl, by omega, fun zs lp pm srt nlp => ?_⟩
      refine ⟨lp, _, rfl, .inl ⟨SqL.of upd_same, fun tp ntp => ?_⟩⟩
      have nH : H lp = none := Same.free s nlp
      have s3 := (s.trans (Same.new nlp (o := .lst (zs.map V.str)))).trans (Same.new ntp (o := .tup (zs.map V.str)))
      refine q zs tp _ srt (pm.nodup_iff.mpr nd) (fun z => by rw [pm.mem_iff, mem z]) ?_ s3 upd_same
      exact Same.free (s.trans (Same.new nlp (o := .lst (zs.map V.str)))) ntp
end
end Pr
namespace Pr
open PySem PySem.Spec PyProof.Rows L2 Gd Ns
/-! ### is_book of any values -/
theorem rules_of_all {H : Hp} {l : List (Str × Nat)} : ∀ {xs : List V}, (∀ x ∈ xs, RuleV H l x) → ∃ (as : List Addr) (rs : List Rl), xs = as.map V.ref ∧ Paired (fun b r => RuleAt H b r) as rs ∧ ∀ r ∈ rs, RlOk l r
  | [], _ => ⟨[], [], rfl, .nil, fun r m => nomatch m⟩
  | x :: xs, h => by
    obtain ⟨as, rs, e, p, k⟩ := rules_of_all (xs := xs) fun y m => h y (List.mem_cons_of_mem _ m)
    obtain ⟨r, ⟨b, rfl, hb⟩, ok⟩ := h x List.mem_cons_self
    refine ⟨b :: as, r :: rs, by rw [e]; rfl, .cons hb p, fun q m => ?_⟩
    rcases List.mem_cons.mp m with e | m
    · rw [e]; exact ok
    · exact k q m
theorem rules_one {H : Hp} : ∀ {as : List Addr} {rs qs : List Rl}, Paired (fun b r => RuleAt H b r) as rs → Paired (fun b r => RuleAt H b r) as qs → rs = qs
  | _, _, _, .nil, .nil => rfl
  | _, _, _, .cons a r, .cons b q => by rw [a.one b, rules_one r q]
theorem refs_inj {as bs : List Addr} (h : as.map V.ref = bs.map V.ref) : as = bs := (List.map_inj_right (fun a b h => V.ref.inj h)).mp h
theorem RulesAt.one {H : Hp} {a : Addr} {rs qs : List Rl} (h : RulesAt H a rs) (k : RulesAt H a qs) : rs = qs := by
  obtain ⟨as, x, p⟩ := h.ex
  obtain ⟨bs, y, q⟩ := k.ex
  cases refs_inj (tup_one x y)
  exact rules_one p q
theorem Jv.rule_words {D : List Str} {H : Hp} {l : List (Str × Nat)} {b : Addr} {r : Rl} (j : Jv D H 2 (.ref b)) (h : RuleAt H b r) (ok : RlOk l r) : r.1 ∈ D ∧ ∀ z ∈ r.2.2, z ∈ D := by
  obtain ⟨t, hb, ht⟩ := h
  have it := (j.items hb).2
  have j0 := it (.str r.1) (by simp)
  have j2 := it (.ref t) (by simp)
  refine ⟨(j0.tx _ rfl).2 ok.head, fun z m => ?_⟩
  exact (((j2.items ht).2 (.str z) (List.mem_map.mpr ⟨z, m, rfl⟩)).tx _ rfl).2 (ok.names z m)
def BookV (H : Hp) (l : List (Str × Nat)) (gv rv : V) : Prop := ∃ g rs, gv = .str g ∧ RulesR H rv rs ∧ BkOk l g rs
/-- what a book is, once its items are known -/
theorem BookV.iff {H : Hp} {l : List (Str × Nat)} {g : Str} {a : Addr} {rs : List Rl} (h : RulesAt H a rs) : BookV H l (.str g) (.ref a) ↔ BkOk l g rs := by
  constructor
  · rintro ⟨g', rs', e, ⟨b, e2, h2⟩, ok⟩
    cases e
    cases e2
    rw [h.one h2]
    exact ok
  · exact fun ok => ⟨g, rs, rfl, ⟨a, rfl, h⟩, ok⟩
theorem Jv.rules_few {D : List Str} (hD : D.length ≤ 60) {H : Hp} {l : List (Str × Nat)} {a : Addr} {as : List Addr} {rs : List Rl} (j : Jv D H 3 (.ref a)) (ha : H a = some (.tup (as.map V.ref))) (p : Paired (fun b r => RuleAt H b r) as rs) (ok : ∀ r ∈ rs, RlOk l r) :
    ∃ D : List Str, D.length ≤ 60 ∧ ∀ r ∈ rs, r.1 ∈ D ∧ ∀ z ∈ r.2.2, z ∈ D := by
  refine ⟨D, hD, fun r m => ?_⟩
  obtain ⟨i, hi⟩ := List.mem_iff_getElem?.mp m
  have la : as.length = rs.length := Paired.length p
  have lt := (List.getElem?_eq_some_iff.mp hi).1
  have hb : as[i]? = some as[i] := List.getElem?_eq_getElem (by omega)
  obtain ⟨r', hr', ra⟩ := pget9 p hb
  rw [hi] at hr'
  cases hr'
  exact ((j.items ha).2 (.ref as[i]) (List.mem_map.mpr ⟨_, List.getElem_mem _, rfl⟩)).rule_words ra (ok r m)
theorem nodup_fewA {α : Type} [DecidableEq α] : ∀ {l D : List α}, l.Nodup → (∀ x ∈ l, x ∈ D) → l.length ≤ D.length
  | [], _, _, _ => Nat.zero_le _
  | x :: l, D, hn, hs => by
    obtain ⟨h1, h2⟩ := List.nodup_cons.mp hn
    have hx : x ∈ D := hs x List.mem_cons_self
    have ih := nodup_fewA (l := l) (D := D.erase x) h2 fun y hy => by
      have hne : y ≠ x := fun e => h1 (e ▸ hy)
      exact (List.mem_erase_of_ne hne).2 (hs y (List.mem_cons_of_mem _ hy))
    have e := List.length_erase_of_mem hx
    have hp : 0 < D.length := List.length_pos_of_mem hx
    rw [List.length_cons]
    omega
theorem nodup_back {α : Type} [DecidableEq α] : ∀ {ks ls : List α}, ls.Nodup → (∀ k ∈ ls, k ∈ ks) → ks.length ≤ ls.length → ks.Nodup
  | [], _, _, _, _ => List.nodup_nil
  | k :: ks, ls, nd, mem, le => by
    rw [List.length_cons] at le
    have n : k ∉ ks := fun m => by
      have := nodup_fewA (l := ls) (D := ks) nd fun x hx => (List.mem_cons.mp (mem x hx)).elim (fun e => e ▸ m) id
      omega
    refine List.nodup_cons.mpr ⟨n, nodup_back (ls := ls.erase k) (nd.erase k) (fun x hx => ?_) ?_⟩
    · have h := (List.Nodup.mem_erase_iff nd).mp hx
      exact (List.mem_cons.mp (mem x h.2)).elim (fun e => absurd e h.1) id
    · have := @List.length_erase_of_mem _ _ _ k ls
      by_cases c : k ∈ ls
      · have := this c
        omega
      · rw [List.erase_of_not_mem c]
        omega
theorem nodup_len {α : Type} [DecidableEq α] {ks ls : List α} (nd : ls.Nodup) (mem : ∀ k, k ∈ ls ↔ k ∈ ks) : ls.length < ks.length ↔ ¬ ks.Nodup := by
  constructor
  · intro lt ndk
    have := nodup_fewA ndk fun x hx => (mem x).mpr hx
    omega
  · intro n
    rcases Nat.lt_or_ge ls.length ks.length with c | c
    · exact c
    · exact absurd (nodup_back nd (fun k hk => (mem k).mp hk) c) n

def spIsBookG : Sp := fun vs H Q _ => ∃ (gv rv : V) (D : List Str) (d : Addr) (l : List (Str × Nat)), vs = [gv, rv, .ref d] ∧ D.length ≤ 60 ∧ Jv D H 1 gv ∧ Jv D H 3 rv ∧ H d = some (.dK (dkv l)) ∧ OpsOk l ∧ ∀ b H', Same H H' → (b = true ↔ BookV H l gv rv) → Q (.bl b) H'
theorem keyR_nd {rs : List Rl} : (rs.map keyR).Nodup ↔ (rs.map fun r => (r.1, r.2.2)).Nodup := by
  induction rs with
  | nil => exact ⟨fun _ => List.nodup_nil, fun _ => List.nodup_nil⟩
  | cons r rs ih =>
    rw [List.map_cons, List.map_cons, List.nodup_cons, List.nodup_cons, ih]
    refine and_congr (not_congr ?_) Iff.rfl
    rw [List.mem_map, List.mem_map]
    constructor
    · rintro ⟨q, m, e⟩
      exact ⟨q, m, keyR_inj e⟩
    · rintro ⟨q, m, e⟩
      refine ⟨q, m, ?_⟩
      obtain ⟨e1, e2⟩ := Prod.mk.inj e
      unfold keyR
      rw [e1, e2]
section
variable {P : Program} {w : World} {K : PySem.W.Frag} {mg : Str → Option Value} {base : Heap} {fN fI fA fW fR fT : Addr} {dN dI dA dW dR dT : FuncData} {tk tk9 tk7 tk12 tk6 : Tok}
theorem ok_isBookG {f : Addr} {fd : FuncData} (F : Fun K "is_book" "is_book" sIsBook f fd) (T : Free mg) (L : Low K mg fN fI fA fW dN dI dA dW tk tk9 tk7) (M : Mid K mg fR fT dR dT tk12 tk6) : FnOk P w K mg base CX0 4 f fd ["goal", "rules", "arities"] spIsBookG := by
  have GN : FnOk P w K mg base CX0 1 fN dN ["value"] spName := ok_name L.FN T L.l8
  have GR : FnOk P w K mg base CX0 3 fR dR ["value", "arities"] spRuleG := ok_ruleG M.FR T L
  have GT : FnOk P w K mg base CX0 1 fT dT ["goal", "rules", "arities"] spNontsG := ok_nontsG M.FT T
  refine F.ok scIsBook (fun vs H Q E h => ?_) (fun cdv A outer s H vs Q E hr h => ?_)
  · obtain ⟨gv, rv, D, d, l, rfl, _⟩ := h
    rfl
  · obtain ⟨gv, rv, D0, d, l, rfl, hD0, jg, jr, hd, oo, q⟩ := h
    have hu := hr.units
    have hu1 : ∀ {u : Nat}, u + 64 < cLine → u + 1 < cLine := fun h => by omega
    have r1 : Room 1 _ := hr.mono (by decide)
    have r3 : Room 3 _ := hr.mono (by decide)
    refine ⟨_, (pss_cons (ps_if (PW.pt (pw_or (pt_not (pt_val (pe_call GN r1 (by rfl) L.gN L.FN.kp L.bN .nil pass0 (pa_cons (pv 0) pa_nil)))) (pw_or (pt_cmp (pc_din (hu1 hu) (pv 0) (pv 2))) (pw_or (pt_not (pt_val (pe_callB call_isi (by rfl) T.isi (by decide +kernel) (pa_cons (pv 1) (pa_cons (pe_bltn (v := .ty "tuple") (by rfl) T.tuple (by decide +kernel) rfl) pa_nil))))) (pw_or1 (pt_cmpR op_gt (pe_callB call_len_seq (by rfl) T.len PySem.boot_len (pa_cons (pv 1) pa_nil)) (pe_glob (v := .int 12) (by rfl) M.r12 ⟨_, rfl⟩) (nomark _))))))) (pss_one (ps_ret pe_bl)) pss_nil) (pss_cons (ps_if (pt_not (pt_val (pe_callB (cr_all rfl) (by rfl) T.all (by decide +kernel) (pa_cons (pe_lc (own := [("rule", 3)]) (g := gName 3) (by rfl) scIsBook.nd (pi_tup (pv 1)) (blkOk_by (own := [("rule", 3)]) (N := ["goal", "rules", "arities", "rule", "nonterminal", "_", "pattern"]) (sc := defScope sIsBook) (by decide +kernel)) (fun _ _ _ _ _ => pg_name (i := 3) scIsBook.nd rfl (.inl rfl)) (fun _ _ _ _ _ => pts_nil) (fun _ _ _ _ _ => pe_call GR r3 (by rfl) M.gR M.FR.kp M.bR .nil pass0 (pa_cons (pv 3) (pa_cons (pv 2) pa_nil)))) pa_nil)))) (pss_one (ps_ret pe_bl)) pss_nil) (pss_cons (ps_if (pt_cmpR op_lt (pe_callB Ns.cr_lenSet (by rfl) T.len PySem.boot_len (pa_cons (Ns.pe_set (own := [("nonterminal", 4), ("_", 5), ("pattern", 6)]) (g := gTup K 3 (gCons (gName 4) (gCons (gName 5) (gCons (gName 6) gNil)))) hu (by rfl) scIsBook.nd (pi_tup (pv 1)) (blkOk_by (own := [("nonterminal", 4), ("_", 5), ("pattern", 6)]) (N := ["goal", "rules", "arities", "rule", "nonterminal", "_", "pattern"]) (sc := defScope sIsBook) (by decide +kernel)) (fun _ _ _ _ _ => pg_tup rfl (pgs_cons (pg_name (i := 4) scIsBook.nd rfl (.inl rfl)) (pgs_cons (pg_name (i := 5) scIsBook.nd rfl (.inl rfl)) (pgs_cons (pg_name (i := 6) scIsBook.nd rfl (.inl rfl)) pgs_nil)))) (fun _ _ _ _ _ => pts_nil) (fun _ _ _ _ _ => pe_tup (pa_cons (pv 4) (pa_cons (pv 6) pa_nil)))) pa_nil)) (pe_callB call_len_seq (by rfl) T.len PySem.boot_len (pa_cons (pv 1) pa_nil)) (nomark _)) (pss_one (ps_ret pe_bl)) pss_nil) (pss_one (ps_ret (pe_cmpR op_le (pe_callB call_len_seq (by rfl) T.len PySem.boot_len (pa_cons (pe_call GT r1 (by rfl) M.gT M.FT.kp M.bT .nil pass0 (pa_cons (pv 0) (pa_cons (pv 1) (pa_cons (pv 2) pa_nil)))) pa_nil)) (pe_glob (v := .int 6) (by rfl) M.n6 ⟨_, rfl⟩) (nomark _))))))), ?_⟩
    have no : ¬ BookV H l gv rv → ∀ H', Same H H' → Q (.bl false) H' := fun n H' s => q false H' s ⟨fun e => (nomatch e), fun h => (n h).elim⟩
    obtain ⟨tg, kg⟩ := jg.kd
    refine ⟨_, rfl, gv, tg, rfl, kg, fun y e => Nat.le_trans (jg.str_ y e) (by decide), _, rfl, ?_⟩
    cases c0 : nameB gv with
    | false =>
      refine if_true_of rfl (no (fun ⟨g, rs, e, _, ok⟩ => ?_) H (Same.refl H))
      rw [e, show nameB (.str g) = azB g from rfl, ok.goal] at c0
      cases c0
    | true => ?_
    obtain ⟨g, rfl, gok⟩ : ∃ h, gv = .str h ∧ azB h = true := by
      cases gv with
      | str z => exact ⟨z, rfl, c0⟩
      | _ => cases c0
    refine if_false_of rfl ?_
    refine ⟨_, rfl, _, rfl, d, _, rfl, DGet.k (k := .inr g) hd, _, rfl, ?_⟩
    cases cn : (valV (dkv l) (.inr g : Key)).isSome with
    | true =>
      refine if_true_of rfl (no (fun ⟨g', rs, e, _, ok⟩ => ?_) H (Same.refl H))
      cases e
      exact ok.gnew (val_mem_iff.mp cn)
    | false => ?_
    have gnew : g ∉ l.map (·.1) := fun m => by
      rw [val_mem_iff.mpr m] at cn
      cases cn
    refine if_false_of rfl ?_
    obtain ⟨tr, kr⟩ := jr.kd
    rcases kr.split with ne | ⟨rfl, ra, xs, rfl, hra0⟩
    · refine ⟨_, rfl, rv, _, _, _, _, rfl, .ty "tuple", kr.ty, kit_tupB kr, _, rfl, ?_⟩
      rw [beq_eq_false_iff_ne.mpr ne]
      refine if_true_of rfl (no (fun ⟨g', rs, _, ⟨a, e, hh⟩, _⟩ => ?_) H (Same.refl H))
      obtain ⟨as, h1, _⟩ := hh.ex
      exact kr.no_tup ne e h1
    refine ⟨_, rfl, .ref ra, _, _, _, true, rfl, .ty "tuple", tyR (.inl hra0), kit_ty (r := true) (by decide +kernel), _, rfl, if_false_of rfl ?_⟩
    refine ⟨_, rfl, ra, _, rfl, .inr (SqT.of hra0), _, _, rfl, rfl, _, rfl, ?_⟩
    -- what the items of a book are
    have inv : BookV H l (.str g) (.ref ra) → xs.length ≤ 12 ∧ ∀ x ∈ xs, RuleV H l x := fun ⟨g', rs, _, ⟨a, e, hh⟩, ok⟩ => by
      cases e
      obtain ⟨as, h1, p⟩ := hh.ex
      have e1 := tup_one hra0 h1
      have la : as.length = rs.length := Paired.length p
      refine ⟨by rw [e1, List.length_map, la]; exact ok.few, fun x m => ?_⟩
      rw [e1] at m
      obtain ⟨b, mb, rfl⟩ := List.mem_map.mp m
      obtain ⟨i, hi⟩ := List.mem_iff_getElem?.mp mb
      obtain ⟨r, hr', k⟩ := pget9 p hi
      exact ⟨r, ⟨b, rfl, k⟩, ok.rules r (List.mem_of_getElem? hr')⟩
    by_cases few : xs.length ≤ 12
    case neg => exact if_true_of (decide_eq_true (by omega)) (no (fun h => few (inv h).1) H (Same.refl H))
    refine if_false_of (decide_eq_false (by omega)) ?_
    -- all rules
    refine ⟨_, rfl, ra, rfl, ⟨_, SqT.of hra0⟩, fun D nD => ?_⟩
    refine lc_tup (K := K) (a := ra) (xs := xs) (fun i G => ∃ bs : List Bool, G D = some (.lst (bs.map V.bl)) ∧ bs.length = i ∧ (bs.all id = true ↔ ∀ x ∈ xs.take i, RuleV H l x) ∧ Same H G) ⟨[], upd_same, rfl, ⟨fun _ x m => (nomatch m), fun _ => rfl⟩, Same.new nD⟩ (fun i G _ ⟨_, _, _, _, s⟩ => SqT.of (s _ _ hra0)) ?_ ?_
    · rintro i x G hx ⟨bs, eD, lb, ib, s⟩
      have jx := (jr.items hra0).2 x (List.mem_of_getElem? hx)
      have lt := (List.getElem?_eq_some_iff.mp hx).1
      refine ⟨rfl, _, rfl, _, rfl, x, D0, d, l, rfl, jx.same s, s _ _ hd, oo, fun b G' s' hb => ⟨_, s' _ _ eD, by rw [List.length_map, sizeLine_eq]; omega, bs ++ [b], ?_, by rw [List.length_append]; simp [lb], ?_, fun b o q => by rw [upd_ne (ne_of_none q nD)]; exact s' _ _ (s b o q)⟩⟩
      · rw [upd_same, List.map_append]
        rfl
      · have hb2 : b = true ↔ RuleV H l x := by
          rw [hb]
          constructor
          · rintro ⟨r, h1, h2⟩
            exact ⟨r, RuleAt.back jx s h1, h2⟩
          · rintro ⟨r, h1, h2⟩
            exact ⟨r, h1.same s, h2⟩
        rw [List.all_append, Bool.and_eq_true, ib, List.take_add_one, hx]
        constructor
        · rintro ⟨h1, h2⟩ y m
          rcases List.mem_append.mp m with m | m
          · exact h1 y m
          · have e : y = x := by simpa using m
            rw [e]
            exact hb2.mp (by simpa using h2)
        · intro h
          refine ⟨fun y m => h y (List.mem_append_left _ m), ?_⟩
          have := hb2.mpr (h x (List.mem_append_right _ (by simp)))
          simpa using this
    rintro G ⟨bs, eD, lb, ib, s1⟩
    rw [List.take_length] at ib
    refine ⟨D, bs, rfl, SqL.of eD, ?_⟩
    cases ca : bs.all id with
    | false =>
      refine ⟨_, rfl, if_true_of rfl (no (fun h => ?_) G s1)⟩
      rw [ib.mpr (inv h).2] at ca
      cases ca
    | true => ?_
    refine ⟨_, rfl, if_false_of rfl ?_⟩
    obtain ⟨as, rs, rfl, pr, rok⟩ := rules_of_all (ib.mp ca)
    have la : as.length = rs.length := Paired.length pr
    have lm : (as.map V.ref).length = rs.length := by rw [List.length_map, la]
    rw [lm] at few
    have hra : RulesAt H ra rs := ⟨as, hra0, pr⟩
    have iff1 : BookV H l (.str g) (.ref ra) ↔ BkOk l g rs := BookV.iff hra
    have nt : NtOk l rs := ⟨few, rok, Jv.rules_few hD0 jr hra0 pr rok⟩
    -- heads with their patterns
    have hra1 := s1 _ _ hra0
    refine ⟨_, rfl, ra, rfl, ⟨_, SqT.of hra1⟩, fun D2 nD2 => ?_⟩
    refine set_tup (K := K) (w := w) (a := ra) (xs := as.map V.ref) (fun i G2 => ∃ L : List El, G2 D2 = some (SetO w D2 L) ∧ (L.map (·.2)).Nodup ∧ (∀ k, k ∈ L.map (·.2) ↔ k ∈ (rs.take i).map keyR) ∧ L.length ≤ i ∧ (∀ p ∈ L, ElK K G2 p) ∧ Kp D2 G G2)
      ⟨[], upd_same, List.nodup_nil, fun k => by rw [List.take_zero]; exact Iff.rfl, Nat.le_refl _, fun p m => (nomatch m), Kp.upd⟩ (fun i G2 _ ⟨_, _, _, _, _, _, k⟩ => SqT.of (k _ _ (ne_of_none hra1 nD2) hra1)) ?_ ?_
    · rintro i x G2 hx ⟨L, eS, nd, mem, ll, els, k⟩
      obtain ⟨b, hb, rfl⟩ := ref_at hx
      obtain ⟨r, hr', rat⟩ := pget9 pr hb
      have hi := (List.getElem?_eq_some_iff.mp hr').1
      obtain ⟨t, hbt, htt⟩ := rat.same s1
      have hbt2 := k _ _ (ne_of_none hbt nD2) hbt
      have htt2 := k _ _ (ne_of_none htt nD2) htt
      refine ⟨b, _, rfl, SqT.of hbt2, rfl, _, _, rfl, _, _, rfl, _, _, rfl, rfl, rfl, ?_⟩
      refine ⟨_, rfl, _, rfl, by show 2 ≤ sizeLine; decide, fun e ne => ?_⟩
      have se := Same.new ne (o := .tup [.str r.1, .ref t])
      have eS2 := se _ _ eS
      have kb : ElK K (upd G2 e (.tup [.str r.1, .ref t])) (e, keyR r) := by
        refine ⟨.tup (SqT.of upd_same) (.cons (.text _) (.cons (.tup (SqT.of (se _ _ htt2)) (kvs_words _)) .nil)), ?_⟩
        show NestedKey.depthAll [.text r.1, .tup (r.2.2.map .text)] + 1 ≤ 8
        have e1 := depth_words r.2.2
        have e2 : NestedKey.depthAll [.text r.1, .tup (r.2.2.map .text)] = max 0 (max (NestedKey.depthAll (r.2.2.map .text) + 1) 0) := rfl
        rw [e2]
        omega
      have els2 : ∀ p ∈ L, ElK K (upd G2 e (.tup [.str r.1, .ref t])) p := fun p m => elK_same se (els p m)
      have step : ∀ z, z ∈ (rs.take (i + 1)).map keyR ↔ z ∈ (rs.take i).map keyR ∨ z = keyR r := fun z => by
        rw [List.take_add_one, hr', List.map_append, List.mem_append]
        simp
      have kpp : ∀ o, Kp D2 G (upd (upd G2 e (.tup [.str r.1, .ref t])) D2 o) := fun o c u nc hc => by
        rw [upd_ne nc]
        exact se _ _ (k c u nc hc)
      refine ⟨e, keyR r, L, rfl, eS2, kb, els2, by omega, fun L' c1 c2 => ?_⟩
      by_cases mk : keyR r ∈ L.map (·.2)
      · rw [c1 mk]
        refine ⟨L, upd_same, nd, fun z => ?_, by omega, fun p m => elK_set eS2 (els2 p m), kpp _⟩
        rw [mem z, step z]
        constructor
        · exact .inl
        · rintro (h | h)
          · exact h
          · rw [h]; exact (mem _).mp mk
      · have pl := c2 mk
        refine ⟨L', upd_same, ?_, fun z => ?_, by have := pl.length_eq; rw [List.length_cons] at this; omega, fun p m => elK_set eS2 ?_, kpp _⟩
        · exact ((pl.map (·.2)).nodup_iff).mpr (List.nodup_cons.mpr ⟨mk, nd⟩)
        · rw [(pl.map (·.2)).mem_iff, List.map_cons, List.mem_cons, mem z, step z]
          exact or_comm
        · rcases List.mem_cons.mp (pl.mem_iff.mp m) with z | z
          · rw [z]; exact kb
          · exact els2 p z
    rintro G2 ⟨L, eS, nd, mem, ll, els, k⟩
    rw [lm, List.take_length] at mem
    have hra2 := k _ _ (ne_of_none hra1 nD2) hra1
    have s2 : Same H G2 := fun b o e => k _ _ (ne_of_none (s1 b o e) nD2) (s1 b o e)
    have key := nodup_len nd mem
    rw [List.length_map, List.length_map, keyR_nd] at key
    refine ⟨D2, L, rfl, eS, _, rfl, ra, _, rfl, .inr (SqT.of hra2), _, _, rfl, rfl, _, rfl, ?_⟩
    by_cases dbl : L.length < rs.length
    · exact if_true_of (decide_eq_true (by rw [lm]; omega)) (no (fun h => key.mp dbl (iff1.mp h).nd) G2 s2)
    refine if_false_of (decide_eq_false (by rw [lm]; omega)) ?_
    have ndk : (rs.map fun r => (r.1, r.2.2)).Nodup := Decidable.not_not.mp fun n => dbl (key.mpr n)
    refine ⟨_, rfl, _, rfl, _, rfl, g, ra, d, l, rs, rfl, hra.same s2, s2 _ _ hd, nt, fun ys p H3 srt nd mem np s3 hp => ?_⟩
    refine ⟨p, _, rfl, .inr (SqT.of hp), _, _, rfl, rfl, ?_⟩
    refine q _ H3 (s2.trans s3) ?_
    rw [decide_eq_true_eq, List.length_map, iff1]
    constructor
    · intro h
      exact ⟨oo, gok, gnew, few, rok, ndk, ys, by omega, fun z hz => (mem z).mpr hz⟩
    · intro ok
      obtain ⟨D6, hD6, inD⟩ := ok.six
      have lys : ys.length ≤ 6 := Nat.le_trans (nodup_few nd fun x m => inD x ((mem x).mp m)) hD6
      omega
end
end Pr
namespace Pr
open PySem PySem.Spec PyProof.Rows L2 Gd
/-! ### ends_of -/
/-- where the tree at p ends -/
def eN (f : Str → Nat) (zs : List Str) (p : Nat) : Nat := p + fin f 1 (zs.drop p)
/-- the list of the ends, the last i places told -/
def endsAt (f : Str → Nat) (zs : List Str) (i : Nat) : List V := (List.range zs.length).map fun q => if zs.length - i ≤ q then V.int (eN f zs q : Int) else V.int 0
theorem ends_step {f : Str → Nat} {zs : List Str} {i p : Nat} (hi : i < zs.length) (hp : zs.length - 1 - i = p) : (endsAt f zs i).set p (V.int (eN f zs p : Int)) = endsAt f zs (i + 1) := by
  unfold endsAt
  refine List.ext_getElem? fun q => ?_
  rw [List.getElem?_set]
  by_cases c : p = q
  · subst c
    rw [if_pos rfl, if_pos (by rw [List.length_map, List.length_range]; omega), List.getElem?_map, List.getElem?_range (by omega)]
    show _ = some (if zs.length - (i + 1) ≤ p then _ else _)
    rw [if_pos (by omega)]
  · rw [if_neg c, List.getElem?_map, List.getElem?_map]
    by_cases d : q < zs.length
    · rw [List.getElem?_range d]
      show some (if zs.length - i ≤ q then _ else _) = some (if zs.length - (i + 1) ≤ q then _ else _)
      by_cases e : zs.length - i ≤ q
      · rw [if_pos e, if_pos (by omega)]
      · rw [if_neg e, if_neg (by omega)]
    · rw [List.getElem?_eq_none (by rw [List.length_range]; omega)]
      rfl
theorem flat_one {α : Type} (x : α) : ∀ n : Nat, (List.replicate n [x]).flatten = List.replicate n x
  | 0 => rfl
  | n + 1 => by rw [List.replicate_succ, List.flatten_cons, flat_one x n, List.replicate_succ]; rfl
def spEnds (K : PySem.W.Frag) : Sp := fun vs H Q _ => ∃ (t d : Addr) (l : List (Str × Nat)) (zs : List Str), vs = [.ref t, .ref d] ∧ H t = some (.tup (zs.map V.str)) ∧ H d = some (.dK (dkv l)) ∧ zs.length ≤ 100 ∧ (∀ z ∈ zs, ar l z ≤ 2) ∧ Wh (ar l) 1 zs ∧
  ∀ (p : Addr) (H' : Hp), H p = none → Same H H' → H' p = some (.lst ((List.range zs.length).map fun i => V.int (eN (ar l) zs i : Int))) → Q (.ref p) H'
section
variable {P : Program} {w : World} {K : PySem.W.Frag} {mg : Str → Option Value} {base : Heap}
theorem scEnds : FnScope ["words", "arities", "ends", "place", "end", "_"] ["words", "arities"] (defScope sEnds) := ⟨rfl, rfl, rfl, by decide +kernel, rfl, by decide +kernel, by decide +kernel⟩
theorem ok_ends {f : Addr} {fd : FuncData} (F : Fun K "ends_of" "ends_of" sEnds f fd) (T : Free mg) : FnOk P w K mg base CX0 1 f fd ["words", "arities"] (spEnds K) := by
  refine F.ok scEnds (fun vs H Q E h => ?_) (fun cdv A outer s H vs Q E hr h => ?_)
  · obtain ⟨t, d, l, zs, rfl, _⟩ := h
    rfl
  · obtain ⟨t, d, l, zs, rfl, ht, hd, few, two, wh, q⟩ := h
    have hu := hr.units
    have hu1 : ∀ {u : Nat}, u + 64 < cLine → u + 1 < cLine := fun h => by omega
    refine ⟨_, (pss_cons (ps_set (i := 2) scEnds.nd rfl (.inl rfl) (pe_op op_rep (pe_lst (pa_cons pe_int pa_nil)) (pe_callB call_len_seq (by rfl) T.len PySem.boot_len (pa_cons (pv 0) pa_nil)))) (pss_cons (ps_for PassesOwn.never rfl (pi_range3 rfl T.range (pa_cons (pe_op op_sub (pe_callB call_len_seq (by rfl) T.len PySem.boot_len (pa_cons (pv 0) pa_nil)) pe_int) (pa_cons (pe_un un_neg pe_int) (pa_cons (pe_un un_neg pe_int) pa_nil)))) (pg_name (i := 3) scEnds.nd rfl (.inl rfl)) (pss_cons (ps_set (i := 4) scEnds.nd rfl (.inl rfl) (pe_op op_add (pv 3) pe_int)) (pss_cons (ps_for PassesOwn.never rfl (pi_range1 rfl T.range (pa_cons (pe_dget2 (hu1 hu) (pv 1) (pe_ix ix_tup (pv 0) (pv 3) (fun _ _ => rfl)) pe_int ⟨by rfl, by rfl, by rfl, by rfl⟩) pa_nil)) (pg_name (i := 5) scEnds.nd rfl (.inl rfl)) (pss_one (ps_set (i := 4) scEnds.nd rfl (.inl rfl) (pe_ix ix_list (pv 2) (pv 4) (fun _ _ => rfl))))) (pss_one (ps_asg (pv 4) (pg_sub (pv 2) (pv 3) set_list)))))) (pss_one (ps_ret (pv 2))))), ?_⟩
    have lz : (zs.map V.str).length = zs.length := List.length_map _
    refine ⟨by show 1 ≤ sizeLine; decide, fun l0 nl0 => ?_⟩
    have s0 := Same.new nl0 (o := .lst [V.int 0])
    refine ⟨_, rfl, t, _, rfl, .inr (SqT.of (s0 _ _ ht)), l0, ((zs.map V.str).length : Int), [V.int 0], rfl, rfl, upd_same, by omega, by rw [lz]; omega, by rw [sizeLine_eq, lz]; simp only [List.length_cons, List.length_nil]; omega, fun e0 ne0 => ?_⟩
    have ne0H : H e0 = none := Same.free s0 ne0
    have se := s0.trans (Same.new ne0 (o := .lst (List.replicate ((zs.map V.str).length : Int).toNat [V.int 0]).flatten))
    have erep : (List.replicate ((zs.map V.str).length : Int).toNat [V.int 0]).flatten = endsAt (ar l) zs 0 := by
      rw [lz, Int.toNat_natCast, flat_one]
      unfold endsAt
      refine List.ext_getElem? fun i => ?_
      rw [List.getElem?_map]
      by_cases c : i < zs.length
      · rw [List.getElem?_replicate, if_pos c, List.getElem?_range c]
        show some (V.int 0) = some (if zs.length - 0 ≤ i then _ else V.int 0)
        rw [if_neg (by omega)]
      · rw [List.getElem?_replicate, if_neg c, List.getElem?_eq_none (by rw [List.length_range]; omega)]
        rfl
    rw [erep] at se ⊢
    have he0 : (upd (upd H l0 (.lst [V.int 0])) e0 (.lst (endsAt (ar l) zs 0))) e0 = some (.lst (endsAt (ar l) zs 0)) := upd_same
    generalize upd (upd H l0 (.lst [V.int 0])) e0 (.lst (endsAt (ar l) zs 0)) = H1 at se he0 ⊢
    refine ⟨_, rfl, t, _, rfl, .inr (SqT.of (se _ _ ht)), _, _, rfl, rfl, _, rfl, _, rfl, ((zs.map V.str).length : Int) - 1, -1, -1, zs.length, rfl, ?_, ?_⟩
    · have e := RgC.neg (i := ((zs.map V.str).length : Int) - 1) (j := -1) (by omega) (by rw [lz]; omega) (by decide) (by decide)
      have e2 : (((zs.map V.str).length : Int) - 1 - -1).toNat = zs.length := by rw [lz]; omega
      rw [e2] at e
      exact e
    refine for_rangeC (fun i σ G => ∃ v3 v4 v5 : Option V, σ = [some (.ref t), some (.ref d), some (.ref e0), v3, v4, v5] ∧ G e0 = some (.lst (endsAt (ar l) zs i)) ∧ Same H G) ⟨none, none, none, rfl, he0, se⟩ ?_ ?_
    · rintro i σ G hi ⟨v3, v4, v5, rfl, eE, s⟩
      have ep : ((zs.map V.str).length : Int) - 1 + (i : Nat) * -1 = ((zs.length - 1 - i : Nat) : Int) := by rw [lz]; omega
      rw [ep]
      generalize hp : zs.length - 1 - i = p
      have pl : p < zs.length := by omega
      have dz : zs.drop p = zs[p] :: zs.drop (p + 1) := List.drop_eq_getElem_cons pl
      obtain ⟨m, wm⟩ := wh.at pl
      rw [dz] at wm
      have wm' : Wh (ar l) (m + ar l zs[p]) (zs.drop (p + 1)) := wm
      have a2 := two zs[p] (List.getElem_mem pl)
      refine ⟨_, rfl, _, _, rfl, rfl, ?_⟩
      refine ⟨_, rfl, d, rfl, .inl ⟨_, .inl (s _ _ hd)⟩, _, rfl, _, rfl, t, _, (p : Int), V.str zs[p], rfl, rfl, SqT.of (s _ _ ht), atI_nat (by rw [List.getElem?_map, List.getElem?_eq_getElem pl]; rfl), valV (dkv l) (.inr zs[p] : Key), DGet.k (k := .inr zs[p]) (s _ _ hd), ?_⟩
      rw [ar_getD]
      refine ⟨_, rfl, by omega, by omega, ?_⟩
      refine for_range (lo := 0) (n := (ar l zs[p] : Int).toNat) (fun k σ G => ∃ v5 : Option V, σ = [some (.ref t), some (.ref d), some (.ref e0), some (.int (p : Int)), some (.int ((p + 1 + fin (ar l) k (zs.drop (p + 1)) : Nat) : Int)), v5] ∧ G e0 = some (.lst (endsAt (ar l) zs i)) ∧ Same H G)
        ⟨v5, by rw [fin_zero]; rfl, eE, s⟩ ?_ ?_
      · rintro k σ G hk ⟨v5, rfl, eE, s⟩
        have hk' : k < ar l zs[p] := by omega
        have e1 : m + ar l zs[p] = k + ((m + ar l zs[p] - k - 1) + 1) := by omega
        rw [e1] at wm'
        have lt := wm'.lt
        rw [List.length_drop] at lt
        have q1 : p + 1 + fin (ar l) k (zs.drop (p + 1)) < zs.length := by omega
        refine ⟨_, rfl, _, rfl, e0, _, _, V.int (eN (ar l) zs (p + 1 + fin (ar l) k (zs.drop (p + 1))) : Int), rfl, rfl, SqL.of eE, atI_nat ?_, ?_⟩
        · unfold endsAt
          rw [List.getElem?_map, List.getElem?_range q1]
          show some (if zs.length - i ≤ _ then _ else V.int 0) = _
          rw [if_pos (by omega)]
        · refine ⟨some (.int (0 + (k : Int))), ?_, eE, s⟩
          have e3 : eN (ar l) zs (p + 1 + fin (ar l) k (zs.drop (p + 1))) = p + 1 + fin (ar l) (k + 1) (zs.drop (p + 1)) := by
            unfold eN
            rw [fin_add, List.drop_drop]
            omega
          rw [e3]
          rfl
      · rintro σ G ⟨v5, rfl, eE, s⟩
        rw [Int.toNat_natCast]
        refine ⟨_, rfl, _, rfl, _, rfl, e0, _, (p : Int), p, rfl, rfl, eE, ?_, ?_⟩
        · have ll : (endsAt (ar l) zs i).length = zs.length := by unfold endsAt; rw [List.length_map, List.length_range]
          unfold ixN
          rw [if_pos (by omega), if_pos (by rw [ll]; omega)]
          simp
        · refine ⟨_, _, _, rfl, ?_, fun b u e => by rw [upd_ne (ne_of_none e ne0H)]; exact s b u e⟩
          rw [upd_same]
          have e4 : p + 1 + fin (ar l) (ar l zs[p]) (zs.drop (p + 1)) = eN (ar l) zs p := by
            unfold eN
            rw [dz]
            show _ = p + (fin (ar l) (0 + ar l zs[p]) (zs.drop (p + 1)) + 1)
            rw [Nat.zero_add]
            omega
          rw [e4, ends_step hi hp]
    · rintro σ G ⟨v3, v4, v5, rfl, eE, s⟩
      refine ⟨_, rfl, q e0 G ne0H s ?_⟩
      rw [eE]
      unfold endsAt
      congr 2
      refine List.map_congr_left fun i _ => ?_
      rw [if_pos (by omega)]
end
end Pr
namespace Pr
open PySem PySem.Spec PyProof.Rows L2 Gd
/-! ### parts_of -/
def kt (wss : List (List Str)) : List (List Key × V) := wss.map fun ws => (ws.map Sum.inr, .bl true)
theorem kt_len (wss : List (List Str)) : (kt wss).length = wss.length := List.length_map _
theorem inr_inj : ∀ {a b : List Str}, a.map (Sum.inr : Str → Key) = b.map Sum.inr → a = b
  | [], [], _ => rfl
  | [], _ :: _, h => by cases h
  | _ :: _, [], h => by cases h
  | x :: a, y :: b, h => by
    have h' : (Sum.inr x : Key) :: a.map Sum.inr = Sum.inr y :: b.map Sum.inr := h
    injection h' with h1 h2
    rw [Sum.inr.inj h1, inr_inj h2]
theorem kt_put {wss : List (List Str)} {ws : List Str} : putK (kt wss) (ws.map Sum.inr) (.bl true) = if ws ∈ wss then kt wss else kt (wss ++ [ws]) := by
  have ea : ((kt wss).any fun kv => decide (kv.1 = ws.map Sum.inr)) = decide (ws ∈ wss) := by
    unfold kt
    rw [List.any_map, Bool.eq_iff_iff, List.any_eq_true, decide_eq_true_eq]
    constructor
    · rintro ⟨y, m, e⟩
      have e' : y.map (Sum.inr : Str → Key) = ws.map Sum.inr := of_decide_eq_true e
      rw [← inr_inj e']
      exact m
    · intro m
      exact ⟨ws, m, decide_eq_true rfl⟩
  unfold putK
  rw [ea]
  by_cases m : ws ∈ wss
  · rw [if_pos (decide_eq_true m), if_pos m]
    unfold kt
    rw [List.map_map]
    refine List.map_congr_left fun y _ => ?_
    show (if y.map (Sum.inr : Str → Key) = ws.map Sum.inr then (y.map (Sum.inr : Str → Key), V.bl true) else (y.map Sum.inr, .bl true)) = _
    split <;> rfl
  · rw [if_neg (by rw [decide_eq_false m]; exact Bool.false_ne_true), if_neg m]
    unfold kt
    rw [List.map_append]
    rfl
def subW (l : List (Str × Nat)) (zs : List Str) (i : Nat) : List Str := (zs.drop i).take (fin (ar l) 1 (zs.drop i))
/-- t[at:end] of a row of names -/
theorem slW {K : PySem.W.Frag} {H : Hp} {t : Addr} {l : List (Str × Nat)} {zs : List Str} {p : Nat} {Q : VK} (hp : p < zs.length) (ht : H t = some (.tup (zs.map V.str)))
    (q : ∀ a H', Same H H' → H' a = some (.tup ((subW l zs p).map V.str)) → Q (.ref a) H') : rSlA K (.ref t) (some (p : Int)) (some ((eN (ar l) zs p : Nat) : Int)) H Q := by
  have el := fin_le (f := ar l) (zs.drop p) 1
  rw [List.length_drop] at el
  have lz : (zs.map V.str).length = zs.length := List.length_map _
  have es : eN (ar l) zs p = p + fin (ar l) 1 (zs.drop p) := rfl
  obtain ⟨c, i1, i2⟩ := cut_strs (zs := zs) (p := p) (e := eN (ar l) zs p) (by omega) (by omega) (by omega)
  have c' : cutV (zs.map V.str) (some (p : Int)) (some ((eN (ar l) zs p : Nat) : Int)) = (subW l zs p).map V.str := by
    rw [c, es, Nat.add_sub_cancel_left]
    rfl
  refine ⟨t, _, rfl, SqT.of ht, fun hw => ?_, fun _ a na => ?_⟩
  · rw [i1, i2, lz] at hw
    have p0 : p = 0 := hw.1
    subst p0
    refine q t H (Same.refl H) ?_
    have e := hw.2
    rw [es, Nat.zero_add] at e
    unfold subW
    rw [e, List.drop_zero, List.take_length]
    exact ht
  · rw [c']
    exact q a _ (Same.new na) upd_same
/-- the parts at a -/
structure PartsAt (K : PySem.W.Frag) (H : Hp) (a : Addr) (l : List (Str × Nat)) (rs : List Rl) : Prop where
  ex : ∃ M : List (Addr × List Str), H a = some (.tup (M.map fun q => V.ref q.1)) ∧ (∀ q ∈ M, SqT K H q.1 (q.2.map V.str)) ∧ Ns.sortedW (M.map (·.2)) ∧ (M.map (·.2)).Nodup ∧ ∀ ws, ws ∈ M.map (·.2) ↔ isPart l rs ws
theorem PartsAt.same {K : PySem.W.Frag} {H H' : Hp} {a : Addr} {l : List (Str × Nat)} {rs : List Rl} (h : PartsAt K H a l rs) (s : Same H H') : PartsAt K H' a l rs := let ⟨M, x, y, z⟩ := h.ex; ⟨M, s _ _ x, fun q m => Ns.sqT_same (y q m) s, z⟩
theorem part_ne {l : List (Str × Nat)} {rs : List Rl} {ws : List Str} (h : isPart l rs ws) : ws ≠ [] := by
  obtain ⟨r, _, i, z, hz, _, rfl⟩ := h
  obtain ⟨hi, e⟩ := List.getElem?_eq_some_iff.mp hz
  rw [List.drop_eq_getElem_cons hi]
  show (_ :: _).take (fin (ar l) (0 + ar l _) _ + 1) ≠ []
  rw [List.take_succ_cons]
  exact List.cons_ne_nil _ _
def spParts (K : PySem.W.Frag) : Sp := fun vs H Q _ => ∃ (pa d : Addr) (l : List (Str × Nat)) (g : Str) (rs : List Rl) (ts : List Addr), vs = [.ref pa, .ref d] ∧ H pa = some (.lst (ts.map V.ref)) ∧ Paired (fun t r => H t = some (.tup (r.2.2.map V.str))) ts rs ∧ H d = some (.dK (dkv l)) ∧ BkOk l g rs ∧
  ∀ (p : Addr) (H' : Hp), H p = none → Same H H' → PartsAt K H' p l rs → Q (.ref p) H'
section
variable {P : Program} {w : World} {K : PySem.W.Frag} {mg : Str → Option Value} {base : Heap} {fE : Addr} {dE : FuncData}
theorem ops_two {l : List (Str × Nat)} (ok : OpsOk l) (z : Str) : ar l z ≤ 2 := by
  cases e : valV (dkv l) (.inr z : Key) with
  | none => rw [ar_none e]; omega
  | some v =>
    obtain ⟨n, rfl, m⟩ := val_nat e
    rw [ar_of e]
    exact ok.two _ m
theorem scParts : FnScope ["patterns", "arities", "found", "pattern", "ends", "at", "word"] ["patterns", "arities"] (defScope sParts) := ⟨rfl, rfl, rfl, by decide +kernel, rfl, by decide +kernel, by decide +kernel⟩
theorem ok_parts {f : Addr} {fd : FuncData} (F : Fun K "parts_of" "parts_of" sParts f fd) (T : Free mg) (FE : Fun K "ends_of" "ends_of" sEnds fE dE) (bE : Binds K dE ["words", "arities"] []) (gE : mg "ends_of" = some (.ref fE)) : FnOk P w K mg base CX0 2 f fd ["patterns", "arities"] (spParts K) := by
  have GE : FnOk P w K mg base CX0 1 fE dE ["words", "arities"] (spEnds K) := ok_ends FE T
  refine F.ok scParts (fun vs H Q E h => ?_) (fun cdv A outer s H vs Q E hr h => ?_)
  · obtain ⟨pa, d, l, g, rs, ts, rfl, _⟩ := h
    rfl
  · obtain ⟨pa, d, l, g, rs, ts, rfl, hpa, pr, hd, ok, q⟩ := h
    have hu := hr.units
    have hu1 : ∀ {u : Nat}, u + 64 < cLine → u + 1 < cLine := fun h => by omega
    refine ⟨_, (pss_cons (ps_set (i := 2) scParts.nd rfl (.inl rfl) pe_dnewT) (pss_cons (ps_for PassesOwn.never rfl (pi_list (pv 0)) (pg_name (i := 3) scParts.nd rfl (.inl rfl)) (pss_cons (ps_set (i := 4) scParts.nd rfl (.inl rfl) (pe_call GE hr (by rfl) gE FE.kp bE .nil pass0 (pa_cons (pv 3) (pa_cons (pv 1) pa_nil)))) (pss_one (ps_for PassesOwn.never rfl (pi_enumT (by rfl) T.enum (pa_cons (pv 3) pa_nil)) (pg_tup rfl (pgs_cons (pg_name (i := 5) scParts.nd rfl (.inl rfl)) (pgs_cons (pg_name (i := 6) scParts.nd rfl (.inl rfl)) pgs_nil))) (pss_one (ps_if (pt_cmp (pc_din (hu1 hu) (pv 6) (pv 1))) (pss_one (ps_asg pe_bl (pg_sub (pv 2) (pe_slice sl_tupA (pv 3) (po_some (pv 5)) (po_some (pe_ix ix_list (pv 4) (pv 5) (fun _ _ => rfl)))) (set_dict (Nat.lt_of_le_of_lt (Nat.add_le_add_left (by decide : 1 ≤ 64) _) hu))))) pss_nil)))))) (pss_one (ps_ret (pe_callTy call_tuple_of (by rfl) T.tuple (by decide +kernel) (pa_cons (pe_callB (Ns.cr_sortedDW (by rfl)) (by rfl) T.sorted (by decide +kernel) (pa_cons (pv 2) pa_nil)) pa_nil)))))), ?_⟩
    refine fun fa nfa => ?_
    have sA : ∀ {G : Hp} {u : HO}, Same H G → Same H (upd G fa u) := fun {G u} s b o e => by rw [upd_ne (ne_of_none e nfa)]; exact s b o e
    have s0 := sA (u := .dT []) (Same.refl H)
    have lt : ts.length = rs.length := Paired.length pr
    have lm : (ts.map V.ref).length = rs.length := by rw [List.length_map, lt]
    have few := ok.few
    refine ⟨_, rfl, pa, rfl, ⟨_, SqL.of (s0 _ _ hpa)⟩, ?_⟩
    refine for_list (K := K) (a := pa) (xs := ts.map V.ref) (fun i σ G => ∃ (v3 v4 v5 v6 : Option V) (wss : List (List Str)), σ = [some (.ref pa), some (.ref d), some (.ref fa), v3, v4, v5, v6] ∧ G fa = some (.dT (kt wss)) ∧ wss.Nodup ∧ wss.length ≤ 7 * i ∧ (∀ ws, ws ∈ wss ↔ isPart l (rs.take i) ws) ∧ Same H G)
      ⟨none, none, none, none, [], rfl, upd_same, .nil, Nat.zero_le _, fun ws => ?_, s0⟩ (fun i σ G _ ⟨_, _, _, _, _, _, _, _, _, _, s⟩ => SqL.of (s _ _ hpa)) ?_ ?_
    · constructor
      · exact fun m => nomatch m
      · rintro ⟨r, m, _⟩
        simp at m
    · rintro i x σ G hx ⟨v3, v4, v5, v6, wss, rfl, eF, nd, ln, mem, s⟩
      obtain ⟨t, ht, rfl⟩ := ref_at hx
      obtain ⟨r, hr', hrt⟩ := pget9 pr ht
      have rok := ok.rules r (List.mem_of_getElem? hr')
      have htt := s _ _ hrt
      have ilt : i < rs.length := (List.getElem?_eq_some_iff.mp hr').1
      have rf := rok.few
      refine ⟨_, rfl, _, rfl, t, d, l, r.2.2, rfl, htt, s _ _ hd, by omega, fun z _ => ops_two ok.ops z, rok.whole, fun ep G1 nep s1 hep => ?_⟩
      have htt1 := s1 _ _ htt
      have eF1 := s1 _ _ eF
      have s2 := s.trans s1
      have lz : (r.2.2.map V.str).length = r.2.2.length := List.length_map _
      refine ⟨_, rfl, t, _, rfl, SqT.of htt1, ?_⟩
      refine for_it (walk_enumT (K := K) (a := t) (xs := r.2.2.map V.str)) (fun j σ G => ∃ (v5 v6 : Option V) (wss : List (List Str)), σ = [some (.ref pa), some (.ref d), some (.ref fa), some (.ref t), some (.ref ep), v5, v6] ∧ G fa = some (.dT (kt wss)) ∧ wss.Nodup ∧ wss.length ≤ 7 * i + j ∧
          (∀ ws, ws ∈ wss ↔ isPart l (rs.take i) ws ∨ ∃ j' z, j' < j ∧ r.2.2[j']? = some z ∧ z ∈ l.map (·.1) ∧ ws = subW l r.2.2 j') ∧ Same H G ∧ G ep = some (.lst ((List.range r.2.2.length).map fun i => V.int (eN (ar l) r.2.2 i : Int))))
        ⟨v5, v6, wss, rfl, eF1, nd, by omega, fun ws => ?_, s2, hep⟩ (fun i σ G _ ⟨_, _, _, _, _, _, _, _, s, _⟩ => SqT.of (s _ _ hrt)) ?_ ?_
      · rw [mem ws]
        constructor
        · exact .inl
        · rintro (h | ⟨j', z, h, _⟩)
          · exact h
          · exact absurd h (Nat.not_lt_zero _)
      · rintro j x σ G2 G3 hj ⟨v5, v6, wss, rfl, eF, nd, ln, mem, s, hep⟩ ⟨U, x1, x2, rfl, nU, rfl, e1, e2⟩
        cases e1
        obtain ⟨z, hz, rfl⟩ := str_at e2
        have jl : j < r.2.2.length := (List.getElem?_eq_some_iff.mp hz).1
        have sU := Same.new nU (o := .tup [V.int (j : Nat), V.str z])
        have s3 := s.trans sU
        have eF3 := sU _ _ eF
        have hep3 := sU _ _ hep
        have hU : (upd G2 U (.tup [V.int (j : Nat), V.str z])) U = some (.tup [V.int (j : Nat), V.str z]) := upd_same
        generalize upd G2 U (.tup [V.int (j : Nat), V.str z]) = G3 at sU s3 eF3 hep3 hU ⊢
        have step : ∀ ws, (∃ j' y, j' < j + 1 ∧ r.2.2[j']? = some y ∧ y ∈ l.map (·.1) ∧ ws = subW l r.2.2 j') ↔ (∃ j' y, j' < j ∧ r.2.2[j']? = some y ∧ y ∈ l.map (·.1) ∧ ws = subW l r.2.2 j') ∨ (z ∈ l.map (·.1) ∧ ws = subW l r.2.2 j) := fun ws => by
          constructor
          · rintro ⟨j', y, h1, h2, h3, h4⟩
            by_cases e : j' = j
            · subst e
              rw [hz] at h2
              cases h2
              exact .inr ⟨h3, h4⟩
            · exact .inl ⟨j', y, by omega, h2, h3, h4⟩
          · rintro (⟨j', y, h1, h2, h3, h4⟩ | ⟨h3, h4⟩)
            · exact ⟨j', y, by omega, h2, h3, h4⟩
            · exact ⟨j, z, by omega, hz, h3, h4⟩
        refine ⟨U, _, rfl, SqT.of hU, rfl, _, _, rfl, _, _, rfl, rfl, ?_⟩
        refine ⟨_, rfl, _, rfl, d, _, rfl, DGet.k (k := .inr z) (s3 _ _ hd), _, rfl, ?_⟩
        by_cases c : z ∈ l.map (·.1)
        · have e := val_mem_iff.mpr c
          refine if_true_of e ?_
          refine ⟨_, rfl, _, rfl, _, rfl, _, rfl, _, rfl, _, rfl, ep, _, (j : Int), V.int (eN (ar l) r.2.2 j : Int), rfl, rfl, SqL.of hep3, atI_nat (by rw [List.getElem?_map, List.getElem?_range jl]; rfl), _, rfl, ?_⟩
          refine slW (l := l) jl (s3 _ _ hrt) fun b G4 s4 hb => ?_
          have eF4 := s4 _ _ eF3
          have s5 := s3.trans s4
          refine ⟨fa, _, rfl, .inr ⟨kt wss, (subW l r.2.2 j).map Sum.inr, b, eF4, rfl, by rw [hb, List.map_map]; rfl, by rw [kt_len, sizeLine_eq]; omega, rfl⟩, ?_⟩
          rw [kt_put]
          have epf : ep ≠ fa := fun e => by
            have h4 := s4 _ _ hep3
            rw [e, eF4] at h4
            cases h4
          by_cases m : subW l r.2.2 j ∈ wss
          · rw [if_pos m]
            refine ⟨_, _, wss, rfl, upd_same, nd, by omega, fun ws => ?_, sA s5, by rw [upd_ne epf]; exact s4 _ _ hep3⟩
            rw [mem ws, step ws]
            constructor
            · rintro (h | h)
              · exact .inl h
              · exact .inr (.inl h)
            · rintro (h | h | ⟨_, h⟩)
              · exact .inl h
              · exact .inr h
              · rw [h]
                exact (mem _).mp m
          · rw [if_neg m]
            refine ⟨_, _, wss ++ [subW l r.2.2 j], rfl, upd_same, ?_, by rw [List.length_append]; simp only [List.length_cons, List.length_nil]; omega, fun ws => ?_, sA s5, by rw [upd_ne epf]; exact s4 _ _ hep3⟩
            · rw [List.nodup_append]
              refine ⟨nd, by simp, fun x mx y my e => m ?_⟩
              rw [List.mem_singleton] at my
              rw [← my, ← e]
              exact mx
            · rw [List.mem_append, mem ws, step ws, List.mem_singleton]
              constructor
              · rintro ((h | h) | h)
                · exact .inl h
                · exact .inr (.inl h)
                · exact .inr (.inr ⟨c, h⟩)
              · rintro (h | h | ⟨_, h⟩)
                · exact .inl (.inl h)
                · exact .inl (.inr h)
                · exact .inr h
        · have e : (valV (dkv l) (.inr z : Key)).isSome = false := by
            cases q : (valV (dkv l) (.inr z : Key)).isSome with
            | false => rfl
            | true => exact absurd (val_mem_iff.mp q) c
          refine if_false_of e ⟨_, _, wss, rfl, eF3, nd, by omega, fun ws => ?_, s3, hep3⟩
          rw [mem ws, step ws]
          constructor
          · rintro (h | h)
            · exact .inl h
            · exact .inr (.inl h)
          · rintro (h | h | ⟨n, _⟩)
            · exact .inl h
            · exact .inr h
            · exact absurd n c
      · rintro σ G2 ⟨v5, v6, wss, rfl, eF, nd, ln, mem, s, hep⟩
        refine ⟨_, _, _, _, wss, rfl, eF, nd, by rw [lz] at ln; omega, fun ws => ?_, s⟩
        rw [mem ws]
        unfold isPart
        rw [List.take_add_one, hr']
        constructor
        · rintro (⟨r2, m2, k⟩ | ⟨j', z, h1, h2, h3, h4⟩)
          · exact ⟨r2, List.mem_append_left _ m2, k⟩
          · exact ⟨r, List.mem_append_right _ (by simp), j', z, h2, h3, h4⟩
        · rintro ⟨r2, m2, j', z, h2, h3, h4⟩
          rcases List.mem_append.mp m2 with m2 | m2
          · exact .inl ⟨r2, m2, j', z, h2, h3, h4⟩
          · have e2 : r2 = r := by simpa using m2
            rw [e2] at h2 h4
            refine .inr ⟨j', z, ?_, h2, h3, h4⟩
            rw [lz]
            exact (List.getElem?_eq_some_iff.mp h2).1
    · rintro σ G ⟨v3, v4, v5, v6, wss, rfl, eF, nd, ln, mem, s⟩
      rw [List.take_of_length_le (by rw [lm]; exact Nat.le_refl _)] at mem
      rw [lm] at ln
      refine ⟨_, rfl, fa, kt wss, wss, rfl, eF, by unfold kt; rw [List.map_map]; rfl, by omega, fun ws m => part_ne ((mem ws).mp m), fun M lp G2 pm srt hk nlp s2 hlp => ?_⟩
      refine ⟨lp, _, rfl, .inl ⟨SqL.of hlp, fun tp ntp => ?_⟩⟩
      have s3 := (s.trans s2).trans (Same.new ntp (o := .tup (M.map fun q => V.ref q.1)))
      exact q tp _ (Same.free (s.trans s2) ntp) s3 ⟨M, upd_same, fun q m => Ns.sqT_same (hk q m) (Same.new ntp), srt, pm.nodup_iff.mpr nd, fun ws => by rw [pm.mem_iff, mem ws]⟩
end
end Pr
namespace Pr
open PySem PySem.Spec PyProof.Rows L2 Gd
/-! ### rules whose K is given (for comprehensions) -/
def rJoin (K : PySem.W.Frag) : V → List V → Hp → VK → Prop := fun x xs H Q => ∃ a p, ∃ ys : List Str, x = .str a ∧ xs = [.ref p] ∧ (SqL K H p (ys.map V.str) ∨ SqT K H p (ys.map V.str)) ∧ (ys.map (·.length)).sum + ys.length * a.length ≤ 16777216 ∧ Q (.str (Txt.join a ys)) H
section
variable {X : Cx} {K : PySem.W.Frag}
theorem pe_joinK {o e : Expr} {to te : TE} {apos pos : Pos} (h : X.K = K) (ho : PE X o to) (he : PE X e te) (hs : starEach [e] X.env = [(false, eval e X.env)] := by rfl) (hbase : attributeBase o "join" X.env (eval o X.env) = eval o X.env := by rfl) (hline : (apos.endLine == pos.line) = true := by rfl) :
    PE X (.Call (.Attribute o "join" apos) [e] [] pos) (tM1 (rJoin K) to te) := by
  subst h
  exact pe_join ho he hs hbase hline
theorem pa_starK {e : Expr} {es : List Expr} {te : TE} {t : TA} {p : Pos} (h : X.K = K) (he : PE X e te) (hr : PA X es t) (hs : starEach (.Starred e p :: es) X.env = (true, eval e X.env) :: starEach es X.env := by rfl) : PA X (.Starred e p :: es) (StX.tStar K te t) := by
  subst h
  exact StX.pa_star he hr hs
def rLenK (K : PySem.W.Frag) : List V → Hp → VK → Prop := fun xs H Q => ∃ p ys, xs = [.ref p] ∧ (SqL K H p ys ∨ SqT K H p ys) ∧ Q (.int (ys.length : Int)) H
end
end Pr
namespace Pr
open PySem PySem.Spec PyProof.Rows L2 Gd
/-! ### Book(operators, goal, rules) -/
/-- what isinstance looks up of the class -/
structure IsF (K : PySem.W.Frag) (mg : Str → Option Value) (nm : Str) (C : Addr) : Prop where
  g : mg nm = some (.ref C)
  cl : PySem.W.findIn K (.ref C) "__class__" = some (some (.builtin "object.__class__"))
  sp : PySem.W.specialIn K (.builtin "object.__class__") "__get__" = some (some (.builtin "getset_descriptor.__get__"))
  tk : PySem.W.takesIn K (.builtin "object.__class__") = some true
  ob : PySem.W.mroIn K C (.type "object") = some true
  k1 : PySem.W.kitOne K (.ref C) (.ref C) = some true
/-- what is known of the class Book -/
structure BkF (K : PySem.W.Frag) (B : Addr) : Prop where
  cls : Cls K B
  n1 : NoAttr K B "_operators"
  n2 : NoAttr K B "_goal"
  n3 : NoAttr K B "_rules"
  n4 : NoAttr K B "_nonterminals"
  n5 : NoAttr K B "_parts"
  n6 : NoAttr K B "_lines"
  n7 : NoAttr K B "_sides"
  n8 : NoAttr K B "_kept"
/-- the line of a rule -/
def rlS (r : Rl) : Str := Txt.join " " (("rule" : Str) :: r.1 :: (Str.ofString (toString (r.2.1 : Int))) :: r.2.2)
def goS (g : Str) : Str := Str.empty ++ ("goal " : Str) ++ g
def bkLines (l : List (Str × Nat)) (g : Str) (rs : List Rl) : List Str := l.map lnS ++ goS g :: rs.map rlS
structure NtsAt (H : Hp) (a : Addr) (l : List (Str × Nat)) (g : Str) (rs : List Rl) : Prop where
  ex : ∃ ys : List Str, H a = some (.tup (ys.map V.str)) ∧ sortedS ys = true ∧ ys.Nodup ∧ ∀ z, z ∈ ys ↔ isNt l g rs z
theorem NtsAt.same {H H' : Hp} {a : Addr} {l : List (Str × Nat)} {g : Str} {rs : List Rl} (h : NtsAt H a l g rs) (s : Same H H') : NtsAt H' a l g rs := let ⟨ys, x, y⟩ := h.ex; ⟨ys, s _ _ x, y⟩
/-- the book at o -/
structure BookAt (K : PySem.W.Frag) (H : Hp) (C B o : Addr) (l : List (Str × Nat)) (g : Str) (rs : List Rl) : Prop where
  ex : ∃ dx oo ra na pa la kk : Addr, H o = some (.ins B dx [("_operators", .ref oo), ("_goal", .str g), ("_rules", .ref ra), ("_nonterminals", .ref na), ("_parts", .ref pa), ("_lines", .ref la), ("_sides", .non), ("_kept", .ref kk)]) ∧
    OpsAt H C oo l ∧ RulesAt H ra rs ∧ NtsAt H na l g rs ∧ PartsAt K H pa l rs ∧ H la = some (.tup ((bkLines l g rs).map V.str))
theorem BookAt.same {K : PySem.W.Frag} {H H' : Hp} {C B o : Addr} {l : List (Str × Nat)} {g : Str} {rs : List Rl} (h : BookAt K H C B o l g rs) (s : Same H H') : BookAt K H' C B o l g rs :=
  let ⟨dx, oo, ra, na, pa, la, kk, h1, h2, h3, h4, h5, h6⟩ := h.ex
  ⟨dx, oo, ra, na, pa, la, kk, s _ _ h1, h2.same s, h3.same s, h4.same s, h5.same s, s _ _ h6⟩
theorem rules_ts {H : Hp} : ∀ {as : List Addr} {rs : List Rl}, Paired (fun b r => RuleAt H b r) as rs → ∃ ts : List Addr, Paired (fun t r => H t = some (.tup (r.2.2.map V.str))) ts rs ∧ ts.length = as.length ∧
    ∀ (i : Nat) (b : Addr), as[i]? = some b → ∃ t r, ts[i]? = some t ∧ rs[i]? = some r ∧ H b = some (.tup [.str r.1, .int (r.2.1 : Int), .ref t])
  | _, _, .nil => ⟨[], .nil, rfl, fun i b h => by simp at h⟩
  | _, _, .cons (a := a) (b := r) f p => by
    obtain ⟨ts, h1, h2, h3⟩ := rules_ts p
    obtain ⟨t, ht, htt⟩ := f
    refine ⟨t :: ts, .cons htt h1, by rw [List.length_cons, List.length_cons, h2], fun i b h => ?_⟩
    cases i with
    | zero =>
      simp only [List.getElem?_cons_zero] at h
      cases h
      exact ⟨t, r, rfl, rfl, ht⟩
    | succ i =>
      simp only [List.getElem?_cons_succ] at h
      obtain ⟨t', r', x, y, z⟩ := h3 i b h
      exact ⟨t', r', by rw [List.getElem?_cons_succ]; exact x, by rw [List.getElem?_cons_succ]; exact y, z⟩
theorem sum_az : ∀ {zs : List Str}, (∀ z ∈ zs, azB z = true) → (zs.map (·.length)).sum ≤ 8 * zs.length
  | [], _ => Nat.le_refl _
  | z :: zs, h => by
    have a := az_len (h z List.mem_cons_self)
    have b := sum_az (zs := zs) fun y m => h y (List.mem_cons_of_mem _ m)
    rw [List.map_cons, List.sum_cons, List.length_cons]
    omega
/-- the program's defs that a book asks -/
structure Top (P : Program) (w : World) (K : PySem.W.Frag) (mg : Str → Option Value) (base : Heap) (C fB fT fP pA gA pL gL : Addr) (dB dT dP dA dL : FuncData) : Prop where
  cf : OpF K C
  is : IsF K mg "Operators" C
  GB : FnOk P w K mg base CX0 4 fB dB ["goal", "rules", "arities"] spIsBook
  bB : Binds K dB ["goal", "rules", "arities"] []
  gB : mg "is_book" = some (.ref fB)
  kB : PySem.W.keepIn K (.ref fB) = true
  GT : FnOk P w K mg base CX0 1 fT dT ["goal", "rules", "arities"] spNonts
  bT : Binds K dT ["goal", "rules", "arities"] []
  gT : mg "nonterminals_of" = some (.ref fT)
  kT : PySem.W.keepIn K (.ref fT) = true
  GP : FnOk P w K mg base CX0 2 fP dP ["patterns", "arities"] (spParts K)
  bP : Binds K dP ["patterns", "arities"] []
  gP : mg "parts_of" = some (.ref fP)
  kP : PySem.W.keepIn K (.ref fP) = true
  prA : PropOf K C "arities" pA gA
  GA : FnOk P w K mg base CX0 1 gA dA ["self"] (spPA C)
  bA : Binds K dA ["self"] []
  prL : PropOf K C "lines" pL gL
  GL : FnOk P w K mg base CX0 1 gL dL ["self"] (spPL C)
  bL : Binds K dL ["self"] []
def spBInit (K : PySem.W.Frag) (C B : Addr) : Sp := fun vs H Q _ => ∃ (x dx oo ra : Addr) (g : Str) (l : List (Str × Nat)) (rs : List Rl), vs = [.ref x, .ref oo, .str g, .ref ra] ∧ H x = some (.ins B dx []) ∧ OpsAt H C oo l ∧ RulesAt H ra rs ∧ BkOk l g rs ∧
  ∀ H', Kp x H H' → BookAt K H' C B x l g rs → FldAt H' x "_operators" (.ref oo) → Q .non H'
section
variable {P : Program} {w : World} {K : PySem.W.Frag} {mg : Str → Option Value} {base : Heap} {C B fB fT fP pA gA pL gL : Addr} {dB dT dP dA dL : FuncData}
theorem scBInit : FnScope ["self", "operators", "goal", "rules", "arities", "told", "_", "pattern", "word", "price"] ["self", "operators", "goal", "rules"] (defScope bInit) := ⟨rfl, rfl, rfl, by decide +kernel, rfl, by decide +kernel, by decide +kernel⟩
theorem ok_binit {f : Addr} {fd : FuncData} (F : Fun K "__init__" "Book.__init__" bInit f fd) (T : Free mg) (Z : Top P w K mg base C fB fT fP pA gA pL gL dB dT dP dA dL) (bf : BkF K B) : FnOk P w K mg base CX0 5 f fd ["self", "operators", "goal", "rules"] (spBInit K C B) := by
  refine F.ok scBInit (fun vs H Q E h => ?_) (fun cdv A outer s H vs Q E hr h => ?_)
  · obtain ⟨x, dx, oo, ra, g, l, rs, rfl, _⟩ := h
    rfl
  · obtain ⟨x, dx, oo, ra, g, l, rs, rfl, hx, hoo, hra, ok, q⟩ := h
    have hu := hr.units
    have hu1 : ∀ {u : Nat}, u + 64 < cLine → u + 1 < cLine := fun h => by omega
    have r1 : Room 1 _ := hr.mono (by decide)
    have r2 : Room 2 _ := hr.mono (by decide)
    have r4 : Room 4 _ := hr.mono (by decide)
    refine ⟨_, (pss_cons (ps_if (pt_not (pt_val (pe_callB call_isi (by rfl) T.isi (by decide +kernel) (pa_cons (pv 1) (pa_cons (pe_glob (v := .ref C) (by rfl) Z.is.g rfl) pa_nil))))) (pss_one ps_never) pss_nil) (pss_cons (ps_set (i := 4) scBInit.nd rfl (.inl rfl) (pe_prop (pv 1) Z.cf.cls Z.prA Z.GA r2 Z.bA .nil pass0 rfl)) (pss_cons (ps_if (pt_not (pt_val (pe_call Z.GB r4 (by rfl) Z.gB Z.kB Z.bB .nil pass0 (pa_cons (pv 2) (pa_cons (pv 3) (pa_cons (pv 4) pa_nil)))))) (pss_one ps_never) pss_nil) (pss_cons (ps_fld (pv 0) (pv 1) rfl) (pss_cons (ps_fld (pv 0) (pv 2) rfl) (pss_cons (ps_fld (pv 0) (pv 3) rfl) (pss_cons (ps_fld (pv 0) (pe_call Z.GT r1 (by rfl) Z.gT Z.kT Z.bT .nil pass0 (pa_cons (pv 2) (pa_cons (pv 3) (pa_cons (pv 4) pa_nil)))) rfl) (pss_cons (ps_fld (pv 0) (pe_call Z.GP r2 (by rfl) Z.gP Z.kP Z.bP .nil pass0 (pa_cons (pe_lc (own := [("_", 6), ("pattern", 7)]) (g := gTup K 3 (gCons (gName 6) (gCons (gName 6) (gCons (gName 7) gNil)))) (by rfl) scBInit.nd (pi_tup (pv 3)) (blkOk_by (own := [("_", 6), ("pattern", 7)]) (N := ["self", "operators", "goal", "rules", "arities", "told", "_", "pattern", "word", "price"]) (sc := defScope bInit) (by decide +kernel)) (fun _ _ _ _ _ => pg_tup rfl (pgs_cons (pg_name (i := 6) scBInit.nd rfl (.inl rfl)) (pgs_cons (pg_name (i := 6) scBInit.nd rfl (.inl rfl)) (pgs_cons (pg_name (i := 7) scBInit.nd rfl (.inl rfl)) pgs_nil)))) (fun _ _ _ _ _ => pts_nil) (fun _ _ _ _ _ => pv 7)) (pa_cons (pv 4) pa_nil))) rfl) (pss_cons (ps_setLc (i := 5) (own := [("word", 8), ("price", 9), ("pattern", 7)]) (g := gTup K 3 (gCons (gName 8) (gCons (gName 9) (gCons (gName 7) gNil)))) (by rfl) scBInit.nd rfl rfl (sw_true rfl rfl rfl (by decide +kernel)) (pi_tup (pv 3)) (blkOk_by (own := [("word", 8), ("price", 9), ("pattern", 7)]) (N := ["self", "operators", "goal", "rules", "arities", "told", "_", "pattern", "word", "price"]) (sc := defScope bInit) (by decide +kernel)) (fun _ _ _ _ _ => pg_tup rfl (pgs_cons (pg_name (i := 8) scBInit.nd rfl (.inl rfl)) (pgs_cons (pg_name (i := 9) scBInit.nd rfl (.inl rfl)) (pgs_cons (pg_name (i := 7) scBInit.nd rfl (.inl rfl)) pgs_nil)))) (fun _ _ _ _ _ => pts_nil) (fun _ _ _ _ _ => pe_joinK (K := K) rfl pe_str (pe_lst (pa_cons pe_str (pa_cons (pv 8) (pa_cons (pe_callTy call_str_int (by rfl) T.str (by decide +kernel) (pa_cons (pv 9) pa_nil)) (pa_starK (K := K) rfl (pv 7) pa_nil))))))) (pss_cons (ps_fld (pv 0) (pe_tup (StX.pa_star (pe_prop (pv 1) Z.cf.cls Z.prL Z.GL r2 Z.bL .nil pass0 rfl) (pa_cons (pe_joined (.cons pe_str (.cons (pe_fmt (pv 2)) .nil))) (StX.pa_star (pv 5) pa_nil)))) rfl) (pss_cons (ps_fld (pv 0) pe_non rfl) (pss_one (ps_fld (pv 0) pe_dnewK rfl))))))))))))), ?_⟩
    have hooM : OpsAt (Hm x H) C oo l := by
      obtain ⟨dx2, tn, ta, tl, a1, a2, a3, a4⟩ := hoo.ex
      have ne : ∀ {b : Addr} {u : HO}, H b = some u → (∀ B dx, u ≠ .ins B dx []) → b ≠ x := fun {b u} e n c => by
        rw [c, hx] at e
        cases e
        exact n _ _ rfl
      exact ⟨dx2, tn, ta, tl, Hm.of a1 (ne a1 fun _ _ => by intro h; cases h), Hm.of a2 (ne a2 fun _ _ => by intro h; cases h), Hm.of a3 (ne a3 fun _ _ => by intro h; cases h), Hm.of a4 (ne a4 fun _ _ => by intro h; cases h)⟩
    have net : ∀ {b : Addr} {xs : List V}, H b = some (.tup xs) → b ≠ x := fun {b xs} e c => by
      rw [c, hx] at e
      cases e
    have hraM : RulesAt (Hm x H) ra rs := by
      obtain ⟨as, a1, a2⟩ := hra.ex
      exact ⟨as, Hm.of a1 (net a1), paired_map (fun b r ⟨t, u, v⟩ => ⟨t, Hm.of u (net u), Hm.of v (net v)⟩) a2⟩
    have le : ∀ G : Hp, Same (Hm x G) G := fun G b o h => (Hm.some_of h).1
    obtain ⟨dx2, tn, ta, tl, ho, _⟩ := hoo.ex
    refine ⟨_, rfl, .ref oo, _, _, _, true, rfl, .own C, .base (.ins ho Z.cf.cls Z.is.cl Z.is.sp Z.is.tk Z.is.ob), Z.is.k1, _, rfl, if_false_of rfl ?_⟩
    -- arities
    refine ⟨_, rfl, oo, _, _, rfl, ho, oo, l, rfl, hoo, fun d nd => ?_⟩
    have k1 := Kp.same (d := x) (Same.new nd (o := .dK (dkv l)))
    have dx_ : d ≠ x := fun c => by
      rw [c, hx] at nd
      cases nd
    have hx1 := (Same.new nd (o := .dK (dkv l))) _ _ hx
    have hd1 : Hm x (upd H d (.dK (dkv l))) d = some (.dK (dkv l)) := Hm.of upd_same dx_
    generalize upd H d (.dK (dkv l)) = H1 at k1 hx1 hd1 ⊢
    have S1 := k1.hm
    -- is_book
    refine ⟨_, rfl, _, rfl, _, rfl, g, ra, d, l, rs, rfl, hraM.same (S1.trans (le _)), le _ _ _ hd1, ok, fun H2 s2 => ⟨_, rfl, if_false_of rfl ?_⟩⟩
    have k2 := k1.trans (Kp.same s2)
    have hx2 := s2 _ _ hx1
    have hd2 := Same.hm (d := x) s2 _ _ hd1
    -- three fields
    refine ⟨_, rfl, _, rfl, x, B, dx, _, rfl, hx2, bf.cls, bf.n1, by decide, ?_⟩
    have k3 := k2.trans (Kp.upd (o := .ins B dx (putF "_operators" (.ref oo) [])))
    have hx3 : (upd H2 x (.ins B dx (putF "_operators" (.ref oo) []))) x = some (.ins B dx [("_operators", .ref oo)]) := upd_same
    have hd3 := (Kp.upd (o := .ins B dx (putF "_operators" (.ref oo) []))).hm _ _ hd2
    generalize upd H2 x (.ins B dx (putF "_operators" (.ref oo) [])) = H3 at k3 hx3 hd3 ⊢
    refine ⟨_, rfl, _, rfl, x, B, dx, _, rfl, hx3, bf.cls, bf.n2, Nat.le_of_ble_eq_true rfl, ?_⟩
    have k4 := k3.trans (Kp.upd (o := .ins B dx (putF "_goal" (.str g) [("_operators", .ref oo)])))
    have hx4 : (upd H3 x (.ins B dx (putF "_goal" (.str g) [("_operators", .ref oo)]))) x = some (.ins B dx [("_operators", .ref oo), ("_goal", .str g)]) := upd_same
    have hd4 := (Kp.upd (o := .ins B dx (putF "_goal" (.str g) [("_operators", .ref oo)]))).hm _ _ hd3
    generalize upd H3 x (.ins B dx (putF "_goal" (.str g) [("_operators", .ref oo)])) = H4 at k4 hx4 hd4 ⊢
    refine ⟨_, rfl, _, rfl, x, B, dx, _, rfl, hx4, bf.cls, bf.n3, Nat.le_of_ble_eq_true rfl, ?_⟩
    have k5 := k4.trans (Kp.upd (o := .ins B dx (putF "_rules" (.ref ra) [("_operators", .ref oo), ("_goal", .str g)])))
    have hx5 : (upd H4 x (.ins B dx (putF "_rules" (.ref ra) [("_operators", .ref oo), ("_goal", .str g)]))) x = some (.ins B dx [("_operators", .ref oo), ("_goal", .str g), ("_rules", .ref ra)]) := upd_same
    have hd5 := (Kp.upd (o := .ins B dx (putF "_rules" (.ref ra) [("_operators", .ref oo), ("_goal", .str g)]))).hm _ _ hd4
    generalize upd H4 x (.ins B dx (putF "_rules" (.ref ra) [("_operators", .ref oo), ("_goal", .str g)])) = H5 at k5 hx5 hd5 ⊢
    -- nonterminals
    refine ⟨_, rfl, _, rfl, _, rfl, g, ra, d, l, rs, rfl, hraM.same (k5.hm.trans (le _)), le _ _ _ hd5, ok, fun ys na H6 srt ndy mem nna s6 hna => ?_⟩
    have nax : na ≠ x := fun c => by
      rw [c, hx5] at nna
      cases nna
    have k6 := k5.trans (Kp.same s6)
    have hx6 := s6 _ _ hx5
    have hd6 := Same.hm (d := x) s6 _ _ hd5
    have nt6 : NtsAt (Hm x H6) na l g rs := ⟨ys, Hm.of hna nax, srt, ndy, mem⟩
    refine ⟨_, rfl, x, B, dx, _, rfl, hx6, bf.cls, bf.n4, Nat.le_of_ble_eq_true rfl, ?_⟩
    have u7 := (Kp.upd (H := H6) (d := x) (o := .ins B dx (putF "_nonterminals" (.ref na) [("_operators", .ref oo), ("_goal", .str g), ("_rules", .ref ra)])))
    have k7 := k6.trans u7
    have hx7 : (upd H6 x (.ins B dx (putF "_nonterminals" (.ref na) [("_operators", .ref oo), ("_goal", .str g), ("_rules", .ref ra)]))) x = some (.ins B dx [("_operators", .ref oo), ("_goal", .str g), ("_rules", .ref ra), ("_nonterminals", .ref na)]) := upd_same
    have hd7 := u7.hm _ _ hd6
    have nt7 := nt6.same u7.hm
    generalize upd H6 x (.ins B dx (putF "_nonterminals" (.ref na) [("_operators", .ref oo), ("_goal", .str g), ("_rules", .ref ra)])) = H7 at k7 hx7 hd7 nt7 ⊢
    -- patterns
    have hra7 := hraM.same (k7.hm.trans (le _))
    obtain ⟨as, hras, pr⟩ := hra7.ex
    obtain ⟨ts, prt, lts, tsat⟩ := rules_ts pr
    have las : as.length = rs.length := Paired.length pr
    have few := ok.few
    have lm : (as.map V.ref).length = rs.length := by rw [List.length_map, las]
    refine ⟨_, rfl, ra, rfl, ⟨_, SqT.of hras⟩, fun D nD => ?_⟩
    refine lc_tup (K := K) (a := ra) (xs := as.map V.ref) (fun i G => G D = some (.lst ((ts.take i).map V.ref)) ∧ Same H7 G) ⟨upd_same, Same.new nD⟩ (fun i G _ ⟨_, s⟩ => SqT.of (s _ _ hras)) ?_ ?_
    · rintro i y G hy ⟨eD, s⟩
      obtain ⟨b, hb, rfl⟩ := ref_at hy
      obtain ⟨t, r, ht, hr', hbt⟩ := tsat i b hb
      have il := (List.getElem?_eq_some_iff.mp hr').1
      refine ⟨b, _, rfl, SqT.of (s _ _ hbt), rfl, _, _, rfl, _, _, rfl, _, _, rfl, rfl, rfl, _, rfl, _, eD, by rw [List.length_map, List.length_take, sizeLine_eq]; omega, ?_, fun b o q => by rw [upd_ne (ne_of_none q nD)]; exact s b o q⟩
      rw [upd_same, List.take_add_one, ht, List.map_append]
      rfl
    rintro H8 ⟨eD, s8⟩
    rw [List.take_of_length_le (by rw [List.length_map]; omega)] at eD
    have Dx : D ≠ x := fun c => by
      rw [c, hx7] at nD
      cases nD
    have k8 := k7.trans (Kp.same s8)
    have hx8 := s8 _ _ hx7
    have hd8 := Same.hm (d := x) s8 _ _ hd7
    have nt8 := nt7.same (Same.hm (d := x) s8)
    refine ⟨_, rfl, D, d, l, g, rs, ts, rfl, eD, paired_map (fun t r e => s8 _ _ e) prt, le _ _ _ hd8, ok, fun pa H9 npa s9 hpa => ?_⟩
    have pax : pa ≠ x := fun c => by
      rw [c, hx8] at npa
      cases npa
    have k9 := k8.trans (Kp.same s9)
    have hx9 := s9 _ _ hx8
    have nt9 := nt8.same (Same.hm (d := x) s9)
    have pt9 : PartsAt K (Hm x H9) pa l rs := by
      obtain ⟨M, m1, m2, m3⟩ := hpa.ex
      refine ⟨M, Hm.of m1 pax, fun q mq => ?_, m3⟩
      rcases m2 q mq with h | h
      · have nx : q.1 ≠ x := fun c => by
          rw [c] at h
          rcases h with h | ⟨_, h⟩ <;> (rw [hx9] at h; cases h)
        rcases h with h | ⟨od, h⟩
        · exact .inl (.inl (Hm.of h nx))
        · exact .inl (.inr ⟨od, Hm.of h nx⟩)
      · exact .inr h
    refine ⟨_, rfl, x, B, dx, _, rfl, hx9, bf.cls, bf.n5, Nat.le_of_ble_eq_true rfl, ?_⟩
    have uA := (Kp.upd (H := H9) (d := x) (o := .ins B dx (putF "_parts" (.ref pa) [("_operators", .ref oo), ("_goal", .str g), ("_rules", .ref ra), ("_nonterminals", .ref na)])))
    have kA := k9.trans uA
    have hxA : (upd H9 x (.ins B dx (putF "_parts" (.ref pa) [("_operators", .ref oo), ("_goal", .str g), ("_rules", .ref ra), ("_nonterminals", .ref na)]))) x = some (.ins B dx [("_operators", .ref oo), ("_goal", .str g), ("_rules", .ref ra), ("_nonterminals", .ref na), ("_parts", .ref pa)]) := upd_same
    have ntA := nt9.same uA.hm
    have ptA := pt9.same uA.hm
    generalize upd H9 x (.ins B dx (putF "_parts" (.ref pa) [("_operators", .ref oo), ("_goal", .str g), ("_rules", .ref ra), ("_nonterminals", .ref na)])) = HA at kA hxA ntA ptA ⊢
    -- lines of the rules
    have hraA := hraM.same (kA.hm.trans (le _))
    obtain ⟨as, hras, pr⟩ := hraA.ex
    have las : as.length = rs.length := Paired.length pr
    have lm : (as.map V.ref).length = rs.length := by rw [List.length_map, las]
    refine ⟨_, rfl, ra, rfl, ⟨_, SqT.of hras⟩, fun E2 nE => ?_⟩
    refine lc_tup (K := K) (a := ra) (xs := as.map V.ref) (fun i G => G E2 = some (.lst (((rs.take i).map rlS).map V.str)) ∧ Same HA G) ⟨upd_same, Same.new nE⟩ (fun i G _ ⟨_, s⟩ => SqT.of (s _ _ hras)) ?_ ?_
    · rintro i y G hy ⟨eE, s⟩
      obtain ⟨b, hb, rfl⟩ := ref_at hy
      obtain ⟨r, hr', t, hbt, htt⟩ := pget9 pr hb
      have rok := ok.rules r (List.mem_of_getElem? hr')
      have il := (List.getElem?_eq_some_iff.mp hr').1
      have lg : ((r.2.1 : Int)).natAbs.log2 < 1920 := by
        have := rok.price
        exact Nat.lt_of_le_of_lt (Nat.log2_le_self _) (by omega)
      have rf := rok.few
      have lz : (r.2.2.map V.str).length = r.2.2.length := List.length_map _
      refine ⟨b, _, rfl, SqT.of (s _ _ hbt), rfl, _, _, rfl, _, _, rfl, _, _, rfl, rfl, rfl, ?_⟩
      refine ⟨⟨_, rfl⟩, _, rfl, _, rfl, _, rfl, lg, _, rfl, t, _, rfl, .inl (SqT.of (s _ _ htt)), by rw [List.append_nil]; show (r.2.2.map V.str).length + 1 + 1 + 1 ≤ sizeLine; rw [lz, sizeLine_eq]; omega, fun lp nlp => ?_⟩
      have sl := Same.new nlp (o := .lst (V.str "rule" :: V.str r.1 :: V.str (toString (r.2.1 : Int)) :: (r.2.2.map V.str ++ [])))
      refine ⟨" ", lp, ("rule" : Str) :: r.1 :: (Str.ofString (toString (r.2.1 : Int))) :: r.2.2, rfl, rfl, .inl (SqL.of (by rw [upd_same, List.append_nil]; rfl)), ?_, ?_⟩
      · have t1 : (Str.ofString (toString (r.2.1 : Int))).length ≤ 1921 := PyProof.Rows.int_text_len_1921 lg
        have t2 := az_len rok.head
        have t3 : (r.2.2.map (·.length)).sum ≤ 8 * r.2.2.length := sum_az rok.names
        simp only [List.map_cons, List.sum_cons, List.length_cons, show ("rule" : Str).length = 4 from rfl, show (" " : Str).length = 1 from rfl]
        omega
      · refine ⟨_, sl _ _ eE, by rw [List.length_map, List.length_map, List.length_take, sizeLine_eq]; omega, ?_, fun b o q => by rw [upd_ne (ne_of_none q nE)]; exact sl _ _ (s b o q)⟩
        rw [upd_same, List.take_add_one, hr', List.map_append, List.map_append]
        rfl
    rintro HB ⟨eE, sB⟩
    rw [lm, List.take_of_length_le (Nat.le_refl _)] at eE
    have kB := kA.trans (Kp.same sB)
    have hxB := sB _ _ hxA
    have ntB := ntA.same (Same.hm (d := x) sB)
    have ptB := ptA.same (Same.hm (d := x) sB)
    -- all lines
    have hooB := hooM.same (kB.hm.trans (le _))
    obtain ⟨dx3, tn3, ta3, tl3, ho3, _, _, hl3⟩ := hooB.ex
    have o8 := ok.ops.few
    have ga := az_len ok.goal
    refine ⟨_, rfl, oo, _, _, rfl, ho3, oo, l, rfl, hooB, fun tn4 hl4 => ?_⟩
    refine ⟨tn4, _, rfl, .inl (SqT.of hl4), _, rfl, by rw [sizeLine_eq]; exact Nat.le_of_ble_eq_true rfl, _, rfl, .inl ⟨g, rfl, by rw [sizeLine_eq]; omega, _, rfl, by rw [strLen_append, sizeLine_eq, show (Str.empty ++ ("goal " : Str)).length = 5 from rfl]; omega, ?_⟩⟩
    refine ⟨_, rfl, E2, _, rfl, .inr (SqL.of eE), ?_, fun la nla => ?_⟩
    · rw [sizeLine_eq]
      simp only [List.length_append, List.length_cons, List.length_nil, List.length_map]
      omega
    have hla : (upd HB la (.tup (l.map lnV ++ V.str (Str.empty ++ ("goal " : Str) ++ g) :: (((rs.map rlS).map V.str) ++ [])))) la = some (.tup ((bkLines l g rs).map V.str)) := by
      rw [upd_same]
      unfold bkLines goS
      have e : (l.map lnS).map V.str = l.map lnV := by rw [List.map_map]; rfl
      rw [List.map_append, e, List.map_cons, List.append_nil]
    have sC := Same.new nla (o := .tup (l.map lnV ++ V.str (Str.empty ++ ("goal " : Str) ++ g) :: (((rs.map rlS).map V.str) ++ [])))
    have lax : la ≠ x := fun c => by
      rw [c, hxB] at nla
      cases nla
    have kC := kB.trans (Kp.same sC)
    have hxC := sC _ _ hxB
    have ntC := ntB.same (Same.hm (d := x) sC)
    have ptC := ptB.same (Same.hm (d := x) sC)
    have hlC := Hm.of hla lax
    refine ⟨_, rfl, x, B, dx, _, rfl, hxC, bf.cls, bf.n6, Nat.le_of_ble_eq_true rfl, ?_⟩
    generalize upd HB la (.tup (l.map lnV ++ V.str (Str.empty ++ ("goal " : Str) ++ g) :: (((rs.map rlS).map V.str) ++ []))) = HC at kC hxC ntC ptC hlC ⊢
    have uD := (Kp.upd (H := HC) (d := x) (o := .ins B dx (putF "_lines" (.ref la) [("_operators", .ref oo), ("_goal", .str g), ("_rules", .ref ra), ("_nonterminals", .ref na), ("_parts", .ref pa)])))
    have kD := kC.trans uD
    have hxD : (upd HC x (.ins B dx (putF "_lines" (.ref la) [("_operators", .ref oo), ("_goal", .str g), ("_rules", .ref ra), ("_nonterminals", .ref na), ("_parts", .ref pa)]))) x = some (.ins B dx [("_operators", .ref oo), ("_goal", .str g), ("_rules", .ref ra), ("_nonterminals", .ref na), ("_parts", .ref pa), ("_lines", .ref la)]) := upd_same
    have ntD := ntC.same uD.hm
    have ptD := ptC.same uD.hm
    have hlD := uD.hm _ _ hlC
    generalize upd HC x (.ins B dx (putF "_lines" (.ref la) [("_operators", .ref oo), ("_goal", .str g), ("_rules", .ref ra), ("_nonterminals", .ref na), ("_parts", .ref pa)])) = HD at kD hxD ntD ptD hlD ⊢
    refine ⟨_, rfl, x, B, dx, _, rfl, hxD, bf.cls, bf.n7, Nat.le_of_ble_eq_true rfl, ?_⟩
    have uE := (Kp.upd (H := HD) (d := x) (o := .ins B dx (putF "_sides" .non [("_operators", .ref oo), ("_goal", .str g), ("_rules", .ref ra), ("_nonterminals", .ref na), ("_parts", .ref pa), ("_lines", .ref la)])))
    have kE := kD.trans uE
    have hxE : (upd HD x (.ins B dx (putF "_sides" .non [("_operators", .ref oo), ("_goal", .str g), ("_rules", .ref ra), ("_nonterminals", .ref na), ("_parts", .ref pa), ("_lines", .ref la)]))) x = some (.ins B dx [("_operators", .ref oo), ("_goal", .str g), ("_rules", .ref ra), ("_nonterminals", .ref na), ("_parts", .ref pa), ("_lines", .ref la), ("_sides", .non)]) := upd_same
    have ntE := ntD.same uE.hm
    have ptE := ptD.same uE.hm
    have hlE := uE.hm _ _ hlD
    generalize upd HD x (.ins B dx (putF "_sides" .non [("_operators", .ref oo), ("_goal", .str g), ("_rules", .ref ra), ("_nonterminals", .ref na), ("_parts", .ref pa), ("_lines", .ref la)])) = HE at kE hxE ntE ptE hlE ⊢
    refine fun kk nkk => ?_
    have sF := Same.new nkk (o := .dK [])
    refine ⟨_, rfl, x, B, dx, _, rfl, sF _ _ hxE, bf.cls, bf.n8, Nat.le_of_ble_eq_true rfl, ?_⟩
    have uF := (Kp.same (d := x) sF).trans (Kp.upd (H := upd HE kk (.dK [])) (d := x) (o := .ins B dx (putF "_kept" (.ref kk) [("_operators", .ref oo), ("_goal", .str g), ("_rules", .ref ra), ("_nonterminals", .ref na), ("_parts", .ref pa), ("_lines", .ref la), ("_sides", .non)])))
    have kF := kE.trans uF
    refine q _ kF ⟨dx, oo, ra, na, pa, la, kk, upd_same, hooM.same (kF.hm.trans (le _)), hraM.same (kF.hm.trans (le _)), ntE.same (uF.hm.trans (le _)), ptE.same (uF.hm.trans (le _)), le _ _ _ (uF.hm _ _ hlE)⟩ ⟨B, dx, _, upd_same, rfl⟩
end
end Pr
namespace Pr
open PySem PySem.Spec PyProof.Rows L2 Gd
/-! ### == and != of dicts with flat values -/
def hitB (ls : List (Key × V)) : List (Key × V) → Bool
  | [] => true
  | p :: r => match valV ls p.1 with
    | none => false
    | some u => eqV p.2 u && hitB ls r
def eqD (ks ls : List (Key × V)) : Bool := (ks.length == ls.length) && hitB ls ks
theorem hits_B {A : Around} {s : Shared} {ls : List (Key × V)} {vb : List (Key × Value)} (rb : KV ls vb) (fl : ∀ p ∈ ls, flatV p.2 = true) {ks : List (Key × V)} {va : List (Key × Value)} (ra : KV ks va) :
    (∀ p ∈ ks, flatV p.2 = true) → PySem.W.KeqHits A s vb va (hitB ls ks) := by
  unfold KV at ra
  induction ra with
  | nil => intro _; exact .nil
  | @cons p q ps qs h t ih =>
    intro hp
    obtain ⟨h1, h2⟩ := h
    have f := hp p List.mem_cons_self
    have rr : RelO (valV ls p.1) (valueAt vb p.1) := rb.val p.1
    obtain ⟨k, v⟩ := q
    have h1' : p.1 = k := h1
    have ih' := ih fun p' hm => hp p' (List.mem_cons_of_mem _ hm)
    cases e : valV ls p.1 with
    | none =>
      rw [e] at rr
      have hn : valueAt vb p.1 = none := RelO.none_of rr
      rw [h1'] at hn
      show PySem.W.KeqHits A s vb ((k, v) :: qs) (match valV ls p.1 with | none => false | some u => eqV p.2 u && hitB ls ps)
      rw [e]
      exact .miss hn
    | some u =>
      rw [e] at rr
      obtain ⟨y, hy, ry⟩ := rr.some_of
      rw [h1'] at hy
      show PySem.W.KeqHits A s vb ((k, v) :: qs) (match valV ls p.1 with | none => false | some u => eqV p.2 u && hitB ls ps)
      rw [e]
      have fu : flatV u = true := by
        have e2 : ((ls.find? fun kv => decide (kv.1 = p.1)).map (·.2)) = some u := e
        obtain ⟨kv, hk, ek⟩ := Option.map_eq_some_iff.mp e2
        rw [← ek]
        exact fl kv (List.mem_of_find?_eq_some hk)
      exact .hit hy (eqAt_V h2 ry f fu) ih'
def rEqDB (neg : Bool) : R2 := fun x y H Q => ∃ a b ks ls, x = .ref a ∧ y = .ref b ∧ H a = some (.dK ks) ∧ H b = some (.dK ls) ∧ (∀ p ∈ ks, flatV p.2 = true) ∧ (∀ p ∈ ls, flatV p.2 = true) ∧ Q (.bl (if neg = true then !eqD ks ls else eqD ks ls)) H
section
variable {X : Cx}
theorem op_eq_dictB (hu : X.A.units < cLine) : OpR X (compareOp .Eq) (rEqDB false) := by
  intro pins s σ H x y v u Q I rx ry h
  obtain ⟨a, b, ks, ls, rfl, rfl, ea, eb, fk, fl, q⟩ := h
  obtain rfl : v = Value.ref a := rx
  obtain rfl : u = Value.ref b := ry
  obtain ⟨_, ya, va, ra, da⟩ := (show ObjOk X.prog X.w H s.heap a (.dK ks) from I.hok a _ ea)
  obtain ⟨_, yb, vb, rb, db⟩ := (show ObjOk X.prog X.w H s.heap b (.dK ls) from I.hok b _ eb)
  have hl : va.length = ks.length := ra.length.symm
  have hl2 : vb.length = ls.length := rb.length.symm
  exact PySem.W.keq_eq (knd := mixKind X.prog X.w) (r := hitB ls ks) ya yb da db hu (fun _ => hits_B rb fl ra fk) (fin_bl I q (by rw [hl, hl2]; rfl))
theorem op_ne_dictB (hu : X.A.units < cLine) : OpR X (compareOp .NotEq) (rEqDB true) := by
  intro pins s σ H x y v u Q I rx ry h
  obtain ⟨a, b, ks, ls, rfl, rfl, ea, eb, fk, fl, q⟩ := h
  obtain rfl : v = Value.ref a := rx
  obtain rfl : u = Value.ref b := ry
  obtain ⟨_, ya, va, ra, da⟩ := (show ObjOk X.prog X.w H s.heap a (.dK ks) from I.hok a _ ea)
  obtain ⟨_, yb, vb, rb, db⟩ := (show ObjOk X.prog X.w H s.heap b (.dK ls) from I.hok b _ eb)
  have hl : va.length = ks.length := ra.length.symm
  have hl2 : vb.length = ls.length := rb.length.symm
  exact PySem.W.keq_ne (knd := mixKind X.prog X.w) (r := hitB ls ks) ya yb da db hu (fun _ => hits_B rb fl ra fk) (fin_bl I q (by rw [hl, hl2]; rfl))
end
end Pr
namespace Pr
open PySem PySem.Spec PyProof.Rows L2 Gd
/-! ### what a book tells -/
def spGet (B : Addr) (f : Str) : Sp := fun vs H Q _ => ∃ (o dx : Addr) (fs : List (Str × V)) (v : V), vs = [.ref o] ∧ H o = some (.ins B dx fs) ∧ fs.lookup f = some v ∧ Q v H
theorem in_strs (z : Str) : ∀ ys : List Str, inV (.str z) (ys.map V.str) = decide (z ∈ ys)
  | [] => rfl
  | y :: ys => by
    have ih := in_strs z ys
    rw [List.map_cons]
    unfold inV at ih ⊢
    rw [List.any_cons, ih]
    show ((y == z) || decide (z ∈ ys)) = decide (z ∈ y :: ys)
    by_cases c : z = y
    · rw [c]
      simp
    · have e : (y == z) = false := beq_eq_false_iff_ne.mpr fun h => c h.symm
      rw [e, Bool.false_or]
      by_cases d : z ∈ ys
      · rw [decide_eq_true d, decide_eq_true (List.mem_cons_of_mem _ d)]
      · rw [decide_eq_false d, decide_eq_false fun m => (List.mem_cons.mp m).elim c d]
theorem flat_strs9 (ys : List Str) : (ys.map V.str).all flatV = true := by
  rw [List.all_map]
  exact List.all_eq_true.mpr fun _ _ => rfl
theorem ix_tupK {X : Cx} {K : PySem.W.Frag} (h : X.K = K) : IxR X (rIxT K) := h ▸ ix_tup
def intN (n : Nat) : V := .int (n : Int)
/-- the places of the rules of z, below i -/
def idxU (rs : List Rl) (z : Str) (i : Nat) : List Nat := (List.range i).filter fun j => decide ((rs[j]?.map (·.1)) = some z)
theorem idx_step {rs : List Rl} {z : Str} {i : Nat} {r : Rl} (h : rs[i]? = some r) : idxU rs z (i + 1) = idxU rs z i ++ (if r.1 = z then [i] else []) := by
  unfold idxU
  rw [List.range_succ, List.filter_append]
  congr 1
  by_cases c : r.1 = z
  · rw [if_pos c, List.filter_cons_of_pos (by rw [h]; exact decide_eq_true (congrArg some c))]
    rfl
  · rw [if_neg c, List.filter_cons_of_neg (by rw [h]; simp; exact c)]
    rfl
theorem idx_few (rs : List Rl) (z : Str) (i : Nat) : (idxU rs z i).length ≤ i := by
  unfold idxU
  have := List.length_filter_le (fun j => decide ((rs[j]?.map (·.1)) = some z)) (List.range i)
  rw [List.length_range] at this
  exact this
section
variable {P : Program} {w : World} {K : PySem.W.Frag} {mg : Str → Option Value} {base : Heap} {C B : Addr}
theorem sc_bOps : FnScope ["self"] ["self"] (defScope bOps) := ⟨rfl, rfl, rfl, by decide +kernel, rfl, by decide +kernel, by decide +kernel⟩
theorem ok_bOps {f : Addr} {fd : FuncData} (F : Fun K "operators" "Book.operators" bOps f fd) (bf : BkF K B) : FnOk P w K mg base CX0 1 f fd ["self"] (spGet B "_operators") := by
  refine F.ok sc_bOps (fun vs H Q E h => ?_) (fun cdv A outer s H vs Q E hr h => ?_)
  · obtain ⟨o, dx, fs, v, rfl, _⟩ := h
    rfl
  · obtain ⟨o, dx, fs, v, rfl, ho, hf, q⟩ := h
    exact ⟨_, pss_one (ps_ret (pe_fld (pv 0) rfl)), _, rfl, o, B, dx, fs, v, rfl, ho, bf.cls, bf.n1, hf, q⟩
theorem sc_bGoal : FnScope ["self"] ["self"] (defScope bGoal) := ⟨rfl, rfl, rfl, by decide +kernel, rfl, by decide +kernel, by decide +kernel⟩
theorem ok_bGoal {f : Addr} {fd : FuncData} (F : Fun K "goal" "Book.goal" bGoal f fd) (bf : BkF K B) : FnOk P w K mg base CX0 1 f fd ["self"] (spGet B "_goal") := by
  refine F.ok sc_bGoal (fun vs H Q E h => ?_) (fun cdv A outer s H vs Q E hr h => ?_)
  · obtain ⟨o, dx, fs, v, rfl, _⟩ := h
    rfl
  · obtain ⟨o, dx, fs, v, rfl, ho, hf, q⟩ := h
    exact ⟨_, pss_one (ps_ret (pe_fld (pv 0) rfl)), _, rfl, o, B, dx, fs, v, rfl, ho, bf.cls, bf.n2, hf, q⟩
theorem sc_bRules : FnScope ["self"] ["self"] (defScope bRules) := ⟨rfl, rfl, rfl, by decide +kernel, rfl, by decide +kernel, by decide +kernel⟩
theorem ok_bRules {f : Addr} {fd : FuncData} (F : Fun K "rules" "Book.rules" bRules f fd) (bf : BkF K B) : FnOk P w K mg base CX0 1 f fd ["self"] (spGet B "_rules") := by
  refine F.ok sc_bRules (fun vs H Q E h => ?_) (fun cdv A outer s H vs Q E hr h => ?_)
  · obtain ⟨o, dx, fs, v, rfl, _⟩ := h
    rfl
  · obtain ⟨o, dx, fs, v, rfl, ho, hf, q⟩ := h
    exact ⟨_, pss_one (ps_ret (pe_fld (pv 0) rfl)), _, rfl, o, B, dx, fs, v, rfl, ho, bf.cls, bf.n3, hf, q⟩
theorem sc_bNonts : FnScope ["self"] ["self"] (defScope bNonts) := ⟨rfl, rfl, rfl, by decide +kernel, rfl, by decide +kernel, by decide +kernel⟩
theorem ok_bNonts {f : Addr} {fd : FuncData} (F : Fun K "nonterminals" "Book.nonterminals" bNonts f fd) (bf : BkF K B) : FnOk P w K mg base CX0 1 f fd ["self"] (spGet B "_nonterminals") := by
  refine F.ok sc_bNonts (fun vs H Q E h => ?_) (fun cdv A outer s H vs Q E hr h => ?_)
  · obtain ⟨o, dx, fs, v, rfl, _⟩ := h
    rfl
  · obtain ⟨o, dx, fs, v, rfl, ho, hf, q⟩ := h
    exact ⟨_, pss_one (ps_ret (pe_fld (pv 0) rfl)), _, rfl, o, B, dx, fs, v, rfl, ho, bf.cls, bf.n4, hf, q⟩
theorem sc_bLines : FnScope ["self"] ["self"] (defScope bLines) := ⟨rfl, rfl, rfl, by decide +kernel, rfl, by decide +kernel, by decide +kernel⟩
theorem ok_bLines {f : Addr} {fd : FuncData} (F : Fun K "lines" "Book.lines" bLines f fd) (bf : BkF K B) : FnOk P w K mg base CX0 1 f fd ["self"] (spGet B "_lines") := by
  refine F.ok sc_bLines (fun vs H Q E h => ?_) (fun cdv A outer s H vs Q E hr h => ?_)
  · obtain ⟨o, dx, fs, v, rfl, _⟩ := h
    rfl
  · obtain ⟨o, dx, fs, v, rfl, ho, hf, q⟩ := h
    exact ⟨_, pss_one (ps_ret (pe_fld (pv 0) rfl)), _, rfl, o, B, dx, fs, v, rfl, ho, bf.cls, bf.n6, hf, q⟩
/-- len(book) -/
def spBLen (K : PySem.W.Frag) (C B : Addr) : Sp := fun vs H Q _ => ∃ (o : Addr) (l : List (Str × Nat)) (g : Str) (rs : List Rl), vs = [.ref o] ∧ BookAt K H C B o l g rs ∧ Q (.int (rs.length : Int)) H
theorem sc_bLen : FnScope ["self"] ["self"] (defScope bLen) := ⟨rfl, rfl, rfl, by decide +kernel, rfl, by decide +kernel, by decide +kernel⟩
theorem ok_bLen {f : Addr} {fd : FuncData} (F : Fun K "__len__" "Book.__len__" bLen f fd) (T : Free mg) (bf : BkF K B) : FnOk P w K mg base CX0 1 f fd ["self"] (spBLen K C B) := by
  refine F.ok sc_bLen (fun vs H Q E h => ?_) (fun cdv A outer s H vs Q E hr h => ?_)
  · obtain ⟨o, l, g, rs, rfl, _⟩ := h
    rfl
  · obtain ⟨o, l, g, rs, rfl, bk, q⟩ := h
    refine ⟨_, pss_one (ps_ret (pe_callB call_len_seq (by rfl) T.len PySem.boot_len (pa_cons (pe_fld (pv 0) rfl) pa_nil))), ?_⟩
    obtain ⟨dx, oo, ra, na, pa, la, kk, ho, _, hra, _⟩ := bk.ex
    obtain ⟨as, h1, h2⟩ := hra.ex
    refine ⟨_, rfl, o, B, dx, _, _, rfl, ho, bf.cls, bf.n3, rfl, ra, _, rfl, .inr (SqT.of h1), ?_⟩
    have e : (as.map V.ref).length = rs.length := by rw [List.length_map]; exact Paired.length h2
    rw [e]
    exact q
/-- len(operators) -/
def spOLen (C : Addr) : Sp := fun vs H Q _ => ∃ (o : Addr) (l : List (Str × Nat)), vs = [.ref o] ∧ OpsAt H C o l ∧ Q (.int (l.length : Int)) H
theorem sc_oLen : FnScope ["self"] ["self"] (defScope mLen) := ⟨rfl, rfl, rfl, by decide +kernel, rfl, by decide +kernel, by decide +kernel⟩
theorem ok_oLen {f : Addr} {fd : FuncData} (F : Fun K "__len__" "Operators.__len__" mLen f fd) (T : Free mg) (cf : OpF K C) : FnOk P w K mg base CX0 1 f fd ["self"] (spOLen C) := by
  refine F.ok sc_oLen (fun vs H Q E h => ?_) (fun cdv A outer s H vs Q E hr h => ?_)
  · obtain ⟨o, l, rfl, _⟩ := h
    rfl
  · obtain ⟨o, l, rfl, op, q⟩ := h
    refine ⟨_, pss_one (ps_ret (pe_callB call_len_seq (by rfl) T.len PySem.boot_len (pa_cons (pe_fld (pv 0) rfl) pa_nil))), ?_⟩
    obtain ⟨dx, tn, ta, tl, ho, hn, ha, hl⟩ := op.ex
    refine ⟨_, rfl, o, C, dx, _, _, rfl, ho, cf.cls, cf.n1, rfl, tn, _, rfl, .inr (SqT.of hn), ?_⟩
    have e : (l.map fun p => V.str p.1).length = l.length := List.length_map _
    rw [e]
    exact q
/-- operators == operators -/
def spOEq (C : Addr) : Sp := fun vs H Q _ => ∃ (o o2 : Addr) (l l2 : List (Str × Nat)), vs = [.ref o, .ref o2] ∧ OpsAt H C o l ∧ OpsAt H C o2 l2 ∧ Q (.bl (eqD (dkv l) (dkv l2))) H
theorem flat_dkv {l : List (Str × Nat)} : ∀ p ∈ dkv l, flatV p.2 = true := fun p m => by
  obtain ⟨q, _, rfl⟩ := List.mem_map.mp m
  rfl
theorem sc_oEq : FnScope ["self", "other"] ["self", "other"] (defScope mEq) := ⟨rfl, rfl, rfl, by decide +kernel, rfl, by decide +kernel, by decide +kernel⟩
theorem ok_oEq {f : Addr} {fd : FuncData} (F : Fun K "__eq__" "Operators.__eq__" mEq f fd) (cf : OpF K C) (T : Free mg) (I : IsF K mg "Operators" C) : FnOk P w K mg base CX0 1 f fd ["self", "other"] (spOEq C) := by
  refine F.ok sc_oEq (fun vs H Q E h => ?_) (fun cdv A outer s H vs Q E hr h => ?_)
  · obtain ⟨o, o2, l, l2, rfl, _⟩ := h
    rfl
  · obtain ⟨o, o2, l, l2, rfl, op, op2, q⟩ := h
    refine ⟨_, pss_one (ps_ret (pe_and (pe_callB call_isi (by rfl) T.isi (by decide +kernel) (pa_cons (pv 1) (pa_cons (pe_glob (v := .ref C) (by rfl) I.g rfl) pa_nil))) (pe_one (pe_cmpR (op_eq_dictB hr.units0) (pe_fld (pv 0) rfl) (pe_fld (pv 1) rfl) (nomark _))))), ?_⟩
    obtain ⟨dx, tn, ta, tl, ho, hn, ha, hl⟩ := op.ex
    obtain ⟨dx2, tn2, ta2, tl2, ho2, hn2, ha2, hl2⟩ := op2.ex
    refine ⟨_, rfl, .ref o2, _, _, _, true, rfl, .own C, .base (.ins ho2 cf.cls I.cl I.sp I.tk I.ob), I.k1, _, rfl, iteT ?_⟩
    exact ⟨_, rfl, o, C, dx, _, _, rfl, ho, cf.cls, cf.n2, rfl, _, rfl, o2, C, dx2, _, _, rfl, ho2, cf.cls, cf.n2, rfl, ta, ta2, _, _, rfl, rfl, ha, ha2, flat_dkv, flat_dkv, q⟩
end
end Pr
namespace Pr
open PySem PySem.Spec PyProof.Rows L2 Gd
/-! ### Book(operators, goal, rules) where it is refused -/
/-- what is known of an own exception -/
structure ExF (K : PySem.W.Frag) (mg : Str → Option Value) (nm : Str) (CE : Addr) : Prop where
  x : PySem.W.excIn K CE [.type "ValueError", .type "Exception", .type "BaseException", .type "object"] "ValueError.__new__" = true
  g : mg nm = some (.ref CE)
  k : PySem.W.keepIn K (.ref CE) = true
  b : PySem.W.subIn K (.ref CE) (.type "BaseException") = some true
  t : PySem.W.typeIn K (.ref CE) = some (.type "type")
/-- a plain value is no instance of the class -/
def NoIns (K : PySem.W.Frag) (C : Addr) : Prop := ∀ ty ∈ (["NoneType", "bool", "int", "str", "list", "tuple", "dict"] : List String), PySem.W.kitOne K (.type ty) (.ref C) = some false
theorem NoIns.of {K : PySem.W.Frag} {C : Addr} (n : NoIns K C) {H : Hp} {v : V} {ty : String} (k : Kd H v ty) : PySem.W.kitOne K (.type ty) (.ref C) = some false := by
  cases k <;> exact n _ (by decide)
theorem RulesR.back {D : List Str} {H H' : Hp} {v : V} {rs : List Rl} (j : Jv D H 3 v) (s : Same H H') (h : RulesR H' v rs) : RulesR H v rs := by
  obtain ⟨a, rfl, hh⟩ := h
  obtain ⟨as, x, p⟩ := hh.ex
  obtain ⟨ty, k⟩ := j.kd
  have x' := k.back s x
  refine ⟨a, rfl, as, x', ?_⟩
  have it := (j.items x').2
  have key : ∀ {as : List Addr} {rs : List Rl}, Paired (fun b r => RuleAt H' b r) as rs → (∀ b ∈ as, Jv D H 2 (.ref b)) → Paired (fun b r => RuleAt H b r) as rs := by
    intro as rs p
    induction p with
    | nil => exact fun _ => .nil
    | @cons b r as rs h p ih =>
      intro k
      obtain ⟨b', e, h'⟩ := RuleAt.back (k b List.mem_cons_self) s ⟨b, rfl, h⟩
      cases e
      exact .cons h' (ih fun c m => k c (List.mem_cons_of_mem _ m))
  exact key p fun b m => it _ (List.mem_map.mpr ⟨b, m, rfl⟩)
theorem BookV.back {D : List Str} {H H' : Hp} {l : List (Str × Nat)} {gv rv : V} (jr : Jv D H 3 rv) (s : Same H H') (h : BookV H' l gv rv) : BookV H l gv rv :=
  let ⟨g, rs, e, r, ok⟩ := h; ⟨g, rs, e, r.back jr s, ok⟩
def spBIno (CO : Addr) : Sp := fun vs H _ E => ∃ (x : Addr) (ov gv rv : V) (ty : String), vs = [.ref x, ov, gv, rv] ∧ Kd H ov ty ∧ ∀ H', Same H H' → E (.ref CO) none H'
def spBIbad (C CB : Addr) : Sp := fun vs H _ E => ∃ (x oo : Addr) (gv rv : V) (D : List Str) (l : List (Str × Nat)), vs = [.ref x, .ref oo, gv, rv] ∧ OpsAt H C oo l ∧ OpsOk l ∧ D.length ≤ 60 ∧ Jv D H 1 gv ∧ Jv D H 3 rv ∧ ¬ BookV H l gv rv ∧ ∀ H', Same H H' → E (.ref CB) none H'
/-- a promise without errors is one with them -/
theorem fn_lift {P : Program} {w : World} {K : PySem.W.Frag} {mg : Str → Option Value} {base : Heap} {CX : CXT} {k : Nat} {f : Addr} {fd : FuncData} {ps : List Str} {sp : Sp} (F : FnOk P w K mg base CX0 k f fd ps sp) : FnOk P w K mg base CX k f fd ps sp where
  len := F.len
  run := fun A outer s H args us vs Q E hr env bind rel h => codeAny_mono (F.run A outer s H args us vs Q E hr env bind rel h) fun r s' q => by
    cases r with
    | error e => exact False.elim q
    | ok fl => cases fl <;> exact q
section
variable {P : Program} {w : World} {K : PySem.W.Frag} {mg : Str → Option Value} {base : Heap} {C B CO CB fB pA gA : Addr} {dB dA : FuncData}
theorem ok_binitno {f : Addr} {fd : FuncData} (F : Fun K "__init__" "Book.__init__" bInit f fd) (T : Free mg) (gO : mg "Operators" = some (.ref C)) (no : NoIns K C) (XO : ExF K mg "InvalidOperators" CO) : FnOk P w K mg base (L2.CX P w) 5 f fd ["self", "operators", "goal", "rules"] (spBIno CO) := by
  refine F.okX scBInit (fun vs H Q E h => ?_) (fun cdv A outer s H vs Q E hr h => ?_)
  · obtain ⟨x, ov, gv, rv, ty, rfl, _⟩ := h
    rfl
  · obtain ⟨x, ov, gv, rv, ty, rfl, kd, q⟩ := h
    refine ⟨_, pss_cons (ps_if (pt_not (pt_val (pe_callB call_isi (by rfl) T.isi (by decide +kernel) (pa_cons (pv 1) (pa_cons (pe_glob (v := .ref C) (by rfl) gO rfl) pa_nil))))) (pss_one (ps_raise rfl (takes_of rfl rfl rfl rfl) (pmk_own PySem.F.excBase_ValueError XO.x XO.g XO.k (raises_own XO.b XO.t) rfl))) pss_nil)
      (pss_cons ps_never (pss_cons ps_never (pss_cons ps_never (pss_cons ps_never (pss_cons ps_never (pss_cons ps_never (pss_cons ps_never (pss_cons ps_never (pss_cons ps_never (pss_cons ps_never (pss_one ps_never))))))))))), ?_⟩
    refine ⟨_, rfl, ov, _, _, _, false, rfl, .own C, kd.ty, no.of kd, _, rfl, if_true_of rfl (q H (Same.refl H))⟩
theorem ok_binitbad {f : Addr} {fd : FuncData} (F : Fun K "__init__" "Book.__init__" bInit f fd) (T : Free mg) (cf : OpF K C) (is : IsF K mg "Operators" C) (GB : FnOk P w K mg base CX0 4 fB dB ["goal", "rules", "arities"] spIsBookG) (bB : Binds K dB ["goal", "rules", "arities"] []) (gB : mg "is_book" = some (.ref fB)) (kB : PySem.W.keepIn K (.ref fB) = true)
    (prA : PropOf K C "arities" pA gA) (GA : FnOk P w K mg base CX0 1 gA dA ["self"] (spPA C)) (bA : Binds K dA ["self"] []) (XB : ExF K mg "InvalidBook" CB) : FnOk P w K mg base (L2.CX P w) 5 f fd ["self", "operators", "goal", "rules"] (spBIbad C CB) := by
  refine F.okX scBInit (fun vs H Q E h => ?_) (fun cdv A outer s H vs Q E hr h => ?_)
  · obtain ⟨x, oo, gv, rv, D, l, rfl, _⟩ := h
    rfl
  · obtain ⟨x, oo, gv, rv, D, l, rfl, hoo, ok, hD, jg, jr, nb, q⟩ := h
    have r2 : Room 2 _ := hr.mono (by decide)
    have r4 : Room 4 _ := hr.mono (by decide)
    refine ⟨_, pss_cons (ps_if (pt_not (pt_val (pe_callB call_isi (by rfl) T.isi (by decide +kernel) (pa_cons (pv 1) (pa_cons (pe_glob (v := .ref C) (by rfl) is.g rfl) pa_nil))))) (pss_one ps_never) pss_nil)
      (pss_cons (ps_set (i := 4) scBInit.nd rfl (.inl rfl) (pe_prop (pv 1) cf.cls prA GA r2 bA .nil pass0 rfl))
      (pss_cons (ps_if (pt_not (pt_val (pe_call GB r4 (by rfl) gB kB bB .nil pass0 (pa_cons (pv 2) (pa_cons (pv 3) (pa_cons (pv 4) pa_nil)))))) (pss_one (ps_raise rfl (takes_of rfl rfl rfl rfl) (pmk_own PySem.F.excBase_ValueError XB.x XB.g XB.k (raises_own XB.b XB.t) rfl))) pss_nil)
      (pss_cons ps_never (pss_cons ps_never (pss_cons ps_never (pss_cons ps_never (pss_cons ps_never (pss_cons ps_never (pss_cons ps_never (pss_cons ps_never (pss_one ps_never))))))))))), ?_⟩
    obtain ⟨dx2, tn, ta, tl, ho, _⟩ := hoo.ex
    refine ⟨_, rfl, .ref oo, _, _, _, true, rfl, .own C, .base (.ins ho cf.cls is.cl is.sp is.tk is.ob), is.k1, _, rfl, if_false_of rfl ?_⟩
    refine ⟨_, rfl, oo, _, _, rfl, ho, oo, l, rfl, hoo, fun d nd => ?_⟩
    have s1 := Same.new nd (o := .dK (dkv l))
    have hd1 : (upd H d (.dK (dkv l))) d = some (.dK (dkv l)) := upd_same
    generalize upd H d (.dK (dkv l)) = H1 at s1 hd1 ⊢
    refine ⟨_, rfl, _, rfl, _, rfl, gv, rv, D, d, l, rfl, hD, jg.same s1, jr.same s1, hd1, ok, fun b H2 s2 hb => ⟨_, rfl, ?_⟩⟩
    cases b with
    | true => exact absurd (BookV.back jr s1 (hb.mp rfl)) nb
    | false => exact if_true_of rfl (q H2 (s1.trans s2))
end
end Pr
namespace Pr
open PySem PySem.Spec PyProof.Rows L2 Gd
/-! ### lists beside lists: the same items, or another length -/
theorem eq_self {A : Around} {s : Shared} {H : Hp} {v : V} {t : String} {u u' : Value} (k : Kd H v t) (r : RelV v u) (r' : RelV v u') : SeqAt.EqAt A s u u' true := by
  cases k with
  | non => exact eqAt_same r r' rfl
  | bl b => exact eqAt_same r r' rfl
  | int i => exact eqAt_same r r' rfl
  | str z => exact eqAt_same r r' rfl
  | _ =>
    cases (show u = Value.ref _ from r)
    cases (show u' = Value.ref _ from r')
    exact SeqAt.EqAt.same _
theorem eq_items {A : Around} {s : Shared} {H : Hp} : ∀ {xs : List V} {us ws : List Value}, (∀ v ∈ xs, ∃ t, Kd H v t) → Vals xs us → Vals xs ws → ∀ j (h1 : j < us.length) (h2 : j < ws.length), SeqAt.EqAt A s us[j] ws[j] true
  | _, _, _, _, .nil, .nil, j, h1, _ => absurd h1 (Nat.not_lt_zero j)
  | _, _, _, k, .cons r _, .cons r' _, 0, _, _ => by
    obtain ⟨t, kt⟩ := k _ List.mem_cons_self
    exact eq_self kt r r'
  | _, _, _, k, .cons _ t, .cons _ t', j + 1, h1, h2 => eq_items (fun v m => k v (List.mem_cons_of_mem _ m)) t t' j (Nat.lt_of_succ_lt_succ h1) (Nat.lt_of_succ_lt_succ h2)
def rNeL (K : PySem.W.Frag) : R2 := fun x y H Q => ∃ a b xs ys, x = .ref a ∧ y = .ref b ∧ SqL K H a xs ∧ SqL K H b ys ∧ (xs.length ≠ ys.length ∧ Q (.bl true) H ∨ xs = ys ∧ (∀ v ∈ xs, ∃ t, Kd H v t) ∧ Q (.bl false) H)
def rEqL (K : PySem.W.Frag) : R2 := fun x y H Q => ∃ a b xs ys, x = .ref a ∧ y = .ref b ∧ SqL K H a xs ∧ SqL K H b ys ∧ (xs.length ≠ ys.length ∧ Q (.bl false) H ∨ xs = ys ∧ (∀ v ∈ xs, ∃ t, Kd H v t) ∧ Q (.bl true) H)
theorem op_neL {X : Cx} (hu : X.A.units + 64 < cLine) : OpR X (compareOp .NotEq) (rNeL X.K) := by
  intro pins s σ H x y v u Q I rx ry h
  obtain ⟨a, b, xs, ys, rfl, rfl, ha, hb, q⟩ := h
  cases (show v = Value.ref a from rx)
  cases (show u = Value.ref b from ry)
  obtain ⟨us, r1, p1, _⟩ := I.list ha
  obtain ⟨ws, r2, p2, _⟩ := I.list hb
  rcases q with ⟨ne, q⟩ | ⟨rfl, k, q⟩
  · have hsz : (us.toArray.size != ws.toArray.size) = true := by
      rw [List.size_toArray, List.size_toArray, ← r1.length, ← r2.length]
      exact bne_iff_ne.mpr ne
    exact SeqAt.RcNeAt.lists_lengths p1.isList p2.isList hsz (A := X.A) (s := s) (by omega) X.prog X.w _ _ ⟨.bl true, H, I, rfl, q⟩
  · have hsz : us.toArray.size = ws.toArray.size := by
      rw [List.size_toArray, List.size_toArray, ← r1.length, ← r2.length]
    have z := SeqAt.RcNeAt.lists (e := fun _ => true) p1.isList p2.isList hsz (A := X.A) (s := s) (by omega) (fun j h1 h2 => by
      have e := eq_items (A := X.A.in1) (s := s) k r1 r2 j (by simpa using h1) (by simpa using h2)
      simpa using e)
    rw [show ((List.range us.toArray.size).all fun _ => true) = true from List.all_eq_true.mpr fun _ _ => rfl] at z
    exact z X.prog X.w _ _ ⟨.bl false, H, I, rfl, q⟩
theorem op_eqL {X : Cx} (hu : X.A.units + 64 < cLine) : OpR X (compareOp .Eq) (rEqL X.K) := by
  intro pins s σ H x y v u Q I rx ry h
  obtain ⟨a, b, xs, ys, rfl, rfl, ha, hb, q⟩ := h
  cases (show v = Value.ref a from rx)
  cases (show u = Value.ref b from ry)
  obtain ⟨us, r1, p1, _⟩ := I.list ha
  obtain ⟨ws, r2, p2, _⟩ := I.list hb
  rcases q with ⟨ne, q⟩ | ⟨rfl, k, q⟩
  · have hsz : (us.toArray.size != ws.toArray.size) = true := by
      rw [List.size_toArray, List.size_toArray, ← r1.length, ← r2.length]
      exact bne_iff_ne.mpr ne
    exact SeqAt.RcAt.lists_lengths p1.isList p2.isList hsz (A := X.A) (s := s) (by omega) X.prog X.w _ _ ⟨.bl false, H, I, rfl, q⟩
  · have hsz : us.toArray.size = ws.toArray.size := by
      rw [List.size_toArray, List.size_toArray, ← r1.length, ← r2.length]
    have z := SeqAt.RcAt.lists (e := fun _ => true) p1.isList p2.isList hsz (A := X.A) (s := s) (by omega) (fun j h1 h2 => by
      have e := eq_items (A := X.A.in1) (s := s) k r1 r2 j (by simpa using h1) (by simpa using h2)
      simpa using e)
    rw [show ((List.range us.toArray.size).all fun _ => true) = true from List.all_eq_true.mpr fun _ _ => rfl] at z
    exact z X.prog X.w _ _ ⟨.bl true, H, I, rfl, q⟩
/-! ### comprehensions that choose -/
section
variable {K : PySem.W.Frag} {a D : Addr} {xs : List V} {tt : TT} {i : Nat} {σ : L2.St} {H1 : Hp} {Qd : Hp → Prop}
theorem filt_step (p : V → Bool) {k : Nat} {x : V} (h : xs[k]? = some x) : (xs.take (k + 1)).filter p = (xs.take k).filter p ++ (if p x then [x] else []) := by
  rw [List.take_add_one, h, List.filter_append]
  cases e : p x <;> simp [e]
theorem filt_len (p : V → Bool) {k : Nat} : ((xs.take k).filter p).length ≤ xs.length := by
  refine Nat.le_trans (List.length_filter_le _ _) ?_
  rw [List.length_take]
  exact Nat.min_le_right _ _
theorem filt_turn (p : V → Bool) (hi : i < σ.length) (nD : H1 D = none) (few : xs.length < sizeLine) (hs : ∀ x ∈ xs, ∀ G, Same H1 G → ∀ R : Bool → Hp → Prop, R (p x) G → tt ((σ.set i none).set i (some x)) G R) :
    ∀ k x G, xs[k]? = some x → (G D = some (.lst ((xs.take k).filter p)) ∧ Same H1 G) → gName i x (wipe σ [i]) G fun σ2 H2 => wipe σ2 [i] = wipe σ [i] ∧ tt σ2 H2 fun b H3 =>
      if b = true then tVar i σ2 H3 fun y H4 => ∃ acc, H4 D = some (.lst acc) ∧ acc.length < sizeLine ∧ ((upd H4 D (.lst (acc ++ [y]))) D = some (.lst ((xs.take (k + 1)).filter p)) ∧ Same H1 (upd H4 D (.lst (acc ++ [y])))) else (H3 D = some (.lst ((xs.take (k + 1)).filter p)) ∧ Same H1 H3) := by
  intro k x G hx h
  obtain ⟨eD, s⟩ := h
  refine ⟨?_, ?_⟩
  · show (((σ.set i none).set i (some x)).set i none) = σ.set i none
    rw [List.set_set, List.set_set]
  · refine hs x (List.mem_of_getElem? hx) G s _ ?_
    have e := filt_step (xs := xs) p hx
    by_cases c : p x = true
    · rw [if_pos c] at e ⊢
      refine ⟨x, ?_, _, eD, Nat.lt_of_le_of_lt (filt_len p) few, ?_, ?_⟩
      · show ((σ.set i none).set i (some x))[i]? = some (some x)
        rw [List.getElem?_set_self (by rw [List.length_set]; exact hi)]
      · rw [upd_same, e]
      · exact fun b u q => by
          rw [upd_ne (ne_of_none q nD)]
          exact s b u q
    · rw [if_neg c] at e ⊢
      rw [e, List.append_nil]
      exact ⟨eD, s⟩
theorem lc_filtT (p : V → Bool) (hi : i < σ.length) (ht : ∀ G, Same H1 G → SqT K G a xs) (nD : H1 D = none) (few : xs.length < sizeLine)
    (hs : ∀ x ∈ xs, ∀ G, Same H1 G → ∀ R : Bool → Hp → Prop, R (p x) G → tt ((σ.set i none).set i (some x)) G R) (hd : ∀ G, G D = some (.lst (xs.filter p)) → Same H1 G → Qd G) :
    ∃ W : Nat → Nat → Hp → Prop, (∃ m, W 0 m (upd H1 D (.lst []))) ∧ ∀ k m H, W k m H →
      ((Itt K a).stop k H ∧ Qd H) ∨ ((Itt K a).go k H ∧ ∃ Nx : Hp → Prop, (∀ H', Nx H' → ∃ m', m' < m ∧ W (k + 1) m' H') ∧ ∀ x H', (Itt K a).yld k H x H' → gName i x (wipe σ [i]) H' fun σ2 H2 => wipe σ2 [i] = wipe σ [i] ∧ tt σ2 H2 fun b H3 =>
        if b = true then tVar i σ2 H3 fun y H4 => ∃ acc, H4 D = some (.lst acc) ∧ acc.length < sizeLine ∧ Nx (upd H4 D (.lst (acc ++ [y]))) else Nx H3) := by
  refine lc_tup (K := K) (a := a) (xs := xs) (fun k G => G D = some (.lst ((xs.take k).filter p)) ∧ Same H1 G) ⟨upd_same, Same.new nD⟩ (fun k G _ ⟨_, s⟩ => ht G s) (filt_turn p hi nD few hs) ?_
  rintro G ⟨eD, s⟩
  rw [List.take_length] at eD
  exact hd G eD s
theorem lc_filtL (p : V → Bool) (hi : i < σ.length) (ht : ∀ G, Same H1 G → SqL K G a xs) (nD : H1 D = none) (few : xs.length < sizeLine)
    (hs : ∀ x ∈ xs, ∀ G, Same H1 G → ∀ R : Bool → Hp → Prop, R (p x) G → tt ((σ.set i none).set i (some x)) G R) (hd : ∀ G, G D = some (.lst (xs.filter p)) → Same H1 G → Qd G) :
    ∃ W : Nat → Nat → Hp → Prop, (∃ m, W 0 m (upd H1 D (.lst []))) ∧ ∀ k m H, W k m H →
      ((Itl K a).stop k H ∧ Qd H) ∨ ((Itl K a).go k H ∧ ∃ Nx : Hp → Prop, (∀ H', Nx H' → ∃ m', m' < m ∧ W (k + 1) m' H') ∧ ∀ x H', (Itl K a).yld k H x H' → gName i x (wipe σ [i]) H' fun σ2 H2 => wipe σ2 [i] = wipe σ [i] ∧ tt σ2 H2 fun b H3 =>
        if b = true then tVar i σ2 H3 fun y H4 => ∃ acc, H4 D = some (.lst acc) ∧ acc.length < sizeLine ∧ Nx (upd H4 D (.lst (acc ++ [y]))) else Nx H3) := by
  refine lc_list (K := K) (a := a) (xs := xs) (fun k G => G D = some (.lst ((xs.take k).filter p)) ∧ Same H1 G) ⟨upd_same, Same.new nD⟩ (fun k G _ ⟨_, s⟩ => ht G s) (filt_turn p hi nD few hs) ?_
  rintro G ⟨eD, s⟩
  rw [List.take_length] at eD
  exact hd G eD s
end
end Pr
namespace Pr
open PySem PySem.Spec PyProof.Rows L2 Gd
theorem take_all {l : List Nat} {p : Nat → Bool} {i c : Nat} (h : l[i]? = some c) : (l.take (i + 1)).all p = ((l.take i).all p && p c) := by
  rw [List.take_add_one, h, List.all_append]
  simp
/-- the signs that are no small letters -/
def offs (l : List Nat) : List V := (l.filter fun c => !azC c).map fun c => .str ⟨#[c]⟩
theorem offs_len (l : List Nat) : (offs l).length ≤ l.length := by
  unfold offs
  rw [List.length_map]
  exact List.length_filter_le _ _
theorem offs_more {l : List Nat} {i c : Nat} (h : l[i]? = some c) : offs (l.take (i + 1)) = offs (l.take i) ++ (if azC c then [] else [.str ⟨#[c]⟩]) := by
  unfold offs
  rw [List.take_add_one, h, List.filter_append, List.map_append]
  cases e : azC c <;> simp [e]
theorem offs_empty (l : List Nat) : l.all azC = (offs l).isEmpty := by
  unfold offs
  induction l with
  | nil => rfl
  | cons c r ih =>
    cases e : azC c
    · simp [e]
    · simp only [List.all_cons, e, Bool.true_and, ih]
      simp [e]
/-! ### list('..') -/
def signsV (z : Str) : List V := z.cps.toList.map fun c => .str ⟨#[c]⟩
theorem vals_at : ∀ {xs : List V} {us : List Value}, xs.length = us.length → (∀ (i : Nat) (x : V) (u : Value), xs[i]? = some x → us[i]? = some u → RelV x u) → Vals xs us
  | [], [], _, _ => .nil
  | [], _ :: _, h, _ => by simp at h
  | _ :: _, [], h, _ => by simp at h
  | x :: xs, u :: us, h, k => .cons (k 0 x u rfl rfl) (vals_at (by simpa using h) fun i y v a b => k (i + 1) y v (by simpa using a) (by simpa using b))
theorem call_list_text {X : Cx} (hc : X.calm = true) : CallR X (.type "list") (fun vs H Q => ∃ z, vs = [.str z] ∧ z.length ≤ 1000 ∧ ∀ l, H l = none → Q (.ref l) (upd H l (.lst (signsV z)))) := by
  intro pins s σ H vs us Q I r h
  obtain ⟨z, rfl, hz, q⟩ := h
  obtain ⟨u, rfl, t, rfl⟩ := vals1 r
  have hz2 : z.cps.size ≤ 1000 := hz
  refine call_list_str (I.ok.hd hc) z t (fun h' tk acc c keep at_ items => ?_) (by rw [sizeLine_eq]; omega)
  have hf : H s.heap.objs.size = none := I.hok.fresh (Nat.le_refl _)
  refine ⟨.ref s.heap.objs.size, upd H s.heap.objs.size (.lst (signsV z)), I.laid keep (Nat.le_refl _) ?_, rfl, q _ hf⟩
  refine ⟨by rw [sizeLine_eq]; simp [signsV]; omega, acc.toList, c, vals_at (by simp [signsV, items.1]) fun i x u a b => ?_, by simpa using at_⟩
  obtain ⟨k, u', hk, rfl⟩ := items.2 i u (by simpa using b)
  have e : (signsV z)[i]? = some (.str ⟨#[k]⟩) := by
    unfold signsV
    rw [List.getElem?_map, Array.getElem?_toList, hk]
    rfl
  rw [e] at a
  cases a
  exact ⟨u', rfl⟩
end Pr
namespace Pr
open PySem PySem.Spec PyProof.Rows L2 Gd
/-! ### _law_is_word, _law_is_figure, _law_pattern_end -/
theorem op_notIn_seqK {X : Cx} {K : PySem.W.Frag} (h : X.K = K) : OpR X (compareOp .NotIn) (rIn K true) := h ▸ op_notIn_seq
def spLWord : Sp := fun vs H Q _ => ∃ (v : V) (t : String), vs = [v] ∧ Kd H v t ∧ (∀ z, v = .str z → z.length ≤ 1000000) ∧ ∀ H', Same H H' → Q (.bl (nameB v)) H'
def abc : Str := "abcdefghijklmnopqrstuvwxyz"
theorem abc_in (c : Nat) : inV (.str ⟨#[c]⟩) (signsV abc) = azC c := by
  have e : inV (.str ⟨#[c]⟩) (signsV abc) = (abc.cps.toList.contains c) := by
    unfold inV signsV
    rw [List.any_map, List.contains_eq_any_beq]
    congr 1
    funext d
    show ((⟨#[d]⟩ : Str) == ⟨#[c]⟩) = (c == d)
    by_cases k : c = d
    · rw [k]; simp
    · rw [beq_eq_false_iff_ne.mpr k]
      refine beq_eq_false_iff_ne.mpr fun h => k ?_
      injection h with h
      injection h with h
      injection h with h
      exact h.symm
  rw [e, show abc.cps.toList = (List.range 26).map (97 + ·) by decide +kernel]
  unfold azC
  by_cases h1 : 97 ≤ c ∧ c ≤ 122
  · rw [decide_eq_true h1.1, decide_eq_true h1.2, Bool.and_true, List.contains_iff_mem]
    exact List.mem_map.mpr ⟨c - 97, List.mem_range.mpr (by omega), by omega⟩
  · have e2 : (decide (97 ≤ c) && decide (c ≤ 122)) = false := by
      rw [Bool.and_eq_false_iff, decide_eq_false_iff_not, decide_eq_false_iff_not]
      omega
    rw [e2, Bool.eq_false_iff]
    intro h
    obtain ⟨k, mk, ek⟩ := List.mem_map.mp (List.contains_iff_mem.mp h)
    have := List.mem_range.mp mk
    omega
section
variable {P : Program} {w : World} {K : PySem.W.Frag} {mg : Str → Option Value} {base : Heap}
theorem scLWord : FnScope ["value", "letter"] ["value"] (defScope sLIsWord) := ⟨rfl, rfl, rfl, by decide +kernel, rfl, by decide +kernel, by decide +kernel⟩
theorem ok_lword {f : Addr} {fd : FuncData} (F : Fun K "_law_is_word" "_law_is_word" sLIsWord f fd) (T : Free mg) : FnOk P w K mg base CX0 1 f fd ["value"] spLWord := by
  refine F.ok scLWord (fun vs H Q E h => ?_) (fun cdv A outer s H vs Q E hr h => ?_)
  · obtain ⟨v, t, rfl, _⟩ := h
    rfl
  · obtain ⟨v, t, rfl, kd, hz, q⟩ := h
    have hu := hr.units
    have hu1 : ∀ {u : Nat}, u + 64 < cLine → u + 1 < cLine := fun h => by omega
    refine ⟨_, (pss_cons (ps_if (PW.pt (pw_or (pt_not (pt_val (pe_callB call_isi (by rfl) T.isi (by decide +kernel) (pa_cons (pv 0) (pa_cons (pe_bltn (v := .ty "str") (by rfl) T.str (by decide +kernel) rfl) pa_nil))))) (pw_or1 (pt_not (pt_chain op_lt op_lt pe_int (pe_callB call_len_str (by rfl) T.len PySem.boot_len (pa_cons (pv 0) pa_nil)) pe_int))))) (pss_one (ps_ret pe_bl)) pss_nil) (pss_one (ps_ret (pe_cmpR (op_eqE hu) (pe_lc (own := [("letter", 1)]) (g := gName 1) (by rfl) scLWord.nd (pi_str (pv 0)) (blkOk_by (own := [("letter", 1)]) (N := ["value", "letter"]) (sc := defScope sLIsWord) (by decide +kernel)) (fun _ _ _ _ _ => pg_name (i := 1) scLWord.nd rfl (.inl rfl)) (fun _ _ _ _ _ => pts_one (pt_cmpR (op_notIn_seqK (K := K) rfl) (pv 1) (pe_callTy (call_list_text rfl) (by rfl) T.list (by decide +kernel) (pa_cons pe_str pa_nil)) (by with_unfolding_all rfl))) (fun _ _ _ _ _ => pv 1)) (pe_lst pa_nil) (nomark _))))), ?_⟩
    refine ⟨_, rfl, v, _, _, _, _, rfl, .ty "str", kd.ty, kit_str kd, _, rfl, ?_⟩
    cases kd with
    | str z =>
      have l := hz z rfl
      refine if_false_of rfl ⟨_, rfl, z, rfl, by rw [sizeLine_eq]; omega, _, _, rfl, rfl, _, rfl, ite2 (fun c1 => ?_) (fun c1 => ?_)⟩
      · have l1 : 1 ≤ z.length := by
          have := of_decide_eq_true c1
          omega
        refine ⟨_, _, rfl, rfl, _, rfl, ite2 (fun c2 => ?_) (fun c2 => ?_)⟩
        · have l8 : ¬ z.length ≤ 8 := fun h => by
            rw [decide_eq_true (show (z.length : Int) < 9 by omega)] at c2
            cases c2
          have e : nameB (.str z) = false := by
            show (_ && _ && _) = false
            rw [decide_eq_false l8, Bool.and_false, Bool.false_and]
          rw [e] at q
          exact q _ (Same.refl _)
        · have l8 : z.length ≤ 8 := by
            rcases Nat.lt_or_ge 8 z.length with h | h
            · exact absurd (by rw [decide_eq_false (show ¬ (z.length : Int) < 9 by omega)]; rfl) c2
            · exact h
          -- the signs that are none
          refine ⟨_, rfl, z, rfl, fun D nD => lc_signs (x := z) (fun i H' => H' D = some (.lst (offs (z.cps.toList.take i))) ∧ Same H H') ⟨upd_same, Same.new nD⟩ ?_ ?_⟩
          · rintro i c H' hc ⟨e, s'⟩
            have hc' : z.cps.toList[i]? = some c := by simpa using hc
            have il : i < z.length := (Array.getElem?_eq_some_iff.mp hc).1
            have az := abc_in c
            refine ⟨rfl, _, rfl, _, rfl, by decide, fun p np => ⟨p, _, rfl, .inl (SqL.of upd_same), rfl, ?_, _, rfl, ?_⟩⟩
            · unfold signsV
              rw [List.all_map]
              exact List.all_eq_true.mpr fun _ _ => rfl
            have sp := Same.new np (o := .lst (signsV abc))
            have e1 := sp _ _ e
            have s1 := s'.trans sp
            show (if (if true = true then !inV (.str ⟨#[c]⟩) (signsV abc) else inV (.str ⟨#[c]⟩) (signsV abc)) = true then _ else _)
            rw [if_pos rfl, az]
            cases ea : azC c with
            | true =>
              refine if_false_of rfl ⟨?_, s1⟩
              rw [offs_more hc', ea]
              rw [if_pos rfl, List.append_nil]
              exact e1
            | false =>
              refine if_true_of rfl ⟨_, rfl, _, e1, Nat.lt_of_le_of_lt (offs_len _) (small1000 (by rw [List.length_take]; omega)), ?_, fun b u h => ?_⟩
              · rw [upd_same, offs_more hc', ea]
                rfl
              · rw [upd_ne (ne_of_none h nD)]
                exact s1 b u h
          · rintro H' ⟨e, s'⟩
            have et : z.cps.toList.take z.cps.size = z.cps.toList := List.take_of_length_le (by simp)
            rw [et] at e
            refine ⟨by decide, fun p np => ⟨D, p, _, rfl, rfl, SqL.of ((Same.new np) _ _ e), SqL.of upd_same, ?_⟩⟩
            have e2 : nameB (.str z) = (offs z.cps.toList).isEmpty := by
              show (_ && _ && _) = _
              rw [decide_eq_true l1, decide_eq_true l8, Bool.true_and, Bool.true_and, offs_empty]
            rw [← e2]
            exact q _ (s'.trans (Same.new np))
      · have e : nameB (.str z) = false := by
          show (_ && _ && _) = false
          rw [decide_eq_false (show ¬ 1 ≤ z.length from fun h => c1 (decide_eq_true (by omega))), Bool.false_and, Bool.false_and]
        rw [e] at q
        exact ⟨_, rfl, iteT (q _ (Same.refl _))⟩
    | _ => exact if_true_of rfl (q _ (Same.refl _))
/-- a figure from 0 to top -/
def figB (v : V) (top : Int) : Bool := match v with
  | .int i => decide (0 ≤ i) && decide (i ≤ top)
  | _ => false
def spFig : Sp := fun vs H Q _ => ∃ (v : V) (t : String) (n : Int), vs = [v, .int n] ∧ Kd H v t ∧ Q (.bl (figB v n)) H
theorem scFig : FnScope ["value", "top"] ["value", "top"] (defScope sLIsFigure) := ⟨rfl, rfl, rfl, by decide +kernel, rfl, by decide +kernel, by decide +kernel⟩
theorem ok_fig {f : Addr} {fd : FuncData} (F : Fun K "_law_is_figure" "_law_is_figure" sLIsFigure f fd) (T : Free mg) : FnOk P w K mg base CX0 1 f fd ["value", "top"] spFig := by
  refine F.ok scFig (fun vs H Q E h => ?_) (fun cdv A outer s H vs Q E hr h => ?_)
  · obtain ⟨v, t, n, rfl, _⟩ := h
    rfl
  · obtain ⟨v, t, n, rfl, kd, q⟩ := h
    have hu := hr.units
    refine ⟨_, (pss_one (ps_ret (pe_and (pe_callB call_isi (by rfl) T.isi (by decide +kernel) (pa_cons (pv 0) (pa_cons (pe_bltn (v := .ty "int") (by rfl) T.int (by decide +kernel) rfl) pa_nil))) (pe_and (pe_not (pe_callB call_isi (by rfl) T.isi (by decide +kernel) (pa_cons (pv 0) (pa_cons (pe_bltn (v := .ty "bool") (by rfl) T.bool (by decide +kernel) rfl) pa_nil)))) (pe_one (pe_chain op_le op_le pe_int (pv 0) (pv 1))))))), ?_⟩
    refine ⟨_, rfl, v, _, _, _, _, rfl, .ty "int", kd.ty, kit_int kd, _, rfl, ?_⟩
    cases kd with
    | int i =>
      refine iteT ⟨_, rfl, _, _, _, _, _, rfl, .ty "bool", (Kd.int i).ty, kit_bool (Kd.int (H := H) i), _, rfl, _, rfl, iteT ?_⟩
      refine ⟨_, rfl, 0, i, rfl, rfl, _, rfl, ?_⟩
      by_cases c : (0 : Int) ≤ i
      · refine if_true_of (decide_eq_true c) ⟨_, rfl, i, n, rfl, rfl, ?_⟩
        have e : figB (.int i) n = decide (i ≤ n) := by
          show (decide (0 ≤ i) && decide (i ≤ n)) = _
          rw [decide_eq_true c, Bool.true_and]
        rw [e] at q
        exact q
      · refine if_false_of (decide_eq_false c) ?_
        have e : figB (.int i) n = false := by
          show (decide (0 ≤ i) && decide (i ≤ n)) = _
          rw [decide_eq_false c, Bool.false_and]
        rw [e] at q
        exact q
    | bl b => exact iteT ⟨_, rfl, _, _, _, _, _, rfl, .ty "bool", (Kd.bl b).ty, kit_bool (Kd.bl (H := H) b), _, rfl, _, rfl, iteF q⟩
    | _ => exact iteF q
end
end Pr
namespace Pr
open PySem PySem.Spec PyProof.Rows L2 Gd
/-- a new object, made in a try -/
def tMakeS (C : Addr) (sp : Sp) (E : L2.St → XK) (t : TA) : TE := fun σ H Q => t σ H fun vs H1 => ∀ x dx, H1 x = none → H1 dx = none → dx ≠ x → sp (.ref x :: (vs ++ [])) (upd (upd H1 dx (.own x)) x (.ins C dx [])) (fun v H2 => v = .non ∧ Q (.ref x) H2) (E σ)
section
variable {X : Cx} {CX : CXT} {k : Nat} {C f : Addr} {fd : FuncData} {ps : List Str} {sp : Sp} {x : Str} {p pos : Pos} {e : Expr} {es : List Expr} {t : TA}
theorem run_makeS {pins : List (Addr × Obj)} {σ : L2.St} {H : Hp} {s : Shared} {Q : VK} {E : XK} {us ds : List Value} {vs dvs : List V} (M : Mk X.K C f) (F : FnOk X.prog X.w X.K X.mg X.base CX k f fd ps sp) (hr : Room (k + 1) X.A) (hb : Binds X.K fd ps ds) (hd : Vals dvs ds)
    (hx : PassesAt CX X σ E) (I : Inv X pins σ H s) (r : Vals vs us)
    (h : ∀ x dx, H x = none → H dx = none → dx ≠ x → sp (.ref x :: (vs ++ dvs)) (upd (upd H dx (.own x)) x (.ins C dx [])) (fun v H2 => v = .non ∧ Q (.ref x) H2) E) : wpAny (model X.prog X.w) X.A (call (.ref C) us) (EP X pins σ Q) X.xe s := by
  have hq := h (s.heap.objs.size + 1) s.heap.objs.size (I.hok.fresh (Nat.le_succ _)) (I.hok.fresh (Nat.le_refl _)) (Nat.ne_of_lt (Nat.lt_succ_self _))
  have I2 := Inv.made (C := C) I
  have r2 : Vals (V.ref (s.heap.objs.size + 1) :: (vs ++ dvs)) (Value.ref (s.heap.objs.size + 1) :: (us ++ ds)) := .cons rfl (r.append hd)
  have hl : (Value.ref (s.heap.objs.size + 1) :: us ++ ds).length = ps.length := by
    have e := r2.length
    rw [F.len _ _ _ _ hq] at e
    exact e.symm
  refine wpAny_call (make_map (f := f) I.kIn M.makes M.init (beq_iff_eq.mp M.fn) (codeAny_mono (F.run _ X.stack _ _ ⟨Value.ref (s.heap.objs.size + 1) :: us, []⟩ (Value.ref (s.heap.objs.size + 1) :: (us ++ ds)) _ _ E (hr.make C us [])
    (I2.env0.make C us []) (hb _ (Value.ref (s.heap.objs.size + 1) :: us) I2.kIn hl) r2 hq) fun r s' hq' => ?_))
  cases r with
  | error e => exact hx pins _ _ e s' I2 hq'
  | ok fl =>
    cases fl with
    | ret u =>
      obtain ⟨v, H', I3, rv, ev, q3⟩ := I2.after hq'
      subst ev
      exact ⟨rv, ⟨V.ref (s.heap.objs.size + 1), H', I3, rfl, q3⟩⟩
    | next => exact False.elim hq'
    | brk => exact False.elim hq'
    | cont => exact False.elim hq'
theorem pe_makeS {E : L2.St → XK} (M : Mk X.K C f) (F : FnOk X.prog X.w X.K X.mg X.base CX k f fd ps sp) (hr : Room (k + 1) X.A) (hg : Gl X x) (hm : X.mg x = some (.ref C)) (hb : Binds X.K fd ps []) (hx : ∀ σ, PassesAt CX X σ (E σ))
    (ha : PA X (e :: es) t) (hdb : (x == ("__debug__" : Str)) = false := by decide) (he : starEach (e :: es) X.env = (false, eval e X.env) :: starEach es X.env := by rfl) (hpl : (backTo pos (starEach es X.env)).any (·.1) = false := by rfl) :
    PE X (.Call (.Name x p) (e :: es) [] pos) (tMakeS C sp E t) := by
  refine ⟨fun pins s σ H Q I h => ?_⟩
  refine wpAny_Call_Name_kw (ld_glob I hg hm ?_ hdb)
  refine PySem.W.callWith_K (h₀ := X.base) I.ok.mod.kin M.kp (thn (ha.run pos pins s σ H _ I h) fun us s1 ⟨vs, H1, I1, r, q⟩ => ⟨I1.kIn, ?_⟩) he hpl
  exact run_makeS M F hr hb .nil (hx σ) I1 r q
end
end Pr
namespace Pr
open PySem PySem.Spec PyProof.Rows L2 Gd
/-! ### _law_pattern_end, _law_is_rule -/
def spLPE : Sp := fun vs H Q _ => ∃ (d t : Addr) (l : List (Str × Nat)) (ws : List Str), vs = [.ref d, .ref t] ∧ H d = some (.dK (dkv l)) ∧ H t = some (.tup (ws.map V.str)) ∧ ∀ i : Int, (i = 0 ↔ Wh (ar l) 1 ws) → Q (.int i) H
def spLRuleG : Sp := fun vs H Q _ => ∃ (v : V) (D : List Str) (d : Addr) (l : List (Str × Nat)), vs = [.ref d, v] ∧ Jv D H 2 v ∧ H d = some (.dK (dkv l)) ∧ OpsOk l ∧ ∀ b H', Same H H' → (b = true ↔ RuleV H l v) → Q (.bl b) H'
/-- the words of a value that are none -/
def noNames (xs : List V) : List V := xs.filter fun x => !nameB x
theorem noNames_step {xs : List V} {i : Nat} {x : V} (h : xs[i]? = some x) : noNames (xs.take (i + 1)) = noNames (xs.take i) ++ (if nameB x then [] else [x]) := by
  unfold noNames
  rw [List.take_add_one, h, List.filter_append]
  cases e : nameB x <;> simp [e]
theorem noNames_nil {xs : List V} : noNames xs = [] ↔ ∀ x ∈ xs, nameB x = true := by
  unfold noNames
  rw [List.filter_eq_nil_iff]
  refine forall_congr' fun x => imp_congr_right fun _ => ?_
  cases nameB x <;> simp
section
variable {P : Program} {w : World} {K : PySem.W.Frag} {mg : Str → Option Value} {base : Heap}
theorem scLPE : FnScope ["arities", "words", "wanted", "word"] ["arities", "words"] (defScope sLPatternEnd) := ⟨rfl, rfl, rfl, by decide +kernel, rfl, by decide +kernel, by decide +kernel⟩
theorem ok_lpe {f : Addr} {fd : FuncData} (F : Fun K "_law_pattern_end" "_law_pattern_end" sLPatternEnd f fd) : FnOk P w K mg base CX0 1 f fd ["arities", "words"] spLPE := by
  refine F.ok scLPE (fun vs H Q E h => ?_) (fun cdv A outer s H vs Q E hr h => ?_)
  · obtain ⟨d, t, l, ws, rfl, _⟩ := h
    rfl
  · obtain ⟨d, t, l, ws, rfl, hd, ht, q⟩ := h
    have hu := hr.units
    have hu1 : ∀ {u : Nat}, u + 64 < cLine → u + 1 < cLine := fun h => by omega
    refine ⟨_, (pss_cons (ps_set (i := 2) scLPE.nd rfl (.inl rfl) pe_int) (pss_cons (ps_for PassesOwn.never rfl (pi_tup (pv 1)) (pg_name (i := 3) scLPE.nd rfl (.inl rfl)) (pss_cons (ps_if (pt_cmpR op_eq (pv 2) pe_int (nomark _)) (pss_one (ps_ret (pe_op op_sub pe_int pe_int))) pss_nil) (pss_one (ps_set (i := 2) scLPE.nd rfl (.inl rfl) (pe_op op_add (pe_op op_sub (pv 2) pe_int) (pe_dget2 (hu1 hu) (pv 0) (pv 3) pe_int ⟨by rfl, by rfl, by rfl, by rfl⟩)))))) (pss_one (ps_ret (pv 2))))), ?_⟩
    refine ⟨_, rfl, t, rfl, ⟨_, SqT.of ht⟩, ?_⟩
    have lw : (ws.map V.str).length = ws.length := List.length_map _
    refine for_tup (K := K) (a := t) (xs := ws.map V.str) (fun i σ G => ∃ (m : Nat) (v3 : Option V), σ = [some (.ref d), some (.ref t), some (.int (m : Int)), v3] ∧ G = H ∧ (Wh (ar l) 1 ws ↔ Wh (ar l) m (ws.drop i)))
      ⟨1, none, rfl, rfl, by rw [List.drop_zero]⟩ (fun i σ G _ ⟨_, _, _, e, _⟩ => by rw [e]; exact SqT.of ht) ?_ ?_
    · rintro i x σ G hx ⟨m, v3, rfl, rfl, iff⟩
      obtain ⟨z, hz, rfl⟩ := str_at hx
      have lt := (List.getElem?_eq_some_iff.mp hz).1
      have ed : ws.drop i = z :: ws.drop (i + 1) := by
        rw [List.drop_eq_getElem_cons lt]
        congr 1
        exact (List.getElem?_eq_some_iff.mp hz).2
      rw [ed] at iff
      refine ⟨_, rfl, rfl, _, rfl, ?_⟩
      cases m with
      | zero => exact if_true_of rfl ⟨0, 1, rfl, rfl, q (0 - 1) ⟨fun e => absurd e (by decide), fun h => (iff.mp h).elim⟩⟩
      | succ m =>
        refine if_false_of (decide_eq_false fun e => by have := V.int.inj e; omega) ?_
        refine ⟨_, rfl, _, _, rfl, rfl, _, rfl, d, rfl, .inl ⟨_, .inl hd⟩, _, rfl, _, DGet.k (k := .inr z) hd, ?_⟩
        rw [ar_getD]
        refine ⟨_, _, rfl, rfl, m + ar l z, some (.str z), ?_, rfl, iff⟩
        show ([some (V.ref d), some (V.ref t), some (V.int (((m + 1 : Nat) : Int) - 1 + (ar l z : Int))), some (V.str z)] : L2.St) = _
        rw [show ((m + 1 : Nat) : Int) - 1 + (ar l z : Int) = ((m + ar l z : Nat) : Int) by omega]
    · rintro σ G ⟨m, v3, rfl, rfl, iff⟩
      rw [lw, List.drop_length] at iff
      exact ⟨_, rfl, q _ (by rw [iff]; show ((m : Int) = 0) ↔ (m = 0); omega)⟩
variable {fW fI fE : Addr} {dW dI dE : FuncData}
/-- the law's small judges -/
structure LJ (K : PySem.W.Frag) (mg : Str → Option Value) (fW fI fE : Addr) (dW dI dE : FuncData) : Prop where
  FW : Fun K "_law_is_word" "_law_is_word" sLIsWord fW dW
  bW : Binds K dW ["value"] []
  gW : mg "_law_is_word" = some (.ref fW)
  FI : Fun K "_law_is_figure" "_law_is_figure" sLIsFigure fI dI
  bI : Binds K dI ["value", "top"] []
  gI : mg "_law_is_figure" = some (.ref fI)
  FE : Fun K "_law_pattern_end" "_law_pattern_end" sLPatternEnd fE dE
  bE : Binds K dE ["arities", "words"] []
  gE : mg "_law_pattern_end" = some (.ref fE)
theorem scLRule : FnScope ["arities", "value", "word"] ["arities", "value"] (defScope sLIsRule) := ⟨rfl, rfl, rfl, by decide +kernel, rfl, by decide +kernel, by decide +kernel⟩
theorem ok_lrule {f : Addr} {fd : FuncData} (F : Fun K "_law_is_rule" "_law_is_rule" sLIsRule f fd) (T : Free mg) (L : LJ K mg fW fI fE dW dI dE) : FnOk P w K mg base CX0 2 f fd ["arities", "value"] spLRuleG := by
  have GW : FnOk P w K mg base CX0 1 fW dW ["value"] spLWord := ok_lword L.FW T
  have GI : FnOk P w K mg base CX0 1 fI dI ["value", "top"] spFig := ok_fig L.FI T
  have GE : FnOk P w K mg base CX0 1 fE dE ["arities", "words"] spLPE := ok_lpe L.FE
  refine F.ok scLRule (fun vs H Q E h => ?_) (fun cdv A outer s H vs Q E hr h => ?_)
  · obtain ⟨v, D, d, l, rfl, _⟩ := h
    rfl
  · obtain ⟨v, D0, d, l, rfl, j, hd, oo, q⟩ := h
    have hu := hr.units
    have hu1 : ∀ {u : Nat}, u + 64 < cLine → u + 1 < cLine := fun h => by omega
    refine ⟨_, (pss_cons (ps_if (PW.pt (pw_or (pt_not (pt_val (pe_callB call_isi (by rfl) T.isi (by decide +kernel) (pa_cons (pv 1) (pa_cons (pe_bltn (v := .ty "tuple") (by rfl) T.tuple (by decide +kernel) rfl) pa_nil))))) (pw_or (pt_cmpR op_ne (pe_callB call_len_seq (by rfl) T.len PySem.boot_len (pa_cons (pv 1) pa_nil)) pe_int (nomark _)) (pw_or (pt_not (pt_val (pe_call GW hr (by rfl) L.gW L.FW.kp L.bW .nil pass0 (pa_cons (pe_ix (ix_tupK (K := K) rfl) (pv 1) pe_int (fun _ _ => rfl)) pa_nil)))) (pw_or1 (pt_cmp (pc_din (hu1 hu) (pe_ix (ix_tupK (K := K) rfl) (pv 1) pe_int (fun _ _ => rfl)) (pv 0)))))))) (pss_one (ps_ret pe_bl)) pss_nil) (pss_cons (ps_if (PW.pt (pw_or (pt_not (pt_val (pe_call GI hr (by rfl) L.gI L.FI.kp L.bI .nil pass0 (pa_cons (pe_ix (ix_tupK (K := K) rfl) (pv 1) pe_int (fun _ _ => rfl)) (pa_cons pe_int pa_nil))))) (pw_or (pt_not (pt_val (pe_callB call_isi (by rfl) T.isi (by decide +kernel) (pa_cons (pe_ix (ix_tupK (K := K) rfl) (pv 1) pe_int (fun _ _ => rfl)) (pa_cons (pe_bltn (v := .ty "tuple") (by rfl) T.tuple (by decide +kernel) rfl) pa_nil))))) (pw_or1 (pt_not (pt_chain op_lt op_lt pe_int (pe_callB call_len_seq (by rfl) T.len PySem.boot_len (pa_cons (pe_ix (ix_tupK (K := K) rfl) (pv 1) pe_int (fun _ _ => rfl)) pa_nil)) pe_int)))))) (pss_one (ps_ret pe_bl)) pss_nil) (pss_cons (ps_if (PW.pt (pw_or (pt_cmpR (op_neL hu) (pe_lc (own := [("word", 2)]) (g := gName 2) (by rfl) scLRule.nd (pi_tup (pe_ix (ix_tupK (K := K) rfl) (pv 1) pe_int (fun _ _ => rfl))) (blkOk_by (own := [("word", 2)]) (N := ["arities", "value", "word"]) (sc := defScope sLIsRule) (by decide +kernel)) (fun _ _ _ _ _ => pg_name (i := 2) scLRule.nd rfl (.inl rfl)) (fun _ _ _ _ _ => pts_one (pt_not (pt_val (pe_call GW hr (by rfl) L.gW L.FW.kp L.bW .nil pass0 (pa_cons (pv 2) pa_nil))))) (fun _ _ _ _ _ => pv 2)) (pe_lst pa_nil) (nomark _)) (pw_or1 (pt_cmpR (op_eqD hu) (pe_ix (ix_tupK (K := K) rfl) (pv 1) pe_int (fun _ _ => rfl)) (pe_tup (pa_cons (pe_ix (ix_tupK (K := K) rfl) (pv 1) pe_int (fun _ _ => rfl)) pa_nil)) (nomark _))))) (pss_one (ps_ret pe_bl)) pss_nil) (pss_one (ps_ret (pe_cmpR op_eq (pe_call GE hr (by rfl) L.gE L.FE.kp L.bE .nil pass0 (pa_cons (pv 0) (pa_cons (pe_ix (ix_tupK (K := K) rfl) (pv 1) pe_int (fun _ _ => rfl)) pa_nil))) pe_int (nomark _))))))), ?_⟩
    obtain ⟨ty, kd⟩ := j.kd
    have no : ¬ RuleV H l v → ∀ H', Same H H' → Q (.bl false) H' := fun n H' s => q false H' s ⟨fun e => (nomatch e), fun h => (n h).elim⟩
    rcases kd.split with ne | ⟨rfl, a, xs, rfl, ha⟩
    · refine ⟨_, rfl, v, _, _, _, _, rfl, .ty "tuple", kd.ty, kit_tupB kd, _, rfl, ?_⟩
      rw [beq_eq_false_iff_ne.mpr ne]
      exact if_true_of rfl (no (fun ⟨r, ⟨b, e, t, h, _⟩, _⟩ => kd.no_tup ne e h) H (Same.refl H))
    refine ⟨_, rfl, .ref a, _, _, _, true, rfl, .ty "tuple", tyR (.inl ha), kit_ty (r := true) (by decide +kernel), _, rfl, if_false_of rfl ?_⟩
    refine ⟨_, rfl, a, _, rfl, .inr (SqT.of ha), rfl, _, rfl, ?_⟩
    have it := j.items ha
    by_cases c3 : xs.length = 3
    case neg =>
      refine if_true_of (by rw [decide_eq_false (fun e => c3 (by have := V.int.inj e; omega))]; rfl) (no (fun h => ?_) H (Same.refl H))
      obtain ⟨z, n, ws, t, e, _⟩ := h.items ha
      exact c3 (by rw [e]; rfl)
    obtain ⟨x0, x1, x2, rfl⟩ : ∃ a b c, xs = [a, b, c] := by
      match xs, c3 with
      | [a, b, c], _ => exact ⟨a, b, c, rfl⟩
    refine if_false_of rfl ?_
    have j0 := it.2 x0 (by simp)
    have j1 := it.2 x1 (by simp)
    have j2 := it.2 x2 (by simp)
    obtain ⟨t0, k0⟩ := j0.kd
    obtain ⟨t1, k1⟩ := j1.kd
    obtain ⟨t2, k2⟩ := j2.kd
    -- value[0]
    refine ⟨_, rfl, a, _, 0, x0, rfl, rfl, SqT.of ha, rfl, x0, t0, rfl, k0, fun y e => Nat.le_trans (j0.str_ y e) (by decide), fun H1 s1 => ⟨_, rfl, ?_⟩⟩
    cases c0 : nameB x0 with
    | false =>
      refine if_true_of rfl (no (fun h => ?_) H1 s1)
      obtain ⟨z, n, ws, t, e, _, ok⟩ := h.items ha
      injection e with e _
      rw [e] at c0
      have : azB z = true := ok.head
      rw [show nameB (.str z) = azB z from rfl, this] at c0
      cases c0
    | true => ?_
    obtain ⟨h, rfl, ok_h⟩ : ∃ h, x0 = .str h ∧ azB h = true := by
      cases x0 with
      | str z => exact ⟨z, rfl, c0⟩
      | _ => cases c0
    refine if_false_of rfl ?_
    have ha1 := s1 _ _ ha
    have hd1 := s1 _ _ hd
    refine ⟨_, rfl, a, _, 0, .str h, rfl, rfl, SqT.of ha1, rfl, _, rfl, d, _, rfl, DGet.k (k := .inr h) hd1, _, rfl, ?_⟩
    cases cn : (valV (dkv l) (.inr h : Key)).isSome with
    | true =>
      refine if_true_of rfl (no (fun hh => ?_) H1 s1)
      obtain ⟨z, n, ws, t, e, _, ok⟩ := hh.items ha
      injection e with e _
      cases e
      exact ok.new (val_mem_iff.mp cn)
    | false => ?_
    have ok_new : h ∉ l.map (·.1) := fun m => by
      rw [val_mem_iff.mpr m] at cn
      cases cn
    refine if_false_of rfl ?_
    -- value[1]
    refine ⟨_, rfl, a, _, 1, x1, rfl, rfl, SqT.of ha1, rfl, x1, t1, 9, rfl, k1.same s1, _, rfl, ?_⟩
    cases ci : figB x1 9 with
    | false =>
      refine if_true_of rfl (no (fun hh => ?_) H1 s1)
      obtain ⟨z, n, ws, t, e, _, ok⟩ := hh.items ha
      injection e with _ e
      injection e with e _
      have l9 : n ≤ 9 := ok.price
      rw [e] at ci
      have : (decide ((0 : Int) ≤ (n : Int)) && decide ((n : Int) ≤ 9)) = true := by
        rw [decide_eq_true (by omega), decide_eq_true (by omega)]
        rfl
      rw [show figB (.int (n : Int)) 9 = (decide ((0 : Int) ≤ (n : Int)) && decide ((n : Int) ≤ 9)) from rfl, this] at ci
      cases ci
    | true => ?_
    obtain ⟨n, rfl, n9⟩ : ∃ n : Nat, x1 = .int n ∧ n ≤ 9 := by
      cases x1 with
      | int i =>
        have : (decide ((0 : Int) ≤ i) && decide (i ≤ 9)) = true := ci
        rw [Bool.and_eq_true, decide_eq_true_eq, decide_eq_true_eq] at this
        exact ⟨i.toNat, by rw [Int.toNat_of_nonneg this.1], by omega⟩
      | _ => cases ci
    refine if_false_of rfl ?_
    -- value[2]
    refine ⟨_, rfl, a, _, 2, x2, rfl, rfl, SqT.of ha1, rfl, x2, _, _, _, _, rfl, .ty "tuple", (k2.same s1).ty, kit_tupB (k2.same s1), _, rfl, ?_⟩
    rcases k2.split with ne | ⟨rfl, t, ys, rfl, ht⟩
    · rw [beq_eq_false_iff_ne.mpr ne]
      refine if_true_of rfl (no (fun hh => ?_) H1 s1)
      obtain ⟨z, m, ws, t, e, ht, ok⟩ := hh.items ha
      injection e with _ e
      injection e with _ e
      injection e with e _
      exact k2.no_tup ne e ht
    refine if_false_of rfl ?_
    have ht1 := s1 _ _ ht
    -- what a rule is, once its items are known
    have iff0 : RuleV H l (.ref a) ↔ ∃ ws, ys = ws.map V.str ∧ RlOk l (h, n, ws) := by
      constructor
      · intro hh
        obtain ⟨z, m, us, t', e, ht', ok⟩ := hh.items ha
        injection e with e1 e
        injection e with e2 e
        injection e with e3 _
        cases e1
        cases e3
        have e4 : n = m := by have := V.int.inj e2; omega
        exact ⟨us, tup_one ht ht', by rw [e4]; exact ok⟩
      · rintro ⟨ws, rfl, ok⟩
        exact ⟨(h, n, ws), ⟨a, rfl, t, ha, ht⟩, ok⟩
    refine ⟨_, rfl, a, _, 2, .ref t, rfl, rfl, SqT.of ha1, rfl, t, _, rfl, .inr (SqT.of ht1), _, _, rfl, rfl, _, rfl, ?_⟩
    by_cases cl : 1 ≤ ys.length ∧ ys.length ≤ 7
    case neg =>
      have nr : ¬ RuleV H l (.ref a) := fun hh => by
        obtain ⟨ws, rfl, ok⟩ := iff0.mp hh
        rw [List.length_map] at cl
        exact cl ⟨ok.some_, ok.few⟩
      by_cases c00 : 1 ≤ ys.length
      · exact if_true_of (decide_eq_true (by omega)) ⟨_, _, rfl, rfl, _, rfl, if_true_of (by rw [decide_eq_false (by omega)]; rfl) (no nr H1 s1)⟩
      · exact if_false_of (decide_eq_false (by omega)) ⟨_, rfl, if_true_of rfl (no nr H1 s1)⟩
    obtain ⟨ok_s, ok_f⟩ := cl
    refine if_true_of (decide_eq_true (by omega)) ⟨_, _, rfl, rfl, _, rfl, if_false_of (by rw [decide_eq_true (by omega)]; rfl) ?_⟩
    -- its words
    refine ⟨_, rfl, a, _, 2, .ref t, rfl, rfl, SqT.of ha1, rfl, t, rfl, ⟨_, SqT.of ht1⟩, fun D nD => ?_⟩
    refine lc_tup (K := K) (a := t) (xs := ys) (fun i G => G D = some (.lst (noNames (ys.take i))) ∧ Same H1 G) ⟨upd_same, Same.new nD⟩ (fun i G _ ⟨_, s⟩ => SqT.of (s _ _ ht1)) ?_ ?_
    · rintro i x G hx ⟨eD, s⟩
      have jx := (j2.items ht).2 x (List.mem_of_getElem? hx)
      obtain ⟨tx, kx⟩ := jx.kd
      refine ⟨rfl, _, rfl, x, tx, rfl, (kx.same s1).same s, fun y e => Nat.le_trans (jx.str_ y e) (by decide), fun G' s' => ⟨_, rfl, ?_⟩⟩
      cases e : nameB x with
      | true => exact if_false_of rfl ⟨by rw [noNames_step hx, e]; simpa using s' _ _ eD, s.trans s'⟩
      | false =>
        refine if_true_of rfl ⟨_, rfl, _, s' _ _ eD, ?_, by rw [upd_same, noNames_step hx, e]; rfl, fun b u q => by rw [upd_ne (ne_of_none q nD)]; exact s' _ _ (s b u q)⟩
        have := List.length_filter_le (fun x => !nameB x) (ys.take i)
        rw [List.length_take] at this
        refine small1000 (Nat.le_trans this ?_)
        omega
    rintro G ⟨eD, s2⟩
    rw [List.take_length] at eD
    refine ⟨by decide, fun p np => ?_⟩
    have eD' := (Same.new np (o := .lst [])) _ _ eD
    have s3 := (s1.trans s2).trans (Same.new np (o := .lst []))
    have hp : (upd G p (.lst [])) p = some (.lst []) := upd_same
    generalize upd G p (.lst []) = H3 at eD' s3 hp ⊢
    by_cases nn : noNames ys = []
    case neg =>
      refine ⟨D, p, _, _, rfl, rfl, SqL.of eD', SqL.of hp, .inl ⟨fun e => nn (List.eq_nil_of_length_eq_zero e), _, rfl, if_true_of rfl (no (fun hh => ?_) H3 s3)⟩⟩
      obtain ⟨ws, rfl, ok⟩ := iff0.mp hh
      refine nn (noNames_nil.mpr fun x m => ?_)
      obtain ⟨z, mz, rfl⟩ := List.mem_map.mp m
      exact ok.names z mz
    refine ⟨D, p, _, _, rfl, rfl, SqL.of eD', SqL.of hp, .inr ⟨nn, (fun v m => by rw [nn] at m; cases m), _, rfl, if_false_of rfl ?_⟩⟩
    obtain ⟨ws, rfl, ok_n⟩ := names_of (noNames_nil.mp nn)
    rw [List.length_map] at ok_s ok_f
    have iff1 : RuleV H l (.ref a) ↔ RlOk l (h, n, ws) := by
      rw [iff0]
      constructor
      · rintro ⟨us, e, ok⟩
        rw [(List.map_inj_right (fun a b h => V.str.inj h)).mp e]
        exact ok
      · exact fun ok => ⟨ws, rfl, ok⟩
    have ha3 := s3 _ _ ha
    have ht3 := s3 _ _ ht
    have hd3 := s3 _ _ hd
    refine ⟨_, rfl, a, _, 2, .ref t, rfl, rfl, SqT.of ha3, rfl, _, rfl, a, _, 0, .str h, rfl, rfl, SqT.of ha3, rfl, by show 1 ≤ sizeLine; decide, fun p1 np1 => ?_⟩
    have n1 := Same.new np1 (o := .tup [.str h])
    have s4 := s3.trans n1
    refine eqTx (xs := ws) (ys := [h]) (SqT.of (n1 _ _ ht3)) (SqT.of upd_same) ok_n (fun z m => by rw [List.mem_singleton.mp m]; exact ok_h) ⟨_, rfl, ?_⟩
    generalize upd H3 p1 (.tup [.str h]) = H4 at n1 s4 ⊢
    by_cases co : ws = [h]
    · exact if_true_of (decide_eq_true co) (no (fun hh => (iff1.mp hh).other co) H4 s4)
    refine if_false_of (decide_eq_false co) ?_
    refine ⟨_, rfl, _, rfl, a, _, 2, .ref t, rfl, rfl, SqT.of (s4 _ _ ha), rfl, d, t, l, ws, rfl, s4 _ _ hd, s4 _ _ ht, fun i hi => ⟨rfl, q _ H4 s4 ?_⟩⟩
    rw [decide_eq_true_eq, iff1]
    constructor
    · intro e
      exact ⟨ok_h, ok_new, by show n ≤ 9; omega, ok_s, ok_f, ok_n, co, hi.mp (V.int.inj e)⟩
    · intro ok
      rw [hi.mpr ok.whole]
end
end Pr
/-! ### len(o), str(o), v in o by the class's own defs -/
namespace L2
open PySem PySem.Spec PyProof.Rows PySem.Builtin PySem.Builtin.Str
section
variable {X : Cx} {k : Nat} {C f : Addr} {fd : FuncData} {ps : List Str} {sp : Sp}
/-- the class has the name as a def at f -/
structure OwnM (K : PySem.W.Frag) (C : Addr) (name : Str) (f : Addr) : Prop where
  at_ : PySem.W.findIn K (.ref C) name = some (some (.ref f))
  fn : PySem.W.isFn K (.ref f) = true
/-- its call, somewhere below -/
theorem own_run (F : FnOk X.prog X.w X.K X.mg X.base CX0 k f fd ps sp) (hb : Binds X.K fd ps []) {A : Around} (hr : Room k A) {pins : List (Addr × Obj)} {σ : L2.St} {H : Hp} {s : Shared} (I : Inv X pins σ H s) (e : Env0 X.prog X.w X.K X.mg X.base A X.stack s H)
    {vs : List V} {us : List Value} (rv : Vals vs us) {Q : VK} (h : sp vs H Q E0) {R : Value → Shared → Prop} {E : Value → Shared → Prop} (hR : ∀ u s', EP X pins σ Q u s' → R u s') : wpAny (model X.prog X.w) A (call (.ref f) us) R E s := by
  have hl := F.len _ _ _ _ h
  refine wpAny_call (codeAny_mono (F.run A X.stack s H ⟨us, []⟩ us vs Q E0 hr e (by
    have := hb s us I.kIn (by rw [List.append_nil, ← rv.length]; exact hl)
    rw [List.append_nil] at this
    exact this) rv h) fun r s' hq => ?_)
  cases r with
  | error z => exact (show False from hq).elim
  | ok fl =>
    cases fl with
    | ret u => exact hR u s' (I.after hq)
    | next => exact False.elim hq
    | brk => exact False.elim hq
    | cont => exact False.elim hq
def rLenO (C : Addr) (sp : Sp) : List V → Hp → VK → Prop := fun xs H Q => ∃ a dx fs, xs = [.ref a] ∧ H a = some (.ins C dx fs) ∧ sp [.ref a] H (fun v H' => ∃ n : Int, v = .int n ∧ 0 ≤ n ∧ n < 2 ^ 63 ∧ Q (.int n) H') E0
theorem call_lenO (F : FnOk X.prog X.w X.K X.mg X.base CX0 k f fd ps sp) (hb : Binds X.K fd ps []) (hr : Room (k + 1) X.A) (O : OwnM X.K C "__len__" f) : CallR X (.builtin "len") (rLenO C sp) := by
  intro pins s σ H vs us Q I r h
  obtain ⟨a, dx, fs, rfl, ha, h⟩ := h
  obtain ⟨u, rfl, ru⟩ := vals1 r
  cases ru
  obtain ⟨mA, J, _⟩ := ins_get I.hok ha
  obtain ⟨od, J, _⟩ := J.look
  obtain ⟨m, hF⟩ := I.fr
  refine PySem.W.len_K hF I.ok.mod.kin J O.at_ O.fn (own_run F hb hr.in1 I I.env0.in1 (vs := [.ref a]) (us := [.ref a]) (.cons rfl .nil) h fun u s' q => ?_)
  obtain ⟨v, H', I', rv, n, rfl, n0, n1, q⟩ := q
  obtain ⟨t, rfl⟩ := rv
  exact ⟨⟨n0, n1⟩, .int n, H', I'.tok _, ⟨_, rfl⟩, q⟩
def rInO (C : Addr) (sp : Sp) (neg : Bool) : R2 := fun x y H Q => ∃ a dx fs, y = .ref a ∧ H a = some (.ins C dx fs) ∧ sp [.ref a, x] H (fun v H' => ∃ b : Bool, v = .bl b ∧ Q (.bl (if neg then !b else b)) H') E0
theorem op_inO (F : FnOk X.prog X.w X.K X.mg X.base CX0 k f fd ps sp) (hb : Binds X.K fd ps []) (hr : Room k X.A) (O : OwnM X.K C "__contains__" f) : OpR X (compareOp .In) (rInO C sp false) := by
  intro pins s σ H x y v u Q I rx ry h
  obtain ⟨a, dx, fs, rfl, ha, h⟩ := h
  cases ry
  obtain ⟨mA, J, _⟩ := ins_get I.hok ha
  obtain ⟨od, J, _⟩ := J.look
  obtain ⟨m, hF⟩ := I.fr
  refine PySem.W.in_K hF I.ok.mod.kin J O.at_ O.fn (own_run F hb hr I I.env0 (vs := [.ref a, x]) (us := [.ref a, v]) (.cons rfl (.cons rx .nil)) h fun u s' q => ?_)
  obtain ⟨v, H', I', rv, b, rfl, q⟩ := q
  cases rv
  exact wpAny_truthy_bool ⟨.bl b, H', I', rfl, q⟩
theorem op_notInO (F : FnOk X.prog X.w X.K X.mg X.base CX0 k f fd ps sp) (hb : Binds X.K fd ps []) (hr : Room k X.A) (O : OwnM X.K C "__contains__" f) : OpR X (compareOp .NotIn) (rInO C sp true) := by
  intro pins s σ H x y v u Q I rx ry h
  obtain ⟨a, dx, fs, rfl, ha, h⟩ := h
  cases ry
  obtain ⟨mA, J, _⟩ := ins_get I.hok ha
  obtain ⟨od, J, _⟩ := J.look
  obtain ⟨m, hF⟩ := I.fr
  refine PySem.W.notIn_K hF I.ok.mod.kin J O.at_ O.fn (own_run F hb hr I I.env0 (vs := [.ref a, x]) (us := [.ref a, v]) (.cons rfl (.cons rx .nil)) h fun u s' q => ?_)
  obtain ⟨v, H', I', rv, b, rfl, q⟩ := q
  cases rv
  exact wpAny_truthy_bool ⟨.bl (!b), H', I', rfl, q⟩
def rStrO (C : Addr) (sp : Sp) : List V → Hp → VK → Prop := fun xs H Q => ∃ a dx fs, xs = [.ref a] ∧ H a = some (.ins C dx fs) ∧ sp [.ref a] H (fun v H' => ∃ z : Str, v = .str z ∧ Q (.str z) H') E0
theorem call_strO (F : FnOk X.prog X.w X.K X.mg X.base CX0 k f fd ps sp) (hb : Binds X.K fd ps []) (hr : Room (k + 2) X.A) (O : OwnM X.K C "__str__" f) : CallR X (.type "str") (rStrO C sp) := by
  intro pins s σ H vs us Q I r h
  obtain ⟨a, dx, fs, rfl, ha, h⟩ := h
  obtain ⟨u, rfl, ru⟩ := vals1 r
  cases ru
  obtain ⟨mA, J, _⟩ := ins_get I.hok ha
  obtain ⟨od, J, _⟩ := J.look
  have hu := hr.units
  refine callType_codes (T := "str") (Bi := Builtin.«object.__init__») (Q₁ := fun r s₁ => ∃ y u, r = .str y u ∧ EP X pins σ Q r s₁) PySem.F.called_str (PySem.F.typeCall_str_1 _) PySem.F.entry_object_init ?_ ?_
  · refine codeAny_of_tree ?_
    show wpAny _ X.A.in1.in1 (do checkBuiltinCall "str.__new__" ⟨[.type "str", .ref a], []⟩; again (.builtin "str.__new__" ⟨[.type "str", .ref a], []⟩)) _ _ s
    refine wpAny_bind (wpAny_of_eq (PySem.F.newCall_str_1 _) (wpAny_pure ⟨plainId_quiet (by decide +kernel) _, codeAny_builtin PySem.F.entry_str_new ?_⟩))
    rw [Around.under_plainId (by decide +kernel) _]
    rw [PySem.str_new_tree]
    refine wpAny_bind (wpAny_pure ?_)
    refine wpAny_bind (wpAny_of_eq isSubtype_str_str ?_)
    have key : wpAny (model X.prog X.w) X.A.in1.in1 (PySem.Builtin.Str.strOf (.ref a)) (fun r s₁ => ∃ y u, r = .str y u ∧ EP X pins σ Q r s₁) X.xe s := by
      unfold PySem.Builtin.Str.strOf
      rw [show isExactStr (.ref a) = false from rfl]
      refine wpAny_bind (m := cRoomFor _ _) (wpAny_cRoomFor (by show X.A.units + 1 + 1 < cLine; omega) ?_)
      refine wpAny_bind (m := callSpecial? (.ref a) (Str.ofString "__str__")) (PySem.W.special_fn I.kIn J O.at_ (beq_iff_eq.mp O.fn) (own_run F hb hr.in1.in1 I I.env0.in1.in1 (vs := [.ref a]) (us := [.ref a]) (.cons rfl .nil) h fun u s' q => ?_))
      obtain ⟨v, H', I', rv, z, rfl, q⟩ := q
      obtain ⟨t, rfl⟩ := rv
      exact wpAny_pure ⟨_, _, rfl, .str z, H', I', ⟨t, rfl⟩, q⟩
    exact wpAny_bind (wpAny_mono key (fun r s₁ hr => wpAny_pure hr) fun _ _ y => y)
  · rintro obj s₁ ⟨y, u, rfl, hq⟩
    exact ⟨typeIs_str _ _ _, PySem.F.args_object_init_2 _ _, object_init_meets PySem.F.called_str.init.lookup PySem.F.called_str.made (by decide) X.prog X.w X.A.in1 _ s₁ ⟨typeIs_str _ _ _, rfl, hq⟩⟩
end
end L2
namespace Pr
open PySem PySem.Spec PyProof.Rows L2 Gd
/-! ### a book as the law's own dict -/
def plK (la : Addr) (g : Str) (ra : Addr) : List (Key × V) := [((.inr ("arities" : Str) : Key), V.ref la), (.inr ("goal" : Str), .str g), (.inr ("rules" : Str), .ref ra)]
theorem key_ag : ¬ (Sum.inr (Str.ofString "arities") : Key) = .inr (Str.ofString "goal") := by decide +kernel
theorem key_ar : ¬ (Sum.inr (Str.ofString "arities") : Key) = .inr (Str.ofString "rules") := by decide +kernel
theorem key_gr : ¬ (Sum.inr (Str.ofString "goal") : Key) = .inr (Str.ofString "rules") := by decide +kernel
theorem pl_ar {la ra : Addr} {g : Str} : valV (plK la g ra) (.inr ("arities" : Str) : Key) = some (.ref la) := valV_pos rfl
theorem pl_go {la ra : Addr} {g : Str} : valV (plK la g ra) (.inr ("goal" : Str) : Key) = some (.str g) := by
  unfold plK
  rw [valV_neg key_ag, valV_pos rfl]
theorem pl_ru {la ra : Addr} {g : Str} : valV (plK la g ra) (.inr ("rules" : Str) : Key) = some (.ref ra) := by
  unfold plK
  rw [valV_neg key_ar, valV_neg key_gr, valV_pos rfl]
theorem pl_put {la ra : Addr} {g g' : Str} : putK (plK la g ra) (.inr ("goal" : Str) : Key) (.str g') = plK la g' ra := by
  unfold putK plK
  refine Eq.trans (if_pos (List.any_eq_true.mpr ⟨((.inr (Str.ofString "goal") : Key), V.str g), List.mem_cons_of_mem _ List.mem_cons_self, decide_eq_true rfl⟩)) ?_
  show [(if (Sum.inr (Str.ofString "arities") : Key) = .inr (Str.ofString "goal") then ((Sum.inr (Str.ofString "arities") : Key), V.str g') else (.inr (Str.ofString "arities"), .ref la)), (if (Sum.inr (Str.ofString "goal") : Key) = .inr (Str.ofString "goal") then ((Sum.inr (Str.ofString "goal") : Key), V.str g') else (.inr (Str.ofString "goal"), .str g)),
    (if (Sum.inr (Str.ofString "rules") : Key) = .inr (Str.ofString "goal") then ((Sum.inr (Str.ofString "rules") : Key), V.str g') else (.inr (Str.ofString "rules"), .ref ra))] = _
  rw [if_neg key_ag, if_pos rfl, if_neg fun e => key_gr e.symm]
structure PlainAt (H : Hp) (d : Addr) (l : List (Str × Nat)) (g : Str) (rs : List Rl) : Prop where
  ex : ∃ (la ra : Addr) (as : List Addr), H d = some (.dK (plK la g ra)) ∧ H la = some (.dK (dkv l)) ∧ H ra = some (.lst (as.map V.ref)) ∧ Paired (fun b r => RuleAt H b r) as rs
theorem PlainAt.same {H H' : Hp} {d : Addr} {l : List (Str × Nat)} {g : Str} {rs : List Rl} (h : PlainAt H d l g rs) (s : Same H H') : PlainAt H' d l g rs := let ⟨la, ra, as, a, b, c, e⟩ := h.ex; ⟨la, ra, as, s _ _ a, s _ _ b, s _ _ c, paired_map (fun _ _ k => k.same s) e⟩
/-! ### books do not hang on the order of the operators -/
theorem val_perm {l l' : List (Str × Nat)} (nd : (l.map (·.1)).Nodup) (p : l'.Perm l) (z : Str) : valV (dkv l') (.inr z : Key) = valV (dkv l) (.inr z : Key) := by
  have nd' : (l'.map (·.1)).Nodup := (p.map _).nodup_iff.mpr nd
  cases e : valV (dkv l) (.inr z : Key) with
  | none =>
    have n : z ∉ l.map (·.1) := fun m => by
      have := val_mem_iff.mpr m
      rw [e] at this
      cases this
    exact val_none fun m => n ((p.map _).mem_iff.mp m)
  | some v =>
    obtain ⟨n, rfl, m⟩ := val_nat e
    exact val_some nd' (p.mem_iff.mpr m)
theorem ar_perm {l l' : List (Str × Nat)} (nd : (l.map (·.1)).Nodup) (p : l'.Perm l) : ar l' = ar l := funext fun z => by
  unfold ar
  rw [val_perm nd p]
theorem isNt_perm {l l' : List (Str × Nat)} (p : l'.Perm l) {g : Str} {rs : List Rl} {z : Str} : isNt l' g rs z ↔ isNt l g rs z := by
  unfold isNt
  rw [(p.map (·.1)).mem_iff]
theorem isPart_perm {l l' : List (Str × Nat)} (nd : (l.map (·.1)).Nodup) (p : l'.Perm l) {rs : List Rl} {ws : List Str} : isPart l' rs ws ↔ isPart l rs ws := by
  unfold isPart
  rw [ar_perm nd p]
  constructor
  · rintro ⟨r, m, i, z, h, k, e⟩
    exact ⟨r, m, i, z, h, (p.map (·.1)).mem_iff.mp k, e⟩
  · rintro ⟨r, m, i, z, h, k, e⟩
    exact ⟨r, m, i, z, h, (p.map (·.1)).mem_iff.mpr k, e⟩
theorem BkOk.perm {l l' : List (Str × Nat)} {g : Str} {rs : List Rl} (h : BkOk l g rs) (p : l'.Perm l) : BkOk l' g rs := by
  have mm : ∀ z, z ∈ l'.map (·.1) ↔ z ∈ l.map (·.1) := fun z => (p.map (·.1)).mem_iff
  refine ⟨⟨by rw [p.length_eq]; exact h.ops.few, (p.map _).nodup_iff.mpr h.ops.nd, fun x m => h.ops.name x (p.mem_iff.mp m), fun x m => h.ops.two x (p.mem_iff.mp m)⟩, h.goal, fun m => h.gnew ((mm _).mp m), h.few, fun r m => ?_, h.nd, ?_⟩
  · have k := h.rules r m
    exact ⟨k.head, fun m => k.new ((mm _).mp m), k.price, k.some_, k.few, k.names, k.other, by rw [ar_perm h.ops.nd p]; exact k.whole⟩
  · obtain ⟨D, a, b⟩ := h.six
    exact ⟨D, a, fun z q => b z ((isNt_perm p).mp q)⟩
end Pr
namespace Pr
open PySem PySem.Spec PyProof.Rows L2 Gd
/-! ### Operators(arities), arities that are let -/
def spInitV (C : Addr) : Sp := fun vs H Q _ => ∃ (x dx a : Addr) (l : List (Str × Nat)), vs = [.ref x, .ref a] ∧ H x = some (.ins C dx []) ∧ H a = some (.dK (dkv l)) ∧ OpsOk l ∧
  ∀ (l' : List (Str × Nat)) (ta : Addr) (H' : Hp), l'.Perm l → sortedS (l'.map (·.1)) = true → Kp x H H' → OpsAt H' C x l' → FldAt H' x "_arities" (.ref ta) → H ta = none → Q .non H'
section
variable {P : Program} {w : World} {K : PySem.W.Frag} {mg : Str → Option Value} {base : Heap} {C fA : Addr} {dA : FuncData}
theorem ok_initV {f : Addr} {fd : FuncData} (F : Fun K "__init__" "Operators.__init__" mInit f fd) (T : Free mg) (CF : OpF K C) (GA : FnOk P w K mg base CX0 2 fA dA ["value"] spAre7) (FA : Fun K "are_arities" "are_arities" sAre fA dA) (bA : Binds K dA ["value"] []) (gA : mg "are_arities" = some (.ref fA)) :
    FnOk P w K mg base CX0 3 f fd ["self", "arities"] (spInitV C) := by
  refine F.ok scInit (fun vs H Q E h => ?_) (fun cdv A outer s H vs Q E hr h => ?_)
  · obtain ⟨x, dx, a, l, rfl, _⟩ := h
    rfl
  · obtain ⟨x, dx, a, l, rfl, hx, ha, ok, q0⟩ := h
    have hu := hr.units
    have hu1 : ∀ {u : Nat}, u + 64 < cLine → u + 1 < cLine := fun h => by omega
    refine ⟨_, pss_cons (ps_if (pt_not (pt_val (pe_call GA hr (by rfl) gA FA.kp bA .nil pass0 (pa_cons (pv 1) pa_nil)))) (pss_one ps_never) pss_nil) (pss_cons (ps_fld (pv 0) (pe_callTy call_tuple_of (by rfl) T.tuple (by decide +kernel) (pa_cons (pe_callB (call_sortedD (by rfl)) (by rfl) T.sorted (by decide +kernel) (pa_cons (pv 1) pa_nil)) pa_nil)) rfl) (pss_cons (ps_fld (pv 0) (pe_dc (own := [("name", 2)]) (g := gName 2) (by rfl) scInit.nd (pi_tup (pe_fld (pv 0) rfl)) (blkOk_by (own := [("name", 2)]) (N := ["self", "arities", "name", "told"]) (sc := defScope mInit) (by decide +kernel)) (fun _ _ _ _ _ => pg_name (i := 2) scInit.nd rfl (Or.inl rfl)) (fun _ _ _ _ _ => pts_nil) (fun _ _ _ _ _ => pv 2) (fun _ _ _ _ _ => pe_dget (hu1 hu) (pv 1) (pv 2) (fun _ _ => rfl))) rfl) (pss_cons (ps_fld (pv 0) (pe_callTy call_tuple_of (by rfl) T.tuple (by decide +kernel) (pa_cons (pe_lc (own := [("name", 2)]) (g := gName 2) (by rfl) scInit.nd (pi_tup (pe_fld (pv 0) rfl)) (blkOk_by (own := [("name", 2)]) (N := ["self", "arities", "name", "told"]) (sc := defScope mInit) (by decide +kernel)) (fun _ _ _ _ _ => pg_name (i := 2) scInit.nd rfl (Or.inl rfl)) (fun _ _ _ _ _ => pts_nil) (fun _ _ _ _ _ => pe_joined (.cons pe_str (.cons (pe_fmt (pv 2)) (.cons pe_str (.cons (pe_fmt (pe_dget (hu1 hu) (pv 1) (pv 2) (fun _ _ => rfl))) .nil)))))) pa_nil)) rfl) (pss_cons (ps_set (i := 3) scInit.nd rfl (.inl rfl) (Lv.pe_listVals rfl (pv 1) (by rfl) T.list (by decide +kernel))) (pss_cons (ps_fld (pv 0) (pe_tup (pa_cons (pe_bm PySem.F.plainAttrs_list PySem.F.slot_list_count PySem.F.type_list_count mt_lcount (pv 3) (pa_cons pe_int pa_nil)) (pa_cons (pe_bm PySem.F.plainAttrs_list PySem.F.slot_list_count PySem.F.type_list_count mt_lcount (pv 3) (pa_cons pe_int pa_nil)) (pa_cons (pe_bm PySem.F.plainAttrs_list PySem.F.slot_list_count PySem.F.type_list_count mt_lcount (pv 3) (pa_cons pe_int pa_nil)) pa_nil)))) rfl) (pss_cons (ps_fld (pv 0) (pe_lst (pa_cons pe_int (pa_cons (pe_ix ix_tup (pe_fld (pv 0) rfl) pe_int (fun _ _ => rfl)) pa_nil))) rfl) (pss_one (ps_fld (pv 0) (pe_lst pa_nil) rfl)))))))), ?_⟩
    refine ⟨_, rfl, .ref a, goodK (dkv l), rfl, .dict ha (good_of ok).1, fun H1 s1 => ⟨_, rfl, ?_⟩⟩
    rw [(good_of ok).2]
    refine if_false_of rfl ?_
    have few := ok.few
    have xa : x ≠ a := fun e => by
      rw [e, ha] at hx
      cases hx
    refine ⟨_, rfl, a, dkv l, l.map (·.1), rfl, Rd.of (s1 _ _ ha), by unfold dkv; rw [List.map_map, List.map_map]; rfl, by rw [List.length_map]; omega, fun ks ns pk srt nns => ?_⟩
    obtain ⟨l', pl, rfl⟩ := perm_map pk
    refine ⟨ns, _, rfl, .inl ⟨SqL.of upd_same, fun t nt => ?_⟩⟩
    have s2 := (s1.trans (Same.new nns (o := .lst ((l'.map (·.1)).map V.str)))).trans (Same.new nt (o := .tup ((l'.map (·.1)).map V.str)))
    have ht2 : (upd (upd H1 ns (.lst ((l'.map (·.1)).map V.str))) t (.tup ((l'.map (·.1)).map V.str))) t = some (.tup ((l'.map (·.1)).map V.str)) := upd_same
    generalize upd (upd H1 ns (.lst ((l'.map (·.1)).map V.str))) t (.tup ((l'.map (·.1)).map V.str)) = H2 at s2 ht2 ⊢
    have hx2 := s2 _ _ hx
    have xt : x ≠ t := fun e => by
      rw [e, ht2] at hx2
      cases hx2
    refine ⟨_, rfl, x, C, dx, [], rfl, hx2, CF.cls, CF.n1, by decide, ?_⟩
    have k3 : Kp x H (upd H2 x (.ins C dx (putF "_names" (.ref t) []))) := (Kp.same s2).trans Kp.upd
    have hx3 : (upd H2 x (.ins C dx (putF "_names" (.ref t) []))) x = some (.ins C dx [("_names", .ref t)]) := upd_same
    have ht3 : (upd H2 x (.ins C dx (putF "_names" (.ref t) []))) t = some (.tup ((l'.map (·.1)).map V.str)) := by rw [upd_ne xt.symm]; exact ht2
    have ha3 := k3 a _ xa.symm ha
    have ndl : (l'.map (·.1)).Nodup := (pl.map _).nodup_iff.mpr ok.nd
    have mem : ∀ {i : Nat} {v : V}, ((l'.map (·.1)).map V.str)[i]? = some v → ∃ p, l'[i]? = some p ∧ v = .str p.1 ∧ valV (dkv l) (.inr p.1 : Key) = some (.int (p.2 : Int)) ∧ p.2 ≤ 2 ∧ azB p.1 = true := fun {i v} h => by
      rw [List.map_map, List.getElem?_map] at h
      cases e : l'[i]? with
      | none => rw [e] at h; cases h
      | some p =>
        rw [e] at h
        have mp : p ∈ l := pl.mem_iff.mp (List.mem_of_getElem? e)
        exact ⟨p, rfl, (Option.some.inj h).symm, val_some ok.nd mp, ok.two p mp, ok.name p mp⟩
    have ll : l'.length ≤ 8 := by
      rw [pl.length_eq]
      omega
    generalize upd H2 x (.ins C dx (putF "_names" (.ref t) [])) = H3 at k3 hx3 ht3 ha3 ⊢
    -- _arities
    refine ⟨_, rfl, x, C, dx, _, _, rfl, hx3, CF.cls, CF.n1, rfl, t, rfl, ⟨_, SqT.of ht3⟩, fun D nD => ?_⟩
    refine dc_tup (K := K) (a := t) (xs := (l'.map (·.1)).map V.str) (fun i G => G D = some (.dK (dkv (l'.take i))) ∧ Same H3 G) ⟨upd_same, Same.new nD⟩ (fun i G _ ⟨_, s⟩ => SqT.of (s _ _ ht3)) ?_ ?_
    · rintro i v G hv ⟨eD, s⟩
      obtain ⟨p, hp, rfl, vz, two, _⟩ := mem hv
      have nz : p.1 ∉ (l'.take i).map (·.1) := fun m => by
        obtain ⟨j, hj, e⟩ := List.mem_iff_getElem.mp m
        rw [List.length_map, List.length_take] at hj
        obtain ⟨hi, ep⟩ := List.getElem?_eq_some_iff.mp hp
        have e2 : (l'.map (·.1))[j]'(by rw [List.length_map]; omega) = (l'.map (·.1))[i]'(by rw [List.length_map]; omega) := by
          rw [List.getElem_map, List.getElem_map, ep, ← e, List.getElem_map, List.getElem_take]
        have := (List.getElem_inj ndl).mp e2
        omega
      refine ⟨rfl, _, rfl, _, rfl, _, rfl, a, _, rfl, vz ▸ DGet.k (k := .inr p.1) (s _ _ ha3), dkv (l'.take i), .inr p.1, rfl, eD, ?_, ?_, fun b o q => by rw [upd_ne (ne_of_none q nD)]; exact s b o q⟩
      · have e : (dkv (l'.take i)).length = (l'.take i).length := List.length_map _
        rw [e, List.length_take, sizeLine_eq]
        omega
      · rw [upd_same, put_end nz, List.take_add_one, hp]
        rfl
    rintro G ⟨eD, s3⟩
    have eD : G D = some (.dK (dkv l')) := by
      have t0 := List.take_of_length_le (l := l') (i := ((l'.map (·.1)).map V.str).length) (by rw [List.length_map, List.length_map]; exact Nat.le_refl _)
      rw [t0] at eD
      exact eD
    refine ⟨_, rfl, x, C, dx, _, rfl, s3 _ _ hx3, CF.cls, CF.n2, Nat.le_of_ble_eq_true rfl, ?_⟩
    have xD : x ≠ D := ne_of_none hx3 nD
    have nDH : H D = none := Kp.free k3 xD.symm nD
    have k4 : Kp x H (upd G x (.ins C dx (putF "_arities" (.ref D) [("_names", .ref t)]))) := (k3.trans (Kp.same s3)).trans Kp.upd
    have hx4 : (upd G x (.ins C dx (putF "_arities" (.ref D) [("_names", .ref t)]))) x = some (.ins C dx [("_names", .ref t), ("_arities", .ref D)]) := upd_same
    have ht4 : (upd G x (.ins C dx (putF "_arities" (.ref D) [("_names", .ref t)]))) t = some (.tup ((l'.map (·.1)).map V.str)) := by rw [upd_ne xt.symm]; exact s3 _ _ ht3
    have hD4 : (upd G x (.ins C dx (putF "_arities" (.ref D) [("_names", .ref t)]))) D = some (.dK (dkv l')) := by rw [upd_ne xD.symm]; exact eD
    have ha4 := k4 a _ xa.symm ha
    generalize upd G x (.ins C dx (putF "_arities" (.ref D) [("_names", .ref t)])) = H4 at k4 hx4 ht4 hD4 ha4 ⊢
    -- _lines
    refine ⟨_, rfl, x, C, dx, _, _, rfl, hx4, CF.cls, CF.n1, rfl, t, rfl, ⟨_, SqT.of ht4⟩, fun D2 nD2 => ?_⟩
    refine lc_tup (K := K) (a := t) (xs := (l'.map (·.1)).map V.str) (tt := tYes) (g := gName 2) (te := t_line) (vs := [2]) (fun i G => G D2 = some (.lst ((l'.take i).map lnV)) ∧ Same H4 G) ⟨upd_same, Same.new nD2⟩ (fun i G _ ⟨_, s⟩ => SqT.of (s _ _ ht4)) ?_ ?_
    · rintro i v G2 hv ⟨e2, s⟩
      obtain ⟨p, hp, rfl, vz, two, az⟩ := mem hv
      have z8 : p.1.length ≤ 8 := by
        have h2 : (decide (1 ≤ p.1.length) && decide (p.1.length ≤ 8) && p.1.cps.toList.all azC) = true := az
        simp only [Bool.and_eq_true, decide_eq_true_eq] at h2
        omega
      have lg : ((p.2 : Int)).natAbs.log2 < 1920 := Nat.lt_of_le_of_lt (Nat.log2_le_self _) (by omega)
      have tl : (((toString (p.2 : Int) : String) : Str)).length ≤ 1921 := PyProof.Rows.int_text_len_1921 lg
      have il : i < 8 := by
        have := (List.getElem?_eq_some_iff.mp hp).1
        omega
      have n1 : (Str.empty ++ ("op " : Str)).length = 3 := rfl
      refine ⟨rfl, _, rfl, by rw [n1, sizeLine_eq]; decide, _, rfl, .inl ⟨p.1, rfl, by rw [sizeLine_eq]; omega, _, rfl, by rw [strLen_append, n1, sizeLine_eq]; omega, _, rfl, ?_, _, rfl, _, rfl, a, _, rfl, vz ▸ DGet.k (k := .inr p.1) (s _ _ ha4), .inr ⟨_, rfl, lg, _, rfl, ?_, _, e2, by rw [List.length_map, List.length_take, sizeLine_eq]; omega, by rw [upd_same, List.take_add_one, hp, List.map_append]; rfl, fun b o q => by rw [upd_ne (ne_of_none q nD2)]; exact s b o q⟩⟩⟩
      · rw [strLen_append, strLen_append, n1, sizeLine_eq, show (" " : Str).length = 1 from rfl]
        omega
      · rw [strLen_append, strLen_append, strLen_append, n1, sizeLine_eq, show (" " : Str).length = 1 from rfl]
        have tl' : ((Str.ofString (toString (p.2 : Int)))).length ≤ 1921 := tl
        omega
    · rintro G2 ⟨e2, s⟩
      have e2 : G2 D2 = some (.lst (l'.map lnV)) := by
        rw [List.take_of_length_le (by rw [List.length_map, List.length_map]; exact Nat.le_refl _)] at e2
        exact e2
      generalize hss : l'.map lnV = ss at e2
      refine ⟨D2, ss, rfl, .inl ⟨SqL.of e2, fun t2 nt2 => ⟨_, rfl, x, C, dx, _, rfl, (Same.new nt2) _ _ (s _ _ hx4), CF.cls, CF.n3, Nat.le_of_ble_eq_true rfl, ?_⟩⟩⟩
      have s5 := s.trans (Same.new nt2 (o := .tup ss))
      have xt2 : x ≠ t2 := ne_of_none (s _ _ hx4) nt2
      have xa4 : a ≠ x := xa.symm
      have k5 : Kp x H (upd (upd G2 t2 (.tup ss)) x (.ins C dx (putF "_lines" (.ref t2) [("_names", .ref t), ("_arities", .ref D)]))) := (k4.trans (Kp.same s5)).trans Kp.upd
      have hx5 : (upd (upd G2 t2 (.tup ss)) x (.ins C dx (putF "_lines" (.ref t2) [("_names", .ref t), ("_arities", .ref D)]))) x = some (.ins C dx [("_names", .ref t), ("_arities", .ref D), ("_lines", .ref t2)]) := upd_same
      have ht5 : (upd (upd G2 t2 (.tup ss)) x (.ins C dx (putF "_lines" (.ref t2) [("_names", .ref t), ("_arities", .ref D)]))) t = some (.tup (l'.map fun p => V.str p.1)) := by
        rw [upd_ne xt.symm]
        have := s5 _ _ ht4
        rw [List.map_map] at this
        exact this
      have hD5 : (upd (upd G2 t2 (.tup ss)) x (.ins C dx (putF "_lines" (.ref t2) [("_names", .ref t), ("_arities", .ref D)]))) D = some (.dK (dkv l')) := by
        rw [upd_ne xD.symm]
        exact s5 _ _ hD4
      have hl5 : (upd (upd G2 t2 (.tup ss)) x (.ins C dx (putF "_lines" (.ref t2) [("_names", .ref t), ("_arities", .ref D)]))) t2 = some (.tup ss) := by rw [upd_ne xt2.symm, upd_same]
      generalize upd (upd G2 t2 (.tup ss)) x (.ins C dx (putF "_lines" (.ref t2) [("_names", .ref t), ("_arities", .ref D)])) = H5 at k5 hx5 ht5 hD5 hl5 ⊢
      have ha5 := k5 a _ xa4 ha
      -- told
      refine ⟨_, rfl, a, dkv l, rfl, ha5, fun q nq => ?_⟩
      have s6 := Same.new nq (o := .lst ((dkv l).map (·.2)))
      have xq : x ≠ q := ne_of_none hx5 nq
      have hq6 : (upd H5 q (.lst ((dkv l).map (·.2)))) q = some (.lst ((l.map fun p => (p.2 : Int)).map V.int)) := by
        rw [upd_same]
        unfold dkv
        rw [List.map_map, List.map_map]
        rfl
      generalize upd H5 q (.lst ((dkv l).map (·.2))) = H6 at s6 hq6 ⊢
      have hx6 := s6 _ _ hx5
      have ht6 := s6 _ _ ht5
      have hD6 := s6 _ _ hD5
      have hl6 := s6 _ _ hl5
      have tyq : tyV K "list" (V.ref q) H6 := .inl ⟨rfl, _, SqL.of hq6⟩
      refine ⟨_, rfl, tyq, q, _, 0, rfl, rfl, SqL.of hq6, _, rfl, tyq, q, _, 1, rfl, rfl, SqL.of hq6, _, rfl, tyq, q, _, 2, rfl, rfl, SqL.of hq6, by show 3 ≤ sizeLine; decide, fun m nm => ?_⟩
      have s7 := Same.new nm (o := .tup [.int ((l.map fun p => (p.2 : Int)).count 0 : Nat), .int ((l.map fun p => (p.2 : Int)).count 1 : Nat), .int ((l.map fun p => (p.2 : Int)).count 2 : Nat)])
      have xm : x ≠ m := ne_of_none hx6 nm
      refine ⟨_, rfl, x, C, dx, _, rfl, s7 _ _ hx6, CF.cls, CF.n4, Nat.le_of_ble_eq_true rfl, ?_⟩
      have k7 : Kp x H (upd (upd H6 m (.tup [.int ((l.map fun p => (p.2 : Int)).count 0 : Nat), .int ((l.map fun p => (p.2 : Int)).count 1 : Nat), .int ((l.map fun p => (p.2 : Int)).count 2 : Nat)])) x (.ins C dx (putF "_many" (.ref m) [("_names", .ref t), ("_arities", .ref D), ("_lines", .ref t2)]))) := ((k5.trans (Kp.same s6)).trans (Kp.same s7)).trans Kp.upd
      have hx7 : (upd (upd H6 m (.tup [.int ((l.map fun p => (p.2 : Int)).count 0 : Nat), .int ((l.map fun p => (p.2 : Int)).count 1 : Nat), .int ((l.map fun p => (p.2 : Int)).count 2 : Nat)])) x (.ins C dx (putF "_many" (.ref m) [("_names", .ref t), ("_arities", .ref D), ("_lines", .ref t2)]))) x = some (.ins C dx [("_names", .ref t), ("_arities", .ref D), ("_lines", .ref t2), ("_many", .ref m)]) := upd_same
      have hm7 : (upd (upd H6 m (.tup [.int ((l.map fun p => (p.2 : Int)).count 0 : Nat), .int ((l.map fun p => (p.2 : Int)).count 1 : Nat), .int ((l.map fun p => (p.2 : Int)).count 2 : Nat)])) x (.ins C dx (putF "_many" (.ref m) [("_names", .ref t), ("_arities", .ref D), ("_lines", .ref t2)]))) m = some (.tup [.int ((l.map fun p => (p.2 : Int)).count 0 : Nat), .int ((l.map fun p => (p.2 : Int)).count 1 : Nat), .int ((l.map fun p => (p.2 : Int)).count 2 : Nat)]) := by rw [upd_ne xm.symm, upd_same]
      have ht7 : (upd (upd H6 m (.tup [.int ((l.map fun p => (p.2 : Int)).count 0 : Nat), .int ((l.map fun p => (p.2 : Int)).count 1 : Nat), .int ((l.map fun p => (p.2 : Int)).count 2 : Nat)])) x (.ins C dx (putF "_many" (.ref m) [("_names", .ref t), ("_arities", .ref D), ("_lines", .ref t2)]))) t = some (.tup (l'.map fun p => V.str p.1)) := by
        rw [upd_ne xt.symm]
        exact s7 _ _ ht6
      have hD7 : (upd (upd H6 m (.tup [.int ((l.map fun p => (p.2 : Int)).count 0 : Nat), .int ((l.map fun p => (p.2 : Int)).count 1 : Nat), .int ((l.map fun p => (p.2 : Int)).count 2 : Nat)])) x (.ins C dx (putF "_many" (.ref m) [("_names", .ref t), ("_arities", .ref D), ("_lines", .ref t2)]))) D = some (.dK (dkv l')) := by
        rw [upd_ne xD.symm]
        exact s7 _ _ hD6
      have hl7 : (upd (upd H6 m (.tup [.int ((l.map fun p => (p.2 : Int)).count 0 : Nat), .int ((l.map fun p => (p.2 : Int)).count 1 : Nat), .int ((l.map fun p => (p.2 : Int)).count 2 : Nat)])) x (.ins C dx (putF "_many" (.ref m) [("_names", .ref t), ("_arities", .ref D), ("_lines", .ref t2)]))) t2 = some (.tup ss) := by
        rw [upd_ne xt2.symm]
        exact s7 _ _ hl6
      generalize upd (upd H6 m (.tup [.int ((l.map fun p => (p.2 : Int)).count 0 : Nat), .int ((l.map fun p => (p.2 : Int)).count 1 : Nat), .int ((l.map fun p => (p.2 : Int)).count 2 : Nat)])) x (.ins C dx (putF "_many" (.ref m) [("_names", .ref t), ("_arities", .ref D), ("_lines", .ref t2)])) = H7 at k7 hx7 hm7 ht7 hD7 hl7 ⊢
      -- _counts
      refine ⟨_, rfl, x, C, dx, _, _, rfl, hx7, CF.cls, CF.n4, rfl, m, _, _, _, rfl, rfl, SqT.of hm7, rfl, by show 2 ≤ sizeLine; decide, fun c nc => ?_⟩
      have xc : x ≠ c := ne_of_none hx7 nc
      have s8 := Same.new nc (o := .lst [.int 0, .int ((l.map fun p => (p.2 : Int)).count 0 : Nat)])
      refine ⟨_, rfl, x, C, dx, _, rfl, s8 _ _ hx7, CF.cls, CF.n5, Nat.le_of_ble_eq_true rfl, ?_⟩
      have k8 : Kp x H (upd (upd H7 c (.lst [.int 0, .int ((l.map fun p => (p.2 : Int)).count 0 : Nat)])) x (.ins C dx (putF "_counts" (.ref c) [("_names", .ref t), ("_arities", .ref D), ("_lines", .ref t2), ("_many", .ref m)]))) := (k7.trans (Kp.same s8)).trans Kp.upd
      have hx8 : (upd (upd H7 c (.lst [.int 0, .int ((l.map fun p => (p.2 : Int)).count 0 : Nat)])) x (.ins C dx (putF "_counts" (.ref c) [("_names", .ref t), ("_arities", .ref D), ("_lines", .ref t2), ("_many", .ref m)]))) x = some (.ins C dx [("_names", .ref t), ("_arities", .ref D), ("_lines", .ref t2), ("_many", .ref m), ("_counts", .ref c)]) := upd_same
      have ht8 : (upd (upd H7 c (.lst [.int 0, .int ((l.map fun p => (p.2 : Int)).count 0 : Nat)])) x (.ins C dx (putF "_counts" (.ref c) [("_names", .ref t), ("_arities", .ref D), ("_lines", .ref t2), ("_many", .ref m)]))) t = some (.tup (l'.map fun p => V.str p.1)) := by
        rw [upd_ne xt.symm]
        exact s8 _ _ ht7
      have hD8 : (upd (upd H7 c (.lst [.int 0, .int ((l.map fun p => (p.2 : Int)).count 0 : Nat)])) x (.ins C dx (putF "_counts" (.ref c) [("_names", .ref t), ("_arities", .ref D), ("_lines", .ref t2), ("_many", .ref m)]))) D = some (.dK (dkv l')) := by
        rw [upd_ne xD.symm]
        exact s8 _ _ hD7
      have hl8 : (upd (upd H7 c (.lst [.int 0, .int ((l.map fun p => (p.2 : Int)).count 0 : Nat)])) x (.ins C dx (putF "_counts" (.ref c) [("_names", .ref t), ("_arities", .ref D), ("_lines", .ref t2), ("_many", .ref m)]))) t2 = some (.tup ss) := by
        rw [upd_ne xt2.symm]
        exact s8 _ _ hl7
      generalize upd (upd H7 c (.lst [.int 0, .int ((l.map fun p => (p.2 : Int)).count 0 : Nat)])) x (.ins C dx (putF "_counts" (.ref c) [("_names", .ref t), ("_arities", .ref D), ("_lines", .ref t2), ("_many", .ref m)])) = H8 at k8 hx8 ht8 hD8 hl8 ⊢
      -- _rows
      refine ⟨by show 0 ≤ sizeLine; decide, fun r nr => ?_⟩
      have s9 := Same.new nr (o := .lst [])
      refine ⟨_, rfl, x, C, dx, _, rfl, s9 _ _ hx8, CF.cls, CF.n6, Nat.le_of_ble_eq_true rfl, ?_⟩
      refine q0 l' D _ pl srt ((k8.trans (Kp.same s9)).trans Kp.upd) ⟨dx, t, D, (t2, m, c, r), upd_same, ?_, ?_, ?_⟩ ⟨C, dx, _, upd_same, rfl⟩ nDH
      · rw [upd_ne xt.symm]
        exact s9 _ _ ht8
      · rw [upd_ne xD.symm]
        exact s9 _ _ hD8
      · show (upd (upd H8 r (.lst [])) x _) t2 = _
        rw [upd_ne xt2.symm, hss]
        exact s9 _ _ hl8
end
end Pr

namespace Pr
open PySem PySem.Spec PyProof.Rows L2 Gd
/-! ### _law_nonterminals of any row of rules -/
def spLNontsG : Sp := fun vs H Q _ => ∃ (d : Addr) (l : List (Str × Nat)) (g : Str) (rs : List Rl), vs = [.ref d] ∧ PlainAt H d l g rs ∧ NtOk l rs ∧
  ∀ (ys : List Str) (p : Addr) (H' : Hp), sortedS ys = true → ys.Nodup → (∀ z, z ∈ ys ↔ isNt l g rs z) → H p = none → Same H H' → H' p = some (.lst (ys.map V.str)) → Q (.ref p) H'
section
variable {P : Program} {w : World} {K : PySem.W.Frag} {mg : Str → Option Value} {base : Heap} {fE : Addr} {dE : FuncData}
theorem scLNonts : FnScope ["plain", "found", "head", "price", "pattern", "name"] ["plain"] (defScope sLNonts) := ⟨rfl, rfl, rfl, by decide +kernel, rfl, by decide +kernel, by decide +kernel⟩
theorem ok_lnontsG {f : Addr} {fd : FuncData} (F : Fun K "_law_nonterminals" "_law_nonterminals" sLNonts f fd) (T : Free mg) : FnOk P w K mg base CX0 1 f fd ["plain"] spLNontsG := by
  refine F.ok scLNonts (fun vs H Q E h => ?_) (fun cdv A outer s H vs Q E hr h => ?_)
  · obtain ⟨d, l, g, rs, rfl, _⟩ := h
    rfl
  · obtain ⟨d, l, g, rs, rfl, pl, ok, q⟩ := h
    have hu := hr.units
    have hu1 : ∀ {u : Nat}, u + 64 < cLine → u + 1 < cLine := fun h => by omega
    refine ⟨_, (pss_cons (ps_set (i := 1) scLNonts.nd rfl (.inl rfl) (pe_lst (pa_cons (pe_dget (hu1 hu) (pv 0) pe_str (fun _ _ => rfl)) pa_nil))) (pss_cons (ps_for PassesOwn.never rfl (pi_list (pe_dget (hu1 hu) (pv 0) pe_str (fun _ _ => rfl))) (pg_tup rfl (pgs_cons (pg_name (i := 2) scLNonts.nd rfl (.inl rfl)) (pgs_cons (pg_name (i := 3) scLNonts.nd rfl (.inl rfl)) (pgs_cons (pg_name (i := 4) scLNonts.nd rfl (.inl rfl)) pgs_nil)))) (pss_one (ps_set (i := 1) scLNonts.nd rfl (.inl rfl) (pe_op op_cat (pe_op op_cat (pv 1) (pe_lst (pa_cons (pv 2) pa_nil))) (pe_lc (own := [("name", 5)]) (g := gName 5) (by rfl) scLNonts.nd (pi_tup (pv 4)) (blkOk_by (own := [("name", 5)]) (N := ["plain", "found", "head", "price", "pattern", "name"]) (sc := defScope sLNonts) (by decide +kernel)) (fun _ _ _ _ _ => pg_name (i := 5) scLNonts.nd rfl (.inl rfl)) (fun _ _ _ _ _ => pts_one (pt_cmp (pc_dnotin (hu1 hu) (pv 5) (pe_dget (hu1 hu) (pv 0) pe_str (fun _ _ => rfl))))) (fun _ _ _ _ _ => pv 5)))))) (pss_one (ps_ret (pe_callB (Ns.cr_sortedSetS (by rfl)) (by rfl) T.sorted (by decide +kernel) (pa_cons (pe_callTy (Ns.cr_setOfS (by rfl)) (by rfl) T.set (by decide +kernel) (pa_cons (pv 1) pa_nil)) pa_nil)))))), ?_⟩
    obtain ⟨la, ra, as, h1, h2, h3, h4⟩ := pl.ex
    obtain ⟨D6, hD6, inD⟩ := ok.all g
    have las : as.length = rs.length := Paired.length h4
    refine ⟨_, rfl, d, .str g, rfl, pl_go ▸ DGet.k (k := .inr ("goal" : Str)) h1, by show 1 ≤ sizeLine; decide, fun f0 nf0 => ?_⟩
    have s0 := Same.new nf0 (o := .lst [V.str g])
    refine ⟨_, rfl, d, .ref ra, rfl, pl_ru ▸ DGet.k (k := .inr ("rules" : Str)) (s0 _ _ h1), ra, rfl, ⟨_, SqL.of (s0 _ _ h3)⟩, ?_⟩
    refine for_list (K := K) (a := ra) (xs := as.map V.ref) (fun i σ G => ∃ (fa : Addr) (v2 v3 v4 v5 : Option V) (fs : List Str), σ = [some (.ref d), some (.ref fa), v2, v3, v4, v5] ∧ H fa = none ∧ G fa = some (.lst (fs.map V.str)) ∧ fs.length ≤ 1 + 8 * i ∧ (∀ z, z ∈ fs ↔ isNt l g (rs.take i) z) ∧ Same H G)
      ⟨f0, none, none, none, none, [g], rfl, nf0, upd_same, Nat.le_refl _, fun z => ?_, s0⟩ (fun i σ G _ ⟨_, _, _, _, _, _, _, _, _, _, _, s⟩ => SqL.of (s _ _ h3)) ?_ ?_
    · rw [List.mem_singleton]
      constructor
      · exact .inl
      · rintro (h | ⟨r, m, _⟩)
        · exact h
        · simp at m
    · rintro i x σ G hx ⟨fa, v2, v3, v4, v5, fs, rfl, nfa, eF, lf, mem, s⟩
      obtain ⟨b, hb, rfl⟩ := ref_at hx
      obtain ⟨r, hr', rat⟩ := pget9 h4 hb
      obtain ⟨t, hbt, htt⟩ := RuleAt.same rat s
      have rok := ok.rules r (List.mem_of_getElem? hr')
      have il := (List.getElem?_eq_some_iff.mp hr').1
      have rf := rok.few
      have ofew := ok.few
      refine ⟨b, _, rfl, SqT.of hbt, rfl, _, _, rfl, _, _, rfl, _, _, rfl, rfl, ?_⟩
      refine ⟨_, rfl, _, rfl, by show 1 ≤ sizeLine; decide, fun hl nhl => ?_⟩
      have sa := Same.new nhl (o := .lst [V.str r.1])
      refine ⟨fa, hl, _, _, rfl, rfl, sa _ _ eF, upd_same, by rw [List.length_map, sizeLine_eq]; simp only [List.length_cons, List.length_nil]; omega, fun c1 nc1 => ?_⟩
      have sb := sa.trans (Same.new nc1 (o := .lst (fs.map V.str ++ [V.str r.1])))
      have hc1 : (upd (upd G hl (.lst [V.str r.1])) c1 (.lst (fs.map V.str ++ [V.str r.1]))) c1 = some (.lst (fs.map V.str ++ [V.str r.1])) := upd_same
      generalize upd (upd G hl (.lst [V.str r.1])) c1 (.lst (fs.map V.str ++ [V.str r.1])) = G1 at sb hc1 ⊢
      have s1 := s.trans sb
      refine ⟨_, rfl, t, rfl, ⟨_, SqT.of (sb _ _ htt)⟩, fun D nD => ?_⟩
      refine lc_tup (K := K) (a := t) (xs := r.2.2.map V.str) (fun j G2 => ∃ us : List Str, G2 D = some (.lst (us.map V.str)) ∧ us.length ≤ j ∧ (∀ z, z ∈ us ↔ z ∈ r.2.2.take j ∧ z ∉ l.map (·.1)) ∧ Same G1 G2)
        ⟨[], upd_same, Nat.le_refl _, fun z => by simp, Same.new nD⟩ (fun j G2 _ ⟨_, _, _, _, s2⟩ => SqT.of (s2 _ _ (sb _ _ htt))) ?_ ?_
      · rintro j x G2 hx ⟨us, eD, lu, memu, s2⟩
        obtain ⟨z, hz, rfl⟩ := str_at hx
        have jl := (List.getElem?_eq_some_iff.mp hz).1
        have step : ∀ x, x ∈ r.2.2.take (j + 1) ↔ x ∈ r.2.2.take j ∨ x = z := fun x => by
          rw [List.take_add_one, hz, List.mem_append]
          simp
        refine ⟨rfl, _, rfl, _, rfl, d, .ref la, rfl, pl_ar ▸ DGet.k (k := .inr ("arities" : Str)) (s2 _ _ (s1 _ _ h1)), la, _, rfl, DGet.k (k := .inr z) (s2 _ _ (s1 _ _ h2)), _, rfl, ?_⟩
        by_cases c : z ∈ l.map (·.1)
        · have e := val_mem_iff.mpr c
          refine if_false_of (by rw [e]; rfl) ⟨us, eD, by omega, fun x => ?_, s2⟩
          rw [memu x, step x]
          constructor
          · rintro ⟨h, n⟩
            exact ⟨.inl h, n⟩
          · rintro ⟨h | h, n⟩
            · exact ⟨h, n⟩
            · exact absurd (h ▸ c) n
        · have e : (valV (dkv l) (.inr z : Key)).isSome = false := by
            cases q : (valV (dkv l) (.inr z : Key)).isSome with
            | false => rfl
            | true => exact absurd (val_mem_iff.mp q) c
          refine if_true_of (by rw [e]; rfl) ⟨_, rfl, _, eD, by rw [List.length_map, sizeLine_eq]; omega, us ++ [z], by rw [upd_same, List.map_append]; rfl, by rw [List.length_append]; simp only [List.length_cons, List.length_nil]; omega, fun x => ?_, fun b o q => by rw [upd_ne (ne_of_none q nD)]; exact s2 b o q⟩
          rw [List.mem_append, memu x, step x, List.mem_singleton]
          constructor
          · rintro (⟨h, n⟩ | h)
            · exact ⟨.inl h, n⟩
            · exact ⟨.inr h, h ▸ c⟩
          · rintro ⟨h | h, n⟩
            · exact .inl ⟨h, n⟩
            · exact .inr h
      · rintro G2 ⟨us, eD, lu, memu, s2⟩
        have lz : (r.2.2.map V.str).length = r.2.2.length := List.length_map _
        rw [lz] at lu memu
        rw [List.take_length] at memu
        refine ⟨c1, D, _, _, rfl, rfl, s2 _ _ hc1, eD, by rw [List.length_append, List.length_map, List.length_map, sizeLine_eq]; simp only [List.length_cons, List.length_nil]; omega, fun c2 nc2 => ?_⟩
        have s3 := s1.trans s2
        refine ⟨c2, _, _, _, _, fs ++ r.1 :: us, rfl, Same.free s3 nc2, by rw [upd_same, List.map_append, List.map_cons, List.append_assoc]; rfl, by rw [List.length_append, List.length_cons]; omega, fun z => ?_, s3.trans (Same.new nc2)⟩
        rw [List.mem_append, mem z, List.mem_cons, memu z]
        unfold isNt
        rw [List.take_add_one, hr']
        constructor
        · rintro ((h | ⟨r2, m2, k⟩) | h | ⟨h, n⟩)
          · exact .inl h
          · exact .inr ⟨r2, List.mem_append_left _ m2, k⟩
          · exact .inr ⟨r, List.mem_append_right _ (by simp), .inl h, h ▸ rok.new⟩
          · exact .inr ⟨r, List.mem_append_right _ (by simp), .inr h, n⟩
        · rintro (h | ⟨r2, m2, k, n⟩)
          · exact .inl (.inl h)
          · rcases List.mem_append.mp m2 with m2 | m2
            · exact .inl (.inr ⟨r2, m2, k, n⟩)
            · have e2 : r2 = r := by simpa using m2
              rw [e2] at k
              rcases k with k | k
              · exact .inr (.inl k)
              · exact .inr (.inr ⟨k, n⟩)
    · rintro σ G ⟨fa, v2, v3, v4, v5, fs, rfl, nfa, eF, lf, mem, s⟩
      have ofew := ok.few
      rw [List.take_of_length_le (by rw [List.length_map, las]; exact Nat.le_refl _)] at mem
      rw [List.length_map, las] at lf
      refine ⟨_, rfl, fa, fs, rfl, SqL.of eF, by unfold scanBound; omega, fun sa c nsa few => ?_⟩
      have c6 : c ≤ 61 := Nat.le_trans (few D6 fun z m => inD z ((mem z).mp m)) hD6
      refine ⟨sa, _, c, rfl, upd_same, by omega, fun ys p srt nd my _ np => ?_⟩
      have s2 := s.trans (Same.new nsa (o := Ns.SetSO P w sa (fun z => decide (z ∈ fs)) c))
      exact q ys p _ srt nd (fun z => by rw [my z, decide_eq_true_eq, mem z]) (Same.free s2 np) (s2.trans (Same.new np)) upd_same
end
end Pr
namespace Pr
open PySem PySem.Spec PyProof.Rows L2 Gd
/-! ### any book as data -/
theorem pl_merge {la ra : Addr} {g : Str} : mergeK [] (plK la g ra) = plK la g ra := by
  show putK (putK (putK [] (.inr (Str.ofString "arities") : Key) (.ref la)) (.inr (Str.ofString "goal")) (.str g)) (.inr (Str.ofString "rules")) (.ref ra) = _
  rw [putK_new (kvs := []) (k := (.inr (Str.ofString "arities") : Key)) _ rfl, List.nil_append, putK_new (kvs := [((.inr (Str.ofString "arities") : Key), V.ref la)]) (k := (.inr (Str.ofString "goal") : Key)) _ (by rw [valV_neg key_ag]; rfl),
    putK_new (kvs := [((.inr (Str.ofString "arities") : Key), V.ref la)] ++ [((.inr (Str.ofString "goal") : Key), V.str g)]) (k := (.inr (Str.ofString "rules") : Key)) _ (by show valV [((.inr (Str.ofString "arities") : Key), V.ref la), (.inr (Str.ofString "goal"), .str g)] _ = none; rw [valV_neg key_ar, valV_neg key_gr]; rfl)]
  rfl
def patLen (rs : List Rl) : Nat := (rs.map fun r => r.2.2.length).sum
theorem patLen_take {rs : List Rl} {i : Nat} {r : Rl} (h : rs[i]? = some r) : patLen (rs.take (i + 1)) = patLen (rs.take i) + r.2.2.length := by
  unfold patLen
  rw [List.take_add_one, h, List.map_append, List.sum_append]
  simp
theorem patLen_le : ∀ (rs : List Rl) (i : Nat), patLen (rs.take i) ≤ patLen rs
  | [], i => by rw [List.take_nil]; exact Nat.le_refl _
  | r :: rs, 0 => Nat.zero_le _
  | r :: rs, i + 1 => by
    have := patLen_le rs i
    unfold patLen at this ⊢
    rw [List.take_succ_cons, List.map_cons, List.map_cons, List.sum_cons, List.sum_cons]
    omega
def whB (f : Str → Nat) : Nat → List Str → Bool
  | n, [] => decide (n = 0)
  | 0, _ :: _ => false
  | n + 1, z :: zs => whB f (n + f z) zs
theorem whB_ok {f : Str → Nat} : ∀ (zs : List Str) (n : Nat), whB f n zs = true → Wh f n zs
  | [], n, h => of_decide_eq_true (p := n = 0) h
  | z :: zs, 0, h => by cases h
  | z :: zs, n + 1, h => whB_ok zs _ h
def rlB (l : List (Str × Nat)) (r : Rl) : Bool := azB r.1 && (!decide (r.1 ∈ l.map (·.1)) && (decide (r.2.1 ≤ 9) && (decide (1 ≤ r.2.2.length) && (decide (r.2.2.length ≤ 7) && (r.2.2.all azB && (!decide (r.2.2 = [r.1]) && whB (ar l) 1 r.2.2))))))
theorem rlB_ok {l : List (Str × Nat)} {r : Rl} (h : rlB l r = true) : RlOk l r := by
  unfold rlB at h
  simp only [Bool.and_eq_true, Bool.not_eq_true', decide_eq_true_eq, decide_eq_false_iff_not, List.all_eq_true] at h
  obtain ⟨a, b, c, d, e, f, g, i⟩ := h
  exact ⟨a, b, c, d, e, f, g, whB_ok _ _ i⟩
def opB (l : List (Str × Nat)) : Bool := decide (1 ≤ l.length) && (decide (l.length ≤ 8) && (decide (l.map (·.1)).Nodup && (l.all (fun p => azB p.1) && l.all fun p => decide (p.2 ≤ 2))))
theorem opB_ok {l : List (Str × Nat)} (h : opB l = true) : OpsOk l := by
  unfold opB at h
  simp only [Bool.and_eq_true, decide_eq_true_eq, List.all_eq_true] at h
  obtain ⟨a, b, c, d, e⟩ := h
  exact ⟨⟨a, b⟩, c, d, e⟩
def bkB (l : List (Str × Nat)) (g : Str) (rs : List Rl) (D : List Str) : Bool := opB l && (azB g && (!decide (g ∈ l.map (·.1)) && (decide (rs.length ≤ 12) && (rs.all (rlB l) && (decide (rs.map fun r => (r.1, r.2.2)).Nodup && (decide (D.length ≤ 6) && (decide (g ∈ D) &&
  rs.all fun r => decide (r.1 ∈ D) && r.2.2.all fun z => decide (z ∈ l.map (·.1)) || decide (z ∈ D))))))))
theorem bkB_ok {l : List (Str × Nat)} {g : Str} {rs : List Rl} {D : List Str} (h : bkB l g rs D = true) : BkOk l g rs := by
  unfold bkB at h
  simp only [Bool.and_eq_true, Bool.or_eq_true, Bool.not_eq_true', decide_eq_true_eq, decide_eq_false_iff_not, List.all_eq_true] at h
  obtain ⟨a, b, c, d, e, f, g1, g2, i⟩ := h
  refine ⟨opB_ok a, b, c, d, fun r m => rlB_ok (e r m), f, D, g1, fun z q => ?_⟩
  rcases q with rfl | ⟨r, m, k, n⟩
  · exact g2
  · rcases k with rfl | k
    · exact (i r m).1
    · exact ((i r m).2 z k).resolve_left n
structure Any (H : Hp) (p : Addr) (l : List (Str × Nat)) (g : Str) (rs : List Rl) : Prop where
  pl : PlainAt H p l g rs
  ok : BkOk l g rs
  small : patLen rs < 60
end Pr
namespace Pr
open PySem PySem.Spec PyProof.Rows L2 Gd
/-! ### _law_drawn_pattern -/
abbrev t_sm (K : PySem.W.Frag) : TE := tIf (tTest (tOp rEq (tVar 7) (tC (V.int 0)))) (tVar 6) (tOp rCat (tCB (fun xs H Q => ∃ p ys, xs = [V.ref p] ∧ (SqL K H p ys ∨ SqT K H p ys) ∧ ∀ l, H l = none → Q (.ref l) (upd H l (.lst ys))) (tCons (tVar 2) tNil))
  (tIf (tTest (tOp (rI0 fun i j => V.bl (decide (i < j))) (tOp (rI0 fun i j => V.int (i + j)) (tCB (fun xs H1 Q => ∃ p ys, xs = [V.ref p] ∧ (SqL K H1 p ys ∨ SqT K H1 p ys) ∧ Q (V.int (ys.length : Int)) H1) (tCons (tVar 4) tNil)) (tVar 5)) (tVar 3))) (tVar 6) (tLst tNil)))
def t_smB : TE := fun σ H Q => ∃ (na fa ka : Addr) (cap o i : Int) (ns ws ks : List Str), σ[2]? = some (some (.ref na)) ∧ σ[3]? = some (some (.int cap)) ∧ σ[4]? = some (some (.ref fa)) ∧ σ[5]? = some (some (.int o)) ∧ σ[6]? = some (some (.ref ka)) ∧ σ[7]? = some (some (.int i)) ∧
  H na = some (.lst (ns.map V.str)) ∧ H fa = some (.lst (ws.map V.str)) ∧ H ka = some (.lst (ks.map V.str)) ∧ ns.length ≤ 10 ∧ ks.length ≤ 10 ∧ ns ≠ [] ∧ ks ≠ [] ∧
  ∀ (sa : Addr) (cs : List Str) (H' : Hp), Same H H' → H' sa = some (.lst (cs.map V.str)) → (H sa = none ∨ sa = ka) → cs ≠ [] → cs.length ≤ 20 → (∀ z ∈ cs, (z ∈ ks ∧ (i = 0 ∨ (ws.length : Int) + o < cap)) ∨ (i ≠ 0 ∧ z ∈ ns)) → Q (.ref sa) H'
theorem sm_imp {K : PySem.W.Frag} : ∀ σ H Q, t_smB σ H Q → t_sm K σ H Q := by
  rintro σ H Q ⟨na, fa, ka, cap, o, i, ns, ws, ks, h2, h3, h4, h5, h6, h7, hn, hf, hk, ln, lk, n0, k0, q⟩
  refine ⟨_, h7, rfl, _, rfl, ?_⟩
  by_cases c : i = 0
  · refine if_true_of (decide_eq_true (by rw [c])) ⟨_, h6, q ka ks H (Same.refl H) hk (.inr rfl) k0 (by omega) fun z m => .inl ⟨m, .inl c⟩⟩
  · refine if_false_of (decide_eq_false fun e => c (V.int.inj e)) ⟨_, h2, na, _, rfl, .inl (SqL.of hn), fun l nl => ?_⟩
    have s1 := Same.new nl (o := .lst (ns.map V.str))
    have hl : (upd H l (.lst (ns.map V.str))) l = some (.lst (ns.map V.str)) := upd_same
    generalize upd H l (.lst (ns.map V.str)) = H1 at s1 hl ⊢
    refine ⟨_, h4, fa, _, rfl, .inl (SqL.of (s1 _ _ hf)), _, h5, _, _, rfl, rfl, _, h3, _, _, rfl, rfl, _, rfl, ?_⟩
    rw [List.length_map]
    by_cases c2 : (ws.length : Int) + o < cap
    · refine if_true_of (decide_eq_true c2) ⟨_, h6, l, ka, _, _, rfl, rfl, hl, s1 _ _ hk, by rw [List.length_map, List.length_map, sizeLine_eq]; omega, fun p np => ?_⟩
      refine q p (ns ++ ks) _ (s1.trans (Same.new np)) (by rw [upd_same, List.map_append]) (.inl (Same.free s1 np)) (by simp [n0]) (by rw [List.length_append]; omega) fun z m => ?_
      rcases List.mem_append.mp m with m | m
      · exact .inr ⟨c, m⟩
      · exact .inl ⟨m, .inr c2⟩
    · refine if_false_of (decide_eq_false c2) ⟨by show 0 ≤ sizeLine; decide, fun e ne => ⟨l, e, _, _, rfl, rfl, (Same.new ne) _ _ hl, upd_same, by rw [List.length_map, sizeLine_eq]; simp only [List.length_nil]; omega, fun p np => ?_⟩⟩
      refine q p ns _ ((s1.trans (Same.new ne)).trans (Same.new np)) (by rw [upd_same, List.append_nil]) (.inl (Same.free s1 (Same.free (Same.new ne) np))) n0 (by omega) fun z m => .inr ⟨c, m⟩
def spDPat : Sp := fun vs H Q _ => ∃ (d la na : Addr) (cap n : Nat) (l : List (Str × Nat)) (ns : List Str), vs = [.ref d, .ref la, .ref na, .int (cap : Int)] ∧ Dice H d n ∧ n + 30 < 1000000 ∧ la ≠ d ∧ na ≠ d ∧ H la = some (.dK (dkv l)) ∧ OpsOk l ∧ H na = some (.lst (ns.map V.str)) ∧ ns ≠ [] ∧ ns.length ≤ 10 ∧ (∀ z ∈ ns, z ∉ l.map (·.1)) ∧ cap ≤ 5 ∧
  ∀ (p : Addr) (ws : List Str) (H' : Hp), p ≠ d → H p = none → Kp d H H' → H' p = some (.tup (ws.map V.str)) → Wh (ar l) 1 ws → 1 ≤ ws.length → ws.length ≤ 6 → (∀ z ∈ ws, z ∈ l.map (·.1) ∨ z ∈ ns) → (∃ z r, ws = z :: r ∧ z ∈ l.map (·.1)) → Dice H' d (n + 30) → Q (.ref p) H'
section
variable {P : Program} {w : World} {K : PySem.W.Frag} {mg : Str → Option Value} {base : Heap} {fR fP fM : Addr} {dR dP dM : FuncData}
theorem pe_imp9 {X : Cx} {e : Expr} {t t' : TE} (h : PE X e t) (k : ∀ σ H Q, t' σ H Q → t σ H Q) : PE X e t' := ⟨fun pins s σ H Q I q => h.run pins s σ H Q I (k σ H Q q)⟩
theorem scDPat : FnScope ["dice", "arities", "nonterminals", "cap", "found", "open_ends", "names", "turn", "some", "name"] ["dice", "arities", "nonterminals", "cap"] (defScope sDPat) := ⟨rfl, rfl, rfl, by decide +kernel, rfl, by decide +kernel, by decide +kernel⟩
theorem ok_dpat {f : Addr} {fd : FuncData} (F : Fun K "_law_drawn_pattern" "_law_drawn_pattern" sDPat f fd) (D : Draws K mg fR fP fM dR dP dM) (T : Free mg) : FnOk P w K mg base CX0 3 f fd ["dice", "arities", "nonterminals", "cap"] spDPat := by
  have GP : FnOk P w K mg base CX0 2 fP dP ["dice", "items"] (spPick K) := ok_pick D T
  refine F.ok scDPat (fun vs H Q E h => ?_) (fun cdv A outer s H vs Q E hr h => ?_)
  · obtain ⟨d, la, na, cap, n, l, ns, rfl, _⟩ := h
    rfl
  · obtain ⟨d, la, na, cap, n, l, ns, rfl, di, hn, lad, nad, hla, ok, hna, ns0, nsf, nsn, hcap, q⟩ := h
    have hu := hr.units
    have hu1 : ∀ {u : Nat}, u + 64 < cLine → u + 1 < cLine := fun h => by omega
    have r2 : Room 2 _ := hr.mono (by decide)
    refine ⟨_, (pss_cons (ps_par (i := 4) (j := 5) (by rfl) scDPat.nd rfl rfl (by decide) rfl rfl (pa_cons (pe_lst pa_nil) (pa_cons pe_int pa_nil)) (by rfl)) (pss_cons (ps_set (i := 6) scDPat.nd rfl (.inl rfl) (pe_callB (call_sortedD (by rfl)) (by rfl) T.sorted (by decide +kernel) (pa_cons (pv 1) pa_nil))) (pss_cons (ps_for PassesOwn.never rfl (pi_range1 rfl T.range (pa_cons pe_int pa_nil)) (pg_name (i := 7) scDPat.nd rfl (.inl rfl)) (pss_cons (ps_if (pt_cmpR op_eq (pv 5) pe_int (nomark _)) (pss_one ps_break) pss_nil) (pss_cons (ps_set (i := 8) scDPat.nd rfl (.inl rfl) (pe_imp9 (pe_ifExp (pt_cmpR op_eq (pv 7) pe_int (nomark _)) (pv 6) (pe_op op_cat (pe_callTy call_list_of (by rfl) T.list (by decide +kernel) (pa_cons (pv 2) pa_nil)) (pe_ifExp (pt_cmpR op_lt (pe_op op_add (pe_callB call_len_seq (by rfl) T.len PySem.boot_len (pa_cons (pv 4) pa_nil)) (pv 5)) (pv 3) (nomark _)) (pv 6) (pe_lst pa_nil)))) sm_imp)) (pss_cons (ps_set (i := 9) scDPat.nd rfl (.inl rfl) (pe_call GP r2 (by rfl) D.gP D.FP.kp D.bP .nil pass0 (pa_cons (pv 0) (pa_cons (pv 8) pa_nil)))) (pss_cons (ps_expr (pe_bm PySem.F.plainAttrs_list PySem.F.slot_list_append PySem.F.type_list_append mt_append (pv 4) (pa_cons (pv 9) pa_nil))) (pss_one (ps_set (i := 5) scDPat.nd rfl (.inl rfl) (pe_op op_add (pe_op op_sub (pv 5) pe_int) (pe_dget2 (hu1 hu) (pv 1) (pv 9) pe_int ⟨by rfl, by rfl, by rfl, by rfl⟩))))))))) (pss_one (ps_ret (pe_callTy call_tuple_of (by rfl) T.tuple (by decide +kernel) (pa_cons (pv 4) pa_nil))))))), ?_⟩
    obtain ⟨ds, hd⟩ := di.there
    have few := ok.few
    refine ⟨by show 0 ≤ sizeLine; decide, fun fa nfa => ⟨_, _, rfl, ?_⟩⟩
    have s1 := Same.new nfa (o := .lst [])
    have dfa : d ≠ fa := ne_of_none hd nfa
    refine ⟨_, rfl, la, dkv l, l.map (·.1), rfl, .inl (s1 _ _ hla), keys_dkv l, by rw [List.length_map]; omega, fun ks ka pk srt nka => ?_⟩
    have s2 := s1.trans (Same.new nka (o := .lst (ks.map V.str)))
    have hf1 : (upd (upd H fa (.lst [])) ka (.lst (ks.map V.str))) fa = some (.lst []) := (Same.new nka) _ _ upd_same
    have hk1 : (upd (upd H fa (.lst [])) ka (.lst (ks.map V.str))) ka = some (.lst (ks.map V.str)) := upd_same
    have fk : fa ≠ ka := ne_of_none (upd_same (H := H) (a := fa) (o := .lst [])) nka
    have dk : d ≠ ka := ne_of_none (s1 _ _ hd) nka
    have nkaH : H ka = none := Same.free s1 nka
    generalize upd (upd H fa (.lst [])) ka (.lst (ks.map V.str)) = H1 at s2 hf1 hk1 ⊢
    have lk : ks.length = l.length := by rw [pk.length_eq, List.length_map]
    have ksn : ks ≠ [] := fun e => by
      rw [e] at lk
      have h0 : l.length = 0 := lk.symm
      omega
    have laf : la ≠ fa := ne_of_none hla nfa
    have naf : na ≠ fa := ne_of_none hna nfa
    refine ⟨20, rfl, by decide, by decide, ?_⟩
    refine for_range (lo := 0) (n := (20 : Int).toNat) (fun i σ G => ∃ (v7 v8 v9 : Option V) (ws : List Str) (o : Nat), σ = [some (.ref d), some (.ref la), some (.ref na), some (.int (cap : Int)), some (.ref fa), some (.int (o : Int)), some (.ref ka), v7, v8, v9] ∧ Kp d H G ∧
        G fa = some (.lst (ws.map V.str)) ∧ G ka = some (.lst (ks.map V.str)) ∧ ws.length = i ∧ i + o ≤ 6 ∧ (∀ zs, Wh (ar l) o zs → Wh (ar l) 1 (ws ++ zs)) ∧ (∀ z ∈ ws, z ∈ l.map (·.1) ∨ z ∈ ns) ∧ (ws ≠ [] → ∃ z r, ws = z :: r ∧ z ∈ l.map (·.1)) ∧ (i = 0 → o = 1) ∧ Dice G d (n + i))
      ⟨none, none, none, [], 1, rfl, Kp.same s2, hf1, hk1, rfl, by omega, fun zs h => h, fun z m => (nomatch m), fun h => absurd rfl h, fun _ => rfl, di.same s2⟩ ?_ ?_
    · rintro i σ G hi ⟨v7, v8, v9, ws, o, rfl, kp, hf, hk, lw, io, wh, mem, first, o1, di'⟩
      refine ⟨_, rfl, rfl, _, rfl, ?_⟩
      cases o with
      | zero =>
        refine if_true_of (decide_eq_true rfl) ⟨_, rfl, fa, _, rfl, .inl ⟨SqL.of hf, fun t nt => ?_⟩⟩
        have w1 := wh [] rfl
        rw [List.append_nil] at w1
        obtain ⟨ds', hd'⟩ := di'.there
        have td : t ≠ d := (ne_of_none hd' nt).symm
        have wne : ws ≠ [] := fun e => by
          rw [e] at w1
          have : (1 : Nat) = 0 := w1
          omega
        have i0 : i ≠ 0 := fun e => by
          rw [e] at lw
          exact wne (List.length_eq_zero_iff.mp lw)
        exact q t ws _ td (Kp.free kp td nt) (kp.trans (Kp.new nt)) upd_same w1 (by omega) (by omega) mem (first wne) ((di'.same (Same.new nt)).more (by omega) (by omega))
      | succ o =>
        refine if_false_of (decide_eq_false fun e => ?_) ?_
        · have := V.int.inj e
          omega
        refine ⟨na, fa, ka, (cap : Int), ((o + 1 : Nat) : Int), (0 + (i : Int)), ns, ws, ks, rfl, rfl, rfl, rfl, rfl, rfl, kp _ _ nad hna, hf, hk, nsf, by omega, ns0, ksn, fun sa cs G1 s3 hsa fresh cs0 lcs ccs => ?_⟩
        have di1 := di'.same s3
        obtain ⟨ds1, hd1⟩ := di'.there
        have sad : sa ≠ d := by
          rcases fresh with h | h
          · exact (ne_of_none hd1 h).symm
          · rw [h]; exact dk.symm
        refine ⟨_, rfl, _, rfl, d, sa, n + i, cs.map V.str, rfl, sad, .inl (SqL.of hsa), fun e => cs0 (List.map_eq_nil_iff.mp e), by rw [List.length_map]; omega, di1, by omega, fun v o2 mv di2 => ?_⟩
        obtain ⟨z, mz, rfl⟩ := List.mem_map.mp mv
        have k2 : Kp d G (upd G1 d o2) := (Kp.same s3).trans Kp.upd
        have hf2 := k2 _ _ dfa.symm hf
        have hk2 := k2 _ _ dk.symm hk
        have hla2 : (upd G1 d o2) la = some (.dK (dkv l)) := k2 _ _ lad (kp _ _ lad hla)
        have arz : ws.length + 1 + (o + ar l z) ≤ 6 ∧ (z ∈ l.map (·.1) ∨ z ∈ ns) ∧ (i = 0 → z ∈ l.map (·.1)) := by
          have two := ops_two ok z
          rcases ccs z mz with ⟨m, c⟩ | ⟨c, m⟩
          · have ml := pk.mem_iff.mp m
            refine ⟨?_, .inl ml, fun _ => ml⟩
            rcases c with c | c
            · have i0 : i = 0 := by omega
              have := o1 i0
              omega
            · omega
          · have nz := nsn z m
            have e : valV (dkv l) (.inr z : Key) = none := val_none nz
            refine ⟨by rw [ar_none e]; omega, .inr m, fun h => absurd (by omega) c⟩
        refine ⟨_, rfl, .inl ⟨rfl, _, SqL.of hf2⟩, _, rfl, fa, _, _, rfl, rfl, hf2, by rw [List.length_map, sizeLine_eq]; omega, ?_⟩
        have hla3 : (upd (upd G1 d o2) fa (.lst (ws.map V.str ++ [.str z]))) la = some (.dK (dkv l)) := by
          rw [upd_ne laf]
          exact hla2
        refine ⟨_, rfl, _, _, rfl, rfl, _, rfl, la, rfl, .inl ⟨_, .inl hla3⟩, _, rfl, _, DGet.k (k := .inr z) hla3, ?_⟩
        rw [ar_getD]
        refine ⟨_, _, rfl, rfl, ?_⟩
        refine ⟨some (.int (0 + (i : Int))), some (.ref sa), some (.str z), ws ++ [z], o + ar l z, ?_, fun b u nb e => ?_, by rw [upd_same, List.map_append]; rfl, ?_, by simp [lw], by omega, fun zs h => ?_, fun y m => ?_, fun _ => ?_, fun h => absurd h (by omega), (di2.kept fun u e => ?_).more (by omega) (by omega)⟩
        · have e : ((o + 1 : Nat) : Int) - 1 + (ar l z : Int) = ((o + ar l z : Nat) : Int) := by omega
          show ([some (V.ref d), some (V.ref la), some (V.ref na), some (V.int (cap : Int)), some (V.ref fa), some (V.int (((o + 1 : Nat) : Int) - 1 + (ar l z : Int))), some (V.ref ka), some (V.int (0 + (i : Int))), some (V.ref sa), some (V.str z)] : L2.St) = _
          rw [e]
        · rw [upd_ne (ne_of_none e nfa)]
          exact k2 _ _ nb (kp _ _ nb e)
        · rw [upd_ne fk.symm]
          exact hk2
        · rw [List.append_assoc]
          exact wh _ h
        · rcases List.mem_append.mp m with m | m
          · exact mem y m
          · rw [List.mem_singleton.mp m]
            exact arz.2.1
        · by_cases e : ws = []
          · subst e
            have i0 : i = 0 := lw.symm
            exact ⟨z, [], rfl, arz.2.2 i0⟩
          · obtain ⟨y, r, e1, e2⟩ := first e
            exact ⟨y, r ++ [z], by rw [e1]; rfl, e2⟩
        · rw [upd_ne dfa]
          exact e
    · rintro σ G ⟨v7, v8, v9, ws, o, rfl, kp, hf, hk, lw, io, _⟩
      have e : (20 : Int).toNat = 20 := rfl
      omega
end
end Pr
namespace Pr
open PySem PySem.Spec PyProof.Rows L2 Gd
/-! ### _law_drawn_book -/
theorem op_eqDK {X : Cx} {K : PySem.W.Frag} (h : X.K = K) (hu : X.A.units + 64 < cLine) : OpR X (compareOp .Eq) (rEqD K) := h ▸ op_eqD hu
theorem pair_snoc9 {α β : Type} {F : α → β → Prop} {a : α} {b : β} (h : F a b) : ∀ {xs : List α} {ys : List β}, Paired F xs ys → Paired F (xs ++ [a]) (ys ++ [b])
  | _, _, .nil => .cons h .nil
  | _, _, .cons k q => .cons k (pair_snoc9 h q)
def ran : List Str := ["r", "a", "n"]
def lA : List (Str × Nat) := [("c", 0), ("s", 1)]
def lB : List (Str × Nat) := [("c", 0), ("p", 2)]
def lC : List (Str × Nat) := [("c", 0), ("v", 0), ("p", 2)]
def lD : List (Str × Nat) := [("c", 0), ("s", 1), ("p", 2)]
structure DrL (l : List (Str × Nat)) : Prop where
  ok : OpsOk l
  c : Wh (ar l) 1 [("c" : Str)]
  cm : ("c" : Str) ∈ l.map (·.1)
  new : ∀ z ∈ ran, z ∉ l.map (·.1)
  four : ∀ z ∈ l.map (·.1), z ∈ (["c", "s", "p", "v"] : List Str)
theorem drA : DrL lA := ⟨opB_ok (by decide +kernel), whB_ok _ _ (by decide +kernel), by decide +kernel, by decide +kernel, by decide +kernel⟩
theorem drB : DrL lB := ⟨opB_ok (by decide +kernel), whB_ok _ _ (by decide +kernel), by decide +kernel, by decide +kernel, by decide +kernel⟩
theorem drC : DrL lC := ⟨opB_ok (by decide +kernel), whB_ok _ _ (by decide +kernel), by decide +kernel, by decide +kernel, by decide +kernel⟩
theorem drD : DrL lD := ⟨opB_ok (by decide +kernel), whB_ok _ _ (by decide +kernel), by decide +kernel, by decide +kernel, by decide +kernel⟩
theorem az_ran : ∀ z ∈ ran, azB z = true := by decide +kernel
/-- what is known of a drawn rule -/
structure DrR (l : List (Str × Nat)) (r : Rl) : Prop where
  ok : RlOk l r
  head : r.1 ∈ ran
  words : ∀ z ∈ r.2.2, z ∈ l.map (·.1) ∨ z ∈ ran
  six : r.2.2.length ≤ 6
theorem patLen_six {l : List (Str × Nat)} : ∀ {rs : List Rl}, (∀ r ∈ rs, DrR l r) → patLen rs ≤ 6 * rs.length
  | [], _ => Nat.le_refl _
  | r :: rs, h => by
    have a := (h r List.mem_cons_self).six
    have b := patLen_six (rs := rs) fun q m => h q (List.mem_cons_of_mem _ m)
    unfold patLen at b ⊢
    rw [List.map_cons, List.sum_cons, List.length_cons]
    omega
theorem drawn_ok {l : List (Str × Nat)} {rs : List Rl} (D : DrL l) (h : ∀ r ∈ rs, DrR l r) (f : rs.length ≤ 8) (nd : (rs.map fun r => (r.1, r.2.2)).Nodup) : BkOk l "r" rs ∧ patLen rs < 60 := by
  refine ⟨⟨D.ok, by decide +kernel, D.new _ (by decide +kernel), by omega, fun r m => (h r m).ok, nd, ran, by decide, fun z q => ?_⟩, by have := patLen_six h; omega⟩
  rcases q with rfl | ⟨r, m, k, n⟩
  · decide +kernel
  · rcases k with rfl | k
    · exact (h r m).head
    · exact ((h r m).words z k).resolve_left n
theorem first_ok {l : List (Str × Nat)} (D : DrL l) {p : Nat} (hp : p ≤ 9) : DrR l ("r", p, ["c"]) := by
  have c1 : azB ("r" : Str) = true := by decide +kernel
  have c2 : ("r" : Str) ∈ ran := by decide +kernel
  have c3 : ∀ z ∈ [("c" : Str)], azB z = true := by decide +kernel
  have c4 : [("c" : Str)] ≠ [("r" : Str)] := by decide +kernel
  refine ⟨⟨c1, D.new _ c2, hp, Nat.le_refl 1, Nat.le_of_ble_eq_true rfl, c3, c4, D.c⟩, c2, fun z m => .inl ?_, Nat.le_of_ble_eq_true rfl⟩
  rw [List.mem_singleton.mp m]
  exact D.cm
theorem more_ok {l : List (Str × Nat)} (D : DrL l) {h : Str} {p : Nat} {ws : List Str} (hh : h ∈ ran) (hp : p ≤ 9) (wh : Wh (ar l) 1 ws) (l1 : 1 ≤ ws.length) (l6 : ws.length ≤ 6) (mem : ∀ z ∈ ws, z ∈ l.map (·.1) ∨ z ∈ ran) (ne : ws ≠ [h]) : DrR l (h, p, ws) := by
  refine ⟨⟨az_ran h hh, D.new h hh, hp, l1, by show ws.length ≤ 7; omega, fun z m => ?_, ne, wh⟩, hh, mem, l6⟩
  rcases mem z m with k | k
  · obtain ⟨q, mq, rfl⟩ := List.mem_map.mp k
    exact D.ok.name q mq
  · exact az_ran z k
theorem one_wh {l : List (Str × Nat)} (D : DrL l) {z : Str} (m : z ∈ ran) : Wh (ar l) 1 [z] := by
  show 0 + ar l z = 0
  rw [ar_none (val_none (D.new z m))]
theorem cut_to {xs : List V} {k : Nat} : cutV xs none (some (k : Int)) = xs.take k := by
  have e1 : HT.sIx xs.length 0 none = 0 := rfl
  have e2 : HT.sIx xs.length xs.length (some (k : Int)) = min k xs.length := by
    show (if (k : Int) < 0 then ((k : Int) + (xs.length : Int)).toNat else min (k : Int).toNat xs.length) = _
    rw [if_neg (by omega), Int.toNat_natCast]
  unfold cutV
  rw [e1, e2, List.drop_zero, Nat.sub_zero]
  rcases Nat.le_total k xs.length with c | c
  · rw [Nat.min_eq_left c]
  · rw [Nat.min_eq_right c, List.take_length, List.take_of_length_le c]
theorem ps_imp9 {X : Cx} {st : Stmt} {t t' : TS} (h : PS X st t) (k : ∀ D σ H, t' D σ H → t D σ H) : PS X st t' := ⟨fun pins s σ H D I q => h.run pins s σ H D I (k D σ H q)⟩
abbrev t_ip (K : PySem.W.Frag) : TS := tIfS (tTest (tOp rEq (tCall spRoll [] E0 (tCons (tVar 0) (tCons (tC (V.int 6)) tNil))) (tC (V.int 0)))) (tAsg (tTup (tCons (tCall (spPick K) [] E0 (tCons (tVar 0) (tCons (tVar 4) tNil))) tNil)) (gName 9)) tNext
def t_ipB : TS := fun D σ H => ∃ (d na pt : Addr) (n : Nat) (ns ws : List Str), σ[0]? = some (some (.ref d)) ∧ σ[4]? = some (some (.ref na)) ∧ σ.set 9 (some (.ref pt)) = σ ∧ Dice H d n ∧ n + 2 < 1000000 ∧ na ≠ d ∧ pt ≠ d ∧ H na = some (.lst (ns.map V.str)) ∧ ns ≠ [] ∧ ns.length ≤ 10 ∧ H pt = some (.tup (ws.map V.str)) ∧
  ∀ (p : Addr) (vs : List Str) (H' : Hp), p ≠ d → (vs = ws ∨ ∃ z ∈ ns, vs = [z]) → Kp d H H' → H' p = some (.tup (vs.map V.str)) → Dice H' d (n + 2) → D.nx (σ.set 9 (some (.ref p))) H'
theorem ip_imp {K : PySem.W.Frag} : ∀ D σ H, t_ipB D σ H → t_ip K D σ H := by
  rintro D σ H ⟨d, na, pt, n, ns, ws, h0, h4, hs, di, hn, nd, pd, hna, ns0, nsf, hpt, q⟩
  refine ⟨_, h0, d, 6, n, rfl, di, by omega, by decide, by decide, fun r o r0 r6 di2 => ?_⟩
  have k1 : Kp d H (upd H d o) := Kp.upd
  refine ⟨rfl, _, rfl, ?_⟩
  by_cases c : r = 0
  · refine if_true_of (decide_eq_true (by rw [c])) ⟨_, h0, _, h4, d, na, n + 1, ns.map V.str, rfl, nd, .inl (SqL.of (k1 _ _ nd hna)), fun e => ns0 (List.map_eq_nil_iff.mp e), by rw [List.length_map]; omega, di2, by omega, fun v o2 mv di3 => ?_⟩
    obtain ⟨z, mz, rfl⟩ := List.mem_map.mp mv
    have k2 := k1.trans (Kp.upd (o := o2))
    obtain ⟨ds, hd⟩ := di3.there
    refine ⟨by show 1 ≤ sizeLine; decide, fun p np => q p [z] _ (ne_of_none hd np).symm (.inr ⟨z, mz, rfl⟩) (k2.trans (Kp.new np)) upd_same (di3.same (Same.new np))⟩
  · refine if_false_of (decide_eq_false fun e => c (V.int.inj e)) ?_
    have := q pt ws _ pd (.inl rfl) k1 (k1 _ _ pd hpt) (di2.more (by omega) (by omega))
    rw [hs] at this
    exact this
def spDBook : Sp := fun vs H Q _ => ∃ (d : Addr) (a b n : Nat), vs = [.ref d, .int (a : Int), .int (b : Int)] ∧ Dice H d n ∧ n + 400 < 1000000 ∧ 1 ≤ a ∧ a ≤ 8 ∧ 1 ≤ b ∧ b ≤ 3 ∧
  ∀ (l : List (Str × Nat)) (g : Str) (rs : List Rl) (p : Addr) (H' : Hp), Any H' p l g rs → DrL l → (∀ r ∈ rs, DrR l r) → g = "r" → 1 ≤ rs.length → rs.length ≤ a → p ≠ d → H p = none → Kp d H H' → Dice H' d (n + 400) → Q (.ref p) H'
section
variable {P : Program} {w : World} {K : PySem.W.Frag} {mg : Str → Option Value} {base : Heap} {fR fP fM fT : Addr} {dR dP dM dT : FuncData}
theorem scDBook : FnScope ["dice", "rules", "heads", "arities", "nonterminals", "found", "turn", "head", "price", "pattern", "twins", "rule"] ["dice", "rules", "heads"] (defScope sDBook) := ⟨rfl, rfl, rfl, by decide +kernel, rfl, by decide +kernel, by decide +kernel⟩
theorem ok_dbook {f : Addr} {fd : FuncData} (F : Fun K "_law_drawn_book" "_law_drawn_book" sDBook f fd) (D : Draws K mg fR fP fM dR dP dM) (T : Free mg) (FT : Fun K "_law_drawn_pattern" "_law_drawn_pattern" sDPat fT dT) (bT : Binds K dT ["dice", "arities", "nonterminals", "cap"] []) (gT : mg "_law_drawn_pattern" = some (.ref fT)) :
    FnOk P w K mg base CX0 4 f fd ["dice", "rules", "heads"] spDBook := by
  have GR : FnOk P w K mg base CX0 1 fR dR ["dice", "total"] spRoll := ok_roll D.FR T
  have GP : FnOk P w K mg base CX0 2 fP dP ["dice", "items"] (spPick K) := ok_pick D T
  have GM : FnOk P w K mg base CX0 2 fM dM ["dice", "items"] (spMixed K) := ok_mixed D T
  have GT : FnOk P w K mg base CX0 3 fT dT ["dice", "arities", "nonterminals", "cap"] spDPat := ok_dpat FT D T
  refine F.ok scDBook (fun vs H Q E h => ?_) (fun cdv A outer s H vs Q E hr h => ?_)
  · obtain ⟨d, a, b, n, rfl, _⟩ := h
    rfl
  · obtain ⟨d, a, b, n, rfl, di, hn, a1, a8, b1, b3, q⟩ := h
    have hu := hr.units
    have hu1 : ∀ {u : Nat}, u + 64 < cLine → u + 1 < cLine := fun h => by omega
    have r1 : Room 1 _ := hr.mono (by decide)
    have r2 : Room 2 _ := hr.mono (by decide)
    have r3 : Room 3 _ := hr.mono (by decide)
    refine ⟨_, (pss_cons (ps_set (i := 3) scDBook.nd rfl (.inl rfl) (pe_call GP r2 (by rfl) D.gP D.FP.kp D.bP .nil pass0 (pa_cons (pv 0) (pa_cons (pe_lst (pa_cons (pe_disp (pps_cons pe_str pe_int (pps_cons pe_str pe_int pps_nil)) (by rfl) (by rfl) (fun z => by cases z) (by decide)) (pa_cons (pe_disp (pps_cons pe_str pe_int (pps_cons pe_str pe_int pps_nil)) (by rfl) (by rfl) (fun z => by cases z) (by decide)) (pa_cons (pe_disp (pps_cons pe_str pe_int (pps_cons pe_str pe_int (pps_cons pe_str pe_int pps_nil))) (by rfl) (by rfl) (fun z => by cases z) (by decide)) (pa_cons (pe_disp (pps_cons pe_str pe_int (pps_cons pe_str pe_int (pps_cons pe_str pe_int pps_nil))) (by rfl) (by rfl) (fun z => by cases z) (by decide)) pa_nil))))) pa_nil)))) (pss_cons (ps_set (i := 4) scDBook.nd rfl (.inl rfl) (pe_slice sl_list (pe_lst (pa_cons pe_str (pa_cons pe_str (pa_cons pe_str pa_nil)))) po_none (po_some (pe_op op_add pe_int (pe_call GR r1 (by rfl) D.gR D.FR.kp D.bR .nil pass0 (pa_cons (pv 0) (pa_cons (pv 2) pa_nil))))))) (pss_cons (ps_set (i := 5) scDBook.nd rfl (.inl rfl) (pe_lst (pa_cons (pe_tup (pa_cons pe_str (pa_cons (pe_call GR r1 (by rfl) D.gR D.FR.kp D.bR .nil pass0 (pa_cons (pv 0) (pa_cons pe_int pa_nil))) (pa_cons (pe_tup (pa_cons pe_str pa_nil)) pa_nil)))) pa_nil))) (pss_cons (ps_for PassesOwn.never rfl (pi_range1 rfl T.range (pa_cons (pe_op op_sub (pv 1) pe_int) pa_nil)) (pg_name (i := 6) scDBook.nd rfl (.inl rfl)) (pss_cons (ps_asg (pe_tup (pa_cons (pe_call GP r2 (by rfl) D.gP D.FP.kp D.bP .nil pass0 (pa_cons (pv 0) (pa_cons (pe_op op_cat (pe_lst (pa_cons pe_str pa_nil)) (pv 4)) pa_nil))) (pa_cons (pe_call GP r2 (by rfl) D.gP D.FP.kp D.bP .nil pass0 (pa_cons (pv 0) (pa_cons (pe_lst (pa_cons pe_int (pa_cons pe_int (pa_cons pe_int (pa_cons pe_int (pa_cons pe_int (pa_cons pe_int pa_nil))))))) pa_nil))) pa_nil))) (pg_tup rfl (pgs_cons (pg_name (i := 7) scDBook.nd rfl (.inr rfl)) (pgs_cons (pg_name (i := 8) scDBook.nd rfl (.inl rfl)) pgs_nil)))) (pss_cons (ps_set (i := 9) scDBook.nd rfl (.inr rfl) (pe_call GT r3 (by rfl) gT FT.kp bT .nil pass0 (pa_cons (pv 0) (pa_cons (pv 3) (pa_cons (pv 4) (pa_cons (pe_op op_add pe_int (pe_call GR r1 (by rfl) D.gR D.FR.kp D.bR .nil pass0 (pa_cons (pv 0) (pa_cons pe_int pa_nil)))) pa_nil)))))) (pss_cons (ps_imp9 (ps_if (pt_cmpR op_eq (pe_call GR r1 (by rfl) D.gR D.FR.kp D.bR .nil pass0 (pa_cons (pv 0) (pa_cons pe_int pa_nil))) pe_int (nomark _)) (pss_one (ps_set (i := 9) scDBook.nd rfl (.inr rfl) (pe_tup (pa_cons (pe_call GP r2 (by rfl) D.gP D.FP.kp D.bP .nil pass0 (pa_cons (pv 0) (pa_cons (pv 4) pa_nil))) pa_nil)))) pss_nil) ip_imp) (pss_cons (ps_setLc (i := 10) (own := [("rule", 11)]) (g := gName 11) (by rfl) scDBook.nd rfl rfl (sw_true rfl rfl rfl (by decide +kernel)) (pi_list (pv 5)) (blkOk_by (own := [("rule", 11)]) (N := ["dice", "rules", "heads", "arities", "nonterminals", "found", "turn", "head", "price", "pattern", "twins", "rule"]) (sc := defScope sDBook) (by decide +kernel)) (fun _ _ _ _ _ => pg_name (i := 11) scDBook.nd rfl (.inl rfl)) (fun _ _ _ _ _ => pts_one (PW.pt (pw_and (pt_cmpR op_eq (pe_ix (ix_tupK (K := K) rfl) (pv 11) pe_int (fun _ _ => rfl)) (pv 7) (nomark _)) (pw_and1 (pt_cmpR (op_eqDK (K := K) rfl hu) (pe_ix (ix_tupK (K := K) rfl) (pv 11) pe_int (fun _ _ => rfl)) (pv 9) (nomark _)))))) (fun _ _ _ _ _ => pv 11)) (pss_one (ps_if (PW.pt (pw_and (pt_cmpR (op_neD hu) (pv 9) (pe_tup (pa_cons (pv 7) pa_nil)) (nomark _)) (pw_and1 (pt_cmpR (op_eqL hu) (pv 10) (pe_lst pa_nil) (nomark _))))) (pss_one (ps_expr (pe_bm PySem.F.plainAttrs_list PySem.F.slot_list_append PySem.F.type_list_append mt_append (pv 5) (pa_cons (pe_tup (pa_cons (pv 7) (pa_cons (pv 8) (pa_cons (pv 9) pa_nil)))) pa_nil)))) pss_nil))))))) (pss_one (ps_ret (pe_disp (pps_cons pe_str (pv 3) (pps_cons pe_str pe_str (pps_cons pe_str (pe_call GM r2 (by rfl) D.gM D.FM.kp D.bM .nil pass0 (pa_cons (pv 0) (pa_cons (pv 5) pa_nil))) pps_nil))) (by rfl) (by rfl) (fun z => by cases z) (by decide)))))))), ?_⟩
    obtain ⟨ds, hd⟩ := di.there
    -- arities
    refine ⟨_, rfl, fun p1 n1 => ⟨upd_same, dkv lA, rfl, Nat.le_of_ble_eq_true rfl, ?_⟩⟩
    rw [upd_upd, merge_all drA.ok.nd]
    have s1 := Same.new n1 (o := .dK (dkv lA))
    have e1 : (upd H p1 (.dK (dkv lA))) p1 = some (.dK (dkv lA)) := upd_same
    generalize upd H p1 (.dK (dkv lA)) = H1 at s1 e1 ⊢
    refine fun p2 n2 => ⟨upd_same, dkv lB, rfl, Nat.le_of_ble_eq_true rfl, ?_⟩
    rw [upd_upd, merge_all drB.ok.nd]
    have s2 := Same.new n2 (o := .dK (dkv lB))
    have e2 : (upd H1 p2 (.dK (dkv lB))) p2 = some (.dK (dkv lB)) := upd_same
    generalize upd H1 p2 (.dK (dkv lB)) = H2 at s2 e2 ⊢
    refine fun p3 n3 => ⟨upd_same, dkv lC, rfl, Nat.le_of_ble_eq_true rfl, ?_⟩
    rw [upd_upd, merge_all drC.ok.nd]
    have s3 := Same.new n3 (o := .dK (dkv lC))
    have e3 : (upd H2 p3 (.dK (dkv lC))) p3 = some (.dK (dkv lC)) := upd_same
    generalize upd H2 p3 (.dK (dkv lC)) = H3 at s3 e3 ⊢
    refine fun p4 n4 => ⟨upd_same, dkv lD, rfl, Nat.le_of_ble_eq_true rfl, ?_⟩
    rw [upd_upd, merge_all drD.ok.nd]
    have s4 := Same.new n4 (o := .dK (dkv lD))
    have e4 : (upd H3 p4 (.dK (dkv lD))) p4 = some (.dK (dkv lD)) := upd_same
    generalize upd H3 p4 (.dK (dkv lD)) = H4 at s4 e4 ⊢
    refine ⟨by show 4 ≤ sizeLine; decide, fun pl npl => ?_⟩
    have s5 := Same.new npl (o := .lst [V.ref p1, V.ref p2, V.ref p3, V.ref p4])
    have h5 : (upd H4 pl (.lst [V.ref p1, V.ref p2, V.ref p3, V.ref p4])) pl = some (.lst [V.ref p1, V.ref p2, V.ref p3, V.ref p4]) := upd_same
    have sall := (((s1.trans s2).trans s3).trans s4).trans s5
    have four : ∀ v ∈ [V.ref p1, V.ref p2, V.ref p3, V.ref p4], ∃ la l, v = .ref la ∧ (upd H4 pl (.lst [V.ref p1, V.ref p2, V.ref p3, V.ref p4])) la = some (.dK (dkv l)) ∧ DrL l := fun v m => by
      rcases List.mem_cons.mp m with rfl | m
      · exact ⟨p1, lA, rfl, s5 _ _ (s4 _ _ (s3 _ _ (s2 _ _ e1))), drA⟩
      rcases List.mem_cons.mp m with rfl | m
      · exact ⟨p2, lB, rfl, s5 _ _ (s4 _ _ (s3 _ _ e2)), drB⟩
      rcases List.mem_cons.mp m with rfl | m
      · exact ⟨p3, lC, rfl, s5 _ _ (s4 _ _ e3), drC⟩
      rcases List.mem_cons.mp m with rfl | m
      · exact ⟨p4, lD, rfl, s5 _ _ e4, drD⟩
      · cases m
    have hd5 := sall _ _ hd
    generalize upd H4 pl (.lst [V.ref p1, V.ref p2, V.ref p3, V.ref p4]) = H5 at s5 h5 sall four hd5 ⊢
    have pld : pl ≠ d := fun e => by
      rw [e] at npl
      rw [((((s1.trans s2).trans s3).trans s4)) _ _ hd] at npl
      cases npl
    refine ⟨d, pl, n, _, rfl, pld, .inl (SqL.of h5), by simp, Nat.le_of_ble_eq_true rfl, di.same sall, by omega, fun v o mv di1 => ?_⟩
    obtain ⟨la, l, rfl, hla, DL⟩ := four v mv
    have lad : la ≠ d := fun e => by
      rw [e, hd5] at hla
      cases hla
    have k6 : Kp d H (upd H5 d o) := (Kp.same sall).trans Kp.upd
    have hla6 : (upd H5 d o) la = some (.dK (dkv l)) := by rw [upd_ne lad]; exact hla
    generalize upd H5 d o = H6 at k6 hla6 di1 ⊢
    -- nonterminals
    refine ⟨by show 3 ≤ sizeLine; decide, fun nl nnl => ?_⟩
    have s7 := Same.new nnl (o := .lst [V.str "r", V.str "a", V.str "n"])
    have h7 : (upd H6 nl (.lst [V.str "r", V.str "a", V.str "n"])) nl = some (.lst (ran.map V.str)) := upd_same
    obtain ⟨d6, hd6⟩ := di1.there
    have nld : nl ≠ d := (ne_of_none hd6 nnl).symm
    have di2 := di1.same s7
    have k7 := k6.trans (Kp.same s7)
    have hla7 := s7 _ _ hla6
    generalize upd H6 nl (.lst [V.str "r", V.str "a", V.str "n"]) = H7 at s7 h7 di2 k7 hla7 ⊢
    have big3 : (3 : Int) < 2 ^ 400 := by decide
    refine ⟨_, rfl, _, rfl, d, (b : Int), n + 1, rfl, di2, by omega, by omega, Int.lt_of_le_of_lt (by omega) big3, fun r o r0 rb di3 => ?_⟩
    have k8 : Kp d H (upd H7 d o) := k7.trans Kp.upd
    have h8 : (upd H7 d o) nl = some (.lst (ran.map V.str)) := by rw [upd_ne nld]; exact h7
    have hla8 : (upd H7 d o) la = some (.dK (dkv l)) := by rw [upd_ne lad]; exact hla7
    generalize upd H7 d o = H8 at k8 h8 hla8 di3 ⊢
    obtain ⟨k, rfl⟩ : ∃ k : Nat, r = (k : Int) := ⟨r.toNat, by omega⟩
    refine ⟨_, _, rfl, rfl, _, rfl, nl, _, rfl, SqL.of h8, fun na nna => ?_⟩
    have ecut : cutV (ran.map V.str) none (some (1 + (k : Int))) = (ran.take (k + 1)).map V.str := by
      have e : (1 + (k : Int)) = ((k + 1 : Nat) : Int) := by omega
      rw [e, cut_to, List.map_take]
    rw [ecut]
    have s9 := Same.new nna (o := .lst ((ran.take (k + 1)).map V.str))
    have h9 : (upd H8 na (.lst ((ran.take (k + 1)).map V.str))) na = some (.lst ((ran.take (k + 1)).map V.str)) := upd_same
    obtain ⟨d8, hd8⟩ := di3.there
    have nad : na ≠ d := (ne_of_none hd8 nna).symm
    have di4 := di3.same s9
    have k9 := k8.trans (Kp.same s9)
    have hla9 := s9 _ _ hla8
    have ns0 : ran.take (k + 1) ≠ [] := by
      show ("r" : Str) :: _ ≠ []
      exact List.cons_ne_nil _ _
    have nsl : (ran.take (k + 1)).length ≤ 3 := by
      have := List.length_take_le (k + 1) ran
      have e : ran.length = 3 := rfl
      rw [List.length_take, e]
      omega
    have nsr : ∀ z ∈ ran.take (k + 1), z ∈ ran := fun z m => List.mem_of_mem_take m
    generalize ran.take (k + 1) = ns at h9 di4 k9 hla9 s9 ns0 nsl nsr ⊢
    generalize upd H8 na (.lst (ns.map V.str)) = H9 at h9 di4 k9 hla9 s9 ⊢
    -- found
    refine ⟨_, rfl, d, 3, n + 2, rfl, di4, by omega, by decide, by decide, fun r o r0 r3 di5 => ?_⟩
    have kA : Kp d H (upd H9 d o) := k9.trans Kp.upd
    have hnA : (upd H9 d o) na = some (.lst (ns.map V.str)) := by rw [upd_ne nad]; exact h9
    have hlaA : (upd H9 d o) la = some (.dK (dkv l)) := by rw [upd_ne lad]; exact hla9
    generalize upd H9 d o = HA at kA hnA hlaA di5 ⊢
    obtain ⟨q0, rfl⟩ : ∃ q0 : Nat, r = (q0 : Int) := ⟨r.toNat, by omega⟩
    refine ⟨by show 1 ≤ sizeLine; decide, fun cp ncp => ⟨by show 3 ≤ sizeLine; decide, fun rp nrp => ⟨by show 1 ≤ sizeLine; decide, fun fa nfa => ?_⟩⟩⟩
    have sB := ((Same.new ncp (o := .tup [V.str "c"])).trans (Same.new nrp (o := .tup [V.str "r", V.int (q0 : Int), V.ref cp])))
    have r0B : RuleAt (upd (upd HA cp (.tup [V.str "c"])) rp (.tup [V.str "r", V.int (q0 : Int), V.ref cp])) rp ("r", q0, ["c"]) := ⟨cp, upd_same, (Same.new nrp) _ _ upd_same⟩
    generalize upd (upd HA cp (.tup [V.str "c"])) rp (.tup [V.str "r", V.int (q0 : Int), V.ref cp]) = HB at sB r0B nfa ⊢
    have sC := Same.new nfa (o := .lst [V.ref rp])
    have hfC : (upd HB fa (.lst [V.ref rp])) fa = some (.lst ([rp].map V.ref)) := upd_same
    have diB := di5.same sB
    obtain ⟨dB, hdB⟩ := diB.there
    have fad : fa ≠ d := (ne_of_none hdB nfa).symm
    have kB := kA.trans (Kp.same sB)
    have nfaH : H fa = none := Kp.free kB fad nfa
    have di6 := diB.same sC
    have kC := kB.trans (Kp.same sC)
    have hnC := sC _ _ (sB _ _ hnA)
    have hlaC := sC _ _ (sB _ _ hlaA)
    have r0C := r0B.same sC
    generalize upd HB fa (.lst [V.ref rp]) = HC at hfC di6 kC hnC hlaC r0C ⊢
    have naf : na ≠ fa := ne_of_none (sB _ _ hnA) nfa
    have laf : la ≠ fa := ne_of_none (sB _ _ hlaA) nfa
    have dfa : d ≠ fa := fad.symm
    refine ⟨_, rfl, _, _, rfl, rfl, _, rfl, by omega, by omega, ?_⟩
    refine for_range (lo := 0) (n := ((a : Int) - 1).toNat) (fun i σ G => ∃ (v6 v7 v8 v9 v10 v11 : Option V) (rs : List Rl) (as : List Addr), σ = [some (.ref d), some (.int (a : Int)), some (.int (b : Int)), some (.ref la), some (.ref na), some (.ref fa), v6, v7, v8, v9, v10, v11] ∧ Kp d H G ∧ G la = some (.dK (dkv l)) ∧ G na = some (.lst (ns.map V.str)) ∧ G fa = some (.lst (as.map V.ref)) ∧
        Paired (fun b r => RuleAt G b r) as rs ∧ (∀ r ∈ rs, DrR l r) ∧ (rs.map fun r => (r.1, r.2.2)).Nodup ∧ (1 ≤ rs.length ∧ rs.length ≤ 1 + i) ∧ Dice G d (n + 3 + 40 * i))
      ⟨none, none, none, none, none, none, [("r", q0, ["c"])], [rp], rfl, kC, hlaC, hnC, hfC, .cons r0C .nil, fun r m => by rw [List.mem_singleton.mp m]; exact first_ok DL (by omega), by simp, ⟨Nat.le_refl 1, Nat.le_refl 1⟩, di6⟩ ?_ ?_
    · rintro i σ G hi ⟨v6, v7, v8, v9, v10, vL, rs, as, rfl, kp, hla, hna, hfa, pr, dr, nd, lrs, di'⟩
      have las : as.length = rs.length := Paired.length pr
      obtain ⟨dg, hdg⟩ := di'.there
      -- head, price
      refine ⟨_, rfl, by show 1 ≤ sizeLine; decide, fun x1 nx1 => ?_⟩
      have t1 := Same.new nx1 (o := .lst [V.str "r"])
      refine ⟨_, rfl, x1, na, _, _, rfl, rfl, upd_same, t1 _ _ hna, by rw [List.length_map, sizeLine_eq]; simp only [List.length_cons, List.length_nil]; omega, fun x2 nx2 => ?_⟩
      have t2 := t1.trans (Same.new nx2 (o := .lst ([V.str "r"] ++ ns.map V.str)))
      have hx2 : (upd (upd G x1 (.lst [V.str "r"])) x2 (.lst ([V.str "r"] ++ ns.map V.str))) x2 = some (.lst ((("r" : Str) :: ns).map V.str)) := upd_same
      generalize upd (upd G x1 (.lst [V.str "r"])) x2 (.lst ([V.str "r"] ++ ns.map V.str)) = G1 at t2 hx2 ⊢
      have x2d : x2 ≠ d := fun e => by
        have h1 := t1 _ _ hdg
        rw [e, h1] at nx2
        cases nx2
      refine ⟨d, x2, _, _, rfl, x2d, .inl (SqL.of hx2), by simp, by rw [List.length_map, List.length_cons]; omega, di'.same t2, by omega, fun v o mv dj => ?_⟩
      obtain ⟨hd_, mh, rfl⟩ := List.mem_map.mp mv
      have hh : hd_ ∈ ran := by
        rcases List.mem_cons.mp mh with e | m
        · rw [e]; exact List.mem_cons_self
        · exact nsr _ m
      have k1 : Kp d G (upd G1 d o) := (Kp.same t2).trans Kp.upd
      generalize upd G1 d o = G2 at k1 dj ⊢
      obtain ⟨d2, hd2⟩ := dj.there
      refine ⟨_, rfl, by show 6 ≤ sizeLine; decide, fun x3 nx3 => ?_⟩
      have t3 := Same.new nx3 (o := .lst [V.int 0, V.int 1, V.int 1, V.int 2, V.int 3, V.int 4])
      have x3d : x3 ≠ d := (ne_of_none hd2 nx3).symm
      refine ⟨d, x3, _, _, rfl, x3d, .inl (SqL.of upd_same), by simp, Nat.le_of_ble_eq_true rfl, dj.same t3, by omega, fun v o mv dk => ?_⟩
      obtain ⟨pc, hpc, rfl⟩ : ∃ pc : Nat, pc ≤ 9 ∧ v = .int (pc : Int) := by
        simp only [List.mem_cons, List.not_mem_nil, or_false] at mv
        rcases mv with rfl | rfl | rfl | rfl | rfl | rfl
        · exact ⟨0, by omega, rfl⟩
        · exact ⟨1, by omega, rfl⟩
        · exact ⟨1, by omega, rfl⟩
        · exact ⟨2, by omega, rfl⟩
        · exact ⟨3, by omega, rfl⟩
        · exact ⟨4, by omega, rfl⟩
      have k2 : Kp d G (upd (upd G2 x3 (.lst [V.int 0, V.int 1, V.int 1, V.int 2, V.int 3, V.int 4])) d o) := (k1.trans (Kp.same t3)).trans Kp.upd
      generalize upd (upd G2 x3 (.lst [V.int 0, V.int 1, V.int 1, V.int 2, V.int 3, V.int 4])) d o = G3 at k2 dk ⊢
      refine ⟨by show 2 ≤ sizeLine; decide, fun tp ntp => ⟨tp, _, rfl, SqT.of upd_same, rfl, _, _, rfl, _, _, rfl, rfl, ?_⟩⟩
      have t4 := Same.new ntp (o := .tup [V.str hd_, V.int (pc : Int)])
      have k3 := k2.trans (Kp.same t4)
      have dl := dk.same t4
      generalize upd G3 tp (.tup [V.str hd_, V.int (pc : Int)]) = G4 at k3 dl ⊢
      -- pattern
      refine ⟨_, rfl, _, rfl, _, rfl, _, rfl, d, 4, _, rfl, dl, by omega, by decide, by decide, fun r o r0 r4 dm => ?_⟩
      obtain ⟨rn, rfl⟩ : ∃ rn : Nat, r = (rn : Int) := ⟨r.toNat, by omega⟩
      have k4 := k3.trans (Kp.upd (d := d) (o := o))
      refine ⟨_, _, rfl, rfl, d, la, na, 2 + rn, _, l, ns, rfl, dm, by omega, lad, nad, k4 _ _ lad hla, DL.ok, k4 _ _ nad hna, ns0, by omega, fun z m => DL.new z (nsr z m), by omega, fun pt ws G5 ptd npt k5 hpt wh w1 w6 wm wf dn => ?_⟩
      have k6 := k4.trans k5
      generalize upd G4 d o = G4' at *
      -- its other form
      refine ⟨d, na, pt, _, ns, ws, rfl, rfl, rfl, dn, by omega, nad, ptd, k6 _ _ nad hna, ns0, by omega, hpt, fun p2 vs G6 p2d hv k7 hp2 do_ => ?_⟩
      have k8 := k6.trans k7
      have vfacts : Wh (ar l) 1 vs ∧ 1 ≤ vs.length ∧ vs.length ≤ 6 ∧ ∀ z ∈ vs, z ∈ l.map (·.1) ∨ z ∈ ran := by
        rcases hv with rfl | ⟨z, mz, rfl⟩
        · exact ⟨wh, w1, w6, fun z m => (wm z m).imp id (nsr z)⟩
        · exact ⟨one_wh DL (nsr z mz), Nat.le_refl 1, Nat.le_of_ble_eq_true rfl, fun y m => .inr (by rw [List.mem_singleton.mp m]; exact nsr z mz)⟩
      obtain ⟨vw, v1, v6', vm⟩ := vfacts
      have vaz : ∀ z ∈ vs, azB z = true := fun z m => by
        rcases vm z m with h | h
        · obtain ⟨q, mq, rfl⟩ := List.mem_map.mp h
          exact DL.ok.name q mq
        · exact az_ran z h
      have hfa6 := k8 _ _ fad hfa
      have ndt : ∀ {b : Addr} {xs : List V}, G b = some (.tup xs) → b ≠ d := fun {b xs} e c => by
        rw [c, hdg] at e
        cases e
      have pr6 : Paired (fun b r => RuleAt G6 b r) as rs := paired_map (fun b r ⟨t, x, y⟩ => ⟨t, k8 _ _ (ndt x) x, k8 _ _ (ndt y) y⟩) pr
      -- twins
      refine ⟨_, rfl, fa, rfl, ⟨_, SqL.of hfa6⟩, fun D nD => ?_⟩
      refine lc_list (K := K) (a := fa) (xs := as.map V.ref) (fun j G7 => ∃ tw : List Addr, G7 D = some (.lst (tw.map V.ref)) ∧ tw.length ≤ j ∧ (tw = [] ↔ ∀ r ∈ rs.take j, (r.1, r.2.2) ≠ (hd_, vs)) ∧ Same G6 G7)
        ⟨[], upd_same, Nat.le_refl _, by simp, Same.new nD⟩ (fun j G7 _ ⟨_, _, _, _, s⟩ => SqL.of (s _ _ hfa6)) ?_ ?_
      · rintro j x G7 hx ⟨tw, eD, lt, iff, s⟩
        obtain ⟨b', hb', rfl⟩ := ref_at hx
        obtain ⟨r', hr', rat⟩ := pget9 pr6 hb'
        obtain ⟨t', hbt, htt⟩ := RuleAt.same rat s
        have jl := (List.getElem?_eq_some_iff.mp hr').1
        have drr := dr r' (List.mem_of_getElem? hr')
        have step : (∀ r ∈ rs.take (j + 1), (r.1, r.2.2) ≠ (hd_, vs)) ↔ (∀ r ∈ rs.take j, (r.1, r.2.2) ≠ (hd_, vs)) ∧ (r'.1, r'.2.2) ≠ (hd_, vs) := by
          rw [List.take_add_one, hr']
          constructor
          · intro h
            exact ⟨fun r m => h r (List.mem_append_left _ m), h r' (List.mem_append_right _ (by simp))⟩
          · rintro ⟨h1, h2⟩ r m
            rcases List.mem_append.mp m with m | m
            · exact h1 r m
            · have e : r = r' := by simpa using m
              rw [e]
              exact h2
        have no : (r'.1, r'.2.2) ≠ (hd_, vs) → ∃ tw : List Addr, G7 D = some (.lst (tw.map V.ref)) ∧ tw.length ≤ j + 1 ∧ (tw = [] ↔ ∀ r ∈ rs.take (j + 1), (r.1, r.2.2) ≠ (hd_, vs)) ∧ Same G6 G7 := fun ne => ⟨tw, eD, by omega, by rw [step, iff]; exact ⟨fun h => ⟨h, ne⟩, fun h => h.1⟩, s⟩
        refine ⟨rfl, _, rfl, _, _, 0, V.str r'.1, rfl, rfl, SqT.of hbt, atI_nat (j := 0) rfl, _, rfl, rfl, _, rfl, ?_⟩
        by_cases c : r'.1 = hd_
        · refine if_true_of (decide_eq_true (by rw [c])) ⟨_, rfl, _, _, 2, V.ref t', rfl, rfl, SqT.of hbt, atI_nat (j := 2) rfl, _, rfl, ?_⟩
          refine eqTx (xs := r'.2.2) (ys := vs) (SqT.of htt) (SqT.of (s _ _ hp2)) drr.ok.names vaz ⟨_, rfl, ?_⟩
          by_cases c2 : r'.2.2 = vs
          · refine if_true_of (decide_eq_true c2) ⟨_, rfl, _, eD, by rw [List.length_map, sizeLine_eq]; omega, tw ++ [b'], by rw [upd_same, List.map_append]; rfl, by rw [List.length_append]; simp only [List.length_cons, List.length_nil]; omega, ?_, fun b o q => by rw [upd_ne (ne_of_none q nD)]; exact s b o q⟩
            rw [step]
            constructor
            · intro h
              simp at h
            · rintro ⟨_, h⟩
              exact absurd (by rw [c, c2]) h
          · exact if_false_of (decide_eq_false c2) (no fun e => c2 (congrArg Prod.snd e))
        · exact if_false_of (decide_eq_false fun e => c (V.str.inj e)) (no fun e => c (congrArg Prod.fst e))
      rintro G7 ⟨tw, eD, lt, iff, s7⟩
      have lm : (as.map V.ref).length = rs.length := by rw [List.length_map, las]
      rw [lm, List.take_length] at iff
      have k9 := k8.trans (Kp.same s7)
      have d7 := do_.same s7
      -- is it new
      refine ⟨_, rfl, _, rfl, by show 1 ≤ sizeLine; decide, fun hp nhp => ?_⟩
      have t8 := Same.new nhp (o := .tup [V.str hd_])
      refine neTx (xs := vs) (ys := [hd_]) (SqT.of (t8 _ _ (s7 _ _ hp2))) (SqT.of upd_same) vaz (fun z m => by rw [List.mem_singleton.mp m]; exact az_ran _ hh) ⟨_, rfl, ?_⟩
      have hD8 := t8 _ _ eD
      have k10 := k9.trans (Kp.same t8)
      have d8 := d7.same t8
      have hp8 := t8 _ _ (s7 _ _ hp2)
      generalize upd G7 hp (.tup [V.str hd_]) = G8 at t8 hD8 k10 d8 hp8 ⊢
      have same_ : ∀ {G9 : Hp} {m : Nat}, Kp d G G9 → Dice G9 d m → m ≤ n + 3 + 40 * (i + 1) → ∃ (v6 v7 v8 v9 v10 v11 : Option V) (rs : List Rl) (as : List Addr), [some (V.ref d), some (.int (a : Int)), some (.int (b : Int)), some (.ref la), some (.ref na), some (.ref fa), some (.int (0 + (i : Int))), some (.str hd_), some (.int (pc : Int)), some (.ref p2), some (.ref D), vL] = [some (.ref d), some (.int (a : Int)), some (.int (b : Int)), some (.ref la), some (.ref na), some (.ref fa), v6, v7, v8, v9, v10, v11] ∧ Kp d H G9 ∧ G9 la = some (.dK (dkv l)) ∧ G9 na = some (.lst (ns.map V.str)) ∧ G9 fa = some (.lst (as.map V.ref)) ∧
          Paired (fun b r => RuleAt G9 b r) as rs ∧ (∀ r ∈ rs, DrR l r) ∧ (rs.map fun r => (r.1, r.2.2)).Nodup ∧ (1 ≤ rs.length ∧ rs.length ≤ 1 + (i + 1)) ∧ Dice G9 d (n + 3 + 40 * (i + 1)) := fun {G9 m} k9 dd le => by
        refine ⟨some (.int (0 + (i : Int))), some (.str hd_), some (.int (pc : Int)), some (.ref p2), some (.ref D), vL, rs, as, rfl, kp.trans k9, k9 _ _ lad hla, k9 _ _ nad hna, k9 _ _ fad hfa, paired_map (fun b r ⟨t, x, y⟩ => ⟨t, k9 _ _ (ndt x) x, k9 _ _ (ndt y) y⟩) pr, dr, nd, ⟨lrs.1, by omega⟩, dd.more le (by omega)⟩
      by_cases c : vs = [hd_]
      · exact if_false_of (by rw [decide_eq_true c]; rfl) (if_false_of rfl (same_ k10 d8 (by omega)))
      · refine if_true_of (by rw [decide_eq_false c]; rfl) ⟨_, rfl, by show 0 ≤ sizeLine; decide, fun ep nep => ?_⟩
        have t9 := Same.new nep (o := .lst [])
        have k11 := k10.trans (Kp.same t9)
        have d9 := d8.same t9
        refine ⟨D, ep, _, _, rfl, rfl, SqL.of (t9 _ _ hD8), SqL.of upd_same, ?_⟩
        by_cases c2 : tw = []
        · have ane := iff.mp c2
          subst c2
          refine .inr ⟨rfl, fun v m => absurd m (List.not_mem_nil), _, rfl, if_true_of rfl ?_⟩
          have hf11 := k11 _ _ fad hfa
          have tyF : tyV K "list" (V.ref fa) (upd G8 ep (.lst [])) := .inl ⟨rfl, _, SqL.of hf11⟩
          refine ⟨_, rfl, tyF, _, rfl, _, rfl, _, rfl, by show 3 ≤ sizeLine; decide, fun rp2 nrp2 => ?_⟩
          have t10 := Same.new nrp2 (o := .tup [V.str hd_, V.int (pc : Int), V.ref p2])
          have k12 := k11.trans (Kp.same t10)
          have d10 := d9.same t10
          have hf12 := t10 _ _ hf11
          have hp12 := t10 _ _ (t9 _ _ hp8)
          refine ⟨fa, _, _, rfl, rfl, hf12, by rw [List.length_map, sizeLine_eq]; omega, ?_⟩
          have upT : ∀ {b : Addr} {xs : List V}, (upd (upd G8 ep (.lst [])) rp2 (.tup [V.str hd_, V.int (pc : Int), V.ref p2])) b = some (.tup xs) → (upd (upd (upd G8 ep (.lst [])) rp2 (.tup [V.str hd_, V.int (pc : Int), V.ref p2])) fa (.lst (as.map V.ref ++ [V.ref rp2]))) b = some (.tup xs) := fun {b xs} e => by
            by_cases c3 : b = fa
            · rw [c3, hf12] at e; cases e
            · rw [upd_ne c3]; exact e
          have hrp : (upd (upd G8 ep (.lst [])) rp2 (.tup [V.str hd_, V.int (pc : Int), V.ref p2])) rp2 = some (.tup [V.str hd_, V.int (pc : Int), V.ref p2]) := upd_same
          generalize upd (upd G8 ep (.lst [])) rp2 (.tup [V.str hd_, V.int (pc : Int), V.ref p2]) = GZ at t10 k12 d10 hf12 hp12 upT hrp ⊢
          refine ⟨some (.int (0 + (i : Int))), some (.str hd_), some (.int (pc : Int)), some (.ref p2), some (.ref D), vL, rs ++ [(hd_, pc, vs)], as ++ [rp2], rfl, fun b u nb e => ?_, ?_, ?_, ?_, ?_, ?_, ?_, ?_, ?_⟩
          · rw [upd_ne (fun c => by rw [c, nfaH] at e; cases e)]
            exact kp.trans k12 _ _ nb e
          · rw [upd_ne laf]
            exact k12 _ _ lad hla
          · rw [upd_ne naf]
            exact k12 _ _ nad hna
          · rw [upd_same, List.map_append]
            rfl
          · refine pair_snoc9 ⟨p2, upT hrp, upT hp12⟩ (paired_map (fun b r ⟨t, x, y⟩ => ⟨t, upT (k12 _ _ (ndt x) x), upT (k12 _ _ (ndt y) y)⟩) pr)
          · intro r m
            rcases List.mem_append.mp m with m | m
            · exact dr r m
            · rw [List.mem_singleton.mp m]
              exact more_ok DL hh hpc vw v1 v6' vm c
          · rw [List.map_append, List.nodup_append]
            refine ⟨nd, by simp, fun x mx y my e => ?_⟩
            obtain ⟨r, mr, rfl⟩ := List.mem_map.mp mx
            exact ane r mr (e.trans (List.mem_singleton.mp my))
          · rw [List.length_append]
            simp only [List.length_cons, List.length_nil]
            exact ⟨by omega, by omega⟩
          · exact (d10.more (by omega) (by omega)).kept fun u e => by rw [upd_ne dfa]; exact e
        · refine .inl ⟨by rw [List.length_map]; intro e; exact c2 (List.length_eq_zero_iff.mp e), _, rfl, if_false_of rfl (same_ k11 d9 (by omega))⟩
    · rintro σ G ⟨v6, v7, v8, v9, v10, v11, rs, as, rfl, kp, hla, hna, hfa, pr, dr, nd, lrs, di'⟩
      have ea : ((a : Int) - 1).toNat = a - 1 := by omega
      rw [ea] at lrs di'
      have las : as.length = rs.length := Paired.length pr
      obtain ⟨dg, hdg⟩ := di'.there
      refine fun p np => ?_
      have sp := Same.new np (o := .dK [])
      have pd : p ≠ d := (ne_of_none hdg np).symm
      have hp : (upd G p (.dK [])) p = some (.dK []) := upd_same
      have dip := di'.same sp
      have nH : H p = none := Kp.free kp pd np
      refine ⟨_, rfl, _, rfl, _, rfl, d, fa, _, as.map V.ref, rfl, fad, SqL.of (sp _ _ hfa), by rw [List.length_map]; omega, dip, by rw [List.length_map]; omega, fun q' ys G2 qd nq kp2 hq pm di2 => ⟨kp2 _ _ pd hp, plK la "r" q', rfl, Nat.le_of_ble_eq_true rfl, ?_⟩⟩
      rw [pl_merge]
      obtain ⟨as', pa, rfl⟩ := perm_map pm
      obtain ⟨rs', prs, pr'⟩ := paired_perm pa pr
      have pla : la ≠ p := ne_of_none hla np
      have pq : q' ≠ p := fun e => by
        rw [e, hp] at nq
        cases nq
      have keep : ∀ {b : Addr} {u : HO}, b ≠ d → G b = some u → (upd G2 p (.dK (plK la "r" q'))) b = some u := fun {b u} nb e => by
        rw [upd_ne (ne_of_none e np)]
        exact kp2 _ _ nb (sp _ _ e)
      have ndt : ∀ {b : Addr} {xs : List V}, G b = some (.tup xs) → b ≠ d := fun {b xs} e c => by
        rw [c, hdg] at e
        cases e
      have dr' : ∀ r ∈ rs', DrR l r := fun r m => dr r (prs.mem_iff.mp m)
      obtain ⟨bk, small⟩ := drawn_ok DL dr' (by rw [prs.length_eq]; omega) ((prs.map _).nodup_iff.mpr nd)
      refine q l "r" rs' p _ ⟨⟨la, q', as', upd_same, keep lad hla, by rw [upd_ne pq]; exact hq, paired_map (fun b r ⟨t, x, y⟩ => ⟨t, keep (ndt x) x, keep (ndt y) y⟩) pr'⟩, bk, small⟩ DL dr' rfl (by rw [prs.length_eq]; exact lrs.1) (by rw [prs.length_eq]; omega) pd nH ?_ ?_
      · intro b u nb e
        have e1 := kp _ _ nb e
        exact keep nb e1
      · have := di2.more (m := n + 400) (by rw [List.length_map]; omega) (by omega)
        exact this.kept fun u e => by rw [upd_ne pd.symm]; exact e
end
end Pr
namespace Ns
open PySem PySem.Spec PyProof.Rows L2
/-! ### set(xs), xs a list of tuples that are keys; ends tracked -/
theorem refs_els : ∀ {M : List El} {us : List Value}, Vals (M.map fun q => V.ref q.1) us → us = M.map fun q => Value.ref q.1
  | [], _, .nil => rfl
  | q :: M, _, .cons r t => by
    cases r
    rw [refs_els t]
    rfl
def rSetOfK (K : PySem.W.Frag) (w : World) : List V → Hp → VK → Prop := fun vs H Q => ∃ (l : Addr) (ks : List El), vs = [V.ref l] ∧ SqL K H l (ks.map fun p => V.ref p.1) ∧ (∀ p ∈ ks, ElK K H p) ∧ ks.length < 64 ∧
  ∀ (S : Addr) (L : List El), H S = none → (∀ p ∈ L, p ∈ ks) → (∀ p ∈ ks, p.2 ∈ L.map (·.2)) → (L.map (·.2)).Nodup → Q (.ref S) (upd H S (SetO w S L))
section
variable {X : Cx}
theorem cr_setOfK (hc : X.calm = true) (hu : X.A.units + 64 < cLine) : CallR X (.type "set") (rSetOfK X.K X.w) := by
  intro pins s σ H xs us Q I r h
  obtain ⟨l, M, rfl, hl, hk, hf, q⟩ := h
  rw [Vals.ref1 r]
  obtain ⟨its, rv, pl, hz⟩ := I.list hl
  have hn : H s.heap.objs.size = none := I.hok.fresh (Nat.le_refl _)
  refine call_set_els (P := X.prog) (w := X.w) M (I.ok.hd hc) pl.isList (by simpa using refs_els rv) (fun p hp => (hk p hp).tk I) hf (by omega) fun h' tk L o es ep t R g k => ?_
  refine ⟨.ref s.heap.objs.size, upd H s.heap.objs.size (SetO X.w s.heap.objs.size L), I.laid (t' := tk) k (Nat.le_refl _) (setO_new R.set0), rfl, q _ L hn (fun p hp => List.mem_of_mem_take (g.sub p hp)) (fun p hp => g.all p (by rw [List.take_length]; exact hp)) R.nd⟩
end
/-- tuples stay where only a list changes -/
theorem sqT_lst {K : PySem.W.Frag} {H : Hp} {D a : Addr} {o : HO} {ys xs : List V} (hD : H D = some (.lst ys)) (h : SqT K H a xs) : SqT K (upd H D o) a xs := by
  rcases h with h | h
  · have ne : a ≠ D := fun e => by
      rw [e] at h
      rcases h with h | ⟨_, h⟩ <;> (rw [hD] at h; cases h)
    rcases h with h | ⟨od, h⟩
    · exact .inl (.inl (by rw [upd_ne ne]; exact h))
    · exact .inl (.inr ⟨od, by rw [upd_ne ne]; exact h⟩)
  · exact .inr h
theorem elK_lst {K : PySem.W.Frag} {H : Hp} {D : Addr} {ys : List V} {o : HO} {p : El} (hD : H D = some (.lst ys)) (h : ElK K H p) : ElK K (upd H D o) p := ⟨KV.up (fun _ _ q => sqT_lst hD q) h.1, h.2⟩
end Ns
namespace Pr
open PySem PySem.Spec PyProof.Rows L2 Gd Ns
/-! ### _law_is_plain -/
def spLPlainG : Sp := fun vs H Q _ => ∃ (gv rv : V) (D : List Str) (d : Addr) (l : List (Str × Nat)), vs = [.ref d, gv, rv] ∧ D.length ≤ 60 ∧ Jv D H 1 gv ∧ Jv D H 3 rv ∧ H d = some (.dK (dkv l)) ∧ OpsOk l ∧ ∀ b H', Same H H' → (b = true ↔ BookV H l gv rv) → Q (.bl b) H'
theorem el_rule {K : PySem.W.Frag} {H : Hp} {e t : Addr} {r : Rl} (h : SqT K H e [.str r.1, .ref t]) (ht : SqT K H t (r.2.2.map V.str)) : ElK K H (e, keyR r) := by
  refine ⟨.tup h (.cons (.text _) (.cons (.tup ht (kvs_words _)) .nil)), ?_⟩
  show NestedKey.depthAll [.text r.1, .tup (r.2.2.map .text)] + 1 ≤ 8
  have e1 := depth_words r.2.2
  have e2 : NestedKey.depthAll [.text r.1, .tup (r.2.2.map .text)] = max 0 (max (NestedKey.depthAll (r.2.2.map .text) + 1) 0) := rfl
  rw [e2]
  omega
section
variable {P : Program} {w : World} {K : PySem.W.Frag} {mg : Str → Option Value} {base : Heap} {fW fR fT : Addr} {dW dR dT : FuncData}
theorem scLPlain : FnScope ["arities", "goal", "rules", "rule"] ["arities", "goal", "rules"] (defScope sLIsPlain) := ⟨rfl, rfl, rfl, by decide +kernel, rfl, by decide +kernel, by decide +kernel⟩
theorem ok_lplain {f : Addr} {fd : FuncData} (F : Fun K "_law_is_plain" "_law_is_plain" sLIsPlain f fd) (T : Free mg) (GW : FnOk P w K mg base CX0 1 fW dW ["value"] spLWord) (bW : Binds K dW ["value"] []) (gW : mg "_law_is_word" = some (.ref fW)) (kW : PySem.W.keepIn K (.ref fW) = true)
    (GR : FnOk P w K mg base CX0 2 fR dR ["arities", "value"] spLRuleG) (bR : Binds K dR ["arities", "value"] []) (gR : mg "_law_is_rule" = some (.ref fR)) (kR : PySem.W.keepIn K (.ref fR) = true)
    (GT : FnOk P w K mg base CX0 1 fT dT ["plain"] spLNontsG) (bT : Binds K dT ["plain"] []) (gT : mg "_law_nonterminals" = some (.ref fT)) (kT : PySem.W.keepIn K (.ref fT) = true) : FnOk P w K mg base CX0 3 f fd ["arities", "goal", "rules"] spLPlainG := by
  refine F.ok scLPlain (fun vs H Q E h => ?_) (fun cdv A outer s H vs Q E hr h => ?_)
  · obtain ⟨gv, rv, D, d, l, rfl, _⟩ := h
    rfl
  · obtain ⟨gv, rv, D0, d, l, rfl, hD0, jg, jr, hd, oo, q⟩ := h
    have hu := hr.units
    have hu1 : ∀ {u : Nat}, u + 64 < cLine → u + 1 < cLine := fun h => by omega
    have r1 : Room 1 _ := hr.mono (by decide)
    refine ⟨_, (pss_cons (ps_if (PW.pt (pw_or (pt_not (pt_val (pe_call GW r1 (by rfl) gW kW bW .nil pass0 (pa_cons (pv 1) pa_nil)))) (pw_or (pt_cmp (pc_din (hu1 hu) (pv 1) (pv 0))) (pw_or (pt_not (pt_val (pe_callB call_isi (by rfl) T.isi (by decide +kernel) (pa_cons (pv 2) (pa_cons (pe_bltn (v := .ty "tuple") (by rfl) T.tuple (by decide +kernel) rfl) pa_nil))))) (pw_or1 (pt_cmpR op_gt (pe_callB call_len_seq (by rfl) T.len PySem.boot_len (pa_cons (pv 2) pa_nil)) pe_int (nomark _))))))) (pss_one (ps_ret pe_bl)) pss_nil) (pss_cons (ps_if (pt_cmpR (op_neL hu) (pe_lc (own := [("rule", 3)]) (g := gName 3) (by rfl) scLPlain.nd (pi_tup (pv 2)) (blkOk_by (own := [("rule", 3)]) (N := ["arities", "goal", "rules", "rule"]) (sc := defScope sLIsPlain) (by decide +kernel)) (fun _ _ _ _ _ => pg_name (i := 3) scLPlain.nd rfl (.inl rfl)) (fun _ _ _ _ _ => pts_one (pt_not (pt_val (pe_call GR hr (by rfl) gR kR bR .nil pass0 (pa_cons (pv 0) (pa_cons (pv 3) pa_nil)))))) (fun _ _ _ _ _ => pv 3)) (pe_lst pa_nil) (nomark _)) (pss_one (ps_ret pe_bl)) pss_nil) (pss_cons (ps_if (pt_cmpR op_ne (pe_callB Ns.cr_lenSet (by rfl) T.len PySem.boot_len (pa_cons (pe_callTy (Ns.cr_setOfK (by rfl) hu) (by rfl) T.set (by decide +kernel) (pa_cons (pe_lc (own := [("rule", 3)]) (g := gName 3) (by rfl) scLPlain.nd (pi_tup (pv 2)) (blkOk_by (own := [("rule", 3)]) (N := ["arities", "goal", "rules", "rule"]) (sc := defScope sLIsPlain) (by decide +kernel)) (fun _ _ _ _ _ => pg_name (i := 3) scLPlain.nd rfl (.inl rfl)) (fun _ _ _ _ _ => pts_nil) (fun _ _ _ _ _ => pe_tup (pa_cons (pe_ix (ix_tupK (K := K) rfl) (pv 3) pe_int (fun _ _ => rfl)) (pa_cons (pe_ix (ix_tupK (K := K) rfl) (pv 3) pe_int (fun _ _ => rfl)) pa_nil)))) pa_nil)) pa_nil)) (pe_callB call_len_seq (by rfl) T.len PySem.boot_len (pa_cons (pv 2) pa_nil)) (nomark _)) (pss_one (ps_ret pe_bl)) pss_nil) (pss_one (ps_ret (pe_cmpR op_lt (pe_callB call_len_seq (by rfl) T.len PySem.boot_len (pa_cons (pe_call GT r1 (by rfl) gT kT bT .nil pass0 (pa_cons (pe_disp (pps_cons pe_str (pv 0) (pps_cons pe_str (pv 1) (pps_cons pe_str (pe_callTy call_list_of (by rfl) T.list (by decide +kernel) (pa_cons (pv 2) pa_nil)) pps_nil))) (by rfl) (by rfl) (fun z => by cases z) (by decide)) pa_nil)) pa_nil)) pe_int (nomark _))))))), ?_⟩
    have no : ¬ BookV H l gv rv → ∀ H', Same H H' → Q (.bl false) H' := fun n H' s => q false H' s ⟨fun e => (nomatch e), fun h => (n h).elim⟩
    obtain ⟨tg, kg⟩ := jg.kd
    refine ⟨_, rfl, gv, tg, rfl, kg, fun y e => Nat.le_trans (jg.str_ y e) (by decide), fun H1 s1 => ⟨_, rfl, ?_⟩⟩
    cases c0 : nameB gv with
    | false =>
      refine if_true_of rfl (no (fun ⟨g, rs, e, _, ok⟩ => ?_) H1 s1)
      rw [e, show nameB (.str g) = azB g from rfl, ok.goal] at c0
      cases c0
    | true => ?_
    obtain ⟨g, rfl, gok⟩ : ∃ h, gv = .str h ∧ azB h = true := by
      cases gv with
      | str z => exact ⟨z, rfl, c0⟩
      | _ => cases c0
    refine if_false_of rfl ?_
    have hd1 := s1 _ _ hd
    refine ⟨_, rfl, _, rfl, d, _, rfl, DGet.k (k := .inr g) hd1, _, rfl, ?_⟩
    cases cn : (valV (dkv l) (.inr g : Key)).isSome with
    | true =>
      refine if_true_of rfl (no (fun ⟨g', rs, e, _, ok⟩ => ?_) H1 s1)
      cases e
      exact ok.gnew (val_mem_iff.mp cn)
    | false => ?_
    have gnew : g ∉ l.map (·.1) := fun m => by
      rw [val_mem_iff.mpr m] at cn
      cases cn
    refine if_false_of rfl ?_
    obtain ⟨tr, kr⟩ := jr.kd
    have kr1 := kr.same s1
    rcases kr.split with ne | ⟨rfl, ra, xs, rfl, hra⟩
    · refine ⟨_, rfl, rv, _, _, _, _, rfl, .ty "tuple", kr1.ty, kit_tupB kr1, _, rfl, ?_⟩
      rw [beq_eq_false_iff_ne.mpr ne]
      refine if_true_of rfl (no (fun ⟨g', rs, _, ⟨a, e, hh⟩, _⟩ => ?_) H1 s1)
      obtain ⟨as, h1, _⟩ := hh.ex
      exact kr.no_tup ne e h1
    have hra1 := s1 _ _ hra
    refine ⟨_, rfl, .ref ra, _, _, _, true, rfl, .ty "tuple", tyR (.inl hra1), kit_ty (r := true) (by decide +kernel), _, rfl, if_false_of rfl ?_⟩
    refine ⟨_, rfl, ra, _, rfl, .inr (SqT.of hra1), _, _, rfl, rfl, _, rfl, ?_⟩
    -- what the items of a book are
    have inv : BookV H l (.str g) (.ref ra) → xs.length ≤ 12 ∧ ∀ x ∈ xs, RuleV H l x := fun ⟨g', rs, _, ⟨a, e, hh⟩, ok⟩ => by
      cases e
      obtain ⟨as, h1, p⟩ := hh.ex
      have e1 := tup_one hra h1
      have la : as.length = rs.length := Paired.length p
      refine ⟨by rw [e1, List.length_map, la]; exact ok.few, fun x m => ?_⟩
      rw [e1] at m
      obtain ⟨b, mb, rfl⟩ := List.mem_map.mp m
      obtain ⟨i, hi⟩ := List.mem_iff_getElem?.mp mb
      obtain ⟨r, hr', k⟩ := pget9 p hi
      exact ⟨r, ⟨b, rfl, k⟩, ok.rules r (List.mem_of_getElem? hr')⟩
    by_cases few : xs.length ≤ 12
    case neg => exact if_true_of (decide_eq_true (by omega)) (no (fun h => few (inv h).1) H1 s1)
    refine if_false_of (decide_eq_false (by omega)) ?_
    -- all rules
    refine ⟨_, rfl, ra, rfl, ⟨_, SqT.of hra1⟩, fun D nD => ?_⟩
    refine lc_tup (K := K) (a := ra) (xs := xs) (fun i G => ∃ acc : List V, G D = some (.lst acc) ∧ acc.length ≤ i ∧ (acc = [] ↔ ∀ x ∈ xs.take i, RuleV H l x) ∧ Same H1 G) ⟨[], upd_same, Nat.le_refl _, ⟨fun _ x m => (nomatch m), fun _ => rfl⟩, Same.new nD⟩ (fun i G _ ⟨_, _, _, _, s⟩ => SqT.of (s _ _ hra1)) ?_ ?_
    · rintro i x G hx ⟨acc, eD, la, ib, s⟩
      have jx := (jr.items hra).2 x (List.mem_of_getElem? hx)
      have lt := (List.getElem?_eq_some_iff.mp hx).1
      have sG := s1.trans s
      have step : (∀ y ∈ xs.take (i + 1), RuleV H l y) ↔ (∀ y ∈ xs.take i, RuleV H l y) ∧ RuleV H l x := by
        rw [List.take_add_one, hx]
        constructor
        · exact fun h => ⟨fun y m => h y (List.mem_append_left _ m), h x (List.mem_append_right _ (by simp))⟩
        · rintro ⟨h1, h2⟩ y m
          rcases List.mem_append.mp m with m | m
          · exact h1 y m
          · have e : y = x := by simpa using m
            rw [e]
            exact h2
      refine ⟨rfl, _, rfl, _, rfl, x, D0, d, l, rfl, jx.same sG, sG _ _ hd, oo, fun b G' s' hb => ⟨_, rfl, ?_⟩⟩
      have hb2 : b = true ↔ RuleV H l x := by
        rw [hb]
        constructor
        · rintro ⟨r, h1, h2⟩
          exact ⟨r, RuleAt.back jx sG h1, h2⟩
        · rintro ⟨r, h1, h2⟩
          exact ⟨r, h1.same sG, h2⟩
      cases b with
      | true =>
        refine if_false_of rfl ⟨acc, s' _ _ eD, by omega, ?_, s.trans s'⟩
        rw [step, ib]
        exact ⟨fun h => ⟨h, hb2.mp rfl⟩, fun h => h.1⟩
      | false =>
        refine if_true_of rfl ⟨_, rfl, _, s' _ _ eD, small1000 (by omega), acc ++ [x], upd_same, by rw [List.length_append, List.length_singleton]; omega, ?_, fun b o q => by rw [upd_ne (ne_of_none q nD)]; exact s' _ _ (s b o q)⟩
        rw [step]
        exact ⟨fun h => absurd h (by simp), fun h => absurd (hb2.mpr h.2) Bool.false_ne_true⟩
    rintro G ⟨acc, eD, la, ib, s2⟩
    rw [List.take_length] at ib
    refine ⟨by decide, fun p np => ?_⟩
    have sp := Same.new np (o := .lst [])
    have eD' := sp _ _ eD
    have s3 := (s1.trans s2).trans sp
    have hp : (upd G p (.lst [])) p = some (.lst []) := upd_same
    generalize upd G p (.lst []) = H3 at eD' s3 hp ⊢
    by_cases nn : acc = []
    case neg => exact ⟨D, p, _, _, rfl, rfl, SqL.of eD', SqL.of hp, .inl ⟨fun e => nn (List.eq_nil_of_length_eq_zero e), _, rfl, if_true_of rfl (no (fun hh => nn (ib.mpr (inv hh).2)) H3 s3)⟩⟩
    refine ⟨D, p, _, _, rfl, rfl, SqL.of eD', SqL.of hp, .inr ⟨nn, (fun v m => by rw [nn] at m; cases m), _, rfl, if_false_of rfl ?_⟩⟩
    obtain ⟨as, rs, rfl, pr, rok⟩ := rules_of_all (ib.mp nn)
    have las : as.length = rs.length := Paired.length pr
    have lm : (as.map V.ref).length = rs.length := by rw [List.length_map, las]
    rw [lm] at few
    have hraH : RulesAt H ra rs := ⟨as, hra, pr⟩
    have iff1 : BookV H l (.str g) (.ref ra) ↔ BkOk l g rs := BookV.iff hraH
    have nt : NtOk l rs := ⟨few, rok, Jv.rules_few hD0 jr hra pr rok⟩
    have hra3 := s3 _ _ hra
    -- heads with their patterns
    refine ⟨_, rfl, ra, rfl, ⟨_, SqT.of hra3⟩, fun D2 nD2 => ?_⟩
    refine lc_tup (K := K) (a := ra) (xs := as.map V.ref) (fun i G => ∃ ks : List El, G D2 = some (.lst (ks.map fun p => V.ref p.1)) ∧ ks.map (·.2) = (rs.take i).map keyR ∧ (∀ p ∈ ks, ElK K G p) ∧ Same H3 G) ⟨[], upd_same, rfl, fun p m => (nomatch m), Same.new nD2⟩ (fun i G _ ⟨_, _, _, _, s⟩ => SqT.of (s _ _ hra3)) ?_ ?_
    · rintro i x G hx ⟨ks, eD2, ek, els, s⟩
      obtain ⟨b, hb, rfl⟩ := ref_at hx
      obtain ⟨r, hr', rat⟩ := pget9 pr hb
      have hi := (List.getElem?_eq_some_iff.mp hr').1
      have lk : ks.length = i := by
        have e := congrArg List.length ek
        rw [List.length_map, List.length_map, List.length_take] at e
        omega
      obtain ⟨t, hbt, htt⟩ := rat.same (s3.trans s)
      refine ⟨rfl, _, rfl, b, _, 0, _, rfl, rfl, SqT.of hbt, rfl, _, rfl, b, _, 2, _, rfl, rfl, SqT.of hbt, rfl, by show 2 ≤ sizeLine; decide, fun e ne => ?_⟩
      have se := Same.new ne (o := .tup [.str r.1, .ref t])
      have eD3 := se _ _ eD2
      refine ⟨_, eD3, by rw [List.length_map, sizeLine_eq]; omega, ks ++ [(e, keyR r)], by rw [upd_same, List.map_append]; rfl, ?_, fun p m => elK_lst eD3 ?_, fun c u hc => ?_⟩
      · rw [List.map_append, ek, List.take_add_one, hr', List.map_append]
        rfl
      · rcases List.mem_append.mp m with m | m
        · exact elK_same se (els p m)
        · rw [List.mem_singleton.mp m]
          exact el_rule (SqT.of upd_same) (SqT.of (se _ _ htt))
      · rw [upd_ne (ne_of_none hc nD2)]
        exact se _ _ (s _ _ hc)
    rintro G2 ⟨ks, eD2, ek, els, s4⟩
    rw [lm, List.take_length] at ek
    have lk : ks.length = rs.length := by
      have e := congrArg List.length ek
      rwa [List.length_map, List.length_map] at e
    refine ⟨D2, ks, rfl, SqL.of eD2, els, by omega, fun S L nS sub all nd => ?_⟩
    have s5 := (s3.trans s4).trans (Same.new nS (o := SetO w S L))
    have hS : (upd G2 S (SetO w S L)) S = some (SetO w S L) := upd_same
    have mem : ∀ k, k ∈ L.map (·.2) ↔ k ∈ rs.map keyR := fun k => by
      rw [← ek]
      constructor
      · intro h
        obtain ⟨p, mp, e⟩ := List.mem_map.mp h
        exact List.mem_map.mpr ⟨p, sub p mp, e⟩
      · intro h
        obtain ⟨p, mp, e⟩ := List.mem_map.mp h
        rw [← e]
        exact all p mp
    have key := nodup_len nd mem
    rw [List.length_map, List.length_map, keyR_nd] at key
    have le : L.length ≤ rs.length := by
      have := nodup_fewA nd fun k m => (mem k).mp m
      rwa [List.length_map, List.length_map] at this
    have hra5 := s5 _ _ hra
    refine ⟨S, L, rfl, hS, _, rfl, ra, _, rfl, .inr (SqT.of hra5), rfl, _, rfl, ?_⟩
    by_cases dbl : L.length < rs.length
    · refine if_true_of ?_ (no (fun h => key.mp dbl (iff1.mp h).nd) _ s5)
      rw [decide_eq_false fun e => by have := V.int.inj e; rw [lm] at this; omega]
      rfl
    refine if_false_of ?_ ?_
    · rw [decide_eq_true (by rw [lm, show L.length = rs.length by omega])]
      rfl
    have ndk : (rs.map fun r => (r.1, r.2.2)).Nodup := Decidable.not_not.mp fun n => dbl (key.mpr n)
    refine fun p2 np2 => ?_
    have n2 := Same.new np2 (o := .dK [])
    have s6 := s5.trans n2
    have hp2 : (upd (upd G2 S (SetO w S L)) p2 (.dK [])) p2 = some (.dK []) := upd_same
    refine ⟨_, rfl, _, rfl, _, rfl, ra, _, rfl, .inr (SqT.of (s6 _ _ hra)), fun l2 nl2 => ⟨(Same.new nl2) _ _ hp2, plK d g l2, rfl, Nat.le_of_ble_eq_true rfl, ?_⟩⟩
    rw [pl_merge]
    have n3 := Same.new nl2 (o := .lst (as.map V.ref))
    have l2p : l2 ≠ p2 := fun e => by
      rw [e] at nl2
      cases (hp2.symm.trans nl2)
    have np3 : H p2 = none := Same.free s5 np2
    have s8 : Same H (upd (upd (upd (upd G2 S (SetO w S L)) p2 (.dK [])) l2 (.lst (as.map V.ref))) p2 (.dK (plK d g l2))) := fun b o e => by
      rw [upd_ne (ne_of_none e np3)]
      exact n3 _ _ (s6 _ _ e)
    have hl2 : (upd (upd (upd (upd G2 S (SetO w S L)) p2 (.dK [])) l2 (.lst (as.map V.ref))) p2 (.dK (plK d g l2))) l2 = some (.lst (as.map V.ref)) := by
      rw [upd_ne l2p]
      exact upd_same
    refine ⟨p2, l, g, rs, rfl, ⟨d, l2, as, upd_same, s8 _ _ hd, hl2, paired_map (fun _ _ k => k.same s8) pr⟩, nt, fun ys yp H9 srt ndy memy nyp s9 hyp => ?_⟩
    refine ⟨yp, _, rfl, .inl (SqL.of hyp), _, _, rfl, rfl, ?_⟩
    refine q _ H9 (s8.trans s9) ?_
    rw [decide_eq_true_eq, List.length_map, iff1]
    constructor
    · intro h
      exact ⟨oo, gok, gnew, few, rok, ndk, ys, by omega, fun z hz => (memy z).mpr hz⟩
    · intro ok
      obtain ⟨D6, hD6, inD⟩ := ok.six
      have lys : ys.length ≤ 6 := Nat.le_trans (nodup_few ndy fun x m => inD x ((memy x).mp m)) hD6
      omega
end
end Pr
namespace Pr
open PySem PySem.Spec PyProof.Rows L2 Gd
/-! ### a class's own maker called in a try; a try with two clauses, the first one with a name -/
section
variable {X : Cx} {CX : CXT} {k : Nat} {C p g : Addr} {mc : Value} {sp : Sp} {E : L2.St → XK} {o e : Expr} {es : List Expr} {m : Str} {pos apos : Pos} {ta : TE} {t : TA} {pl : Sem Bool}
theorem run_fnRS {pins : List (Addr × Obj)} {σ : L2.St} {H : Hp} {s : Shared} {f : Addr} {Q : VK} {us : List Value} {vs : List V} (F : FnR X.prog X.w X.K X.mg X.base CX k f sp) (hr : Room k X.A) (hx : PassesAt CX X σ (E σ)) (I : Inv X pins σ H s) (r : Vals vs us) (h : sp vs H Q (E σ)) :
    codeAny (model X.prog X.w) X.A (.call (.ref f) ⟨us, []⟩) (fun r s' => match r with | .ok (.ret v) => EP X pins σ Q v s' | .ok _ => False | .error e => X.xe e s') s := by
  refine codeAny_mono (F X.A X.stack s H us vs Q (E σ) hr I.env0 r h) fun r s' hq => ?_
  cases r with
  | error e => exact hx pins H s e s' I hq
  | ok fl =>
    cases fl with
    | ret u => exact I.after hq
    | next => exact False.elim hq
    | brk => exact False.elim hq
    | cont => exact False.elim hq
theorem run_cmS {pins : List (Addr × Obj)} {σ : L2.St} {H : Hp} {s : Shared} {q : Addr} {Q : VK} {us : List Value} {vs : List V} (F : FnR X.prog X.w X.K X.mg X.base CX k g sp) (hr : Room k X.A) (hx : PassesAt CX X σ (E σ)) (I : Inv X ((q, PySem.W.methodObj (.ref g) (.ref C)) :: pins) σ H s)
    (r : Vals vs us) (h : sp (.ref C :: vs) H Q (E σ)) : wpAny (model X.prog X.w) X.A (call (.ref q) us) (EP X pins σ Q) X.xe s := by
  have z : wpAny (model X.prog X.w) X.A (call (.ref q) us) (EP X ((q, PySem.W.methodObj (.ref g) (.ref C)) :: pins) σ Q) X.xe s :=
    wpAny_call (PySem.W.method_call (ClX.pin_at I) (run_fnRS (us := .ref C :: us) (vs := .ref C :: vs) F hr hx I (.cons rfl r) h))
  exact thn z fun _ _ y => ClX.unpinE y
def tCMethS (C : Addr) (sp : Sp) (E : L2.St → XK) (ta : TE) (t : TA) : TE := fun σ H Q => ta σ H fun x H1 => x = .ref C ∧ t σ H1 fun vs H2 => sp (.ref C :: vs) H2 Q (E σ)
theorem pe_cmethS (he : PE X o ta) (r : ClX.CRead X.K C mc) (c : ClX.CMet X.K C mc m p g) (F : FnR X.prog X.w X.K X.mg X.base CX k g sp) (hr : Room k X.A) (hx : ∀ σ, PassesAt CX X σ (E σ)) (ha : PA X (e :: es) t)
    (hst : starEach (e :: es) X.env = (false, eval e X.env) :: starEach es X.env := by rfl) (hpl : (backTo pos (starEach es X.env)).any (·.1) = false := by rfl)
    (ht : eval (.Call (.Attribute o m apos) (e :: es) [] pos) X.env = (do
      let ov ← eval o X.env
      standAt apos.atName
      let (f, first) ← holding [ov] (getMethod ov m pl)
      callWith pos f first (backTo pos (starEach (e :: es) X.env)) (backToKw pos (keywordEach [] X.env))) := by rfl) :
    PE X (.Call (.Attribute o m apos) (e :: es) [] pos) (tCMethS C sp E ta t) := by
  refine ⟨fun pins s σ H Q I h => ?_⟩
  refine PySem.W.methodCall_KW (pl := pl) (thn (he.run pins s σ H _ I h) fun u s1 ⟨x, H1, I1, rx, ex, q⟩ => ?_) ht
  subst ex
  obtain rfl : u = Value.ref C := rx
  refine ClX.getmethcm_ok I1 r c fun s2 I2 => ?_
  refine ClX.callwith_cm I2 (ClX.base_none I1 (Nat.le_refl _)) c.fi (thn (ha.run pos _ s2 σ H1 _ I2 q) fun us s3 ⟨vs, H2, I3, rv, q2⟩ => ⟨⟨ClX.pin_at I3, I3.kIn⟩, ?_⟩) hst hpl
  exact run_cmS F hr (hx σ) I3 rv q2
theorem pe_cmethS0 (he : PE X o ta) (r : ClX.CRead X.K C mc) (c : ClX.CMet X.K C mc m p g) (F : FnR X.prog X.w X.K X.mg X.base CX k g sp) (hr : Room k X.A) (hx : ∀ σ, PassesAt CX X σ (E σ))
    (ht : eval (.Call (.Attribute o m apos) [] [] pos) X.env = (do
      let ov ← eval o X.env
      standAt apos.atName
      let (f, first) ← holding [ov] (getMethod ov m pl)
      callWith pos f first (backTo pos (starEach [] X.env)) (backToKw pos (keywordEach [] X.env))) := by rfl) :
    PE X (.Call (.Attribute o m apos) [] [] pos) (tCMethS C sp E ta tNil) := by
  refine ⟨fun pins s σ H Q I h => ?_⟩
  refine PySem.W.methodCall_KW (pl := pl) (thn (he.run pins s σ H _ I h) fun u s1 ⟨x, H1, I1, rx, ex, q⟩ => ?_) ht
  subst ex
  obtain rfl : u = Value.ref C := rx
  refine ClX.getmethcm_ok I1 r c fun s2 I2 => ?_
  refine PySem.W.callWith_M0 ⟨ClX.pin_at I2, I2.kIn⟩ c.fi ?_
  exact run_cmS F hr (hx σ) I2 .nil q
end
/-- what 'except x as n', then 'except y', wish of an exception of the body -/
def wTwo (K : PySem.W.Frag) (c : Value) (i : Nat) (ts : Addr → Value → Option Addr → TS) (Wout : WX) (l : List (Value × (Addr → Value → Option Addr → TS))) (D : Ends) : WX := fun cls d σ H =>
  ∃ b, PySem.W.exmOne K cls c = some b ∧ (b = true → ∀ a, H a = none → ts a cls d { nx := fun σ' H' => D.nx (σ'.set i none) H', rt := D.rt, bk := fun σ' H' => D.bk (σ'.set i none) H', ct := fun σ' H' => D.ct (σ'.set i none) H' } (σ.set i (some (.ref a))) H) ∧
    (b = false → wMany K Wout D l cls d σ H)
section
variable {X : Cx} {x n : Str} {c : Value} {i : Nat} {body suite : List Stmt} {b₀ : Stmt} {np pos pos' : Pos} {tb : WX → TS} {ts : Addr → Value → Option Addr → TS} {Wout : WX} {hds : List ExceptHandler} {l : List (Value × (Addr → Value → Option Addr → TS))}
theorem names_ld {S : Cx} {sx : Shared} {pinsS : List (Addr × Obj)} {σS : L2.St} {HS : Hp} {y : Str} {cy : Value} {yp : Pos} {Q : Value → Shared → Prop} {E : Value → Shared → Prop} (S3 : Inv S pinsS σS HS sx) (hc : Names S y cy) (q : Q cy sx) : wpAny (model S.prog S.w) S.A (eval (.Name y yp) S.env) Q E sx := by
  obtain ⟨hg, hdbg, hm | ⟨hm, hv, hnn⟩⟩ := hc
  · exact ld_glob S3 hg hm q hdbg
  · exact ld_blt S3 hg hm hv q hnn hdbg
theorem ps_try_two (hs : X.stack = X.env :: X.outer) (hf : X.env.frame = some X.env.locals) (hN : X.N.Nodup) (hi : X.N[i]? = some n) (hln : X.env.kindOf n = some .local) (hc : Names X x c) (tk : Takes X Wout)
    (hb : ∀ (W : WX) (pn : List (Addr × Obj)) (xe : Value → Shared → Prop), Takes (X.tr pn xe) W → PassesOwn (model X.prog X.w) X.A X.env xe → PSs (X.tr pn xe) body (tb W))
    (hsu : ∀ (a : Addr) (oe : Obj) (cls : Value) (d : Option Addr) (pn : List (Addr × Obj)), Zc cls d oe → (∃ vs, oe.data = .fields vs) → PSs (X.suite a ((a, oe) :: pn)) (b₀ :: suite) (ts a cls d)) (hh : HdsOk X hds l) :
    PS X (.Try body (.ExceptHandler (some (.Name x np)) (some n) (b₀ :: suite) pos' :: hds) [] [] pos) (fun D σ H => tb (wTwo X.K c i ts Wout l D) D σ H) := by
  refine ⟨fun pins s σ H D I h => ?_⟩
  have ok := I.ok
  have hfr : X.A.frames = some (X.env :: X.outer) := by rw [ok.frames, hs]
  refine wpAny_Try_except ?_
  refine wpAny_mono ((hb (wTwo X.K c i ts Wout l D) (X.pn ++ pins) (fun e s₁ => wpAny (model X.prog X.w) X.A (noteFrame e X.env) (fun _ s₂ => wpAny (model X.prog X.w) X.A (setFlight e none) (fun _ s₃ =>
    wpAny (model X.prog X.w) X.A (handleBy e X.env (.ExceptHandler (some (.Name x np)) (some n) (b₀ :: suite) pos' :: hds)) (SP X pins D) X.xe s₃) X.xe s₂) X.xe s₁) (fun u s' xx => ?_) PassesOwn.looking).run [] s σ H D (I.toTry _) h) (fun f s1 hsp => ?_) (fun e s1 he => he)
  · obtain ⟨a, B, sI, pins', σ', H', cls, d, rfl, J', nb, up, sky, na, os, ag, ww⟩ := xx
    have J : Inv X pins σ' H' sI := J'.ofTry ok
    have sky' : Sky B (X.env :: X.outer) a (Zc cls d) X.env.locals s'.heap := by rw [← hs]; exact sky
    show wpAny (model X.prog X.w) X.A (noteFrame (.ref a) X.env) _ _ _
    refine Sky.land Zc.steady hfr hf sky' fun h3 fl3 up3 => ?_
    have J3 : Inv X pins σ' H' { s' with heap := h3 } := J.landed nb fl3.1 (up.trans up3) os ag
    obtain ⟨oe3, vs3, he3, hz3, hd3⟩ := fl3.there
    have nfr : a ∉ frs (X.env :: X.outer) := fun hm => by
      obtain ⟨_, o', e', hnf⟩ := fl3.2.2.1.mem hm
      rw [he3] at e'
      cases e'
      exact hnf _ hd3
    have nL : a ≠ X.env.locals := fun z => nfr (List.mem_filterMap.mpr ⟨X.env, List.mem_cons_self, by rw [hf, z]⟩)
    have nF : a ∉ X.fs := fun hm => by
      obtain ⟨e, he, q⟩ := List.mem_filterMap.mp hm
      exact nfr (List.mem_filterMap.mpr ⟨e, List.mem_cons_of_mem _ he, q⟩)
    have S3 := J3.suite he3 hd3 na nL nF
    have LT : PySem.W.Looks (model X.prog X.w) h3 (typeOf (.ref a)) cls := fun A Q E s k q => wpAny_typeOf_ref (k _ _ he3) (by rw [hz3.1]; exact q)
    -- the clauses without a name
    have go : ∀ {hds' : List ExceptHandler} {l' : List (Value × (Addr → Value → Option Addr → TS))}, HdsOk X hds' l' → wMany X.K Wout D l' cls d σ' H' →
        wpAny (model X.prog X.w) X.A (handleBy (.ref a) X.env hds') (SP X pins D) X.xe { s' with heap := h3 } := by
      intro hds' l' hk
      induction hk with
      | nil =>
        intro w
        refine wpAny_handleBy_nil ?_
        obtain ⟨k1, k2, k3, oe, vs, T, oT, ts', he, hz, hd, h1, hr⟩ := id fl3
        unfold PySem.passOn
        refine wpAny_bind (wpAny_field he hd h1 ?_)
        rw [if_neg (show ¬ ((Value.ref T == Value.none) = true) from by simp)]
        have fin : wpAny (model X.prog X.w) X.A (setFlight (.ref a) X.env.frame) (fun _ s4 => wpAny (model X.prog X.w) X.A (throw (.ref a) : Sem Flow) (SP X pins D) X.xe s4) X.xe { s' with heap := h3 } := by
          rw [hf]
          refine HandSPX.setFlight_upZ fl3 fun h4 hh4 up4 => wpAny_throw (tk _ _ ?_)
          exact ⟨a, B, sI, pins, σ', H', cls, d, rfl, J, nb, (up.trans up3).trans up4, .inr (.inr (by rw [hs]; exact hh4)), na, os, ag, w⟩
        first
          | exact wpAny_bind (wpAny_pure (wpAny_bind fin))
          | exact wpAny_bind fin
      | @cons x2 c2 ts2 b2 suite2 np2 pos2 hds2 l2 hc2 hsu2 r2 ih =>
        intro w
        obtain ⟨b, hb1, hyes, hno⟩ := w
        refine wpAny_handleBy_cons (codeAny_handlers_test ?_) (by intro q; cases q)
        have LM := PySem.W.exm_one (M := model X.prog X.w) (J3.kIn) LT hb1
        refine names_ld (S := X.suite a ((a, oe3) :: (X.pn ++ pins))) S3 hc2 (LM.here ?_)
        cases b with
        | true =>
          refine codeAny_handlers_suite ?_
          refine HandSPX.lands_againZ fl3 fun h4 fl4 up4 => ?_
          have J4 : Inv X pins σ' H' { s' with heap := h4 } := J.landed nb fl4.1 ((up.trans up3).trans up4) os ag
          obtain ⟨oe4, vs4, he4, hz4, hd4⟩ := fl4.there
          have S4 := J4.suite he4 hd4 na nL nF
          refine wpAny_mono ((hsu2 a oe4 cls d (X.pn ++ pins) hz4 ⟨_, hd4⟩).run [] _ _ H' _ S4 (hyes rfl a na)) (fun f s6 hsp => ?_) (fun _ _ z => False.elim z)
          cases f with
          | next => obtain ⟨σ6, H6, S6, q6⟩ := hsp; exact ⟨_, _, S6.unsuite ok, q6⟩
          | brk => obtain ⟨σ6, H6, S6, q6⟩ := hsp; exact ⟨_, _, S6.unsuite ok, q6⟩
          | cont => obtain ⟨σ6, H6, S6, q6⟩ := hsp; exact ⟨_, _, S6.unsuite ok, q6⟩
          | ret u => obtain ⟨v6, σ6, H6, S6, r6, q6⟩ := hsp; exact ⟨_, _, _, S6.unsuite ok, r6, q6⟩
        | false =>
          show wpAny _ X.A (handleBy (.ref a) X.env hds2) _ _ _
          exact ih (hno rfl)
    -- the clause with a name
    obtain ⟨b, hb1, hyes, hno⟩ := ww
    refine wpAny_handleBy_cons (codeAny_handlers_test ?_) (by intro q; cases q)
    have LM := PySem.W.exm_one (M := model X.prog X.w) (J3.kIn) LT hb1
    refine names_ld (S := X.suite a ((a, oe3) :: (X.pn ++ pins))) S3 hc (LM.here ?_)
    cases b with
    | true =>
      refine codeAny_handlers_suite_as ?_
      refine HandSPX.lands_againZ fl3 fun h4 fl4 up4 => ?_
      have J4 : Inv X pins σ' H' { s' with heap := h4 } := J.landed nb fl4.1 ((up.trans up3).trans up4) os ag
      obtain ⟨oe4, vs4, he4, hz4, hd4⟩ := fl4.there
      have S4 := J4.suite he4 hd4 na nL nF
      refine store_ok (X := X.suite a ((a, oe4) :: (X.pn ++ pins))) (v := .ref a) S4 hN hi (.inl hln) rfl (fun s5 S5 => ?_) (.inr hln)
      refine wpAny_mono ((hsu a oe4 cls d (X.pn ++ pins) hz4 ⟨_, hd4⟩).run [] s5 _ H' _ S5 (hyes rfl a na)) (fun f s6 hsp => ?_) (fun _ _ z => False.elim z)
      have end_ : ∀ {σ6 : L2.St} {H6 : Hp} {Q : Shared → Prop}, Inv (X.suite a ((a, oe4) :: (X.pn ++ pins))) [] σ6 H6 s6 → (∀ s7, Inv X pins (σ6.set i none) H6 s7 → Q s7) →
          wpAny (model X.prog X.w) X.A (do bindName X.env n .none; unbindBehindTheSuite X.env n pos') (fun _ s7 => Q s7) X.xe s6 := fun {σ6 H6 Q} S6 hq => gone_ok (S6.unsuite ok) hN hi hln hq
      cases f with
      | next => obtain ⟨σ6, H6, S6, q6⟩ := hsp; exact end_ S6 fun s7 J7 => ⟨_, _, J7, q6⟩
      | brk => obtain ⟨σ6, H6, S6, q6⟩ := hsp; exact end_ S6 fun s7 J7 => ⟨_, _, J7, q6⟩
      | cont => obtain ⟨σ6, H6, S6, q6⟩ := hsp; exact end_ S6 fun s7 J7 => ⟨_, _, J7, q6⟩
      | ret u => obtain ⟨v6, σ6, H6, S6, r6, q6⟩ := hsp; exact end_ S6 fun s7 J7 => ⟨_, _, _, J7, r6, q6⟩
    | false =>
      show wpAny _ X.A (handleBy (.ref a) X.env hds) _ _ _
      exact go hh (hno rfl)
  · cases f with
    | next => obtain ⟨σ', H', J', q⟩ := hsp; exact wpAny_execs_nil ⟨σ', H', J'.ofTry ok, q⟩
    | brk => obtain ⟨σ', H', J', q⟩ := hsp; exact ⟨σ', H', J'.ofTry ok, q⟩
    | cont => obtain ⟨σ', H', J', q⟩ := hsp; exact ⟨σ', H', J'.ofTry ok, q⟩
    | ret u => obtain ⟨v, σ', H', J', r, q⟩ := hsp; exact ⟨v, σ', H', J'.ofTry ok, r, q⟩
end
end Pr
namespace PySem
namespace PeX
open PySem.W PySem.Calls PyProof.Rows PySem.HandSPX
/-! ### the text of __init__ -/
def iA (p1 p2 : Pos) : Arguments := { posonlyargs := [], args := [{ arg := "self", annotation := none, pos := p1 }, { arg := "number", annotation := none, pos := p2 }], vararg := none, kwonlyargs := [], kw_defaults := [], kwarg := none, defaults := [] }
def iB (q1 q2 q3 q4 : Pos) : List Stmt := [.Assign [.Attribute (.Name "self" q1) "number" q2] (.Name "number" q3) q4]
def iS : Scope := { kind := .function, names := [(PySem.Str.ofString "self", .local), (PySem.Str.ofString "number", .local)], isGenerator := false, isCoroutine := false, more := [] }
/-- what the written part says of Low, at C, and of its __init__, at fI -/
structure PeTxt (K : Frag) (mg : Str → Option Value) (C fI : Addr) : Prop where
  gC : mg "ParseError" = some (.ref C)
  cls : ∃ nm q N bs bm sn sub ab col dd k0 k1 k2 k3 k5, K.lookup C = some (excClassObj nm q C N bs bm true sn sub ab col dd k0 k1 k2 k3 k5 "ValueError.__new__") ∧ refsVE bm = true
  sa : findIn K (.ref C) "__setattr__" = some (some (.builtin "object.__setattr__"))
  ga : findIn K (.ref C) "__getattribute__" = some (some (.builtin "BaseException.__getattribute__"))
  gg : findIn K (.ref C) "__getattr__" = some none
  noN : findIn K (.ref C) "number" = some none
  iC : findIn K (.ref C) "__init__" = some (some (.ref fI))
  tC : typeIn K (.ref fI) = some (.type "function")
  kC : keepIn K (.ref C) = true
  exC : subIn K (.ref C) (.type "BaseException") = some true
  tyC : typeIn K (.ref C) = some (.type "type")
  hdC : hasDictIn K C = true
  te : exmOne K (.ref C) (.ref C) = some true
  fn : ∃ (oc : Value) (od : Option Addr) (kV doc pm : Value) (an : Option Addr) (cdv ct : Value) (osl : Array (Option Value)) (p1 p2 q1 q2 q3 q4 : Pos),
    K.lookup fI = some ⟨oc, od, .func (fnOf "__init__" "ParseError.__init__" (iA p1 p2) (iB q1 q2 q3 q4) iS .none kV doc pm an cdv ct), osl⟩ ∧ codeIn K cdv "ParseError.__init__" = true
theorem one_size (v : Value) : [v].length ≤ sizeLine := by
  rw [sizeLine_eq]
  exact (by decide : 1 ≤ 16777216)
theorem kept_but {K : Frag} {h h' : Heap} {x : Addr} (X : K.In h) (hx : K.lookup x = none) (k : ∀ b o, b ≠ x → h.get? b = some o → h'.get? b = some o) : K.In h' := fun a o e =>
  k a o (fun z => by rw [z, hx] at e; cases e) (X a o e)
theorem ldC {M : Model} {s : Shared} {name : Str} {scope : Scope} {L a : Addr} {cd : Value} {m : Str → Option Value} {x : Str} {pos : Pos} {v : Value} {Q : Value → Shared → Prop} {A : Around} {E : Value → Shared → Prop} (hn : s.heap.Ns L m) (hv : m x = some v) (h : Q v s)
    (hk : scope.kind = .function := by rfl) (hl : (envOfC name scope L a cd).kindOf x = some .local := by rfl) (hd : (x == ("__debug__" : Str)) = false := by decide) :
    wpAny M A (eval (.Name x pos) (envOfC name scope L a cd)) Q E s := wpAny_Name (wpAny_loadName_local hk hl hn hv h) hd
/-- what __init__ leaves of a fresh exception at x -/
structure InitEnd (h h' : Heap) (x C dx t1 : Addr) (v : Value) : Prop where
  keep : ∀ b o, b ≠ x → h.get? b = some o → h'.get? b = some o
  obj : h'.get? x = some { cls := .ref C, dict := some dx, data := .fields #[.ref t1, .none, .none, .none, .bool false, .none] }
  dbig : h.objs.size ≤ dx
  dne : dx ≠ x
  ns : h'.Ns1 dx (fun y => if y = "number" then some v else none)
/-- a made Low -/
structure OwnMade (h h' : Heap) (e C d : Addr) (v : Value) : Prop where
  keep : ∀ b o, h.get? b = some o → h'.get? b = some o
  new : h.objs.size ≤ e
  obj : ∃ oe vs, h'.get? e = some oe ∧ oe.cls = .ref C ∧ oe.dict = some d ∧ oe.data = .fields vs ∧ vs[1]? = some .none
  dbig : h.objs.size ≤ d
  dne : d ≠ e
  ns : h'.Ns1 d (fun y => if y = "number" then some v else none)
section
variable {prog : Program} {w : World} {A : Around} {E : Value → Shared → Prop} {R : Result → Shared → Prop} {s : Shared} {K : Frag} {mg : Str → Option Value} {C fI : Addr}
theorem pe_init (T : PeTxt K mg C fI) {x t0 : Addr} {v : Value} (X : K.In s.heap) (hlim : s.heap.NoLimit) (hx : s.heap.get? x = some (excO C t0)) (hnx : K.lookup x = none) (hroom : A.depth < recursionLimit)
    (hq : ∀ h' tk dx, InitEnd s.heap h' x C dx t0 v → R (.ok (.ret .none)) { s with heap := h', toks := tk }) :
    codeAny (model prog w) A (.call (.ref fI) ⟨[.ref x, v], []⟩) R s := by
  obtain ⟨oc, od, kV, doc, pm, an, cdv, ct, osl, p1, p2, q1, q2, q3, q4, ho, hcd⟩ := T.fn
  obtain ⟨nm, q, N, bs, bm, sn, sub, ab, col, dd, k0, k1, k2, k3, k5, hC, hbm⟩ := T.cls
  have hcl : clsIn K C = some { name := nm, bases := bs, mro := .ref C :: bm, ns := N, qualname := q, hasDict := true, slotNames := sn, subclasses := sub, abstract := ab, collection := col, hasDel := false } := by unfold clsIn; rw [hC] <;> rfl
  refine Att.call_fn (binds := [("self", .ref x), ("number", v)]) X hlim ho hcd hroom (BindsTo.of_eq (by first | rfl | with_unfolding_all rfl)) (by first | rfl | decide | with_unfolding_all rfl) (fun s₁ IC => ?_) rfl rfl rfl
  obtain ⟨h₁, tk₁, rfl⟩ := IC.toInCall.same
  have k : ∀ b o, s.heap.get? b = some o → h₁.get? b = some o := IC.toInCall.keep
  have hn := IC.toInCall.ns
  have hxL : s.heap.objs.size ≠ x := Nat.ne_of_gt (Heap.lt_size hx)
  have X₁ : K.In h₁ := X.keeps k
  have hx₁ := k _ _ hx
  -- self.by = by
  show wpAny _ _ (execs _ _) _ _ _
  refine wpAny_execs_cons (plainObj_wpAny_Assign_Attribute ?_)
  refine ldC (v := v) hn (by first | rfl | with_unfolding_all rfl | kernel_rfl) (ldC (v := .ref x) hn (by first | rfl | with_unfolding_all rfl | kernel_rfl) ?_)
  refine set_plain X₁ (ox := excO C t0) (od := none) ⟨hx₁, rfl, rfl, trivial⟩ T.sa ?_
  refine exc_osa X₁ hx₁ hcl (show refsVE (.ref C :: bm) = true from hbm) rfl T.noN (fun h₃ tk₃ dx k₃ dn dne hx₃ hn₃ => ?_)
  show wpAny _ _ (execs _ _) _ _ _
  have z : s.heap.objs.size < h₁.objs.size := hn.lt
  exact wpAny_execs_nil (hq h₃ tk₃ dx ⟨fun b o hb e => k₃ b o hb (k b o e), hx₃, Nat.le_of_lt (Nat.lt_of_lt_of_le z dn), dne, hn₃⟩)
theorem pe_made (T : PeTxt K mg C fI) {v : Value} (X : K.In s.heap) (hlim : s.heap.NoLimit) (hroom : A.depth + 1 < recursionLimit)
    (hq : ∀ h' tk e d, OwnMade s.heap h' e C d v → R (.ok (.ret (.ref e))) { s with heap := h', toks := tk }) :
    codeAny (model prog w) A (.call (.ref C) ⟨[v], []⟩) R s := by
  obtain ⟨nm, q, N, bs, bm, sn, sub, ab, col, dd, k0, k1, k2, k3, k5, hC, hbm⟩ := T.cls
  obtain ⟨hp, g, dr, tk, os⟩ := s
  have k : ∀ b o, hp.get? b = some o → ((hp.push (kdv_tup [v])).push (excO C hp.objs.size)).get? b = some o := fun b o e => Heap.get?_push_of_some _ (Heap.get?_push_of_some _ e)
  have hget : ((hp.push (kdv_tup [v])).push (excO C hp.objs.size)).get? (hp.objs.size + 1) = some (excO C hp.objs.size) := by heap_get
  have hnx : K.lookup (hp.objs.size + 1) = none := by
    cases e : K.lookup (hp.objs.size + 1) with
    | none => rfl
    | some o =>
      have z : hp.get? (hp.objs.size + 1) = some o := X _ _ e
      exact absurd (Nat.lt_of_succ_lt (Heap.lt_size z)) (Nat.lt_irrefl _)
  refine call_own F.excBase_ValueError (fun X => refsVE_contains X bm hbm) (X _ _ hC) (looks_findIn X T.iC) (fun self => bind_fn X self T.tC) (one_size v) ?_
  refine pe_init (s := ⟨(hp.push (kdv_tup [v])).push (excO C hp.objs.size), g, dr, tk, os⟩) T (X.keeps k) (hlim.keeps k) hget hnx ?_ fun h' tk' dx ⟨k', hx, dn, dne, hns⟩ => ?_
  · show A.depth + 1 < recursionLimit
    exact hroom
  · have old : ∀ b o, hp.get? b = some o → h'.get? b = some o := fun b o e => k' b o (Nat.ne_of_lt (Nat.lt_succ_of_lt (Heap.lt_size e))) (k b o e)
    have z : hp.objs.size + 1 + 1 ≤ dx := by
      first
        | (simpa only [Heap.size_push] using dn)
        | exact dn
        | (have q := dn; rw [Heap.size_push, Heap.size_push] at q; exact q)
    exact ⟨rfl, hq h' tk' (hp.objs.size + 1) dx ⟨old, Nat.le_succ _, ⟨_, _, hx, rfl, rfl, rfl, rfl⟩, Nat.le_trans (Nat.le_trans (Nat.le_succ _) (Nat.le_succ _)) z, dne, hns⟩⟩
end
end PeX
end PySem
namespace L2
open PySem PySem.Spec PyProof.Rows
theorem relO_pe {v : V} {v' : Value} (r : RelV v v') (f : Str) : RelO (List.lookup f [(("number" : Str), v)]) (if f = "number" then some v' else none) := by
  by_cases hw : f = "number"
  · subst hw
    rw [if_pos rfl]
    have q : List.lookup ("number" : Str) [(("number" : Str), v)] = some v := by simp [List.lookup]
    rw [q]
    exact r
  · rw [if_neg hw]
    have qw : (f == ("number" : Str)) = false := by simpa using hw
    have q2 : List.lookup f [(("number" : Str), v)] = none := by simp [List.lookup, qw]
    rw [q2]
    trivial
section
variable {X : Cx} {C fI : Addr}
/-- Low(e) -/
def tMkPe (C : Addr) (ta : TA) : St → Hp → XK → Prop := fun σ H Q => ta σ H fun vs H1 => ∃ v, vs = [v] ∧ ∀ d, H1 d = none → Q (.ref C) (some d) (upd H1 d (.xd [(("number" : Str), v)]))
theorem pmk_pe {a : Expr} {ta : TA} {p pos : Pos} {k : Nat} (T : PySem.PeX.PeTxt X.K X.mg C fI) (hr : Room k X.A) (ha : PA X [a] ta) (hg : Gl X "ParseError" := by rfl)
    (he : starEach (a :: []) X.env = (false, eval a X.env) :: starEach [] X.env := by rfl) (hpl : (backTo pos (starEach [] X.env)).any (·.1) = false := by rfl) :
    PMk X (.Call (.Name "ParseError" p) [a] [] pos) (tMkPe C ta) := by
  intro pins s σ H Q I h
  refine wpAny_Call_Name_kw (ld_glob I hg T.gC ?_)
  refine PySem.W.callWith_K (h₀ := X.base) I.ok.mod.kin T.kC (thn (ha.run pos pins s σ H _ I h) fun us s1 hh => ?_) he hpl
  obtain ⟨vs, H1, I1, r1, v, ev, q1⟩ := hh
  subst ev
  refine ⟨I1.kIn, ?_⟩
  cases r1 with
  | cons rv rn =>
    rename_i v' us'
    cases rn
    show wpAny _ _ (call (.ref C) [v']) _ _ _
    have hlim := I1.nolimit
    obtain ⟨hp, g, dr, tk, os⟩ := s1
    refine wpAny_call (PySem.PeX.pe_made T I1.kIn hlim (by have := hr.dp; omega) fun h' tk' e d M => ?_)
    show MkP X pins σ Q (.ref e) ⟨h', g, dr, tk', os⟩
    obtain ⟨oe, fv, hoe, hc, hd, hdat, h1⟩ := M.obj
    have hns := M.ns
    obtain ⟨G', g1, g2⟩ := restrict h' fun b => decide (b ≠ e)
    have gk : ∀ b, b ≠ e → G'.get? b = h'.get? b := fun b hb => g1 b (decide_eq_true hb)
    have ge : G'.get? e = none := g2 e (by simp)
    have old : ∀ b o, hp.get? b = some o → G'.get? b = some o := fun b o q => (gk b (Nat.ne_of_lt (Nat.lt_of_lt_of_le (Heap.lt_size q) M.new))).trans (M.keep b o q)
    have ob : ObjOk X.prog X.w (upd H1 d (.xd [(("number" : Str), v)])) G' d (.xd [(("number" : Str), v)]) :=
      ⟨_, hns.at (fun o q => (gk d M.dne).trans q), fun f => relO_pe rv f⟩
    have J : Inv X pins σ (upd H1 d (.xd [(("number" : Str), v)])) ⟨G', g, dr, tk', os⟩ := I1.laid (t' := tk') old M.dbig ob
    refine ⟨e, oe, fv, ⟨G', g, dr, tk', os⟩, _, .ref C, some d, rfl, J, fun b o q => ?_, ge, hoe, ⟨hc, hd⟩, hdat, h1, ?_, rfl, I1.bare, raises_own T.exC T.tyC, q1 d (I1.hok.fresh M.dbig)⟩
    · by_cases hb : b = e
      · have q' : G'.get? b = some o := q
        rw [hb, ge] at q'; cases q'
      · exact (gk b hb).symm.trans q
    · rw [upd_ne (Ne.symm M.dne)]
      exact I1.hok.fresh M.new
/-- raise Low(e) -/
def tRaisePe (C : Addr) (W : WX) (ta : TA) : TS := fun _ σ H => tMkPe C ta σ H fun cls d H' => W cls d σ H'
theorem ps_raisePe {a : Expr} {ta : TA} {W : WX} {p pos pos2 : Pos} {k : Nat} (hc : X.calm = true) (T : PySem.PeX.PeTxt X.K X.mg C fI) (hr : Room k X.A) (tk : Takes X W) (ha : PA X [a] ta) (hg : Gl X "ParseError" := by rfl)
    (he : starEach (a :: []) X.env = (false, eval a X.env) :: starEach [] X.env := by rfl) (hpl : (backTo pos (starEach [] X.env)).any (·.1) = false := by rfl) :
    PS X (.Raise (some (.Call (.Name "ParseError" p) [a] [] pos)) none pos2) (tRaisePe C W ta) := ps_raise hc tk (pmk_pe T hr ha hg he hpl)
/-- low.by, low the exception that the suite holds (at a; its class cls, its dict d) -/
def tByPe (C : Addr) (a : Addr) (cls : Value) (d : Option Addr) (te : TE) : TE := fun σ H Q => te σ H fun x H1 => x = .ref a ∧ cls = .ref C ∧ ∃ (dd : Addr) (v : V), d = some dd ∧ H1 dd = some (.xd [(("number" : Str), v)]) ∧ Q v H1
theorem pe_byPe {a : Addr} {oe : Obj} {cls : Value} {d : Option Addr} {pn : List (Addr × Obj)} {e : Expr} {te : TE} {pos : Pos} (T : PySem.PeX.PeTxt X.K X.mg C fI) (hz : Zc cls d oe) (hf : ∃ vs, oe.data = .fields vs) (he : PE (X.suite a ((a, oe) :: pn)) e te)
    (hb : attributeBase e "number" X.env (eval e X.env) = eval e X.env := by rfl) :
    PE (X.suite a ((a, oe) :: pn)) (.Attribute e "number" pos) (tByPe C a cls d te) := by
  refine ⟨fun pins s σ H Q I h => ?_⟩
  refine attr_of hb (thn (he.run pins s σ H _ I h) fun u s1 hh => ?_)
  obtain ⟨x, H1, I1, rx, ex, ec, dd, v, ed, ea, q⟩ := hh
  subst ex
  obtain rfl : u = Value.ref a := rx
  subst ec
  subst ed
  obtain ⟨ha, _⟩ := I1.pin (a, oe) (List.mem_append_left _ List.mem_cons_self)
  obtain ⟨vs, hd⟩ := hf
  have hx : ObjOk X.prog X.w H1 s1.heap dd (.xd [(("number" : Str), v)]) := I1.hok dd _ ea
  obtain ⟨mA, hns, hr⟩ := hx
  obtain ⟨od, ho, hl⟩ := lookIn_ns hns
  have l : List.lookup ("number" : Str) [(("number" : Str), v)] = some v := by simp [List.lookup]
  obtain ⟨u, hu, ru⟩ := RelO.some_of (v := v) (o := mA "number") (by rw [← l]; exact hr "number")
  have J : PySem.W.InstAt s1.heap a oe C (some od) := ⟨ha, hz.1, by unfold PySem.W.notCls; rw [hd] <;> rfl, by rw [hz.2]; exact ho⟩
  exact HandSPX.exc_get I1.kIn J T.ga T.gg T.exC (PySem.W.findObj_own T.hdC T.noN rfl (by rw [hl, hu])) (handed_of ru) ⟨v, H1, I1.tok _, ru, q⟩
end
end L2

namespace L2
open PySem PySem.Spec PyProof.Rows
/-- an if whose test is known -/
theorem if_true_of {c : Bool} {A B : Prop} (hc : c = true) (h : A) : if c = true then A else B := by
  rw [if_pos hc]
  exact h
theorem if_false_of {c : Bool} {A B : Prop} (hc : c = false) (h : B) : if c = true then A else B := by
  rw [hc, if_neg Bool.false_ne_true]
  exact h
end L2
namespace Pr
open PySem PySem.Spec PyProof.Rows L2 Gd TL
/-! ### the words of a text -/
/-- a text of at most n signs, all of them below 128 -/
def Asc (n : Nat) (z : Str) : Prop := z.length ≤ n ∧ ∀ c ∈ z.cps.toList, c < 128
theorem Asc.le {n m : Nat} {z : Str} (h : Asc n z) (l : n ≤ m) : Asc m z := ⟨Nat.le_trans h.1 l, h.2⟩
theorem Asc.app {n m : Nat} {y z : Str} (h : Asc n y) (k : Asc m z) : Asc (n + m) (y ++ z) := by
  refine ⟨by rw [strLen_append]; have := h.1; have := k.1; omega, fun c mc => ?_⟩
  have e : (y ++ z).cps.toList = y.cps.toList ++ z.cps.toList := by
    show (y.cps ++ z.cps).toList = _
    rw [Array.toList_append]
  rw [e, List.mem_append] at mc
  rcases mc with mc | mc
  · exact h.2 c mc
  · exact k.2 c mc
theorem spl_of {S : List Nat} : ∀ (l : List Nat) (k : Nat) (acc : List Nat), ∀ p ∈ spl S k acc l, p.length ≤ acc.length + l.length ∧ ∀ c ∈ p, c ∈ acc ∨ c ∈ l
  | [], k, acc, p, m => by
    rw [spl_nil, List.mem_singleton] at m
    rw [m]
    exact ⟨by simp, fun c mc => .inl mc⟩
  | x :: r, 0, acc, p, m => by
    cases h : pre S (x :: r) with
    | true =>
      rw [spl_hit h] at m
      rcases List.mem_cons.mp m with rfl | m
      · exact ⟨by simp, fun c mc => .inl mc⟩
      · obtain ⟨a, b⟩ := spl_of r _ [] p m
        refine ⟨by rw [List.length_cons]; simp at a; omega, fun c mc => ?_⟩
        rcases b c mc with z | z
        · cases z
        · exact .inr (List.mem_cons_of_mem _ z)
    | false =>
      rw [spl_miss h] at m
      obtain ⟨a, b⟩ := spl_of r 0 (acc ++ [x]) p m
      refine ⟨by rw [List.length_append] at a; simp at a ⊢; omega, fun c mc => ?_⟩
      rcases b c mc with z | z
      · rcases List.mem_append.mp z with z | z
        · exact .inl z
        · rw [List.mem_singleton.mp z]
          exact .inr List.mem_cons_self
      · exact .inr (List.mem_cons_of_mem _ z)
  | x :: r, k + 1, acc, p, m => by
    have m' : p ∈ spl S k acc r := m
    obtain ⟨a, b⟩ := spl_of r k acc p m'
    refine ⟨by rw [List.length_cons]; omega, fun c mc => ?_⟩
    rcases b c mc with z | z
    · exact .inl z
    · exact .inr (List.mem_cons_of_mem _ z)
@[irreducible] def sp (z : Str) : List Str := Txt.split z " "
theorem sp_eq (z : Str) : Txt.split z " " = sp z := by
  unfold sp
  rfl
theorem sp_map (z : Str) : (sp z).map tl = spl (tl " ") 0 [] (tl z) := by
  rw [← sp_eq]
  exact split_spl z " " (by decide +kernel) (kind_ok (by decide +kernel))
theorem sp_of {z w : Str} (m : w ∈ sp z) : w.length ≤ z.length ∧ ∀ c ∈ w.cps.toList, c ∈ z.cps.toList := by
  have m2 : tl w ∈ spl (tl " ") 0 [] (tl z) := by
    rw [← sp_map]
    exact List.mem_map_of_mem m
  obtain ⟨a, b⟩ := spl_of _ _ _ _ m2
  rw [len_tl, len_tl]
  refine ⟨by simpa using a, fun c mc => ?_⟩
  rcases b c mc with q | q
  · cases q
  · exact q
theorem sp_asc {n : Nat} {z w : Str} (h : Asc n z) (m : w ∈ sp z) : Asc n w := ⟨Nat.le_trans (sp_of m).1 h.1, fun c mc => h.2 c ((sp_of m).2 c mc)⟩
theorem sp_few (z : Str) : (sp z).length ≤ z.length + 1 := by
  have e : (sp z).length = ((sp z).map tl).length := (List.length_map _).symm
  rw [e, sp_map]
  have go : ∀ (l : List Nat) (k : Nat) (acc : List Nat), (spl (tl " ") k acc l).length ≤ l.length + 1 := by
    intro l
    induction l with
    | nil => intro k acc; rw [spl_nil]; simp
    | cons x r ih =>
      intro k acc
      cases k with
      | zero =>
        cases h : pre (tl " ") (x :: r) with
        | true => rw [spl_hit h]; have := ih ((tl " ").length - 1) []; simp; omega
        | false => rw [spl_miss h]; have := ih 0 (acc ++ [x]); simp; omega
      | succ k =>
        show (spl (tl " ") k acc r).length ≤ _
        have := ih k acc
        simp
        omega
  have := go (tl z) 0 []
  rw [len_tl]
  exact this
/-- the figure of a word -/
def dig (c : Str) : Option Nat := if c = "0" then some 0 else if c = "1" then some 1 else if c = "2" then some 2 else none
def lineL : List Str → Option (Str × Nat)
  | [a, b, c] => if a = "op" then (if azB b = true then (dig c).map fun n => (b, n) else none) else none
  | _ => none
/-- the name and the arity of a line -/
def lineOf : V → Option (Str × Nat)
  | .str z => lineL (sp z)
  | _ => none
theorem dig_two {c : Str} {n : Nat} (h : dig c = some n) : n ≤ 2 ∧ c ∈ (["0", "1", "2"] : List Str) ∧ c = Str.ofString (toString (n : Int)) := by
  unfold dig at h
  split at h
  · rename_i e
    cases h
    rw [e]
    exact ⟨by decide, by decide +kernel, by decide +kernel⟩
  · split at h
    · rename_i e
      cases h
      rw [e]
      exact ⟨by decide, by decide +kernel, by decide +kernel⟩
    · split at h
      · rename_i e
        cases h
        rw [e]
        exact ⟨by decide, by decide +kernel, by decide +kernel⟩
      · cases h
theorem lineL_some {l : List Str} {p : Str × Nat} (h : lineL l = some p) : ∃ c : Str, l = [("op" : Str), p.1, c] ∧ azB p.1 = true ∧ dig c = some p.2 := by
  match l, h with
  | [a, b, c], h =>
    have h : (if a = "op" then (if azB b = true then (dig c).map fun n => (b, n) else none) else none) = some p := h
    by_cases e : a = "op"
    · rw [if_pos e] at h
      by_cases e2 : azB b = true
      · rw [if_pos e2] at h
        cases hd : dig c with
        | none => rw [hd] at h; cases h
        | some n =>
          rw [hd] at h
          cases h
          exact ⟨c, by rw [e], e2, hd⟩
      · rw [if_neg e2] at h
        cases h
    · rw [if_neg e] at h
      cases h
end Pr
namespace Pr
open PySem PySem.Spec PyProof.Rows L2 Gd
/-! ### operator_of -/
def spOper : Sp := fun vs H Q _ => ∃ (v : V) (ty : String), vs = [v] ∧ Kd H v ty ∧ (∀ z, v = .str z → z.length ≤ 100000) ∧ (lineOf v = none → ∀ H', Same H H' → Q .non H') ∧
  (∀ z n, lineOf v = some (z, n) → ∀ (H' : Hp) (t : Addr), Same H H' → H t = none → H' t = some (.tup [.str z, .int (n : Int)]) → Q (.ref t) H')
theorem lineL_three {l : List Str} (h : l.length ≠ 3) : lineL l = none := by
  cases e : lineL l with
  | none => rfl
  | some p =>
    obtain ⟨c, rfl, _⟩ := lineL_some e
    exact absurd rfl h
theorem dig_none {c : Str} (h : inV (.str c) [V.str "0", V.str "1", V.str "2"] = false) : dig c = none := by
  cases e : dig c with
  | none => rfl
  | some n =>
    have m := (dig_two e).2.1
    rcases List.mem_cons.mp m with rfl | m
    · exact absurd h (by decide +kernel)
    · rcases List.mem_cons.mp m with rfl | m
      · exact absurd h (by decide +kernel)
      · rw [List.mem_singleton.mp m] at h
        exact absurd h (by decide +kernel)
theorem dig_some {c : Str} (h : inV (.str c) [V.str "0", V.str "1", V.str "2"] = true) : ∃ n, dig c = some n ∧ intText? c = some (n : Int) ∧ c.length ≤ 640 := by
  unfold inV at h
  rw [List.any_eq_true] at h
  obtain ⟨x, m, e⟩ := h
  have key : ∀ z : Str, eqV (.str z) (.str c) = true → c = z := fun z q => by
    have q' : (z == c) = true := q
    exact (eq_of_beq q').symm
  rcases List.mem_cons.mp m with rfl | m
  · rw [key _ e]
    exact ⟨0, by decide +kernel, by decide +kernel, by decide +kernel⟩
  · rcases List.mem_cons.mp m with rfl | m
    · rw [key _ e]
      exact ⟨1, by decide +kernel, by decide +kernel, by decide +kernel⟩
    · rw [List.mem_singleton.mp m] at e
      rw [key _ e]
      exact ⟨2, by decide +kernel, by decide +kernel, by decide +kernel⟩
section
variable {P : Program} {w : World} {K : PySem.W.Frag} {mg : Str → Option Value} {base : Heap} {fN : Addr} {dN : FuncData} {tk : Tok}
theorem scOper : FnScope ["line", "words"] ["line"] (defScope sOper) := ⟨rfl, rfl, rfl, by decide +kernel, rfl, by decide +kernel, by decide +kernel⟩
theorem ok_oper {f : Addr} {fd : FuncData} (F : Fun K "operator_of" "operator_of" sOper f fd) (T : Free mg) (gm : mg "MAX_LETTERS" = some (.int 8 tk)) (FN : Fun K "is_name" "is_name" sName fN dN) (bN : Binds K dN ["value"] []) (gN : mg "is_name" = some (.ref fN)) : FnOk P w K mg base CX0 2 f fd ["line"] spOper := by
  have GN : FnOk P w K mg base CX0 1 fN dN ["value"] spName := ok_name FN T gm
  refine F.ok scOper (fun vs H Q E h => ?_) (fun cdv A outer s H vs Q E hr h => ?_)
  · obtain ⟨v, t, rfl, _⟩ := h
    rfl
  · obtain ⟨v, t, rfl, kd, hz, q0, q1⟩ := h
    refine ⟨_, pss_cons (ps_if (pt_not (pt_val (pe_callB call_isi (by rfl) T.isi (by decide +kernel) (pa_cons (pv 0) (pa_cons (pe_bltn (v := .ty "str") (by rfl) T.str (by decide +kernel) rfl) pa_nil))))) (pss_one (ps_ret pe_non)) pss_nil)
      (pss_cons (ps_set (i := 1) scOper.nd rfl (.inl rfl) (pe_split (pv 0) pe_str))
      (pss_cons (ps_if (PW.pt (pw_or (pt_cmpR op_ne (pe_callB call_len_seq (by rfl) T.len PySem.boot_len (pa_cons (pv 1) pa_nil)) pe_int (nomark _))
          (pw_or (pt_cmpR op_ne (pe_ix ix_list (pv 1) pe_int (fun _ _ => rfl)) pe_str (nomark _))
          (pw_or (pt_not (pt_val (pe_call GN hr (by rfl) gN FN.kp bN .nil pass0 (pa_cons (pe_ix ix_list (pv 1) pe_int (fun _ _ => rfl)) pa_nil))))
          (pw_or1 (pt_cmpR op_notIn_seq (pe_ix ix_list (pv 1) pe_int (fun _ _ => rfl)) (pe_tup (pa_cons pe_str (pa_cons pe_str (pa_cons pe_str pa_nil)))) (by rfl))))))) (pss_one (ps_ret pe_non)) pss_nil)
      (pss_one (ps_ret (pe_tup (pa_cons (pe_ix ix_list (pv 1) pe_int (fun _ _ => rfl)) (pa_cons (pe_callTy call_int_str (by rfl) T.int (by decide +kernel) (pa_cons (pe_ix ix_list (pv 1) pe_int (fun _ _ => rfl)) pa_nil)) pa_nil))))))), ?_⟩
    refine ⟨_, rfl, v, _, _, _, _, rfl, .ty "str", kd.ty, kit_str kd, _, rfl, ?_⟩
    cases kd with
    | str z =>
      have l := hz z rfl
      have e0 : lineOf (.str z) = lineL (sp z) := rfl
      rw [e0] at q0 q1
      refine iteF ⟨_, rfl, ⟨_, rfl⟩, z, " ", rfl, rfl, rfl, by rw [sizeLine_eq]; omega, fun p np => ?_⟩
      have sN : Same H (upd H p (.lst ((Txt.split z " ").map V.str))) := Same.new np
      have hp : (upd H p (.lst ((Txt.split z " ").map V.str))) p = some (.lst ((sp z).map V.str)) := by rw [upd_same, sp_eq]
      have fewz := sp_few z
      have ofz : ∀ w ∈ sp z, w.length ≤ z.length := fun w m => (sp_of m).1
      generalize upd H p (.lst ((Txt.split z " ").map V.str)) = H1 at sN hp ⊢
      generalize sp z = ws at q0 q1 hp fewz ofz ⊢
      refine ⟨_, rfl, p, _, rfl, .inl (SqL.of hp), rfl, _, rfl, ?_⟩
      match ws, hp, fewz, ofz, q0, q1 with
      | [a, b, c], hp, fewz, ofz, q0, q1 =>
        refine if_false_of (by rfl) ⟨_, rfl, p, _, 0, _, rfl, rfl, SqL.of hp, rfl, rfl, _, rfl, ?_⟩
        have op_ : a ≠ "op" → lineL [a, b, c] = none := fun ne => by
          show (if a = "op" then _ else none) = none
          rw [if_neg ne]
        refine ite2 (fun k => ?_) (fun k => ?_)
        · have ne : a ≠ "op" := fun e => by
            rw [e] at k
            exact absurd k (by decide +kernel)
          exact if_true_of rfl (q0 (op_ ne) H1 sN)
        · have ea : a = "op" := by
            by_cases c0 : a = "op"
            · exact c0
            · exact absurd (by rw [decide_eq_false (fun q => c0 (V.str.inj q))]; rfl) k
          subst ea
          have lb : b.length ≤ 1000000 := by
            have := ofz b (by simp)
            omega
          have em : lineL [("op" : Str), b, c] = if azB b = true then (dig c).map fun n => (b, n) else none := by
            show (if ("op" : Str) = "op" then (if azB b = true then (dig c).map fun n => (b, n) else none) else none) = _
            rw [if_pos rfl]
          refine ⟨_, rfl, p, _, 1, _, rfl, rfl, SqL.of hp, rfl, .str b, "str", rfl, .str b, fun y e => by cases e; exact lb, _, rfl, ite2 (fun k2 => ?_) (fun k2 => ?_)⟩
          · have nz : ¬ azB b = true := fun e => by
              have k2 : (!azB b) = true := k2
              rw [e] at k2
              cases k2
            rw [if_neg nz] at em
            exact if_true_of rfl (q0 em H1 sN)
          · have nz : azB b = true := by
              have k2 : ¬ (!azB b) = true := k2
              cases e : azB b
              · rw [e] at k2
                exact absurd rfl k2
              · rfl
            rw [if_pos nz] at em
            refine ⟨_, rfl, p, _, 2, _, rfl, rfl, SqL.of hp, rfl, by show 3 ≤ sizeLine; decide, fun t1 n1 => ⟨t1, _, rfl, .inr (SqT.of upd_same), rfl, rfl, _, rfl, ?_⟩⟩
            have s2 := sN.trans (Same.new n1 (o := .tup [V.str "0", .str "1", .str "2"]))
            have hp2 := (Same.new n1 (o := .tup [V.str "0", .str "1", .str "2"])) _ _ hp
            generalize upd H1 t1 (.tup [V.str "0", .str "1", .str "2"]) = H2 at s2 hp2 ⊢
            cases ei : inV (.str c) [V.str "0", .str "1", .str "2"] with
            | false =>
              rw [dig_none ei] at em
              exact if_true_of (by rw [if_pos rfl]; rfl) (q0 em H2 s2)
            | true =>
              obtain ⟨n, dn, it, lc⟩ := dig_some ei
              rw [dn] at em
              refine if_false_of (by rw [if_pos rfl]; rfl) ?_
              refine ⟨_, rfl, p, _, 1, _, rfl, rfl, SqL.of hp2, rfl, _, rfl, p, _, 2, _, rfl, rfl, SqL.of hp2, rfl, c, n, rfl, it, lc, by show 2 ≤ sizeLine; decide, fun t2 n2 => ?_⟩
              exact q1 b n em _ t2 (s2.trans (Same.new n2)) (s2.free n2) upd_same
      | [], hp, fewz, ofz, q0, q1 => exact if_true_of (by rfl) (if_true_of rfl (q0 rfl H1 sN))
      | [_], hp, fewz, ofz, q0, q1 => exact if_true_of (by rfl) (if_true_of rfl (q0 rfl H1 sN))
      | [_, _], hp, fewz, ofz, q0, q1 => exact if_true_of (by rfl) (if_true_of rfl (q0 rfl H1 sN))
      | x0 :: x1 :: x2 :: x3 :: r, hp, fewz, ofz, q0, q1 =>
        have e : (!decide (V.int ((List.map V.str (x0 :: x1 :: x2 :: x3 :: r)).length : Int) = V.int 3)) = true := by
          rw [decide_eq_false]
          · rfl
          · intro q
            have q := V.int.inj q
            rw [List.length_map] at q
            simp at q
            omega
        exact if_true_of e (if_true_of rfl (q0 (lineL_three (by simp)) H1 sN))
    | _ => exact iteT (q0 rfl H (Same.refl _))
end
end Pr
namespace PySem
namespace OwnNe
open PySem.W PySem.Calls PyProof.Rows Builtin
section
variable {prog : Program} {w : World} {A : Around} {E : Value → Shared → Prop} {s : Shared} {K : Frag} {x C f : Addr} {ox : Obj} {od : Option Obj} {b tb : Value}
/-- x != b by object's own !=, which asks the class's == -/
theorem own_ne {Q : Value → Shared → Prop} (hu : A.units + 1 < cLine) (X : K.In s.heap) (I : InstAt s.heap x ox C od) (hb : Looks (model prog w) s.heap (typeOf b) tb) (hn : notFirst K C tb = true)
    (hne : findIn K (.ref C) "__ne__" = some (some (.builtin "object.__ne__"))) (hobj : subIn K (.ref C) (.type "object") = some true) (hs : findIn K (.ref C) "__eq__" = some (some (.ref f))) (hf : isFn K (.ref f) = true)
    (h : wpAny (model prog w) A.in1 (call (.ref f) [.ref x, b]) (fun v s' => ∃ c, v = .bool c ∧ Q (.bool (!c)) s') E s) : wpAny (model prog w) A (richCompare .NotEq (.ref x) b) Q E s := by
  have isObj : Looks (model prog w) s.heap (isInstance (.ref x) (.type "object")) true := I.type.andThen (looks_subIn X hobj)
  have one : wpAny (model prog w) A (tryCompare (.ref x) "__ne__" b) (fun r s' => ∃ v, r = some v ∧ Q v s') E s := by
    unfold tryCompare
    refine wpAny_bind ?_
    simp only [callSpecialIfBound?, bindSpecialIfBound?]
    refine wpAny_holding (wpAny_bind (wpAny_bind (wpAny_bind (I.type.here ((looks_findIn X hne).here ?_)))))
    simp only [F.cmp_object.ne.bind]
    refine wpAny_bind (wpAny_askSetting (wpAny_ite ?_))
    have body : ∀ {Q2 : PySem.Fin → Shared → Prop}, wpAny (model prog w) A.in1 (call (.ref f) [.ref x, b]) (fun v s' => ∃ c, v = .bool c ∧ Q2 (.done (.ret (.bool (!c)))) s') E s →
        wpAny (model prog w) A.in1 (Builtin.«object.__ne__» ⟨[.ref x, b], []⟩) Q2 E s := fun {Q2} hc => by
      unfold Builtin.«object.__ne__»
      repeat (first
        | with_reducible refine wpAny_cRoomFor (A := A.in1) hu ?_
        | (refine wpAny_bind (m := callSpecialIfBound? (.ref x) (Str.ofString "__eq__") [b])
            (ifBound_K X I hs hf (wpAny_mono hc (fun r s' hr => by
              obtain ⟨c, rfl, hq⟩ := hr
              repeat (first | exact hq | exact wpAny_pure hq | exact wpAny_truthy_bool hq | (refine wpAny_bind (m := truthy (.bool _)) (wpAny_truthy_bool ?_)) | wp_step)) fun _ _ e => e)))
        | wp_step)
    have fin : wpAny (model prog w) A (call (.builtin "object.__ne__") ([.ref x] ++ [b]) >>= fun v => pure (some v)) (fun r s' => ∃ c, r = some (.bool c) ∧ Q (.bool c) s') E s := by
      refine wpAny_bind (wpAny_call (codeAny_call_builtin F.cmp_object.ne.plain F.cmpEntry_ne (check_slot F.cmpKind_ne F.cmpSplit_ne isObj (F.cmpArgs_ne _ _) (body (wpAny_mono h (fun v s' hv => ?_) fun _ _ e => e)))))
      obtain ⟨c, rfl, hq⟩ := hv
      exact ⟨c, rfl, wpAny_pure ⟨_, rfl, hq⟩⟩
    split
    · refine wpAny_bind (wpAny_pure (wpAny_pure ?_))
      refine wpAny_mono fin (fun r s' hr => ?_) fun _ _ e => e
      obtain ⟨c, rfl, hq⟩ := hr
      exact wpAny_pure ⟨_, rfl, hq⟩
    · refine wpAny_tryCatch (wpAny_bind (wpAny_pure (wpAny_pure ?_)))
      refine wpAny_mono fin (fun r s' hr => ?_) fun _ _ e => e
      obtain ⟨c, rfl, hq⟩ := hr
      exact wpAny_pure ⟨_, rfl, hq⟩
  unfold richCompare
  simp only [oneThing_ref]
  refine wpAny_holding (wpAny_bind (wpAny_cRoomFor (Nat.lt_of_succ_lt hu) ?_))
  rw [cmpInfo_NotEq]
  dsimp only
  refine wpAny_bind (I.type.here (wpAny_bind (hb.here ?_)))
  split
  · rename_i q
    have e : subIn K tb (.ref C) = some false := by
      rcases Bool.or_eq_true_iff.mp hn with e | e
      · rw [beq_iff_eq.mp e] at q; simp at q
      · exact beq_iff_eq.mp e
    refine wpAny_bind ((looks_subIn X e).here ?_)
    simp only [Bool.false_eq_true, if_false]
    refine wpAny_bind (wpAny_mono one (fun r s' z => ?_) fun _ _ e => e)
    obtain ⟨v, rfl, hq⟩ := z
    exact wpAny_pure hq
  · refine wpAny_bind (wpAny_pure ?_)
    simp only [Bool.false_eq_true, if_false]
    refine wpAny_bind (wpAny_mono one (fun r s' z => ?_) fun _ _ e => e)
    obtain ⟨v, rfl, hq⟩ := z
    exact wpAny_pure hq
end
end OwnNe
end PySem
namespace Pr
open PySem PySem.Spec PyProof.Rows L2 Gd
/-! ### == and != by the class's own == -/
/-- what of the class == and != look up -/
structure EqF (K : PySem.W.Frag) (C f : Addr) : Prop where
  eq : PySem.W.findIn K (.ref C) "__eq__" = some (some (.ref f))
  fn : PySem.W.isFn K (.ref f) = true
  ne : PySem.W.findIn K (.ref C) "__ne__" = some (some (.builtin "object.__ne__"))
  ob : PySem.W.subIn K (.ref C) (.type "object") = some true
  nD : PySem.W.notFirst K C (.type "dict") = true
  nI : PySem.W.notFirst K C (.type "int") = true
/-- what stands at the right -/
inductive Rt (H : Hp) (C : Addr) : V → Prop where
  | own {b dy : Addr} {gs : List (Str × V)} (e : H b = some (.ins C dy gs)) : Rt H C (.ref b)
  | dict {b : Addr} {kvs : List (Key × V)} (e : H b = some (.dK kvs)) : Rt H C (.ref b)
  | int (i : Int) : Rt H C (.int i)
section
variable {X : Cx} {CX : CXT} {n : Nat} {C f : Addr} {fd : FuncData} {ps : List Str} {sp : Sp} {E : XK}
theorem Rt.looks {pins : List (Addr × Obj)} {σ : L2.St} {H : Hp} {s : Shared} {y : V} {u : Value} (I : Inv X pins σ H s) (EF : EqF X.K C f) (r : Rt H C y) (ry : RelV y u) : ∃ tb, PySem.W.Looks (model X.prog X.w) s.heap (typeOf u) tb ∧ PySem.W.notFirst X.K C tb = true := by
  cases r with
  | own e =>
    cases ry
    obtain ⟨mB, J, _⟩ := ins_get I.hok e
    obtain ⟨od, J, _⟩ := J.look
    exact ⟨.ref C, J.type, by simp [PySem.W.notFirst]⟩
  | dict e =>
    cases ry
    obtain ⟨_, _, _, _, o, _, _, ho, hc, _⟩ := I.hok _ _ e
    refine ⟨.type "dict", fun A Q E s k q => wpAny_typeOf_ref (k _ _ ho) (by rw [hc.1]; exact q), EF.nD⟩
  | int i =>
    obtain ⟨t, rfl⟩ := ry
    exact ⟨.type "int", .now, EF.nI⟩
def rOwnC (C : Addr) (sp : Sp) (E : XK) (neg : Bool) : R2 := fun x y H Q => ∃ a dx fs, x = .ref a ∧ H a = some (.ins C dx fs) ∧ Rt H C y ∧ sp [x, y] H (fun v H' => ∃ c, v = .bl c ∧ Q (.bl (if neg = true then !c else c)) H') E
theorem op_eqOwn (F : FnOk X.prog X.w X.K X.mg X.base CX n f fd ps sp) (EF : EqF X.K C f) (bb : Binds X.K fd ps []) (hx : Passes CX X E) (hr : Room n X.A) : OpR X (compareOp .Eq) (rOwnC C sp E false) := by
  intro pins s σ H x y v u Q I rx ry hq
  obtain ⟨a, dx, fs, rfl, ha, rt, hsp⟩ := hq
  obtain ⟨tb, lk, nf⟩ := rt.looks I EF ry
  cases rx
  obtain ⟨mA, J, _⟩ := ins_get I.hok ha
  obtain ⟨od, J, _⟩ := J.look
  obtain ⟨m, hF⟩ := I.fr
  show wpAny _ _ (richCompare .Eq (.ref a) u) _ _ _
  refine PySem.W.cmp_K (op := .Eq) hr.units0 hF I.ok.mod.kin J lk nf EF.eq EF.fn ?_
  have r2 : Vals [V.ref a, y] [Value.ref a, u] := .cons rfl (.cons ry .nil)
  refine thn (run_fn (us := [Value.ref a, u]) (vs := [V.ref a, y]) F hr bb .nil hx I r2 hsp) fun w s' hw => ?_
  obtain ⟨z, H', I', rz, c, ez, q⟩ := hw
  subst ez
  cases rz
  exact ⟨.bl c, H', I', rfl, q⟩
theorem op_neOwn (F : FnOk X.prog X.w X.K X.mg X.base CX n f fd ps sp) (EF : EqF X.K C f) (bb : Binds X.K fd ps []) (hx : Passes CX X E) (hr : Room (n + 1) X.A) : OpR X (compareOp .NotEq) (rOwnC C sp E true) := by
  intro pins s σ H x y v u Q I rx ry hq
  obtain ⟨a, dx, fs, rfl, ha, rt, hsp⟩ := hq
  obtain ⟨tb, lk, nf⟩ := rt.looks I EF ry
  cases rx
  obtain ⟨mA, J, _⟩ := ins_get I.hok ha
  obtain ⟨od, J, _⟩ := J.look
  show wpAny _ _ (richCompare .NotEq (.ref a) u) _ _ _
  refine PySem.OwnNe.own_ne (by have := hr.units; omega) I.kIn J lk nf EF.ne EF.ob EF.eq EF.fn ?_
  have e0 : Env0 X.prog X.w X.K X.mg X.base X.A.in1 X.stack s H := by
    have e := I.env0
    exact ⟨e.frames, e.mod, e.bs, e.bsz, e.funs, e.frf, e.hok, e.bare⟩
  have hl := F.len _ _ _ _ hsp
  have r2 : Vals [V.ref a, y] [Value.ref a, u] := .cons rfl (.cons ry .nil)
  refine wpAny_call (codeAny_mono (F.run X.A.in1 X.stack s H ⟨[.ref a, u], []⟩ [.ref a, u] [.ref a, y] _ E hr.in1 e0 (by
    have := bb s [.ref a, u] I.kIn (by simpa using hl)
    simpa using this) r2 hsp) fun r s' hq => ?_)
  cases r with
  | error e => exact hx pins σ H s e s' I hq
  | ok fl =>
    cases fl with
    | ret w =>
      obtain ⟨z, H', I', rz, c, ez, q⟩ := I.after hq
      subst ez
      cases rz
      exact ⟨c, rfl, .bl (!c), H', I', rfl, q⟩
    | next => exact False.elim hq
    | brk => exact False.elim hq
    | cont => exact False.elim hq
end
end Pr
namespace Pr
open PySem PySem.Spec PyProof.Rows L2 Gd
/-! ### what is said of a dict with one more pair -/
theorem merge_snoc : ∀ (xs kvs : List (Key × V)) (p : Key × V), mergeK kvs (xs ++ [p]) = putK (mergeK kvs xs) p.1 p.2
  | [], kvs, p => rfl
  | x :: xs, kvs, p => by
    show mergeK (putK kvs x.1 x.2) (xs ++ [p]) = _
    rw [merge_snoc xs]
    rfl
theorem put_length (kvs : List (Key × V)) (k : Key) (v : V) : kvs.length ≤ (putK kvs k v).length ∧ (putK kvs k v).length ≤ kvs.length + 1 := by
  unfold putK
  split
  · rw [List.length_map]
    omega
  · rw [List.length_append]
    simp
theorem put_mem {kvs : List (Key × V)} {k : Key} {v : V} {p : Key × V} (m : p ∈ putK kvs k v) : p ∈ kvs ∨ p = (k, v) := by
  unfold putK at m
  split at m
  · obtain ⟨q, mq, e⟩ := List.mem_map.mp m
    by_cases c : q.1 = k
    · rw [if_pos c] at e
      exact .inr (by rw [← e, c])
    · rw [if_neg c] at e
      exact .inl (e ▸ mq)
  · rcases List.mem_append.mp m with m | m
    · exact .inl m
    · exact .inr (List.mem_singleton.mp m)
theorem put_keys (kvs : List (Key × V)) (k : Key) (v : V) : (putK kvs k v).map (·.1) = if (kvs.any fun kv => decide (kv.1 = k)) = true then kvs.map (·.1) else kvs.map (·.1) ++ [k] := by
  unfold putK
  split
  · rw [List.map_map]
    refine List.map_congr_left fun q _ => ?_
    show (if q.1 = k then (q.1, v) else q).1 = q.1
    split <;> rfl
  · rw [List.map_append]
    rfl
theorem put_nice {kvs : List (Key × V)} {k : Key} {v : V} (n : Nice kvs) (f : kvs.length < 1000) (fv : Fl v) (hk : ∀ z, k = .inr z → z.length ≤ 1000000) : Nice (putK kvs k v) := by
  have hl := put_length kvs k v
  refine ⟨?_, by omega, fun p m => ?_, fun p m z e => ?_⟩
  · rw [put_keys]
    split
    · exact n.nd
    · rename_i c
      rw [List.nodup_append]
      refine ⟨n.nd, by simp, fun x m y m2 e => c ?_⟩
      have e2 : y = k := by simpa using m2
      obtain ⟨q, mq, eq⟩ := List.mem_map.mp m
      rw [List.any_eq_true]
      exact ⟨q, mq, decide_eq_true (by rw [eq, e, e2])⟩
  · rcases put_mem m with m | rfl
    · exact n.flat p m
    · exact fv
  · rcases put_mem m with m | rfl
    · exact n.key p m z e
    · exact hk z e
theorem fl_of {v : V} (h : flatV v = true) : Fl v := by
  cases v with
  | non => exact Fl.non
  | bl b => exact Fl.bl b
  | int i => exact Fl.int i
  | str z => exact Fl.str z
  | _ => cases h
/-- the law's own look at a number -/
def badV (v : V) : Bool := isB v || !inV v [V.int 0, .int 1, .int 2]
theorem bad_good {v : V} (h : flatV v = true) : (!badV v) = (isIntO v && in02 v) := by
  rw [isIntO_eq]
  cases v with
  | non => rfl
  | bl b => rfl
  | str z => rfl
  | int i =>
    show (!(false || !((0 : Int) == i || ((1 : Int) == i || ((2 : Int) == i || false))))) = (decide ((if i < 0 then -i else i) < 10 ^ (60 : Int).toNat) && (decide (0 ≤ i) && decide (i ≤ 2)))
    have e : ((10 : Int) ^ (60 : Int).toNat) = ((10 ^ 60 : Nat) : Int) := by decide +kernel
    rw [e]
    by_cases c : 0 ≤ i ∧ i ≤ 2
    · have c0 : i = 0 ∨ i = 1 ∨ i = 2 := by omega
      rcases c0 with rfl | rfl | rfl <;> decide +kernel
    · have h1 : ((0 : Int) == i) = false := beq_eq_false_iff_ne.mpr (by omega)
      have h2 : ((1 : Int) == i) = false := beq_eq_false_iff_ne.mpr (by omega)
      have h3 : ((2 : Int) == i) = false := beq_eq_false_iff_ne.mpr (by omega)
      rw [h1, h2, h3]
      by_cases a : 0 ≤ i
      · rw [decide_eq_false (show ¬ i ≤ 2 by omega)]
        simp
      · rw [decide_eq_false a]
        simp
  | _ => cases h
theorem good_two {kvs : List (Key × V)} (h1 : 1 ≤ kvs.length) (h8 : kvs.length ≤ 8) (f : ∀ p ∈ kvs, flatV p.2 = true) :
    goodK kvs = ((kvs.filter fun p => !nameB (kV p.1)).isEmpty && (kvs.filter fun p => badV p.2).isEmpty) := by
  unfold goodK
  rw [decide_eq_true h1, decide_eq_true h8, Bool.true_and, Bool.true_and]
  clear h1 h8
  induction kvs with
  | nil => rfl
  | cons p r ih =>
    have ih := ih fun q m => f q (List.mem_cons_of_mem _ m)
    have bg := bad_good (f p List.mem_cons_self)
    rw [List.all_cons, ih, List.filter_cons, List.filter_cons]
    unfold goodP
    rw [← bg]
    cases nameB (kV p.1) <;> cases badV p.2 <;> simp
/-- rows with the same names, of one multiset, each name once, are one -/
theorem rows_one : ∀ {x y : List (Str × Nat)}, x.Perm y → sortedS (x.map (·.1)) = true → sortedS (y.map (·.1)) = true → (x.map (·.1)).Nodup → x = y := by
  intro x y p sx sy nd
  have ek : x.map (·.1) = y.map (·.1) := sorted_one sx sy (p.map _)
  have ndy : (y.map (·.1)).Nodup := ek ▸ nd
  have key : ∀ {a b : List (Str × Nat)}, a.map (·.1) = b.map (·.1) → (∀ q ∈ a, ∀ r ∈ b, q.1 = r.1 → q = r) → a = b := by
    intro a
    induction a with
    | nil =>
      intro b e _
      cases b with
      | nil => rfl
      | cons _ _ => cases e
    | cons u a ih =>
      intro b e h
      cases b with
      | nil => cases e
      | cons w b =>
        have e : u.1 :: a.map (·.1) = w.1 :: b.map (·.1) := e
        injection e with e1 e2
        rw [h u List.mem_cons_self w List.mem_cons_self e1, ih e2 fun q m r m2 => h q (List.mem_cons_of_mem _ m) r (List.mem_cons_of_mem _ m2)]
  refine key ek fun q m r m2 e => ?_
  have m3 : r ∈ x := p.mem_iff.mpr m2
  have v1 := val_some nd (show (q.1, q.2) ∈ x from m)
  have v2 := val_some nd (show (r.1, r.2) ∈ x from m3)
  rw [e, v2] at v1
  injection v1 with h
  injection h with h
  exact Prod.ext e (by omega)
end Pr
namespace Pr
open PySem PySem.Spec PyProof.Rows L2 Gd
/-! ### _law_made, _law_lines -/
structure Maker (P : Program) (w : World) (K : PySem.W.Frag) (mg : Str → Option Value) (base : Heap) (C B fC fB : Addr) (dC dB : FuncData) : Prop where
  MC : Mk K C fC
  gC : mg "Operators" = some (.ref C)
  GC : FnOk P w K mg base CX0 3 fC dC ["self", "arities"] (spInitV C)
  bC : Binds K dC ["self", "arities"] []
  MB : Mk K B fB
  gB : mg "Book" = some (.ref B)
  GB : FnOk P w K mg base CX0 5 fB dB ["self", "operators", "goal", "rules"] (spBInit K C B)
  bB : Binds K dB ["self", "operators", "goal", "rules"] []
/-- the book at p has its operators' arities at an address that was free in H -/
def FreshOps (H H' : Hp) (p : Addr) : Prop := ∃ oo ta, FldAt H' p "_operators" (.ref oo) ∧ FldAt H' oo "_arities" (.ref ta) ∧ H ta = none
def spLMade (K : PySem.W.Frag) (C B : Addr) : Sp := fun vs H Q _ => ∃ (d : Addr) (l : List (Str × Nat)) (g : Str) (rs : List Rl), vs = [.ref d] ∧ PlainAt H d l g rs ∧ BkOk l g rs ∧
  ∀ (l' : List (Str × Nat)) (p : Addr) (H' : Hp), l'.Perm l → sortedS (l'.map (·.1)) = true → H p = none → Same H H' → BookAt K H' C B p l' g rs → FreshOps H H' p → Q (.ref p) H'
theorem made_same {H H' : Hp} {C x dx : Addr} (nx : H x = none) (nd : H dx = none) (ne : dx ≠ x) (k : Kp x (upd (upd H dx (.own x)) x (.ins C dx [])) H') : Same H H' := fun b u e => by
  have nb : b ≠ x := ne_of_none e nx
  refine k b u nb ?_
  rw [upd_ne nb, upd_ne (ne_of_none e nd)]
  exact e
theorem made_same0 {H : Hp} {C x dx : Addr} (nx : H x = none) (nd : H dx = none) : Same H (upd (upd H dx (.own x)) x (.ins C dx [])) := fun b u e => by
  rw [upd_ne (ne_of_none e nx), upd_ne (ne_of_none e nd)]
  exact e
end Pr
namespace Pr
open PySem PySem.Spec PyProof.Rows L2 Gd
theorem empty_app (a : Str) : Str.empty ++ a = a := by
  apply str_ext
  show (Str.empty.cps ++ a.cps).toList = _
  rw [Array.toList_append]
  rfl
section
variable {P : Program} {w : World} {K : PySem.W.Frag} {mg : Str → Option Value} {base : Heap} {C B fC fB : Addr} {dC dB : FuncData}
/-! ### _law_lines -/
def spLLines (K : PySem.W.Frag) : Sp := fun vs H Q _ => ∃ (d : Addr) (l : List (Str × Nat)) (g : Str) (rs : List Rl), vs = [.ref d] ∧ PlainAt H d l g rs ∧ BkOk l g rs ∧
  ∀ (l' : List (Str × Nat)) (p : Addr) (H' : Hp), l'.Perm l → sortedS (l'.map (·.1)) = true → H p = none → Same H H' → H' p = some (.lst ((bkLines l' g rs).map V.str)) → Q (.ref p) H'
theorem line_eq (z : Str) (n : Nat) : ("op " : Str) ++ z ++ " " ++ Str.ofString (toString (n : Int)) = lnS (z, n) := by
  unfold lnS
  rw [empty_app]
theorem goS_eq (g : Str) : ("goal " : Str) ++ g = goS g := by
  unfold goS
  rw [empty_app]
theorem scLLines : FnScope ["plain", "found", "head", "price", "pattern", "name"] ["plain"] (defScope sLLines) := ⟨rfl, rfl, rfl, by decide +kernel, rfl, by decide +kernel, by decide +kernel⟩
theorem ok_llines {f : Addr} {fd : FuncData} (F : Fun K "_law_lines" "_law_lines" sLLines f fd) (T : Free mg) : FnOk P w K mg base CX0 1 f fd ["plain"] (spLLines K) := by
  refine F.ok scLLines (fun vs H Q E h => ?_) (fun cdv A outer s H vs Q E hr h => ?_)
  · obtain ⟨d, l, g, rs, rfl, _⟩ := h
    rfl
  · obtain ⟨d, l, g, rs, rfl, pl, ok, q⟩ := h
    have hu := hr.units
    have hu1 : ∀ {u : Nat}, u + 64 < cLine → u + 1 < cLine := fun h => by omega
    refine ⟨_, (pss_cons (ps_setLc (i := 1) (own := [("name", 5)]) (g := gName 5) (by rfl) scLLines.nd rfl rfl (sw_true rfl rfl rfl (by decide +kernel)) (pi_list (pe_callB (call_sortedD (by rfl)) (by rfl) T.sorted (by decide +kernel) (pa_cons (pe_dget (hu1 hu) (pv 0) pe_str (fun _ _ => rfl)) pa_nil))) (blkOk_by (own := [("name", 5)]) (N := ["plain", "found", "head", "price", "pattern", "name"]) (sc := defScope sLLines) (by decide +kernel)) (fun _ _ _ _ _ => pg_name (i := 5) scLLines.nd rfl (.inl rfl)) (fun _ _ _ _ _ => pts_nil) (fun _ _ _ _ _ => pe_op op_add_str (pe_op op_add_str (pe_op op_add_str pe_str (pv 5)) pe_str) (pe_callTy call_str_int (by rfl) T.str (by decide +kernel) (pa_cons (pe_dget (hu1 hu) (pe_dget (hu1 hu) (pv 0) pe_str (fun _ _ => rfl)) (pv 5) (fun _ _ => rfl)) pa_nil)))) (pss_cons (ps_expr (pe_bm PySem.F.plainAttrs_list PySem.F.slot_list_append PySem.F.type_list_append mt_append (pv 1) (pa_cons (pe_op op_add_str pe_str (pe_dget (hu1 hu) (pv 0) pe_str (fun _ _ => rfl))) pa_nil))) (pss_cons (ps_for PassesOwn.never rfl (pi_list (pe_dget (hu1 hu) (pv 0) pe_str (fun _ _ => rfl))) (pg_tup rfl (pgs_cons (pg_name (i := 2) scLLines.nd rfl (.inl rfl)) (pgs_cons (pg_name (i := 3) scLLines.nd rfl (.inl rfl)) (pgs_cons (pg_name (i := 4) scLLines.nd rfl (.inl rfl)) pgs_nil)))) (pss_one (ps_expr (pe_bm PySem.F.plainAttrs_list PySem.F.slot_list_append PySem.F.type_list_append mt_append (pv 1) (pa_cons (pe_join pe_str (pe_op op_cat (pe_lst (pa_cons pe_str (pa_cons (pv 2) (pa_cons (pe_callTy call_str_int (by rfl) T.str (by decide +kernel) (pa_cons (pv 3) pa_nil)) pa_nil)))) (pe_callTy call_list_of (by rfl) T.list (by decide +kernel) (pa_cons (pv 4) pa_nil)))) pa_nil))))) (pss_one (ps_ret (pv 1)))))), ?_⟩
    obtain ⟨la, ra, as, h1, h2, h3, h4⟩ := pl.ex
    have few := ok.ops.few
    refine ⟨_, rfl, d, .ref la, rfl, pl_ar ▸ DGet.k (k := .inr ("arities" : Str)) h1, la, dkv l, l.map (·.1), rfl, .inl h2, keys_dkv l, by rw [List.length_map]; omega, fun zs sp pm srt nsp => ?_⟩
    obtain ⟨l', pl', rfl⟩ := perm_map pm
    have few' : l'.length ≤ 8 := by rw [pl'.length_eq]; omega
    have ss := Same.new nsp (o := .lst ((l'.map (·.1)).map V.str))
    have hsp : (upd H sp (.lst ((l'.map (·.1)).map V.str))) sp = some (.lst ((l'.map (·.1)).map V.str)) := upd_same
    generalize upd H sp (.lst ((l'.map (·.1)).map V.str)) = H1 at ss hsp ⊢
    refine ⟨sp, rfl, ⟨_, SqL.of hsp⟩, fun D nD => ?_⟩
    refine lc_list (K := K) (a := sp) (xs := (l'.map (·.1)).map V.str) (fun i G => G D = some (.lst ((l'.take i).map lnV)) ∧ Same H1 G) ⟨upd_same, Same.new nD⟩ (fun i G _ ⟨_, s⟩ => SqL.of (s _ _ hsp)) ?_ ?_
    · rintro i x G hx ⟨eD, s⟩
      obtain ⟨z, hz, rfl⟩ := str_at hx
      rw [List.getElem?_map] at hz
      obtain ⟨p, hp, rfl⟩ : ∃ p, l'[i]? = some p ∧ p.1 = z := by
        cases e : l'[i]? with
        | none => rw [e] at hz; cases hz
        | some p => rw [e] at hz; exact ⟨p, rfl, Option.some.inj hz⟩
      have mp : p ∈ l := pl'.mem_iff.mp (List.mem_of_getElem? hp)
      have az := az_len (ok.ops.name p mp)
      have vz := val_some ok.ops.nd mp
      have two := ok.ops.two p mp
      have il := (List.getElem?_eq_some_iff.mp hp).1
      have lg : ((p.2 : Int)).natAbs.log2 < 1920 := Nat.lt_of_le_of_lt (Nat.log2_le_self _) (by omega)
      have tl : (Str.ofString (toString (p.2 : Int))).length ≤ 1921 := PyProof.Rows.int_text_len_1921 lg
      have c1 : ("op " : Str).length = 3 := rfl
      have c2 : (" " : Str).length = 1 := rfl
      refine ⟨rfl, _, rfl, _, _, rfl, rfl, by rw [c1, sizeLine_eq]; omega, _, _, rfl, rfl, by rw [strLen_append, c1, c2, sizeLine_eq]; omega, _, rfl, d, .ref la, rfl, pl_ar ▸ DGet.k (k := .inr ("arities" : Str)) (s _ _ (ss _ _ h1)), _, rfl, la, .int (p.2 : Int), rfl, vz ▸ DGet.k (k := .inr p.1) (s _ _ (ss _ _ h2)), _, rfl, lg, _, _, rfl, rfl, ?_, _, eD, by rw [List.length_map, List.length_take, sizeLine_eq]; omega, ?_, fun b o q => by rw [upd_ne (ne_of_none q nD)]; exact s b o q⟩
      · show (("op " : Str) ++ p.1 ++ (" " : Str)).length + (Str.ofString (toString (p.2 : Int))).length ≤ sizeLine
        rw [strLen_append, strLen_append, c1, c2, sizeLine_eq]
        omega
      · rw [upd_same, List.take_add_one, hp, List.map_append]
        show some (HO.lst (_ ++ [V.str (("op " : Str) ++ p.1 ++ " " ++ Str.ofString (toString (p.2 : Int)))])) = _
        rw [line_eq]
        rfl
    rintro H2 ⟨eD, s2⟩
    rw [List.take_of_length_le (by rw [List.length_map, List.length_map]; exact Nat.le_refl _)] at eD
    have s02 := ss.trans s2
    have nDH : H D = none := Same.free ss nD
    have ga := az_len ok.goal
    have tyD : tyV K "list" (V.ref D) H2 := .inl ⟨rfl, _, SqL.of eD⟩
    refine ⟨_, rfl, tyD, _, rfl, d, .str g, rfl, pl_go ▸ DGet.k (k := .inr ("goal" : Str)) (s02 _ _ h1), _, _, rfl, rfl, by rw [sizeLine_eq, show ("goal " : Str).length = 5 from rfl]; omega, D, _, _, rfl, rfl, eD, by rw [List.length_map, sizeLine_eq]; omega, ?_⟩
    have ke : ∀ {G : Hp} {u : HO}, Same H G → Same H (upd G D u) := fun {G u} s b o e => by rw [upd_ne (ne_of_none e nDH)]; exact s b o e
    have eD3 : (upd H2 D (.lst (l'.map lnV ++ [V.str (("goal " : Str) ++ g)]))) D = some (.lst ((l'.map lnS ++ [goS g]).map V.str)) := by
      rw [upd_same, goS_eq, List.map_append, List.map_map]
      rfl
    have s03 := ke (u := .lst (l'.map lnV ++ [V.str (("goal " : Str) ++ g)])) s02
    generalize upd H2 D (.lst (l'.map lnV ++ [V.str (("goal " : Str) ++ g)])) = H3 at eD3 s03 ⊢
    have las : as.length = rs.length := Paired.length h4
    have rfew := ok.few
    refine ⟨_, rfl, d, .ref ra, rfl, pl_ru ▸ DGet.k (k := .inr ("rules" : Str)) (s03 _ _ h1), ra, rfl, ⟨_, SqL.of (s03 _ _ h3)⟩, ?_⟩
    refine for_list (K := K) (a := ra) (xs := as.map V.ref) (fun i σ G => ∃ v2 v3 v4 v5 : Option V, σ = [some (.ref d), some (.ref D), v2, v3, v4, v5] ∧ G D = some (.lst ((l'.map lnS ++ goS g :: (rs.take i).map rlS).map V.str)) ∧ Same H G)
      ⟨none, none, none, none, rfl, by rw [List.take_zero]; exact eD3, s03⟩ (fun i σ G _ ⟨_, _, _, _, _, _, s⟩ => SqL.of (s _ _ h3)) ?_ ?_
    · rintro i x σ G hx ⟨v2, v3, v4, v5, rfl, eD, s⟩
      obtain ⟨b, hb, rfl⟩ := ref_at hx
      obtain ⟨r, hr', rat⟩ := pget9 h4 hb
      obtain ⟨t, hbt, htt⟩ := RuleAt.same rat s
      have rok := ok.rules r (List.mem_of_getElem? hr')
      have il := (List.getElem?_eq_some_iff.mp hr').1
      have lg : ((r.2.1 : Int)).natAbs.log2 < 1920 := by
        have := rok.price
        exact Nat.lt_of_le_of_lt (Nat.log2_le_self _) (by omega)
      have rf := rok.few
      have tyG : tyV K "list" (V.ref D) G := .inl ⟨rfl, _, SqL.of eD⟩
      refine ⟨b, _, rfl, SqT.of hbt, rfl, _, _, rfl, _, _, rfl, _, _, rfl, rfl, ?_⟩
      refine ⟨_, rfl, tyG, ⟨_, rfl⟩, _, rfl, _, rfl, _, rfl, lg, by show 3 ≤ sizeLine; decide, fun lp nlp => ?_⟩
      have sa := Same.new nlp (o := .lst [V.str "rule", V.str r.1, V.str (toString (r.2.1 : Int))])
      have hlp : (upd G lp (.lst [V.str "rule", V.str r.1, V.str (toString (r.2.1 : Int))])) lp = some (.lst [V.str "rule", V.str r.1, V.str (toString (r.2.1 : Int))]) := upd_same
      generalize upd G lp (.lst [V.str "rule", V.str r.1, V.str (toString (r.2.1 : Int))]) = G1 at sa hlp ⊢
      refine ⟨_, rfl, t, _, rfl, .inr (SqT.of (sa _ _ htt)), fun l2 nl2 => ?_⟩
      have sb := Same.new nl2 (o := .lst (r.2.2.map V.str))
      have hl2 : (upd G1 l2 (.lst (r.2.2.map V.str))) l2 = some (.lst (r.2.2.map V.str)) := upd_same
      have hlp2 := sb _ _ hlp
      have sab := sa.trans sb
      generalize upd G1 l2 (.lst (r.2.2.map V.str)) = G2 at sab hl2 hlp2 ⊢
      have lz : (r.2.2.map V.str).length = r.2.2.length := List.length_map _
      refine ⟨lp, l2, _, _, rfl, rfl, hlp2, hl2, by rw [lz, sizeLine_eq]; simp only [List.length_cons, List.length_nil]; omega, fun cp ncp => ?_⟩
      have sc := Same.new ncp (o := .lst ([V.str "rule", V.str r.1, V.str (toString (r.2.1 : Int))] ++ r.2.2.map V.str))
      refine ⟨" ", cp, ("rule" : Str) :: r.1 :: (Str.ofString (toString (r.2.1 : Int))) :: r.2.2, rfl, rfl, .inl (SqL.of (by rw [upd_same]; rfl)), ?_, ?_⟩
      · have t1 : (Str.ofString (toString (r.2.1 : Int))).length ≤ 1921 := PyProof.Rows.int_text_len_1921 lg
        have t2 := az_len rok.head
        have t3 : (r.2.2.map (·.length)).sum ≤ 8 * r.2.2.length := sum_az rok.names
        simp only [List.map_cons, List.sum_cons, List.length_cons, show ("rule" : Str).length = 4 from rfl, show (" " : Str).length = 1 from rfl]
        omega
      · refine ⟨D, _, _, rfl, rfl, sc _ _ (sab _ _ eD), ?_, some (.str r.1), some (.int (r.2.1 : Int)), some (.ref t), v5, rfl, ?_, ke (s.trans (sab.trans sc))⟩
        · rw [List.length_map, List.length_append, List.length_cons, List.length_map, List.length_map, List.length_take, sizeLine_eq]
          omega
        · rw [upd_same, List.take_add_one, hr', List.map_append, List.map_append, List.map_cons, List.map_cons, List.map_append, List.map_append, List.append_assoc, List.cons_append]
          rfl
    · rintro σ G ⟨v2, v3, v4, v5, rfl, eD, s⟩
      rw [List.take_of_length_le (by rw [List.length_map]; omega)] at eD
      exact ⟨_, rfl, q l' D G pl' srt nDH s eD⟩
end
end Pr
namespace Pr
open PySem PySem.Spec PyProof.Rows L2 Gd
/-! ### _law_nonterminals, _law_parts -/
def spLNonts : Sp := fun vs H Q _ => ∃ (d : Addr) (l : List (Str × Nat)) (g : Str) (rs : List Rl), vs = [.ref d] ∧ PlainAt H d l g rs ∧ BkOk l g rs ∧
  ∀ (ys : List Str) (p : Addr) (H' : Hp), sortedS ys = true → ys.Nodup → (∀ z, z ∈ ys ↔ isNt l g rs z) → H p = none → Same H H' → H' p = some (.lst (ys.map V.str)) → Q (.ref p) H'
section
variable {P : Program} {w : World} {K : PySem.W.Frag} {mg : Str → Option Value} {base : Heap} {fE : Addr} {dE : FuncData}
theorem scLNonts9 : FnScope ["plain", "found", "head", "price", "pattern", "name"] ["plain"] (defScope sLNonts) := ⟨rfl, rfl, rfl, by decide +kernel, rfl, by decide +kernel, by decide +kernel⟩
theorem ok_lnonts {f : Addr} {fd : FuncData} (F : Fun K "_law_nonterminals" "_law_nonterminals" sLNonts f fd) (T : Free mg) : FnOk P w K mg base CX0 1 f fd ["plain"] spLNonts := by
  refine F.ok scLNonts9 (fun vs H Q E h => ?_) (fun cdv A outer s H vs Q E hr h => ?_)
  · obtain ⟨d, l, g, rs, rfl, _⟩ := h
    rfl
  · obtain ⟨d, l, g, rs, rfl, pl, ok, q⟩ := h
    have hu := hr.units
    have hu1 : ∀ {u : Nat}, u + 64 < cLine → u + 1 < cLine := fun h => by omega
    refine ⟨_, (pss_cons (ps_set (i := 1) scLNonts9.nd rfl (.inl rfl) (pe_lst (pa_cons (pe_dget (hu1 hu) (pv 0) pe_str (fun _ _ => rfl)) pa_nil))) (pss_cons (ps_for PassesOwn.never rfl (pi_list (pe_dget (hu1 hu) (pv 0) pe_str (fun _ _ => rfl))) (pg_tup rfl (pgs_cons (pg_name (i := 2) scLNonts9.nd rfl (.inl rfl)) (pgs_cons (pg_name (i := 3) scLNonts9.nd rfl (.inl rfl)) (pgs_cons (pg_name (i := 4) scLNonts9.nd rfl (.inl rfl)) pgs_nil)))) (pss_one (ps_set (i := 1) scLNonts9.nd rfl (.inl rfl) (pe_op op_cat (pe_op op_cat (pv 1) (pe_lst (pa_cons (pv 2) pa_nil))) (pe_lc (own := [("name", 5)]) (g := gName 5) (by rfl) scLNonts9.nd (pi_tup (pv 4)) (blkOk_by (own := [("name", 5)]) (N := ["plain", "found", "head", "price", "pattern", "name"]) (sc := defScope sLNonts) (by decide +kernel)) (fun _ _ _ _ _ => pg_name (i := 5) scLNonts9.nd rfl (.inl rfl)) (fun _ _ _ _ _ => pts_one (pt_cmp (pc_dnotin (hu1 hu) (pv 5) (pe_dget (hu1 hu) (pv 0) pe_str (fun _ _ => rfl))))) (fun _ _ _ _ _ => pv 5)))))) (pss_one (ps_ret (pe_callB (Ns.cr_sortedSetS (by rfl)) (by rfl) T.sorted (by decide +kernel) (pa_cons (pe_callTy (Ns.cr_setOfS (by rfl)) (by rfl) T.set (by decide +kernel) (pa_cons (pv 1) pa_nil)) pa_nil)))))), ?_⟩
    obtain ⟨la, ra, as, h1, h2, h3, h4⟩ := pl.ex
    obtain ⟨D6, hD6, inD⟩ := ok.six
    have las : as.length = rs.length := Paired.length h4
    refine ⟨_, rfl, d, .str g, rfl, pl_go ▸ DGet.k (k := .inr ("goal" : Str)) h1, by show 1 ≤ sizeLine; decide, fun f0 nf0 => ?_⟩
    have s0 := Same.new nf0 (o := .lst [V.str g])
    refine ⟨_, rfl, d, .ref ra, rfl, pl_ru ▸ DGet.k (k := .inr ("rules" : Str)) (s0 _ _ h1), ra, rfl, ⟨_, SqL.of (s0 _ _ h3)⟩, ?_⟩
    refine for_list (K := K) (a := ra) (xs := as.map V.ref) (fun i σ G => ∃ (fa : Addr) (v2 v3 v4 v5 : Option V) (fs : List Str), σ = [some (.ref d), some (.ref fa), v2, v3, v4, v5] ∧ H fa = none ∧ G fa = some (.lst (fs.map V.str)) ∧ fs.length ≤ 1 + 8 * i ∧ (∀ z, z ∈ fs ↔ isNt l g (rs.take i) z) ∧ Same H G)
      ⟨f0, none, none, none, none, [g], rfl, nf0, upd_same, Nat.le_refl _, fun z => ?_, s0⟩ (fun i σ G _ ⟨_, _, _, _, _, _, _, _, _, _, _, s⟩ => SqL.of (s _ _ h3)) ?_ ?_
    · rw [List.mem_singleton]
      constructor
      · exact .inl
      · rintro (h | ⟨r, m, _⟩)
        · exact h
        · simp at m
    · rintro i x σ G hx ⟨fa, v2, v3, v4, v5, fs, rfl, nfa, eF, lf, mem, s⟩
      obtain ⟨b, hb, rfl⟩ := ref_at hx
      obtain ⟨r, hr', rat⟩ := pget9 h4 hb
      obtain ⟨t, hbt, htt⟩ := RuleAt.same rat s
      have rok := ok.rules r (List.mem_of_getElem? hr')
      have il := (List.getElem?_eq_some_iff.mp hr').1
      have rf := rok.few
      have ofew := ok.few
      refine ⟨b, _, rfl, SqT.of hbt, rfl, _, _, rfl, _, _, rfl, _, _, rfl, rfl, ?_⟩
      refine ⟨_, rfl, _, rfl, by show 1 ≤ sizeLine; decide, fun hl nhl => ?_⟩
      have sa := Same.new nhl (o := .lst [V.str r.1])
      refine ⟨fa, hl, _, _, rfl, rfl, sa _ _ eF, upd_same, by rw [List.length_map, sizeLine_eq]; simp only [List.length_cons, List.length_nil]; omega, fun c1 nc1 => ?_⟩
      have sb := sa.trans (Same.new nc1 (o := .lst (fs.map V.str ++ [V.str r.1])))
      have hc1 : (upd (upd G hl (.lst [V.str r.1])) c1 (.lst (fs.map V.str ++ [V.str r.1]))) c1 = some (.lst (fs.map V.str ++ [V.str r.1])) := upd_same
      generalize upd (upd G hl (.lst [V.str r.1])) c1 (.lst (fs.map V.str ++ [V.str r.1])) = G1 at sb hc1 ⊢
      have s1 := s.trans sb
      refine ⟨_, rfl, t, rfl, ⟨_, SqT.of (sb _ _ htt)⟩, fun D nD => ?_⟩
      refine lc_tup (K := K) (a := t) (xs := r.2.2.map V.str) (fun j G2 => ∃ us : List Str, G2 D = some (.lst (us.map V.str)) ∧ us.length ≤ j ∧ (∀ z, z ∈ us ↔ z ∈ r.2.2.take j ∧ z ∉ l.map (·.1)) ∧ Same G1 G2)
        ⟨[], upd_same, Nat.le_refl _, fun z => by simp, Same.new nD⟩ (fun j G2 _ ⟨_, _, _, _, s2⟩ => SqT.of (s2 _ _ (sb _ _ htt))) ?_ ?_
      · rintro j x G2 hx ⟨us, eD, lu, memu, s2⟩
        obtain ⟨z, hz, rfl⟩ := str_at hx
        have jl := (List.getElem?_eq_some_iff.mp hz).1
        have step : ∀ x, x ∈ r.2.2.take (j + 1) ↔ x ∈ r.2.2.take j ∨ x = z := fun x => by
          rw [List.take_add_one, hz, List.mem_append]
          simp
        refine ⟨rfl, _, rfl, _, rfl, d, .ref la, rfl, pl_ar ▸ DGet.k (k := .inr ("arities" : Str)) (s2 _ _ (s1 _ _ h1)), la, _, rfl, DGet.k (k := .inr z) (s2 _ _ (s1 _ _ h2)), _, rfl, ?_⟩
        by_cases c : z ∈ l.map (·.1)
        · have e := val_mem_iff.mpr c
          refine if_false_of (by rw [e]; rfl) ⟨us, eD, by omega, fun x => ?_, s2⟩
          rw [memu x, step x]
          constructor
          · rintro ⟨h, n⟩
            exact ⟨.inl h, n⟩
          · rintro ⟨h | h, n⟩
            · exact ⟨h, n⟩
            · exact absurd (h ▸ c) n
        · have e : (valV (dkv l) (.inr z : Key)).isSome = false := by
            cases q : (valV (dkv l) (.inr z : Key)).isSome with
            | false => rfl
            | true => exact absurd (val_mem_iff.mp q) c
          refine if_true_of (by rw [e]; rfl) ⟨_, rfl, _, eD, by rw [List.length_map, sizeLine_eq]; omega, us ++ [z], by rw [upd_same, List.map_append]; rfl, by rw [List.length_append]; simp only [List.length_cons, List.length_nil]; omega, fun x => ?_, fun b o q => by rw [upd_ne (ne_of_none q nD)]; exact s2 b o q⟩
          rw [List.mem_append, memu x, step x, List.mem_singleton]
          constructor
          · rintro (⟨h, n⟩ | h)
            · exact ⟨.inl h, n⟩
            · exact ⟨.inr h, h ▸ c⟩
          · rintro ⟨h | h, n⟩
            · exact .inl ⟨h, n⟩
            · exact .inr h
      · rintro G2 ⟨us, eD, lu, memu, s2⟩
        have lz : (r.2.2.map V.str).length = r.2.2.length := List.length_map _
        rw [lz] at lu memu
        rw [List.take_length] at memu
        refine ⟨c1, D, _, _, rfl, rfl, s2 _ _ hc1, eD, by rw [List.length_append, List.length_map, List.length_map, sizeLine_eq]; simp only [List.length_cons, List.length_nil]; omega, fun c2 nc2 => ?_⟩
        have s3 := s1.trans s2
        refine ⟨c2, _, _, _, _, fs ++ r.1 :: us, rfl, Same.free s3 nc2, by rw [upd_same, List.map_append, List.map_cons, List.append_assoc]; rfl, by rw [List.length_append, List.length_cons]; omega, fun z => ?_, s3.trans (Same.new nc2)⟩
        rw [List.mem_append, mem z, List.mem_cons, memu z]
        unfold isNt
        rw [List.take_add_one, hr']
        constructor
        · rintro ((h | ⟨r2, m2, k⟩) | h | ⟨h, n⟩)
          · exact .inl h
          · exact .inr ⟨r2, List.mem_append_left _ m2, k⟩
          · exact .inr ⟨r, List.mem_append_right _ (by simp), .inl h, h ▸ rok.new⟩
          · exact .inr ⟨r, List.mem_append_right _ (by simp), .inr h, n⟩
        · rintro (h | ⟨r2, m2, k, n⟩)
          · exact .inl (.inl h)
          · rcases List.mem_append.mp m2 with m2 | m2
            · exact .inl (.inr ⟨r2, m2, k, n⟩)
            · have e2 : r2 = r := by simpa using m2
              rw [e2] at k
              rcases k with k | k
              · exact .inr (.inl k)
              · exact .inr (.inr ⟨k, n⟩)
    · rintro σ G ⟨fa, v2, v3, v4, v5, fs, rfl, nfa, eF, lf, mem, s⟩
      have ofew := ok.few
      rw [List.take_of_length_le (by rw [List.length_map, las]; exact Nat.le_refl _)] at mem
      rw [List.length_map, las] at lf
      refine ⟨_, rfl, fa, fs, rfl, SqL.of eF, by unfold scanBound; omega, fun sa c nsa few => ?_⟩
      have c6 : c ≤ 6 := Nat.le_trans (few D6 fun z m => inD z ((mem z).mp m)) hD6
      refine ⟨sa, _, c, rfl, upd_same, by omega, fun ys p srt nd my _ np => ?_⟩
      have s2 := s.trans (Same.new nsa (o := Ns.SetSO P w sa (fun z => decide (z ∈ fs)) c))
      exact q ys p _ srt nd (fun z => by rw [my z, decide_eq_true_eq, mem z]) (Same.free s2 np) (s2.trans (Same.new np)) upd_same
end
end Pr
namespace Pr
open PySem PySem.Spec PyProof.Rows L2 Gd
theorem nts_one {l : List (Str × Nat)} {g : Str} {rs : List Rl} {xs ys : List Str} (hx : sortedS xs = true) (hy : sortedS ys = true) (nx : xs.Nodup) (ny : ys.Nodup) (mx : ∀ z, z ∈ xs ↔ isNt l g rs z) (my : ∀ z, z ∈ ys ↔ isNt l g rs z) : xs = ys :=
  sorted_one hx hy ((List.perm_ext_iff_of_nodup nx ny).mpr fun z => (mx z).trans (my z).symm)
end Pr
namespace Pr
open PySem PySem.Spec PyProof.Rows L2 Gd
/-! ### the lines of a book are sound texts -/
theorem sok_app {a b : Str} (h : PyData.strOk a = true) (k : PyData.strOk b = true) : PyData.strOk (a ++ b) = true := by
  unfold PyData.strOk at h k ⊢
  show (a.cps ++ b.cps).all _ = true
  rw [Array.all_append, h, k]
  rfl
theorem sok_num : ∀ n < 10, PyData.strOk (Str.ofString (toString ((n : Nat) : Int))) = true := by decide +kernel
theorem sok_joined {a : Str} (h : PyData.strOk a = true) : ∀ {ys : List Str}, (∀ y ∈ ys, PyData.strOk y = true) → PyData.strOk (PySem.Str.join a ys) = true
  | [], _ => by
    have e0 : PyData.strOk Str.empty = true := by decide +kernel
    exact e0
  | [x], k => k x List.mem_cons_self
  | x :: y :: ys, k => by
    show PyData.strOk (x ++ a ++ PySem.Str.join a (y :: ys)) = true
    exact sok_app (sok_app (k x List.mem_cons_self) h) (sok_joined h fun z m => k z (List.mem_cons_of_mem _ m))
theorem sok_join {a : Str} (h : PyData.strOk a = true) {ys : List Str} (k : ∀ y ∈ ys, PyData.strOk y = true) : PyData.strOk (Txt.join a ys) = true := by
  show PyData.strOk (Builtin.Str.glued a ys) = true
  rw [StrLaws.glued_eq_join]
  exact sok_joined h k
theorem sok_lines {l : List (Str × Nat)} {g : Str} {rs : List Rl} (ok : BkOk l g rs) : ∀ z ∈ bkLines l g rs, PyData.strOk z = true := by
  intro z m
  have e0 : PyData.strOk Str.empty = true := by decide +kernel
  have e1 : PyData.strOk ("op " : Str) = true := by decide +kernel
  have e2 : PyData.strOk (" " : Str) = true := by decide +kernel
  have e3 : PyData.strOk ("goal " : Str) = true := by decide +kernel
  have e4 : PyData.strOk ("rule" : Str) = true := by decide +kernel
  unfold bkLines at m
  rcases List.mem_append.mp m with m | m
  · obtain ⟨p, mp, rfl⟩ := List.mem_map.mp m
    have two := ok.ops.two p mp
    unfold lnS
    exact sok_app (sok_app (sok_app (sok_app e0 e1) (az_ok (ok.ops.name p mp))) e2) (sok_num _ (by omega))
  rcases List.mem_cons.mp m with rfl | m
  · unfold goS
    exact sok_app (sok_app e0 e3) (az_ok ok.goal)
  · obtain ⟨r, mr, rfl⟩ := List.mem_map.mp m
    have rk := ok.rules r mr
    have pr := rk.price
    unfold rlS
    refine sok_join e2 fun y my => ?_
    rcases List.mem_cons.mp my with rfl | my
    · exact e4
    rcases List.mem_cons.mp my with rfl | my
    · exact az_ok rk.head
    rcases List.mem_cons.mp my with rfl | my
    · exact sok_num _ (by omega)
    · exact az_ok (rk.names y my)
end Pr
namespace Pr
open PySem PySem.Spec PyProof.Rows L2 Gd
/-! ### _law_same_book -/
structure PrB (P : Program) (w : World) (K : PySem.W.Frag) (mg : Str → Option Value) (base : Heap) (B : Addr) (name field : Str) : Prop where
  ex : ∃ (p g : Addr) (gd : FuncData), PropOf K B name p g ∧ FnOk P w K mg base CX0 1 g gd ["self"] (spGet B field) ∧ Binds K gd ["self"] []
structure Teller (P : Program) (w : World) (K : PySem.W.Frag) (mg : Str → Option Value) (base : Heap) (C B : Addr) : Prop where
  bf : BkF K B
  rules : PrB P w K mg base B "rules" "_rules"
  goal : PrB P w K mg base B "goal" "_goal"
  lines : PrB P w K mg base B "lines" "_lines"
  nonts : PrB P w K mg base B "nonterminals" "_nonterminals"
  ops : PrB P w K mg base B "operators" "_operators"
  len : ∃ (f : Addr) (fd : FuncData), FnOk P w K mg base CX0 1 f fd ["self"] (spBLen K C B) ∧ Binds K fd ["self"] [] ∧ OwnM K B "__len__" f
  oeq : ∃ (f : Addr) (fd : FuncData), FnOk P w K mg base CX0 1 f fd ["self", "other"] (spOEq C) ∧ Binds K fd ["self", "other"] [] ∧ EqF K C f
theorem nt_az {l : List (Str × Nat)} {g : Str} {rs : List Rl} {z : Str} (ok : BkOk l g rs) (h : isNt l g rs z) : azB z = true := by
  rcases h with rfl | ⟨r, m, k, _⟩
  · exact ok.goal
  · rcases k with rfl | k
    · exact (ok.rules r m).head
    · exact (ok.rules r m).names z k
theorem hit_sub9 {l : List (Str × Nat)} (nd : (l.map (·.1)).Nodup) : ∀ {k : List (Str × Nat)}, (∀ p ∈ k, p ∈ l) → hitB (dkv l) (dkv k) = true
  | [], _ => rfl
  | p :: k, h => by
    have v1 := val_some nd (show (p.1, p.2) ∈ l from h p List.mem_cons_self)
    show (match valV (dkv l) (.inr p.1 : Key) with | none => false | some u => eqV (.int (p.2 : Int)) u && hitB (dkv l) (dkv k)) = true
    rw [v1]
    show ((p.2 : Int) == (p.2 : Int) && hitB (dkv l) (dkv k)) = true
    rw [hit_sub9 nd fun q m => h q (List.mem_cons_of_mem _ m)]
    simp
theorem eqD_self9 {l : List (Str × Nat)} (nd : (l.map (·.1)).Nodup) : eqD (dkv l) (dkv l) = true := by
  unfold eqD
  rw [hit_sub9 nd fun p m => m]
  simp
def spSame (K : PySem.W.Frag) (C B : Addr) : Sp := fun vs H Q _ => ∃ (o d : Addr) (l l' : List (Str × Nat)) (g : Str) (rs : List Rl), vs = [.ref o, .ref d] ∧ BookAt K H C B o l' g rs ∧ l'.Perm l ∧ sortedS (l'.map (·.1)) = true ∧ PlainAt H d l g rs ∧ BkOk l g rs ∧
  ∀ H', Same H H' → Q (.bl true) H'
section
variable {P : Program} {w : World} {K : PySem.W.Frag} {mg : Str → Option Value} {base : Heap} {C B fC fB fL fN : Addr} {dC dB dL dN : FuncData}
theorem scSame : FnScope ["told", "plain"] ["told", "plain"] (defScope sSame) := ⟨rfl, rfl, rfl, by decide +kernel, rfl, by decide +kernel, by decide +kernel⟩
theorem ok_same9 {f : Addr} {fd : FuncData} (F : Fun K "_law_same_book" "_law_same_book" sSame f fd) (T : Free mg) (Z : Maker P w K mg base C B fC fB dC dB) (S : Teller P w K mg base C B)
    (FL : Fun K "_law_lines" "_law_lines" sLLines fL dL) (bL : Binds K dL ["plain"] []) (gL : mg "_law_lines" = some (.ref fL))
    (FN : Fun K "_law_nonterminals" "_law_nonterminals" sLNonts fN dN) (bN : Binds K dN ["plain"] []) (gN : mg "_law_nonterminals" = some (.ref fN)) :
    FnOk P w K mg base CX0 6 f fd ["told", "plain"] (spSame K C B) := by
  have GL : FnOk P w K mg base CX0 1 fL dL ["plain"] (spLLines K) := ok_llines FL T
  have GN : FnOk P w K mg base CX0 1 fN dN ["plain"] spLNonts := ok_lnonts FN T
  obtain ⟨p1, g1, d1, pr1, G1, b1⟩ := S.rules.ex
  obtain ⟨p2, g2, d2, pr2, G2, b2⟩ := S.goal.ex
  obtain ⟨p3, g3, d3, pr3, G3, b3⟩ := S.lines.ex
  obtain ⟨p4, g4, d4, pr4, G4, b4⟩ := S.nonts.ex
  obtain ⟨p5, g5, d5, pr5, G5, b5⟩ := S.ops.ex
  obtain ⟨fS, dS, GS, bS, oS⟩ := S.len
  obtain ⟨fE, dE, GE, bE, EF⟩ := S.oeq
  have bf := S.bf
  refine F.ok scSame (fun vs H Q E h => ?_) (fun cdv A outer s H vs Q E hr h => ?_)
  · obtain ⟨o, d, l, l', g, rs, rfl, _⟩ := h
    rfl
  · obtain ⟨o, d, l, l', g, rs, rfl, bk, pm, srt, pl, ok, q⟩ := h
    have hu := hr.units
    have hu1 : ∀ {u : Nat}, u + 64 < cLine → u + 1 < cLine := fun h => by omega
    have r1 : Room 1 _ := hr.mono (by decide)
    have r2 : Room 2 _ := hr.mono (by decide)
    have r4 : Room 4 _ := hr.mono (by decide)
    refine ⟨_, (pss_cons (ps_if (PW.pt (pw_or (pt_cmpR (op_neD hu) (pe_prop (pv 0) bf.cls pr1 G1 r2 b1 .nil pass0 rfl) (pe_callTy call_tuple_of (by rfl) T.tuple (by decide +kernel) (pa_cons (pe_dget (hu1 hu) (pv 1) pe_str (fun _ _ => rfl)) pa_nil)) (nomark _)) (pw_or (pt_cmpR op_ne (pe_prop (pv 0) bf.cls pr2 G2 r2 b2 .nil pass0 rfl) (pe_dget (hu1 hu) (pv 1) pe_str (fun _ _ => rfl)) (nomark _)) (pw_or1 (pt_cmpR op_ne (pe_callB (call_lenO GS bS r2 oS) (by rfl) T.len PySem.boot_len (pa_cons (pv 0) pa_nil)) (pe_callB call_len_seq (by rfl) T.len PySem.boot_len (pa_cons (pe_dget (hu1 hu) (pv 1) pe_str (fun _ _ => rfl)) pa_nil)) (nomark _)))))) (pss_one (ps_ret pe_bl)) pss_nil) (pss_cons (ps_if (PW.pt (pw_or (pt_cmpR (op_neD hu) (pe_prop (pv 0) bf.cls pr3 G3 r2 b3 .nil pass0 rfl) (pe_callTy call_tuple_of (by rfl) T.tuple (by decide +kernel) (pa_cons (pe_call GL r1 (by rfl) gL FL.kp bL .nil pass0 (pa_cons (pv 1) pa_nil)) pa_nil)) (nomark _)) (pw_or1 (pt_cmpR (op_neD hu) (pe_prop (pv 0) bf.cls pr4 G4 r2 b4 .nil pass0 rfl) (pe_callTy call_tuple_of (by rfl) T.tuple (by decide +kernel) (pa_cons (pe_call GN r1 (by rfl) gN FN.kp bN .nil pass0 (pa_cons (pv 1) pa_nil)) pa_nil)) (nomark _))))) (pss_one (ps_ret pe_bl)) pss_nil) (pss_one (ps_ret (pe_cmpR (op_eqOwn GE EF bE (E := E0) pass0 r1) (pe_prop (pv 0) bf.cls pr5 G5 r2 b5 .nil pass0 rfl) (pe_make Z.MC Z.GC r4 rfl Z.gC Z.bC .nil pass0 (by exact (pa_cons (pe_dget (hu1 hu) (pv 1) pe_str (fun _ _ => rfl)) pa_nil))) (nomark _)))))), ?_⟩
    obtain ⟨dx, oo, rt, nt, pt, lt, kk, ho, hop, hra, hna, hpa, hla⟩ := bk.ex
    obtain ⟨rs1, hrt, prt⟩ := hra.ex
    obtain ⟨ys, hnt, srty, ndy, my⟩ := hna.ex
    obtain ⟨la, ra, as, h1, h2, h3, h4⟩ := pl.ex
    have las : as.length = rs.length := Paired.length h4
    have okr : ∀ r ∈ rs, azB r.1 = true ∧ ∀ z ∈ r.2.2, azB z = true := fun r m => ⟨(ok.rules r m).head, (ok.rules r m).names⟩
    refine ⟨_, rfl, o, dx, _, rfl, ho, ⟨o, dx, _, _, rfl, ho, rfl, ?_⟩⟩
    refine ⟨_, rfl, d, .ref ra, rfl, pl_ru ▸ DGet.k (k := .inr ("rules" : Str)) h1, ra, _, rfl, .inl ⟨SqL.of h3, fun t nt => ?_⟩⟩
    have s1 := Same.new nt (o := .tup (as.map V.ref))
    have ht : (upd H t (.tup (as.map V.ref))) t = some (.tup (as.map V.ref)) := upd_same
    generalize upd H t (.tup (as.map V.ref)) = H1 at s1 ht ⊢
    refine neT (.tup (SqT.of (s1 _ _ hrt)) (rls_dp (paired_map (fun _ _ k => k.same s1) prt))) (.tup (SqT.of ht) (rls_dp (paired_map (fun _ _ k => k.same s1) h4))) (rls_shaped okr) ⟨_, rfl, if_false_of rfl ?_⟩
    refine ⟨_, rfl, o, dx, _, rfl, s1 _ _ ho, ⟨o, dx, _, _, rfl, s1 _ _ ho, rfl, ?_⟩⟩
    refine ⟨_, rfl, d, .str g, rfl, pl_go ▸ DGet.k (k := .inr ("goal" : Str)) (s1 _ _ h1), rfl, _, rfl, if_false_of (by simp) ?_⟩
    refine ⟨_, rfl, o, dx, _, rfl, s1 _ _ ho, o, l', g, rs, rfl, bk.same s1, _, rfl, by omega, by have := ok.few; omega, ?_⟩
    refine ⟨_, rfl, d, .ref ra, rfl, pl_ru ▸ DGet.k (k := .inr ("rules" : Str)) (s1 _ _ h1), ra, _, rfl, .inl (SqL.of (s1 _ _ h3)), rfl, _, rfl, if_false_of (by rw [List.length_map, las]; simp) ?_⟩
    refine ⟨_, rfl, o, dx, _, rfl, s1 _ _ ho, ⟨o, dx, _, _, rfl, s1 _ _ ho, rfl, ?_⟩⟩
    have okp : BkOk l' g rs := ok.perm pm
    have ndl : (l'.map (·.1)).Nodup := okp.ops.nd
    refine ⟨_, rfl, d, l, g, rs, rfl, pl.same s1, ok, fun l2 p H2 pm2 srt2 np s2 hp => ⟨p, _, rfl, .inl ⟨SqL.of hp, fun t2 nt2 => ?_⟩⟩⟩
    have el : l' = l2 := rows_one (pm.trans pm2.symm) srt srt2 ndl
    subst el
    have s3 := (s1.trans s2).trans (Same.new nt2 (o := .tup ((bkLines l' g rs).map V.str)))
    have ht2 : (upd H2 t2 (.tup ((bkLines l' g rs).map V.str))) t2 = some (.tup ((bkLines l' g rs).map V.str)) := upd_same
    generalize upd H2 t2 (.tup ((bkLines l' g rs).map V.str)) = H3 at s3 ht2 ⊢
    refine neStrs (s3 _ _ hla) ht2 (sok_lines okp) ⟨_, rfl, if_false_of rfl ?_⟩
    refine ⟨_, rfl, o, dx, _, rfl, s3 _ _ ho, ⟨o, dx, _, _, rfl, s3 _ _ ho, rfl, ?_⟩⟩
    refine ⟨_, rfl, d, l, g, rs, rfl, pl.same s3, ok, fun zs p H4 srtz ndz mz np4 s4 hp4 => ⟨p, _, rfl, .inl ⟨SqL.of hp4, fun t4 nt4 => ?_⟩⟩⟩
    have ez : ys = zs := nts_one srty srtz ndy ndz my fun z => (mz z).trans (isNt_perm pm).symm
    subst ez
    have s5 := (s3.trans s4).trans (Same.new nt4 (o := .tup (ys.map V.str)))
    have ht4 : (upd H4 t4 (.tup (ys.map V.str))) t4 = some (.tup (ys.map V.str)) := upd_same
    generalize upd H4 t4 (.tup (ys.map V.str)) = H5 at s5 ht4 ⊢
    refine neStrs (s5 _ _ hnt) ht4 (fun z m => az_ok (nt_az ok ((isNt_perm pm).mp ((my z).mp m)))) ⟨_, rfl, if_false_of rfl ?_⟩
    refine ⟨_, rfl, o, dx, _, rfl, s5 _ _ ho, ⟨o, dx, _, _, rfl, s5 _ _ ho, rfl, ?_⟩⟩
    refine ⟨_, rfl, d, .ref la, rfl, pl_ar ▸ DGet.k (k := .inr ("arities" : Str)) (s5 _ _ h1), fun x dx2 nx ndx ne => ?_⟩
    have s0 := made_same0 (C := C) nx ndx
    refine ⟨x, dx2, la, l, rfl, upd_same, s0 _ _ (s5 _ _ h2), ok.ops, fun l3 ta3 H6 pm3 srt3 kp op _ _ => ⟨rfl, ?_⟩⟩
    have s6 := s5.trans (made_same nx ndx ne kp)
    have el3 : l' = l3 := rows_one (pm.trans pm3.symm) srt srt3 ndl
    subst el3
    have hop6 := hop.same s6
    obtain ⟨dxo, tn, ta, tl, hoo, _⟩ := hop6.ex
    obtain ⟨dxx, tn2, ta2, tl2, hxx, _⟩ := op.ex
    refine ⟨oo, dxo, _, rfl, hoo, .own hxx, oo, x, l', l', rfl, hop6, op, _, rfl, ?_⟩
    rw [eqD_self9 ndl]
    exact q H6 s6
end
end Pr
namespace Pr
open PySem PySem.Spec PyProof.Rows L2 Gd TL
/-! ### texts that are joined and cut again -/
theorem spl_cat : ∀ (a : List Nat) (acc b : List Nat), spl [32] 0 acc (a ++ 32 :: b) = spl [32] 0 acc a ++ spl [32] 0 [] b
  | [], acc, b => by
    rw [List.nil_append, spl_hit (by rfl), spl_nil]
    rfl
  | c :: r, acc, b => by
    rw [List.cons_append]
    have e1 : pre [32] (c :: (r ++ 32 :: b)) = pre [32] (c :: r) := rfl
    cases h : pre [32] (c :: r) with
    | true =>
      rw [spl_hit h, spl_hit (e1.trans h)]
      show acc :: spl [32] 0 [] (r ++ 32 :: b) = _
      rw [spl_cat r [] b]
      rfl
    | false =>
      rw [spl_miss h, spl_miss (e1.trans h)]
      exact spl_cat r _ b
theorem map_tl_inj {xs ys : List Str} (h : xs.map tl = ys.map tl) : xs = ys := (List.map_inj_right (fun a b e => ext_tl e)).mp h
theorem tl_sp : tl (" " : Str) = [32] := by decide +kernel
theorem sp_cat (x y : Str) : sp (x ++ (" " : Str) ++ y) = sp x ++ sp y := by
  refine map_tl_inj ?_
  rw [List.map_append, sp_map, sp_map, sp_map, tl_sp, tl_append, tl_append, tl_sp]
  have e : tl x ++ [32] ++ tl y = tl x ++ 32 :: tl y := by simp
  rw [e]
  exact spl_cat _ _ _
theorem sp_join : ∀ {ws : List Str}, ws ≠ [] → sp (PySem.Str.join (" " : Str) ws) = ws.flatMap sp
  | [], h => absurd rfl h
  | [x], _ => by
    show sp x = _
    simp
  | x :: y :: ys, _ => by
    show sp (x ++ (" " : Str) ++ PySem.Str.join (" " : Str) (y :: ys)) = _
    rw [sp_cat, sp_join (by simp)]
    simp only [List.flatMap_cons]
theorem sp_jn {ws : List Str} (h : ws ≠ []) : sp (Txt.join (" " : Str) ws) = ws.flatMap sp := by
  show sp (Builtin.Str.glued (" " : Str) ws) = _
  rw [StrLaws.glued_eq_join]
  exact sp_join h
theorem spl_one : ∀ (a acc : List Nat), (∀ c ∈ a, c ≠ 32) → spl [32] 0 acc a = [acc ++ a]
  | [], acc, _ => by rw [spl_nil, List.append_nil]
  | c :: r, acc, h => by
    have hc := h c List.mem_cons_self
    have e : pre [32] (c :: r) = false := by
      show ([c] == [32]) = false
      exact beq_eq_false_iff_ne.mpr fun q => hc (by injection q)
    rw [spl_miss e, spl_one r _ fun d m => h d (List.mem_cons_of_mem _ m), List.append_assoc]
    rfl
theorem sp_word {z : Str} (h : ∀ c ∈ tl z, c ≠ 32) : sp z = [z] := by
  refine map_tl_inj ?_
  rw [sp_map, tl_sp, spl_one _ _ h]
  rfl
theorem sp_name {z : Str} (h : azB z = true) : sp z = [z] := sp_word fun c m e => by
  have h2 : (decide (1 ≤ z.length) && decide (z.length ≤ 8) && z.cps.toList.all azC) = true := h
  rw [Bool.and_eq_true] at h2
  have := List.all_eq_true.mp h2.2 c m
  rw [e] at this
  exact absurd this (by decide)
theorem spl_sum : ∀ (a acc : List Nat), ((spl [32] 0 acc a).map fun w => w.length + 1).sum = acc.length + a.length + 1
  | [], acc => by
    rw [spl_nil]
    simp
  | c :: r, acc => by
    cases h : pre [32] (c :: r) with
    | true =>
      rw [spl_hit h]
      show (((acc :: spl [32] 0 [] r).map fun w => w.length + 1)).sum = _
      rw [List.map_cons, List.sum_cons, spl_sum r []]
      simp
      omega
    | false =>
      rw [spl_miss h, spl_sum r _]
      simp
      omega
theorem sp_sum (z : Str) : ((sp z).map fun w => w.length + 1).sum = z.length + 1 := by
  have e := spl_sum (tl z) []
  rw [← tl_sp, ← sp_map, List.map_map] at e
  rw [len_tl z]
  have e2 : ((sp z).map fun w => w.length + 1) = (sp z).map ((fun w : List Nat => w.length + 1) ∘ tl) := List.map_congr_left fun w _ => by
    show w.length + 1 = (tl w).length + 1
    rw [len_tl]
  rw [e2]
  simpa using e
theorem sp_ne (z : Str) : sp z ≠ [] := fun e => by
  have := sp_sum z
  rw [e] at this
  simp at this
theorem flat_word {ws : List Str} (h : ∀ w ∈ ws, sp w = [w]) : ws.flatMap sp = ws := by
  induction ws with
  | nil => rfl
  | cons w ws ih => rw [List.flatMap_cons, h w List.mem_cons_self, ih fun x m => h x (List.mem_cons_of_mem _ m)]; rfl
/-! ### the words that a line of this law can have -/
def W0 : List Str := ["op", "goal", "rule", "c", "s", "p", "v", "r", "a", "n", "0", "1", "2", "3", "4", "5", "6", "7", "8", "9", "10", "01", "", "R", "-1", "abcdefghi", "a1"]
def Dn : List Str := ["op", "goal", "rule", "c", "s", "p", "v", "r", "a", "n"]
theorem W0_short : ∀ w ∈ W0, w.length ≤ 9 := by decide +kernel
theorem W0_az : ∀ w ∈ W0, azB w = true → w ∈ Dn := by decide +kernel
theorem W0_sp : ∀ w ∈ W0, sp w = [w] := fun w m => sp_word (by revert w; decide +kernel)
/-- a text all of whose words can come; they are at most c -/
structure Gz (c : Nat) (z : Str) : Prop where
  all : ∀ w ∈ sp z, w ∈ W0
  few : (sp z).length ≤ c
theorem Gz.le {c d : Nat} {z : Str} (h : Gz c z) (l : c ≤ d) : Gz d z := ⟨h.all, Nat.le_trans h.few l⟩
theorem sum_le10 : ∀ {ws : List Str}, (∀ w ∈ ws, w ∈ W0) → (ws.map fun w => w.length + 1).sum ≤ 10 * ws.length
  | [], _ => Nat.le_refl _
  | w :: ws, h => by
    have a := W0_short w (h w List.mem_cons_self)
    have b := sum_le10 (ws := ws) fun x m => h x (List.mem_cons_of_mem _ m)
    rw [List.map_cons, List.sum_cons, List.length_cons]
    omega
theorem Gz.len {c : Nat} {z : Str} (h : Gz c z) : z.length ≤ 10 * c := by
  have a := sp_sum z
  have b := sum_le10 h.all
  have d := h.few
  omega
theorem Gz.jn {c : Nat} {ws : List Str} (h : ∀ w ∈ ws, ∀ x ∈ sp w, x ∈ W0) (n : (ws.flatMap sp).length ≤ c) (h1 : 1 ≤ c) : Gz c (Txt.join (" " : Str) ws) := by
  by_cases e : ws = []
  · subst e
    have e2 : Txt.join (" " : Str) [] = ("" : Str) := by decide +kernel
    rw [e2]
    have e3 : sp ("" : Str) = [("" : Str)] := W0_sp _ (by decide +kernel)
    exact ⟨fun w m => by rw [e3, List.mem_singleton] at m; rw [m]; decide +kernel, by rw [e3]; exact h1⟩
  · refine ⟨fun w m => ?_, ?_⟩
    · rw [sp_jn e] at m
      obtain ⟨x, mx, mw⟩ := List.mem_flatMap.mp m
      exact h x mx w mw
    · rw [sp_jn e]
      exact n
/-! ### what a line says -/
def figs : List Str := ["0", "1", "2", "3", "4", "5", "6", "7", "8", "9"]
def fig (d : Str) : Option Nat := (figs.zip (List.range 10)).lookup d
def goalL : List Str → Option Str
  | [a, b] => if a = "goal" then (if azB b = true then some b else none) else none
  | _ => none
def ruleL : List Str → Option Rl
  | a :: h :: d :: ws => if a = "rule" then (if 1 ≤ ws.length ∧ ws.length ≤ 7 then (if azB h = true ∧ ws.all azB = true then (fig d).map fun p => (h, p, ws) else none) else none) else none
  | _ => none
def goalOf : V → Option Str
  | .str z => goalL (sp z)
  | _ => none
def ruleOf : V → Option Rl
  | .str z => ruleL (sp z)
  | _ => none
theorem fig_in (d : Str) : (fig d).isSome = decide (d ∈ figs) := by
  unfold fig figs
  simp only [List.range, List.range.loop, List.zip_cons_cons, List.zip_nil_right, List.lookup, List.mem_cons, List.not_mem_nil, or_false]
  have e : ∀ x : Str, (d == x) = decide (d = x) := fun x => by
    by_cases c : d = x
    · rw [decide_eq_true c, c]; exact beq_self_eq_true x
    · rw [decide_eq_false c]; exact beq_eq_false_iff_ne.mpr c
  simp only [e]
  repeat' (split <;> rename_i q <;> first | simp only [decide_eq_true_eq] at q | simp only [decide_eq_false_iff_not] at q)
  all_goals simp_all
theorem fig_some : ∀ {d : Str} {p : Nat}, fig d = some p → p ≤ 9 ∧ d = Str.ofString (toString (p : Int)) ∧ intText? d = some (p : Int) ∧ d.length ≤ 640 := by
  intro d p h
  have m : d ∈ figs := by
    have := fig_in d
    rw [h] at this
    exact of_decide_eq_true this.symm
  have key : ∀ d ∈ figs, ∃ p, fig d = some p ∧ p ≤ 9 ∧ d = Str.ofString (toString (p : Int)) ∧ intText? d = some (p : Int) ∧ d.length ≤ 640 := by
    intro d m
    simp only [figs, List.mem_cons, List.not_mem_nil, or_false] at m
    rcases m with rfl | rfl | rfl | rfl | rfl | rfl | rfl | rfl | rfl | rfl
    · exact ⟨0, by decide +kernel⟩
    · exact ⟨1, by decide +kernel⟩
    · exact ⟨2, by decide +kernel⟩
    · exact ⟨3, by decide +kernel⟩
    · exact ⟨4, by decide +kernel⟩
    · exact ⟨5, by decide +kernel⟩
    · exact ⟨6, by decide +kernel⟩
    · exact ⟨7, by decide +kernel⟩
    · exact ⟨8, by decide +kernel⟩
    · exact ⟨9, by decide +kernel⟩
  obtain ⟨q, a, b⟩ := key d m
  rw [h] at a
  cases a
  exact b
theorem goalL_some {l : List Str} {g : Str} (h : goalL l = some g) : l = [("goal" : Str), g] ∧ azB g = true := by
  match l, h with
  | [a, b], h =>
    have h : (if a = "goal" then (if azB b = true then some b else none) else none) = some g := h
    by_cases e : a = "goal"
    · rw [if_pos e] at h
      by_cases e2 : azB b = true
      · rw [if_pos e2] at h
        cases h
        exact ⟨by rw [e], e2⟩
      · rw [if_neg e2] at h
        cases h
    · rw [if_neg e] at h
      cases h
theorem ruleL_some {l : List Str} {r : Rl} (h : ruleL l = some r) : ∃ d : Str, l = ("rule" : Str) :: r.1 :: d :: r.2.2 ∧ fig d = some r.2.1 ∧ 1 ≤ r.2.2.length ∧ r.2.2.length ≤ 7 ∧ azB r.1 = true ∧ ∀ z ∈ r.2.2, azB z = true := by
  match l, h with
  | a :: h0 :: d :: ws, h =>
    have h : (if a = "rule" then (if 1 ≤ ws.length ∧ ws.length ≤ 7 then (if azB h0 = true ∧ ws.all azB = true then (fig d).map fun p => (h0, p, ws) else none) else none) else none) = some r := h
    by_cases e : a = "rule"
    · rw [if_pos e] at h
      by_cases e1 : 1 ≤ ws.length ∧ ws.length ≤ 7
      · rw [if_pos e1] at h
        by_cases e2 : azB h0 = true ∧ ws.all azB = true
        · rw [if_pos e2] at h
          cases hd : fig d with
          | none => rw [hd] at h; cases h
          | some p =>
            rw [hd] at h
            cases h
            exact ⟨d, by rw [e], hd, e1.1, e1.2, e2.1, List.all_eq_true.mp e2.2⟩
        · rw [if_neg e2] at h
          cases h
      · rw [if_neg e1] at h
        cases h
    · rw [if_neg e] at h
      cases h
theorem ruleL_not {a h d : Str} {ws : List Str} (n : a ≠ "rule") : ruleL (a :: h :: d :: ws) = none := by
  show (if a = "rule" then (if 1 ≤ ws.length ∧ ws.length ≤ 7 then (if azB h = true ∧ ws.all azB = true then (fig d).map fun p => ((h, p, ws) : Rl) else none) else none) else none) = none
  rw [if_neg n]
theorem line_goal {v : V} {p : Str × Nat} (h : lineOf v = some p) : goalOf v = none ∧ ruleOf v = none := by
  cases v with
  | str z =>
    obtain ⟨c, e, _⟩ := lineL_some (show lineL (sp z) = some p from h)
    refine ⟨?_, ?_⟩
    · show goalL (sp z) = none
      rw [e]
      rfl
    · show ruleL (sp z) = none
      rw [e]
      exact ruleL_not (by decide +kernel)
  | _ => cases h
theorem goal_rule {v : V} {g : Str} (h : goalOf v = some g) : ruleOf v = none := by
  cases v with
  | str z =>
    obtain ⟨e, _⟩ := goalL_some (show goalL (sp z) = some g from h)
    show ruleL (sp z) = none
    rw [e]
    rfl
  | _ => cases h
/-- operators, a goal, rules -/
abbrev S3 := List (Str × Nat) × Option Str × List Rl
def stepB (s : S3) (v : V) : Option S3 :=
  match lineOf v with
  | some p => if p.1 ∈ s.1.map (·.1) then none else some (s.1 ++ [p], s.2)
  | none => match goalOf v with
    | some g => if s.2.1 = none then some (s.1, some g, s.2.2) else none
    | none => match ruleOf v with
      | some r => some (s.1, s.2.1, s.2.2 ++ [r])
      | none => none
def rdB : Nat → S3 → List V → Nat ⊕ S3
  | _, s, [] => .inr s
  | i, s, v :: vs => match stepB s v with
    | none => .inl i
    | some s' => rdB (i + 1) s' vs
theorem rdB_stop {i : Nat} {s : S3} {v : V} {vs : List V} (h : stepB s v = none) : rdB i s (v :: vs) = .inl i := by
  unfold rdB
  rw [h]
theorem rdB_go {i : Nat} {s s' : S3} {v : V} {vs : List V} (h : stepB s v = some s') : rdB i s (v :: vs) = rdB (i + 1) s' vs := by
  conv => lhs; unfold rdB
  rw [h]
theorem rdB_lt : ∀ {vs : List V} {i j : Nat} {s : S3}, rdB i s vs = .inl j → j < i + vs.length
  | [], i, j, s, h => by cases h
  | v :: vs, i, j, s, h => by
    cases e : stepB s v with
    | none =>
      rw [rdB_stop e] at h
      cases h
      simp
    | some s' =>
      rw [rdB_go e] at h
      have := rdB_lt h
      simp
      omega
end Pr
namespace Pr
open PySem PySem.Spec PyProof.Rows L2 Gd
/-! ### goal_of, rule_of -/
def spGoalOf : Sp := fun vs H Q _ => ∃ (v : V) (ty : String), vs = [v] ∧ Kd H v ty ∧ (∀ z, v = .str z → z.length ≤ 100000) ∧ (goalOf v = none → ∀ H', Same H H' → Q .non H') ∧ (∀ g, goalOf v = some g → ∀ H', Same H H' → Q (.str g) H')
def spRuleOf : Sp := fun vs H Q _ => ∃ (v : V) (ty : String), vs = [v] ∧ Kd H v ty ∧ (∀ z, v = .str z → z.length ≤ 100000) ∧ (ruleOf v = none → ∀ H', Same H H' → Q .non H') ∧ (∀ r, ruleOf v = some r → ∀ (H' : Hp) (a : Addr), Same H H' → H a = none → RuleAt H' a r → Q (.ref a) H')
theorem goalL_two {l : List Str} (h : l.length ≠ 2) : goalL l = none := by
  cases e : goalL l with
  | none => rfl
  | some g =>
    obtain ⟨rfl, _⟩ := goalL_some e
    exact absurd rfl h
theorem ruleL_few {l : List Str} (h : l.length < 4 ∨ 10 < l.length) : ruleL l = none := by
  cases e : ruleL l with
  | none => rfl
  | some r =>
    obtain ⟨d, rfl, _, a, b, _⟩ := ruleL_some e
    simp only [List.length_cons] at h
    omega
theorem cut3 {xs : List V} (h : 3 ≤ xs.length) : cutV xs (some 3) none = xs.drop 3 := by
  have e1 : HT.sIx xs.length 0 (some 3) = 3 := by
    show (if (3 : Int) < 0 then ((3 : Int) + (xs.length : Int)).toNat else min (3 : Int).toNat xs.length) = 3
    rw [if_neg (by decide)]
    show min 3 xs.length = 3
    omega
  have e2 : HT.sIx xs.length xs.length none = xs.length := rfl
  unfold cutV
  rw [e1, e2, ← List.length_drop, List.take_length]
theorem NamesV.words {H : Hp} {a : Addr} {us : List Str} (h : H a = some (.tup (us.map V.str))) : NamesV H (.ref a) ↔ us.all azB = true := by
  rw [List.all_eq_true]
  constructor
  · rintro ⟨ws, ⟨b, e, h2⟩, az⟩
    cases e
    have e := (List.map_inj_right (fun a b h => V.str.inj h)).mp (tup_one h h2)
    rw [e]
    exact az
  · exact fun az => ⟨us, ⟨a, rfl, h⟩, az⟩
theorem inV_figs {z : Str} : inV (.str z) (figs.map V.str) = decide (z ∈ figs) := in_strs z figs
section
variable {P : Program} {w : World} {K : PySem.W.Frag} {mg : Str → Option Value} {base : Heap} {fN fA : Addr} {dN dA : FuncData} {tk tk7 : Tok}
theorem scGoalOf : FnScope ["line", "words"] ["line"] (defScope sGoalOf) := ⟨rfl, rfl, rfl, by decide +kernel, rfl, by decide +kernel, by decide +kernel⟩
theorem ok_goalof {f : Addr} {fd : FuncData} (F : Fun K "goal_of" "goal_of" sGoalOf f fd) (T : Free mg) (gm : mg "MAX_LETTERS" = some (.int 8 tk)) (FN : Fun K "is_name" "is_name" sName fN dN) (bN : Binds K dN ["value"] []) (gN : mg "is_name" = some (.ref fN)) : FnOk P w K mg base CX0 2 f fd ["line"] spGoalOf := by
  have GN : FnOk P w K mg base CX0 1 fN dN ["value"] spName := ok_name FN T gm
  refine F.ok scGoalOf (fun vs H Q E h => ?_) (fun cdv A outer s H vs Q E hr h => ?_)
  · obtain ⟨v, t, rfl, _⟩ := h
    rfl
  · obtain ⟨v, t, rfl, kd, hz, q0, q1⟩ := h
    refine ⟨_, (pss_cons (ps_if (pt_not (pt_val (pe_callB call_isi (by rfl) T.isi (by decide +kernel) (pa_cons (pv 0) (pa_cons (pe_bltn (v := .ty "str") (by rfl) T.str (by decide +kernel) rfl) pa_nil))))) (pss_one (ps_ret pe_non)) pss_nil) (pss_cons (ps_set (i := 1) scGoalOf.nd rfl (.inl rfl) (pe_split (pv 0) pe_str)) (pss_cons (ps_if (PW.pt (pw_or (pt_cmpR op_ne (pe_callB call_len_seq (by rfl) T.len PySem.boot_len (pa_cons (pv 1) pa_nil)) pe_int (nomark _)) (pw_or (pt_cmpR op_ne (pe_ix ix_list (pv 1) pe_int (fun _ _ => rfl)) pe_str (nomark _)) (pw_or1 (pt_not (pt_val (pe_call GN hr (by rfl) gN FN.kp bN .nil pass0 (pa_cons (pe_ix ix_list (pv 1) pe_int (fun _ _ => rfl)) pa_nil)))))))) (pss_one (ps_ret pe_non)) pss_nil) (pss_one (ps_ret (pe_ix ix_list (pv 1) pe_int (fun _ _ => rfl))))))), ?_⟩
    refine ⟨_, rfl, v, _, _, _, _, rfl, .ty "str", kd.ty, kit_str kd, _, rfl, ?_⟩
    cases kd with
    | str z =>
      have l := hz z rfl
      have e0 : goalOf (.str z) = goalL (sp z) := rfl
      rw [e0] at q0 q1
      refine iteF ⟨_, rfl, ⟨_, rfl⟩, z, " ", rfl, rfl, rfl, by rw [sizeLine_eq]; omega, fun p np => ?_⟩
      have sN : Same H (upd H p (.lst ((Txt.split z " ").map V.str))) := Same.new np
      have hp : (upd H p (.lst ((Txt.split z " ").map V.str))) p = some (.lst ((sp z).map V.str)) := by rw [upd_same, sp_eq]
      have ofz : ∀ w ∈ sp z, w.length ≤ z.length := fun w m => (sp_of m).1
      generalize upd H p (.lst ((Txt.split z " ").map V.str)) = H1 at sN hp ⊢
      generalize sp z = ws at q0 q1 hp ofz ⊢
      refine ⟨_, rfl, p, _, rfl, .inl (SqL.of hp), rfl, _, rfl, ?_⟩
      match ws, hp, ofz, q0, q1 with
      | [a, b], hp, ofz, q0, q1 =>
        have em : goalL [a, b] = if a = "goal" then (if azB b = true then some b else none) else none := rfl
        refine if_false_of (by rfl) ⟨_, rfl, p, _, 0, _, rfl, rfl, SqL.of hp, rfl, rfl, _, rfl, ?_⟩
        by_cases ea : a = "goal"
        · subst ea
          rw [if_pos rfl] at em
          have lb : b.length ≤ 1000000 := by
            have := ofz b (by simp)
            omega
          refine if_false_of (by simp) ⟨_, rfl, p, _, 1, _, rfl, rfl, SqL.of hp, rfl, .str b, "str", rfl, .str b, fun y e => by cases e; exact lb, _, rfl, ?_⟩
          cases nz : azB b with
          | true =>
            rw [if_pos nz] at em
            exact if_false_of (show (!azB b) = false by rw [nz]; rfl) ⟨_, rfl, p, _, 1, _, rfl, rfl, SqL.of hp, rfl, q1 b em H1 sN⟩
          | false =>
            rw [if_neg (by rw [nz]; exact Bool.false_ne_true)] at em
            exact if_true_of (show (!azB b) = true by rw [nz]; rfl) (q0 em H1 sN)
        · rw [if_neg ea] at em
          exact if_true_of (by rw [decide_eq_false (fun q => ea (V.str.inj q))]; rfl) (if_true_of rfl (q0 em H1 sN))
      | [], hp, ofz, q0, q1 => exact if_true_of (by rfl) (if_true_of rfl (q0 rfl H1 sN))
      | [_], hp, ofz, q0, q1 => exact if_true_of (by rfl) (if_true_of rfl (q0 rfl H1 sN))
      | x0 :: x1 :: x2 :: r, hp, ofz, q0, q1 =>
        have e : (!decide (V.int ((List.map V.str (x0 :: x1 :: x2 :: r)).length : Int) = V.int 2)) = true := by
          rw [decide_eq_false]
          · rfl
          · intro q
            have q := V.int.inj q
            rw [List.length_map] at q
            simp at q
            omega
        exact if_true_of e (if_true_of rfl (q0 (goalL_two (by simp)) H1 sN))
    | _ => exact iteT (q0 rfl H (Same.refl _))
theorem scRuleOf : FnScope ["line", "words", "pattern"] ["line"] (defScope sRuleOf) := ⟨rfl, rfl, rfl, by decide +kernel, rfl, by decide +kernel, by decide +kernel⟩
theorem ok_ruleof {f : Addr} {fd : FuncData} (F : Fun K "rule_of" "rule_of" sRuleOf f fd) (T : Free mg) (gm : mg "MAX_LETTERS" = some (.int 8 tk)) (gm7 : mg "MAX_PATTERN" = some (.int 7 tk7)) (FN : Fun K "is_name" "is_name" sName fN dN) (bN : Binds K dN ["value"] []) (gN : mg "is_name" = some (.ref fN))
    (GA : FnOk P w K mg base CX0 2 fA dA ["value"] spNamesG) (bA : Binds K dA ["value"] []) (gA : mg "are_names" = some (.ref fA)) (kA : PySem.W.keepIn K (.ref fA) = true) {aF : Addr} (gF : mg "FIGURES" = some (.ref aF)) (hF : ∀ H : Hp, SqT K H aF (figs.map V.str)) : FnOk P w K mg base CX0 3 f fd ["line"] spRuleOf := by
  have GN : FnOk P w K mg base CX0 1 fN dN ["value"] spName := ok_name FN T gm
  refine F.ok scRuleOf (fun vs H Q E h => ?_) (fun cdv A outer s H vs Q E hr h => ?_)
  · obtain ⟨v, t, rfl, _⟩ := h
    rfl
  · obtain ⟨v, t, rfl, kd, hz, q0, q1⟩ := h
    have r2 : Room 2 _ := hr
    have r1 : Room 1 _ := hr.mono (by decide)
    refine ⟨_, (pss_cons (ps_if (pt_not (pt_val (pe_callB call_isi (by rfl) T.isi (by decide +kernel) (pa_cons (pv 0) (pa_cons (pe_bltn (v := .ty "str") (by rfl) T.str (by decide +kernel) rfl) pa_nil))))) (pss_one (ps_ret pe_non)) pss_nil) (pss_cons (ps_set (i := 1) scRuleOf.nd rfl (.inl rfl) (pe_split (pv 0) pe_str)) (pss_cons (ps_if (PW.pt (pw_or (pt_cmpR op_lt (pe_callB call_len_seq (by rfl) T.len PySem.boot_len (pa_cons (pv 1) pa_nil)) pe_int (nomark _)) (pw_or (pt_cmpR op_gt (pe_callB call_len_seq (by rfl) T.len PySem.boot_len (pa_cons (pv 1) pa_nil)) (pe_op op_add (pe_glob (v := .int 7) (by rfl) gm7 ⟨_, rfl⟩) pe_int) (nomark _)) (pw_or (pt_cmpR op_ne (pe_ix ix_list (pv 1) pe_int (fun _ _ => rfl)) pe_str (nomark _)) (pw_or1 (pt_cmpR op_notIn_seq (pe_ix ix_list (pv 1) pe_int (fun _ _ => rfl)) (pe_glob (v := .ref aF) (by rfl) gF rfl) (by rfl))))))) (pss_one (ps_ret pe_non)) pss_nil) (pss_cons (ps_set (i := 2) scRuleOf.nd rfl (.inl rfl) (pe_callTy call_tuple_of (by rfl) T.tuple (by decide +kernel) (pa_cons (pe_slice sl_list (pv 1) (po_some pe_int) po_none) pa_nil))) (pss_cons (ps_if (PW.pt (pw_or (pt_not (pt_val (pe_call GN r1 (by rfl) gN FN.kp bN .nil pass0 (pa_cons (pe_ix ix_list (pv 1) pe_int (fun _ _ => rfl)) pa_nil)))) (pw_or1 (pt_not (pt_val (pe_call GA r2 (by rfl) gA kA bA .nil pass0 (pa_cons (pv 2) pa_nil))))))) (pss_one (ps_ret pe_non)) pss_nil) (pss_one (ps_ret (pe_tup (pa_cons (pe_ix ix_list (pv 1) pe_int (fun _ _ => rfl)) (pa_cons (pe_callTy call_int_str (by rfl) T.int (by decide +kernel) (pa_cons (pe_ix ix_list (pv 1) pe_int (fun _ _ => rfl)) pa_nil)) (pa_cons (pv 2) pa_nil))))))))))), ?_⟩
    refine ⟨_, rfl, v, _, _, _, _, rfl, .ty "str", kd.ty, kit_str kd, _, rfl, ?_⟩
    cases kd with
    | str z =>
      have l := hz z rfl
      have e0 : ruleOf (.str z) = ruleL (sp z) := rfl
      rw [e0] at q0 q1
      refine iteF ⟨_, rfl, ⟨_, rfl⟩, z, " ", rfl, rfl, rfl, by rw [sizeLine_eq]; omega, fun p np => ?_⟩
      have sN : Same H (upd H p (.lst ((Txt.split z " ").map V.str))) := Same.new np
      have hp : (upd H p (.lst ((Txt.split z " ").map V.str))) p = some (.lst ((sp z).map V.str)) := by rw [upd_same, sp_eq]
      have ofz : ∀ w ∈ sp z, w.length ≤ z.length := fun w m => (sp_of m).1
      generalize upd H p (.lst ((Txt.split z " ").map V.str)) = H1 at sN hp ⊢
      generalize sp z = ws at q0 q1 hp ofz ⊢
      have lm : (ws.map V.str).length = ws.length := List.length_map _
      refine ⟨_, rfl, p, _, rfl, .inl (SqL.of hp), _, _, rfl, rfl, _, rfl, ?_⟩
      by_cases c4 : ws.length < 4
      · exact if_true_of (decide_eq_true (by rw [lm]; omega)) (if_true_of rfl (q0 (ruleL_few (.inl c4)) H1 sN))
      refine if_false_of (decide_eq_false (by rw [lm]; omega)) ⟨_, rfl, p, _, rfl, .inl (SqL.of hp), _, _, rfl, rfl, _, _, rfl, rfl, _, rfl, ?_⟩
      by_cases c10 : 10 < ws.length
      · exact if_true_of (decide_eq_true (by rw [lm]; omega)) (if_true_of rfl (q0 (ruleL_few (.inr c10)) H1 sN))
      refine if_false_of (decide_eq_false (by rw [lm]; omega)) ?_
      match ws, hp, ofz, q0, q1, c4, c10, lm with
      | [], _, _, _, _, c4, _, _ => exact absurd (by simp) c4
      | [_], _, _, _, _, c4, _, _ => exact absurd (by simp) c4
      | [_, _], _, _, _, _, c4, _, _ => exact absurd (by simp) c4
      | a :: h :: d :: us, hp, ofz, q0, q1, c4, c10, lm =>
        have u1 : 1 ≤ us.length := by
          simp only [List.length_cons] at c4
          omega
        have u7 : us.length ≤ 7 := by
          simp only [List.length_cons] at c10
          omega
        have em : ruleL (a :: h :: d :: us) = if a = "rule" then (if 1 ≤ us.length ∧ us.length ≤ 7 then (if azB h = true ∧ us.all azB = true then (fig d).map fun p => ((h, p, us) : Rl) else none) else none) else none := rfl
        rw [if_pos (⟨u1, u7⟩ : 1 ≤ us.length ∧ us.length ≤ 7)] at em
        refine ⟨_, rfl, p, _, 0, V.str a, rfl, rfl, SqL.of hp, atI_nat (j := 0) rfl, rfl, _, rfl, ?_⟩
        by_cases ea : a = "rule"
        case neg =>
          rw [if_neg ea] at em
          exact if_true_of (by rw [decide_eq_false (fun q => ea (V.str.inj q))]; rfl) (if_true_of rfl (q0 em H1 sN))
        rw [if_pos ea] at em
        refine if_false_of (by rw [ea]; simp) ⟨_, rfl, p, _, 2, V.str d, rfl, rfl, SqL.of hp, atI_nat (j := 2) rfl, aF, _, rfl, .inr (hF H1), rfl, rfl, _, rfl, ?_⟩
        have fi := fig_in d
        have lh : h.length ≤ 100000 := by
          have := ofz h (by simp)
          omega
        cases hf : fig d with
        | none =>
          have em : ruleL (a :: h :: d :: us) = none := by
            rw [em, hf]
            split <;> rfl
          have ni : d ∉ figs := by
            rw [hf] at fi
            exact of_decide_eq_false fi.symm
          exact if_true_of (by rw [if_pos rfl, inV_figs, decide_eq_false ni]; rfl) (q0 em H1 sN)
        | some pr =>
          rw [hf] at em fi
          obtain ⟨p9, _, it, lc⟩ := fig_some hf
          have yi : d ∈ figs := of_decide_eq_true fi.symm
          refine if_false_of (by rw [if_pos rfl, inV_figs, decide_eq_true yi]; rfl) ?_
          -- the pattern
          refine ⟨_, rfl, 3, rfl, p, _, rfl, SqL.of hp, fun cp ncp => ?_⟩
          rw [cut3 (by simp)]
          have e3 : ((a :: h :: d :: us).map V.str).drop 3 = us.map V.str := rfl
          rw [e3]
          have w1 := Same.new ncp (o := .lst (us.map V.str))
          refine ⟨cp, _, rfl, .inl ⟨SqL.of upd_same, fun t nt => ?_⟩⟩
          have w2 := w1.trans (Same.new nt (o := .tup (us.map V.str)))
          have ht : (upd (upd H1 cp (.lst (us.map V.str))) t (.tup (us.map V.str))) t = some (.tup (us.map V.str)) := upd_same
          generalize upd (upd H1 cp (.lst (us.map V.str))) t (.tup (us.map V.str)) = H2 at w2 ht ⊢
          have hp2 := w2 _ _ hp
          refine ⟨_, rfl, p, _, 1, V.str h, rfl, rfl, SqL.of hp2, atI_nat (j := 1) rfl, .str h, "str", rfl, .str h, fun y e => by cases e; omega, _, rfl, ?_⟩
          cases nz : azB h with
          | false =>
            rw [if_neg (fun q => by rw [nz] at q; exact Bool.false_ne_true q.1)] at em
            exact if_true_of (show (!azB h) = true by rw [nz]; rfl) (if_true_of rfl (q0 em _ (sN.trans w2)))
          | true =>
            refine if_false_of (show (!azB h) = false by rw [nz]; rfl) ⟨_, rfl, .ref t, us, rfl, .words ht (by omega) fun w mw => ⟨by have := ofz w (by simp [mw]); omega, fun _ => mw⟩, fun b H3 s3 hb => ⟨_, rfl, ?_⟩⟩
            have hb2 := hb.trans (NamesV.words ht)
            cases b with
            | false =>
              rw [if_neg (fun q => Bool.false_ne_true (hb2.mpr q.2))] at em
              exact if_true_of rfl (q0 em _ ((sN.trans w2).trans s3))
            | true =>
              rw [if_pos (⟨nz, hb2.mp rfl⟩ : azB h = true ∧ us.all azB = true)] at em
              have hp3 := s3 _ _ hp2
              refine if_false_of rfl ⟨_, rfl, p, _, 1, V.str h, rfl, rfl, SqL.of hp3, atI_nat (j := 1) rfl, _, rfl, p, _, 2, V.str d, rfl, rfl, SqL.of hp3, atI_nat (j := 2) rfl, d, pr, rfl, it, lc, _, rfl, by show 3 ≤ sizeLine; decide, fun r nr => ?_⟩
              have s4 := ((sN.trans w2).trans s3).trans (Same.new nr (o := .tup [V.str h, .int (pr : Int), .ref t]))
              exact q1 (h, pr, us) em _ r s4 (Same.free ((sN.trans w2).trans s3) nr) ⟨t, upd_same, (Same.new nr) _ _ (s3 _ _ ht)⟩
    | _ => exact iteT (q0 rfl H (Same.refl _))
end
end Pr
namespace Pr
open PySem PySem.Spec PyProof.Rows L2 Gd
/-! ### from_lines -/
/-- Gd C(..), C the class that the i-th slot holds -/
def tMakeL (i : Nat) (C : Addr) (sp : Sp) (E : XK) (t : TA) : TE := fun σ H Q => σ[i]? = some (some (.ref C)) ∧ t σ H fun vs H1 => ∀ x dx, H1 x = none → H1 dx = none → dx ≠ x → sp (.ref x :: (vs ++ [])) (upd (upd H1 dx (.own x)) x (.ins C dx [])) (fun v H2 => v = .non ∧ Q (.ref x) H2) E
theorem pe_makeL {X : Cx} {CX : CXT} {k i : Nat} {C f : Addr} {fd : FuncData} {ps : List Str} {sp : Sp} {E : XK} {x : Str} {p pos : Pos} {e : Expr} {es : List Expr} {t : TA} (M : Mk X.K C f) (F : FnOk X.prog X.w X.K X.mg X.base CX k f fd ps sp) (hr : Room (k + 1) X.A) (hN : X.N[i]? = some x) (hv : Vis X.env.scope x)
    (hb : Binds X.K fd ps []) (hx : Passes CX X E) (ha : PA X (e :: es) t) (hdb : (x == ("__debug__" : Str)) = false := by decide) (hcd : (x == ("__classdict__" : Str)) = false := by decide)
    (he : starEach (e :: es) X.env = (false, eval e X.env) :: starEach es X.env := by rfl) (hpl : (backTo pos (starEach es X.env)).any (·.1) = false := by rfl) : PE X (.Call (.Name x p) (e :: es) [] pos) (tMakeL i C sp E t) := by
  refine ⟨fun pins s σ H Q I h => ?_⟩
  obtain ⟨hs, ht⟩ := h
  refine wpAny_Call_Name_kw (thn ((pe_var (pos := p) hN hv hdb hcd).run pins s σ H (fun v H1 => v = .ref C ∧ H1 = H) I ⟨.ref C, hs, rfl, rfl⟩) fun u s1 ⟨v, H1, I1, r1, q1⟩ => ?_)
  obtain ⟨rfl, rfl⟩ := q1
  cases r1
  refine PySem.W.callWith_K (h₀ := X.base) I.ok.mod.kin M.kp (thn (ha.run pos pins s1 σ _ _ I1 ht) fun us s2 ⟨vs, H2, I2, r, q⟩ => ⟨I2.kIn, ?_⟩) he hpl
  exact run_make M F hr hb .nil hx I2 r q
/-- names with arities, each name once -/
structure Got (l : List (Str × Nat)) : Prop where
  nd : (l.map (·.1)).Nodup
  name : ∀ p ∈ l, azB p.1 = true
  two : ∀ p ∈ l, p.2 ≤ 2
theorem Got.nil : Got [] := ⟨.nil, fun _ m => (nomatch m), fun _ m => (nomatch m)⟩
theorem line_of {v : V} {p : Str × Nat} (h : lineOf v = some p) : azB p.1 = true ∧ p.2 ≤ 2 := by
  cases v with
  | str z =>
    obtain ⟨c, _, a, b⟩ := lineL_some (show lineL (sp z) = some p from h)
    exact ⟨a, (dig_two b).1⟩
  | _ => cases h
theorem Got.more {l : List (Str × Nat)} {v : V} {p : Str × Nat} (g : Got l) (h : lineOf v = some p) (n : p.1 ∉ l.map (·.1)) : Got (l ++ [p]) := by
  obtain ⟨a, b⟩ := line_of h
  refine ⟨?_, fun q m => ?_, fun q m => ?_⟩
  · rw [List.map_append, List.nodup_append]
    refine ⟨g.nd, by simp, fun x m y m2 e => n ?_⟩
    have e2 : y = p.1 := by simpa using m2
    rw [← e2, ← e]
    exact m
  · rcases List.mem_append.mp m with m | m
    · exact g.name q m
    · rw [List.mem_singleton.mp m]
      exact a
  · rcases List.mem_append.mp m with m | m
    · exact g.two q m
    · rw [List.mem_singleton.mp m]
      exact b
theorem Got.nice {l : List (Str × Nat)} (g : Got l) (h : l.length ≤ 1000) : Nice (dkv l) := by
  have e : (dkv l).length = l.length := List.length_map _
  have at_ : ∀ p ∈ dkv l, ∃ q ∈ l, p = (.inr q.1, .int (q.2 : Int)) := fun p m => by
    obtain ⟨q, mq, e⟩ := List.mem_map.mp m
    exact ⟨q, mq, e.symm⟩
  refine ⟨by rw [keys_dkv]; exact List.Pairwise.map Sum.inr (fun a b h e => h (Sum.inr.inj e)) g.nd, by omega, fun p m => ?_, fun p m z ez => ?_⟩
  · obtain ⟨q, mq, rfl⟩ := at_ p m
    exact Fl.int _
  · obtain ⟨q, mq, rfl⟩ := at_ p m
    cases ez
    have h2 : (decide (1 ≤ q.1.length) && decide (q.1.length ≤ 8) && q.1.cps.toList.all azC) = true := g.name q mq
    simp only [Bool.and_eq_true, decide_eq_true_eq] at h2
    omega
theorem Got.ok {l : List (Str × Nat)} (g : Got l) (h : 1 ≤ l.length ∧ l.length ≤ 8) : OpsOk l := ⟨h, g.nd, g.name, g.two⟩
theorem Got.bad {l : List (Str × Nat)} (h : ¬ (1 ≤ l.length ∧ l.length ≤ 8)) : goodK (dkv l) = false := by
  have e : (dkv l).length = l.length := List.length_map _
  unfold goodK
  by_cases a : 1 ≤ l.length
  · rw [decide_eq_false (show ¬ (dkv l).length ≤ 8 by omega), Bool.false_and, Bool.and_false]
  · rw [decide_eq_false (show ¬ 1 ≤ (dkv l).length by omega), Bool.false_and]
theorem dkv_inj : ∀ {l k : List (Str × Nat)}, dkv l = dkv k → l = k
  | [], [], _ => rfl
  | [], q :: k, h => by cases h
  | p :: l, [], h => by cases h
  | p :: l, q :: k, h => by
    have h : (((.inr p.1 : Key), V.int (p.2 : Int)) :: dkv l) = ((.inr q.1 : Key), V.int (q.2 : Int)) :: dkv k := h
    injection h with h1 h2
    injection h1 with h3 h4
    injection h3 with h5
    injection h4 with h6
    rw [dkv_inj h2]
    congr 1
    exact Prod.ext h5 (by omega)
/-- a value that can be a line -/
def Ln (H : Hp) (v : V) : Prop := (∃ ty, Kd H v ty) ∧ ∀ z, v = .str z → z.length ≤ 100000
theorem Ln.same {H H' : Hp} {v : V} (h : Ln H v) (s : Same H H') : Ln H' v := ⟨let ⟨ty, k⟩ := h.1; ⟨ty, k.same s⟩, h.2⟩
def numD (i : Nat) : HO := .xd [("number", .int (i : Int))]
end Pr
namespace Pr
open PySem PySem.Spec PyProof.Rows L2 Gd
/-! ### Book.from_lines -/
def goalV : Option Str → V
  | none => .non
  | some g => .str g
/-- a rule that a line tells, its names among D -/
structure RW (D : List Str) (r : Rl) : Prop where
  head : azB r.1 = true ∧ r.1 ∈ D
  words : ∀ z ∈ r.2.2, azB z = true ∧ z ∈ D
  few : r.2.2.length ≤ 7
/-- the names that lines tell are among D -/
structure NmD (D : List Str) (rest : List V) : Prop where
  few : D.length ≤ 60
  rule : ∀ v ∈ rest, ∀ r, ruleOf v = some r → r.1 ∈ D ∧ ∀ z ∈ r.2.2, z ∈ D
  goal : ∀ v ∈ rest, ∀ g, goalOf v = some g → g ∈ D
theorem NmD.rw {D : List Str} {rest : List V} (n : NmD D rest) {v : V} (m : v ∈ rest) {r : Rl} (h : ruleOf v = some r) : RW D r := by
  obtain ⟨a, b⟩ := n.rule v m r h
  cases v with
  | str z =>
    obtain ⟨d, _, _, _, c, e, f⟩ := ruleL_some (show ruleL (sp z) = some r from h)
    exact ⟨⟨e, a⟩, fun w mw => ⟨f w mw, b w mw⟩, c⟩
  | _ => cases h
theorem NmD.gz {D : List Str} {rest : List V} (n : NmD D rest) {v : V} (m : v ∈ rest) {g : Str} (h : goalOf v = some g) : azB g = true ∧ g ∈ D := by
  refine ⟨?_, n.goal v m g h⟩
  cases v with
  | str z => exact (goalL_some (show goalL (sp z) = some g from h)).2
  | _ => cases h
theorem RW.jv {D : List Str} {H : Hp} {b : Addr} {r : Rl} (w : RW D r) (h : RuleAt H b r) : Jv D H 2 (.ref b) := by
  obtain ⟨t, x, y⟩ := h
  have sh : ∀ {z : Str}, azB z = true → z.length ≤ 100000 := fun {z} a => by
    have := az_len a
    omega
  refine .tup x (by simp) fun v m => ?_
  rcases List.mem_cons.mp m with e | m
  · rw [e]; exact .text (sh w.head.1) fun _ => w.head.2
  rcases List.mem_cons.mp m with e | m
  · rw [e]; exact .int _
  rw [List.mem_singleton.mp m]
  exact .words y (by have := w.few; omega) fun z mz => ⟨sh (w.words z mz).1, fun _ => (w.words z mz).2⟩
theorem RW.jvs {D : List Str} {H : Hp} {a : Addr} {rs : List Rl} (w : ∀ r ∈ rs, RW D r) (few : rs.length ≤ 1000) (h : RulesAt H a rs) : Jv D H 3 (.ref a) := by
  obtain ⟨as, x, p⟩ := h.ex
  have las : as.length = rs.length := Paired.length p
  refine .tup x (by rw [List.length_map, las]; exact few) fun v m => ?_
  obtain ⟨b, mb, rfl⟩ := List.mem_map.mp m
  obtain ⟨i, hi⟩ := List.mem_iff_getElem?.mp mb
  obtain ⟨r, hr, rat⟩ := pget9 p hi
  exact (w r (List.mem_of_getElem? hr)).jv rat
abbrev S0 : S3 := ([], none, [])
/-- what from_lines does with these lines -/
structure FromQB (K : PySem.W.Frag) (C B CP CO CB : Addr) (rest : List V) (H : Hp) (Q : VK) (E : XK) : Prop where
  all : ∀ v ∈ rest, Ln H v
  few : rest.length ≤ 100
  nm : ∃ D, NmD D rest
  parse : ∀ i, rdB 0 S0 rest = .inl i → ∀ H' d, Same H H' → H' d = none → E (.ref CP) (some d) (upd H' d (numD i))
  bad : ∀ s, rdB 0 S0 rest = .inr s → ¬ (1 ≤ s.1.length ∧ s.1.length ≤ 8) → ∀ H', Same H H' → E (.ref CO) none H'
  nob : ∀ s, rdB 0 S0 rest = .inr s → (1 ≤ s.1.length ∧ s.1.length ≤ 8) → ¬ (∃ g, s.2.1 = some g ∧ BkOk s.1 g s.2.2) → ∀ H', Same H H' → E (.ref CB) none H'
  good : ∀ s g, rdB 0 S0 rest = .inr s → s.2.1 = some g → BkOk s.1 g s.2.2 → ∀ (l' : List (Str × Nat)) (x : Addr) (H' : Hp), l'.Perm s.1 → sortedS (l'.map (·.1)) = true → H x = none → Same H H' → BookAt K H' C B x l' g s.2.2 → Q (.ref x) H'
theorem FromQB.up {K : PySem.W.Frag} {C B CP CO CB : Addr} {rest : List V} {H H1 : Hp} {Q : VK} {E : XK} (h : FromQB K C B CP CO CB rest H Q E) (s : Same H H1) : FromQB K C B CP CO CB rest H1 Q E :=
  ⟨fun v m => (h.all v m).same s, h.few, h.nm, fun i e H' d s2 => h.parse i e H' d (s.trans s2), fun l e n H' s2 => h.bad l e n H' (s.trans s2), fun l e n nb H' s2 => h.nob l e n nb H' (s.trans s2), fun l g e eg ok l' x H' p t nx s2 => h.good l g e eg ok l' x H' p t (s.free nx) (s.trans s2)⟩
def spFromBB (K : PySem.W.Frag) (C B CP CO CB : Addr) : Sp := fun vs H Q E => ∃ (p : Addr) (rest : List V), vs = [.ref B, .ref p] ∧ H p = some (.tup rest) ∧ FromQB K C B CP CO CB rest H Q E
def spFromBk (K : PySem.W.Frag) (C B CP CO CB : Addr) : Sp := fun vs H Q E => ∃ rest, vs = .ref B :: rest ∧ FromQB K C B CP CO CB rest H Q E
/-- what the three readers tell of a line -/
def OpVal (G : Hp) (y v : V) : Prop := (lineOf y = none ∧ v = .non) ∨ ∃ z n t, lineOf y = some (z, n) ∧ v = .ref t ∧ G t = some (.tup [.str z, .int (n : Nat)])
def RuVal (G : Hp) (y v : V) : Prop := (ruleOf y = none ∧ v = .non) ∨ ∃ r t, ruleOf y = some r ∧ v = .ref t ∧ RuleAt G t r
theorem OpVal.same {G G' : Hp} {y v : V} (h : OpVal G y v) (s : Same G G') : OpVal G' y v := h.elim .inl fun ⟨z, n, t, a, b, c⟩ => .inr ⟨z, n, t, a, b, s _ _ c⟩
theorem RuVal.same {G G' : Hp} {y v : V} (h : RuVal G y v) (s : Same G G') : RuVal G' y v := h.elim .inl fun ⟨r, t, a, b, c⟩ => .inr ⟨r, t, a, b, c.same s⟩
theorem tNil_in {σ : L2.St} {H : Hp} {k : List V → Hp → Prop} (h : k [] H) : tNil σ H k := h
theorem oper_val {y : V} {H : Hp} {Q : VK} {E : XK} (ln : Ln H y) (q : ∀ v H', Same H H' → OpVal H' y v → Q v H') : spOper [y] H Q E := by
  obtain ⟨⟨ty, ky⟩, hz⟩ := ln
  exact ⟨y, ty, rfl, ky, hz, fun en H' s => q _ H' s (.inl ⟨en, rfl⟩), fun z n e H' t s _ ht => q _ H' s (.inr ⟨z, n, t, e, rfl, ht⟩)⟩
theorem goal_val {y : V} {H : Hp} {Q : VK} {E : XK} (ln : Ln H y) (q : ∀ H', Same H H' → Q (goalV (goalOf y)) H') : spGoalOf [y] H Q E := by
  obtain ⟨⟨ty, ky⟩, hz⟩ := ln
  exact ⟨y, ty, rfl, ky, hz, fun en H' s => by have := q H' s; rw [en] at this; exact this, fun g e H' s => by have := q H' s; rw [e] at this; exact this⟩
theorem rule_val {y : V} {H : Hp} {Q : VK} {E : XK} (ln : Ln H y) (q : ∀ v H', Same H H' → RuVal H' y v → Q v H') : spRuleOf [y] H Q E := by
  obtain ⟨⟨ty, ky⟩, hz⟩ := ln
  exact ⟨y, ty, rfl, ky, hz, fun en H' s => q _ H' s (.inl ⟨en, rfl⟩), fun r e H' t s _ ht => q _ H' s (.inr ⟨r, t, e, rfl, ht⟩)⟩
theorem step_op {s : S3} {v : V} {p : Str × Nat} (h : lineOf v = some p) (c : p.1 ∉ s.1.map (·.1)) : stepB s v = some (s.1 ++ [p], s.2) := by
  unfold stepB
  rw [h]
  exact if_neg c
theorem step_again {s : S3} {v : V} {p : Str × Nat} (h : lineOf v = some p) (c : p.1 ∈ s.1.map (·.1)) : stepB s v = none := by
  unfold stepB
  rw [h]
  exact if_pos c
theorem step_goal {s : S3} {v : V} {g : Str} (h : lineOf v = none) (k : goalOf v = some g) (c : s.2.1 = none) : stepB s v = some (s.1, some g, s.2.2) := by
  unfold stepB
  rw [h, k]
  exact if_pos c
theorem step_goal2 {s : S3} {v : V} {g : Str} (h : lineOf v = none) (k : goalOf v = some g) (c : s.2.1 ≠ none) : stepB s v = none := by
  unfold stepB
  rw [h, k]
  exact if_neg c
theorem step_rule {s : S3} {v : V} {r : Rl} (h : lineOf v = none) (k : goalOf v = none) (u : ruleOf v = some r) : stepB s v = some (s.1, s.2.1, s.2.2 ++ [r]) := by
  unfold stepB
  rw [h, k, u]
theorem step_no {s : S3} {v : V} (h : lineOf v = none) (k : goalOf v = none) (u : ruleOf v = none) : stepB s v = none := by
  unfold stepB
  rw [h, k, u]
theorem RuVal.non {G : Hp} {y v : V} (h : RuVal G y v) (u : ruleOf y = none) : v = .non := by
  rcases h with ⟨_, e⟩ | ⟨r, t, e, _⟩
  · exact e
  · rw [u] at e
    cases e
theorem pair_end {α β : Type} {F : α → β → Prop} {a : α} {b : β} (h : F a b) : ∀ {xs : List α} {ys : List β}, Paired F xs ys → Paired F (xs ++ [a]) (ys ++ [b])
  | _, _, .nil => .cons h .nil
  | _, _, .cons k q => .cons k (pair_end h q)
/-- all that Book(..) is asked with -/
def spBAll (K : PySem.W.Frag) (C B CO CB : Addr) : Sp := fun vs H Q E => spBInit K C B vs H Q E ∨ spBIno CO vs H Q E ∨ spBIbad C CB vs H Q E
section
variable {P : Program} {w : World} {K : PySem.W.Frag} {mg : Str → Option Value} {base : Heap} {C B CP CO CB fC fB fO fG fR fN : Addr} {dC dB dO dG dR : FuncData}
theorem scFromB : FnScope ["cls", "lines", "arities", "goal", "rules", "index", "line", "operator", "told", "rule"] ["cls", "lines"] (defScope bFromLines) := ⟨rfl, rfl, rfl, by decide +kernel, rfl, by decide +kernel, by decide +kernel⟩
theorem ok_frombB {cdv : Value} {f : Addr} {A : Around} {outer : List Env} {s : Shared} {H : Hp} {vs : List V} {Q : VK} {E : XK} (T : Free mg)
    (MC : Mk K C fC) (gC : mg "Operators" = some (.ref C)) (GC : FnOk P w K mg base (L2.CX P w) 3 fC dC ["self", "arities"] (spInit C CO)) (bC : Binds K dC ["self", "arities"] [])
    (MB : Mk K B fB) (GB : FnOk P w K mg base (L2.CX P w) 5 fB dB ["self", "operators", "goal", "rules"] (spBAll K C B CO CB)) (bB : Binds K dB ["self", "operators", "goal", "rules"] [])
    (L : PySem.PeX.PeTxt K mg CP fN)
    (GO : FnOk P w K mg base CX0 2 fO dO ["line"] spOper) (bO : Binds K dO ["line"] []) (gO : mg "operator_of" = some (.ref fO)) (kO : PySem.W.keepIn K (.ref fO) = true)
    (GG : FnOk P w K mg base CX0 2 fG dG ["line"] spGoalOf) (bG : Binds K dG ["line"] []) (gG : mg "goal_of" = some (.ref fG)) (kG : PySem.W.keepIn K (.ref fG) = true)
    (GR : FnOk P w K mg base CX0 3 fR dR ["line"] spRuleOf) (bR : Binds K dR ["line"] []) (gR : mg "rule_of" = some (.ref fR)) (kR : PySem.W.keepIn K (.ref fR) = true)
    (hr : Room 6 (A.deeper (envOfC "Book.from_lines" (defScope bFromLines) s.heap.objs.size f cdv))) (h : spFromBB K C B CP CO CB vs H Q E) :
    ∃ t, PSs (cxOf (L2.CX P w) P w K mg base ["cls", "lines", "arities", "goal", "rules", "index", "line", "operator", "told", "rule"] "Book.from_lines" (defScope bFromLines) f cdv A outer s H E) (defBody bFromLines) t ∧ t { nx := fun _ H' => Q .non H', rt := Q } (start ["cls", "lines", "arities", "goal", "rules", "index", "line", "operator", "told", "rule"] vs) H := by
  obtain ⟨p, rest, rfl, hp, fq⟩ := h
  have hu := hr.units
  have hu1 : ∀ {u : Nat}, u + 64 < cLine → u + 1 < cLine := fun h => by omega
  have r2 : Room 2 _ := hr.mono (by decide)
  have r3 : Room 3 _ := hr.mono (by decide)
  have r4 : Room 4 _ := hr.mono (by decide)
  refine ⟨_, (pss_cons (ps_set (i := 2) scFromB.nd rfl (.inl rfl) pe_dnewK) (pss_cons (ps_set (i := 3) scFromB.nd rfl (.inl rfl) pe_non) (pss_cons (ps_set (i := 4) scFromB.nd rfl (.inl rfl) (pe_lst pa_nil)) (pss_cons (ps_for (passes_of rfl) rfl (pi_enumT (by rfl) T.enum (pa_cons (pv 1) pa_nil)) (pg_tup rfl (pgs_cons (pg_name (i := 5) scFromB.nd rfl (.inl rfl)) (pgs_cons (pg_name (i := 6) scFromB.nd rfl (.inl rfl)) pgs_nil))) (pss_cons (ps_par3 (i := 7) (j := 8) (l := 9) (by rfl) scFromB.nd rfl rfl rfl (by decide) (by decide) (by decide) rfl rfl rfl (pa_cons (pe_call GO r2 (by rfl) gO kO bO .nil pass0 (pa_cons (pv 6) pa_nil)) (pa_cons (pe_call GG r2 (by rfl) gG kG bG .nil pass0 (pa_cons (pv 6) pa_nil)) (pa_cons (pe_call GR r3 (by rfl) gR kR bR .nil pass0 (pa_cons (pv 6) pa_nil)) pa_nil))) (by rfl)) (pss_one (ps_if (PW.pt (pw_and (pt_cmpR op_notN (pv 7) pe_non (nomark _)) (pw_and1 (pt_cmp (pc_dnotin (hu1 hu) (pe_ix ix_tup (pv 7) pe_int (fun _ _ => rfl)) (pv 2)))))) (pss_one (ps_asg (pe_ix ix_tup (pv 7) pe_int (fun _ _ => rfl)) (pg_sub (pv 2) (pe_ix ix_tup (pv 7) pe_int (fun _ _ => rfl)) (set_dict (Nat.lt_of_le_of_lt (Nat.add_le_add_left (by decide : 1 ≤ 64) _) hu))))) (pss_one (ps_if (PW.pt (pw_and (pt_cmpR op_notN (pv 8) pe_non (nomark _)) (pw_and1 (pt_cmpR op_isN (pv 3) pe_non (nomark _))))) (pss_one (ps_set (i := 3) scFromB.nd rfl (.inl rfl) (pv 8))) (pss_one (ps_if (pt_cmpR op_notN (pv 9) pe_non (nomark _)) (pss_one (ps_expr (pe_bm PySem.F.plainAttrs_list PySem.F.slot_list_append PySem.F.type_list_append mt_append (pv 4) (pa_cons (pv 9) pa_nil)))) (pss_one (ps_raisePe rfl L r4 (takes_of rfl rfl rfl rfl) (by exact (pa_cons (pv 5) pa_nil)))))))))))) (pss_one (ps_ret (pe_makeL (i := 0) MB GB hr rfl (.inl (by rfl)) bB (passes_call (takes_of rfl rfl rfl rfl) (fun _ _ _ _ h => h)) (by exact (pa_cons (pe_make MC GC r4 rfl gC bC .nil (passes_call (takes_of rfl rfl rfl rfl) (fun _ _ _ _ h => h)) (by exact (pa_cons (pv 2) pa_nil))) (pa_cons (pv 3) (pa_cons (pe_callTy call_tuple_of (by rfl) T.tuple (by decide +kernel) (pa_cons (pv 4) pa_nil)) pa_nil))))))))))), ?_⟩
  obtain ⟨D, nm⟩ := fq.nm
  refine fun D1 nD1 => ⟨by show 0 ≤ sizeLine; decide, fun L2_ nL2 => ?_⟩
  have s1 : Same H (upd (upd H D1 (.dK [])) L2_ (.lst [])) := (Same.new nD1).trans (Same.new nL2)
  have hD1 := (Same.new nL2 (o := .lst [])) _ _ (upd_same (a := D1) (o := .dK []) (H := H))
  have hL2 : (upd (upd H D1 (.dK [])) L2_ (.lst [])) L2_ = some (.lst []) := upd_same
  have nL2H : H L2_ = none := (Same.new nD1 (o := .dK [])).free nL2
  refine ⟨_, rfl, p, rest, rfl, SqT.of (s1 _ _ hp), ?_⟩
  refine for_it (walk_enumT (xs := rest)) (fun i σ G => ∃ (v5 v6 v7 v8 v9 : Option V) (l : List (Str × Nat)) (go : Option Str) (rs : List Rl) (as : List Addr), σ = [some (.ref B), some (.ref p), some (.ref D1), some (goalV go), some (.ref L2_), v5, v6, v7, v8, v9] ∧ Same H G ∧ G D1 = some (.dK (dkv l)) ∧ G L2_ = some (.lst (as.map V.ref)) ∧
      Paired (fun b r => RuleAt G b r) as rs ∧ Got l ∧ (∀ r ∈ rs, RW D r) ∧ (∀ g, go = some g → azB g = true ∧ g ∈ D) ∧ l.length + rs.length ≤ i ∧ rdB 0 S0 rest = rdB i (l, go, rs) (rest.drop i))
    ⟨none, none, none, none, none, [], none, [], [], rfl, s1, hD1, hL2, .nil, Got.nil, (fun r m => nomatch m), (fun g e => by cases e), Nat.le_refl _, rfl⟩ (fun i σ G _ ⟨_, _, _, _, _, _, _, _, _, _, s, _⟩ => SqT.of (s _ _ hp)) ?_ ?_
  · rintro i x σ G G1 hi ⟨v5, v6, v7, v8, v9, l, go, rs, as, rfl, sm, hD, hL, pr, got, rw_, gz, ll, er⟩ ⟨U, x1, x2, rfl, nU, rfl, e1, e2⟩
    cases e1
    have hd : rest.drop i = rest[i] :: rest.drop (i + 1) := List.drop_eq_getElem_cons hi
    have e3 : rest[i]? = some x2 := e2
    rw [List.getElem?_eq_getElem hi] at e3
    cases e3
    rw [hd] at er
    have lny := (fq.all rest[i] (List.getElem_mem hi)).same sm
    have few := fq.few
    have ym : rest[i] ∈ rest := List.getElem_mem hi
    generalize rest[i] = y at er lny ym
    refine ⟨U, _, rfl, SqT.of upd_same, rfl, ?_⟩
    have w1 := Same.new nU (o := .tup [.int (i : Nat), y])
    have s2 := sm.trans w1
    have lny := lny.same w1
    have hD := w1 _ _ hD
    have hL := w1 _ _ hL
    have pr := paired_map (fun b r (k : RuleAt G b r) => k.same w1) pr
    clear w1 nU
    generalize upd G U (.tup [.int (i : Nat), y]) = G2 at s2 lny hD hL pr ⊢
    refine ⟨_, _, rfl, _, _, rfl, rfl, ?_⟩
    refine ⟨_, rfl, ?_⟩
    refine tNil_in ?_
    refine oper_val lny fun vo G3 s3 ho => ⟨_, rfl, ?_⟩
    refine tNil_in ?_
    refine goal_val (lny.same s3) fun G4 s4 => ⟨_, rfl, ?_⟩
    refine tNil_in ?_
    refine rule_val ((lny.same s3).same s4) fun vr G5 s5 hv => ⟨_, _, _, rfl, ?_⟩
    have s35 := s3.trans (s4.trans s5)
    have ho := ho.same (s4.trans s5)
    have sm := s2.trans s35
    have hD := s35 _ _ hD
    have hL := s35 _ _ hL
    have pr := paired_map (fun b r (k : RuleAt G2 b r) => k.same s35) pr
    clear s3 s4 s5 s35 s2 lny
    have ndx : ∀ {b : Addr} {xs : List V} {o : HO}, G5 b = some (.tup xs) → (upd G5 D1 o) b = some (.tup xs) := fun {b xs o} e => by
      rw [upd_ne (fun c => by rw [c, hD] at e; cases e)]
      exact e
    have nlx : ∀ {b : Addr} {xs : List V} {o : HO}, G5 b = some (.tup xs) → (upd G5 L2_ o) b = some (.tup xs) := fun {b xs o} e => by
      rw [upd_ne (fun c => by rw [c, hL] at e; cases e)]
      exact e
    have DL : D1 ≠ L2_ := fun e => by
      rw [e, hL] at hD
      cases hD
    have smD : ∀ {o : HO}, Same H (upd G5 D1 o) := fun {o} b u e => by
      rw [upd_ne (ne_of_none e nD1)]
      exact sm b u e
    have smL : ∀ {o : HO}, Same H (upd G5 L2_ o) := fun {o} b u e => by
      rw [upd_ne (ne_of_none e nL2H)]
      exact sm b u e
    have stop : stepB (l, go, rs) y = none → ∀ H' d, Same G5 H' → H' d = none → E (.ref CP) (some d) (upd H' d (numD i)) := fun e H' d s nd => fq.parse i (er.trans (rdB_stop e)) H' d (sm.trans s) nd
    rcases ho with ⟨eo, rfl⟩ | ⟨z, n, t, eo, rfl, ht⟩
    · -- no operator
      refine ⟨_, rfl, rfl, _, rfl, if_false_of rfl (if_false_of rfl ?_)⟩
      cases eg : goalOf y with
      | some g =>
        have eu := goal_rule eg
        refine ⟨_, rfl, rfl, _, rfl, if_true_of rfl ⟨_, rfl, rfl, _, rfl, ?_⟩⟩
        cases go with
        | none =>
          refine if_true_of rfl ⟨_, rfl, ?_⟩
          refine ⟨_, _, _, _, _, l, some g, rs, as, rfl, sm, hD, hL, pr, got, rw_, fun g' e => by cases e; exact nm.gz ym eg, by omega, er.trans (rdB_go (step_goal eo eg rfl))⟩
        | some g' =>
          have evr := hv.non eu
          subst evr
          exact if_false_of rfl ⟨_, rfl, rfl, _, rfl, if_false_of rfl ⟨_, rfl, .int (i : Nat), rfl, fun d nd => stop (step_goal2 eo eg (fun e => nomatch e)) _ d (Same.refl _) nd⟩⟩
      | none =>
        refine ⟨_, rfl, rfl, _, rfl, if_false_of rfl (if_false_of rfl ?_)⟩
        rcases hv with ⟨eu, rfl⟩ | ⟨r, t, eu, rfl, ht⟩
        · exact ⟨_, rfl, rfl, _, rfl, if_false_of rfl ⟨_, rfl, .int (i : Nat), rfl, fun d nd => stop (step_no eo eg eu) _ d (Same.refl _) nd⟩⟩
        · refine ⟨_, rfl, rfl, _, rfl, if_true_of rfl ?_⟩
          have las : as.length = rs.length := Paired.length pr
          refine ⟨_, rfl, .inl ⟨rfl, _, SqL.of hL⟩, _, rfl, L2_, _, _, rfl, rfl, hL, by rw [List.length_map, sizeLine_eq]; omega, ?_⟩
          refine ⟨_, _, _, _, _, l, go, rs ++ [r], as ++ [t], rfl, smL, by rw [upd_ne DL]; exact hD, by rw [upd_same, List.map_append]; rfl, ?_, got, ?_, gz, by rw [List.length_append]; simp; omega, er.trans (rdB_go (step_rule eo eg eu))⟩
          · obtain ⟨u, h1, h2⟩ := ht
            exact pair_end ⟨u, nlx h1, nlx h2⟩ (paired_map (fun b r ⟨u, h1, h2⟩ => ⟨u, nlx h1, nlx h2⟩) pr)
          · intro q m
            rcases List.mem_append.mp m with m | m
            · exact rw_ q m
            · rw [List.mem_singleton.mp m]
              exact nm.rw ym eu
    · obtain ⟨eg, eu⟩ := line_goal eo
      have evr := hv.non eu
      subst evr
      refine ⟨_, rfl, rfl, _, rfl, if_true_of rfl ?_⟩
      by_cases c : z ∈ l.map (·.1)
      · obtain ⟨pz, mz, ez⟩ := List.mem_map.mp c
        have vz := val_mem (kvs := dkv l) (p := (.inr z, .int (pz.2 : Int))) (by rw [keys_dkv]; exact List.Pairwise.map Sum.inr (fun a b h e => h (Sum.inr.inj e)) got.nd) (List.mem_map.mpr ⟨pz, mz, by rw [← ez]⟩)
        refine ⟨_, rfl, t, _, 0, _, rfl, rfl, SqT.of ht, rfl, _, rfl, D1, _, rfl, vz ▸ DGet.k (k := .inr z) hD, _, rfl, if_false_of rfl ?_⟩
        rw [eg]
        exact ⟨_, rfl, rfl, _, rfl, if_false_of rfl (if_false_of rfl ⟨_, rfl, rfl, _, rfl, if_false_of rfl ⟨_, rfl, .int (i : Nat), rfl, fun d nd => stop (step_again eo c) _ d (Same.refl _) nd⟩⟩)⟩
      · have vz := val_none c
        refine ⟨_, rfl, t, _, 0, _, rfl, rfl, SqT.of ht, rfl, _, rfl, D1, _, rfl, vz ▸ DGet.k (k := .inr z) hD, _, rfl, if_true_of rfl ?_⟩
        have el : (dkv l).length = l.length := List.length_map _
        refine ⟨_, rfl, t, _, 1, _, rfl, rfl, SqT.of ht, rfl, _, rfl, _, rfl, t, _, 0, _, rfl, rfl, SqT.of ht, rfl, D1, _, rfl, DPut.k (k := .inr z) hD ?_, ?_⟩
        · rw [el, sizeLine_eq]
          omega
        · refine ⟨_, _, _, _, _, l ++ [(z, n)], go, rs, as, rfl, smD, by rw [upd_same, put_end c], by rw [upd_ne DL.symm]; exact hL, paired_map (fun b r ⟨u, h1, h2⟩ => ⟨u, ndx h1, ndx h2⟩) pr, got.more eo c, rw_, gz, by rw [List.length_append]; simp; omega, er.trans (rdB_go (step_op eo c))⟩
  · rintro σ G ⟨v5, v6, v7, v8, v9, l, go, rs, as, rfl, sm, hD, hL, pr, got, rw_, gz, ll, er⟩
    have few := fq.few
    have er : rdB 0 S0 rest = .inr (l, go, rs) := by
      rw [er, List.drop_length]
      rfl
    have nice := got.nice (by omega)
    have las : as.length = rs.length := Paired.length pr
    refine ⟨rfl, _, rfl, fun x dx nx ndx ne => ?_⟩
    have s0 : Same G (upd (upd G dx (.own x)) x (.ins C dx [])) := (Same.new ndx).trans (Same.new (by rw [upd_ne ne.symm]; exact nx))
    have kx : ∀ {H' : Hp}, Kp x (upd (upd G dx (.own x)) x (.ins C dx [])) H' → Same G H' := fun {H'} k b u e => by
      have nb : b ≠ x := ne_of_none e nx
      exact k b u nb (s0 b u e)
    refine ⟨x, dx, .ref D1, _, rfl, upd_same, .dict (s0 _ _ hD) nice, fun bf H' s' => ?_, fun a l0 bt ea ha ok l' H' pl srt kp op => ⟨rfl, ?_⟩⟩
    · refine fq.bad _ er (fun h => ?_) _ ((sm.trans s0).trans s')
      rw [(good_of (got.ok h)).2] at bf
      cases bf
    cases ea
    rw [s0 _ _ hD] at ha
    have el : dkv l = dkv l0 := by
      injection ha with h
      injection h
    have e0 : l = l0 := dkv_inj el
    subst e0
    have sG := kx kp
    have hL' := sG _ _ hL
    refine ⟨_, rfl, _, rfl, L2_, _, rfl, .inl ⟨SqL.of hL', fun ta nta => ?_⟩⟩
    have w1 := Same.new nta (o := .tup (as.map V.ref))
    have ra : RulesAt (upd H' ta (.tup (as.map V.ref))) ta rs := ⟨as, upd_same, paired_map (fun b r k => RuleAt.same k (sG.trans w1)) pr⟩
    have op2 := op.same w1
    have sm2 := sm.trans (sG.trans w1)
    generalize upd H' ta (.tup (as.map V.ref)) = H2 at ra op2 sm2 ⊢
    refine fun x2 dx2 nx2 ndx2 ne2 => ?_
    have t0 : Same H2 (upd (upd H2 dx2 (.own x2)) x2 (.ins B dx2 [])) := (Same.new ndx2).trans (Same.new (by rw [upd_ne ne2.symm]; exact nx2))
    have kx2 : ∀ {H' : Hp}, Kp x2 (upd (upd H2 dx2 (.own x2)) x2 (.ins B dx2 [])) H' → Same H2 H' := fun {H'} k b u e => k b u (ne_of_none e nx2) (t0 b u e)
    by_cases cb : ∃ g, go = some g ∧ BkOk l g rs
    · obtain ⟨g, rfl, bk⟩ := cb
      refine .inl ⟨x2, dx2, x, ta, g, l', rs, rfl, upd_same, op2.same t0, ra.same t0, bk.perm pl, fun H3 kp3 bk3 _ => ⟨rfl, ?_⟩⟩
      exact fq.good _ g er rfl bk l' x2 H3 pl srt (sm2.free nx2) (sm2.trans (kx2 kp3)) bk3
    · have jg : Jv D H2 1 (goalV go) := by
        cases go with
        | none => exact .non
        | some g =>
          obtain ⟨az, mD⟩ := gz g rfl
          have := az_len az
          exact .text (by omega) fun _ => mD
      have nb : ¬ BookV H2 l' (goalV go) (.ref ta) := fun h => by
        obtain ⟨g, rs', e, ⟨a, e2, h2⟩, ok⟩ := h
        cases e2
        cases go with
        | none => cases e
        | some g2 =>
          cases e
          have := BookV.iff (l := l') (g := g) ra
          exact cb ⟨g, rfl, (this.mp ⟨g, rs', rfl, ⟨ta, rfl, h2⟩, ok⟩).perm pl.symm⟩
      have jr := RW.jvs (H := H2) rw_ (by omega) ra
      refine .inr (.inr ⟨x2, x, goalV go, .ref ta, D, l', rfl, op2.same t0, (got.ok ⟨by have := ok.few; omega, by have := ok.few; omega⟩ |> fun o => ⟨by rw [pl.length_eq]; exact o.few, (pl.map _).nodup_iff.mpr o.nd, fun y m => o.name y (pl.mem_iff.mp m), fun y m => o.two y (pl.mem_iff.mp m)⟩), nm.few, jg.same t0, jr.same t0, fun h => nb (BookV.back jr t0 h), fun H3 s3 => fq.nob _ er ok.few cb _ ((sm2.trans t0).trans s3)⟩)
theorem fn_fromB {f : Addr} {fd : FuncData} (F : Fun K "from_lines" "Book.from_lines" bFromLines f fd) (T : Free mg)
    (MC : Mk K C fC) (gC : mg "Operators" = some (.ref C)) (GC : FnOk P w K mg base (L2.CX P w) 3 fC dC ["self", "arities"] (spInit C CO)) (bC : Binds K dC ["self", "arities"] [])
    (MB : Mk K B fB) (GB : FnOk P w K mg base (L2.CX P w) 5 fB dB ["self", "operators", "goal", "rules"] (spBAll K C B CO CB)) (bB : Binds K dB ["self", "operators", "goal", "rules"] [])
    (L : PySem.PeX.PeTxt K mg CP fN)
    (GO : FnOk P w K mg base CX0 2 fO dO ["line"] spOper) (bO : Binds K dO ["line"] []) (gO : mg "operator_of" = some (.ref fO)) (kO : PySem.W.keepIn K (.ref fO) = true)
    (GG : FnOk P w K mg base CX0 2 fG dG ["line"] spGoalOf) (bG : Binds K dG ["line"] []) (gG : mg "goal_of" = some (.ref fG)) (kG : PySem.W.keepIn K (.ref fG) = true)
    (GR : FnOk P w K mg base CX0 3 fR dR ["line"] spRuleOf) (bR : Binds K dR ["line"] []) (gR : mg "rule_of" = some (.ref fR)) (kR : PySem.W.keepIn K (.ref fR) = true) : FnR P w K mg base (L2.CX P w) 7 f (spFromBk K C B CP CO CB) := by
  obtain ⟨oc, od, kV, doc, pm, an, cdv, ct, osl, rfl, lk, hcd⟩ := F.ex
  have z := StX.fn_star (k := 6) (sp := spFromBB K C B CP CO CB) (ps := ["cls"]) (pv := "lines") (P := P) (w := w) (mg := mg) (base := base) lk hcd scFromB StX.cxUp (fun us rest hl => match us, rest, hl with | [_], [], _ => rfl | [_], _ :: _, _ => rfl) (fun A outer s H vs Q E hr h => ok_frombB T MC gC GC bC MB GB bB L GO bO gO kO GG bG gG kG GR bR gR kR hr h)
  intro A outer s H us vs Q E hr e0 r h
  obtain ⟨rest, rfl, fq⟩ := h
  refine z A outer s H us _ Q E hr e0 r ⟨[.ref B], rest, rfl, rfl, by have := fq.few; rw [sizeLine_eq]; omega, fun p np => ?_⟩
  exact ⟨p, rest, rfl, upd_same, fq.up (Same.new np)⟩
end
end Pr
namespace Pr
open PySem PySem.Spec PyProof.Rows L2 Gd
/-! ### _law_read -/
/-- the words of a line, by what it says -/
inductive Lw (v : V) : List Str → Prop where
  | op {z d : Str} {n : Nat} (e : lineOf v = some (z, n)) (f : dig d = some n) : Lw v [("op" : Str), z, d]
  | goal {g : Str} (e : goalOf v = some g) : Lw v [("goal" : Str), g]
  | rule {r : Rl} {d : Str} (e : ruleOf v = some r) (f : fig d = some r.2.1) : Lw v (("rule" : Str) :: r.1 :: d :: r.2.2)
def RdVal (G : Hp) (v res : V) : Prop := (lineOf v = none ∧ goalOf v = none ∧ ruleOf v = none ∧ res = .non) ∨ ∃ p ws, res = .ref p ∧ G p = some (.lst (ws.map V.str)) ∧ Lw v ws
def spLRead : Sp := fun vs H Q _ => ∃ (v : V), vs = [v] ∧ Ln H v ∧ ∀ res H', Same H H' → RdVal H' v res → Q res H'
theorem lineL_not {l : List Str} (h : l.head? ≠ some "op") : lineL l = none := by
  cases e : lineL l with
  | none => rfl
  | some p =>
    obtain ⟨c, rfl, _⟩ := lineL_some e
    exact absurd rfl h
theorem goalL_not {l : List Str} (h : l.head? ≠ some "goal") : goalL l = none := by
  cases e : goalL l with
  | none => rfl
  | some p =>
    obtain ⟨rfl, _⟩ := goalL_some e
    exact absurd rfl h
theorem ruleL_no {l : List Str} (h : l.head? ≠ some "rule") : ruleL l = none := by
  cases e : ruleL l with
  | none => rfl
  | some p =>
    obtain ⟨d, rfl, _⟩ := ruleL_some e
    exact absurd rfl h
theorem joinF {H : Hp} {F : Prop} {R : Hp → Prop} {A : Prop} (f : (∀ G, Same H G → F → R G) → A) (g : ∀ G, Same H G → F → R G) : A := f g
theorem len_pair {α : Type} {l : List α} (h : l.length = 2) : ∃ a b, l = [a, b] := by
  match l, h with
  | [a, b], _ => exact ⟨a, b, rfl⟩
theorem len_sole {α : Type} {l : List α} (h : l.length = 1) : ∃ a, l = [a] := by
  match l, h with
  | [a], _ => exact ⟨a, rfl⟩
theorem sig_figs : signsV "0123456789" = figs.map V.str := by with_unfolding_all rfl
def badN (l : List Str) : List V := (l.filter fun z => !azB z).map V.str
theorem badN_more {l : List Str} {i : Nat} {z : Str} (h : l[i]? = some z) : badN (l.take (i + 1)) = badN (l.take i) ++ (if azB z then [] else [.str z]) := by
  unfold badN
  rw [List.take_add_one, h, List.filter_append, List.map_append]
  cases e : azB z <;> simp [e]
theorem badN_nil {l : List Str} : badN l = [] ↔ l.all azB = true := by
  unfold badN
  rw [List.map_eq_nil_iff, List.filter_eq_nil_iff, List.all_eq_true]
  constructor
  · intro h z m
    have := h z m
    simpa using this
  · intro h z m
    simp [h z m]
theorem badN_len (l : List Str) : (badN l).length ≤ l.length := by
  unfold badN
  rw [List.length_map]
  exact List.length_filter_le _ _
theorem cut12 {a b : V} {xs : List V} : cutV (a :: b :: xs) (some 1) (some 2) = [b] := by
  have e1 : HT.sIx (a :: b :: xs).length 0 (some 1) = 1 := by
    show (if (1 : Int) < 0 then ((1 : Int) + ((a :: b :: xs).length : Int)).toNat else min (1 : Int).toNat (a :: b :: xs).length) = 1
    rw [if_neg (by decide)]
    show min 1 (xs.length + 1 + 1) = 1
    omega
  have e2 : HT.sIx (a :: b :: xs).length (a :: b :: xs).length (some 2) = 2 := by
    show (if (2 : Int) < 0 then ((2 : Int) + ((a :: b :: xs).length : Int)).toNat else min (2 : Int).toNat (a :: b :: xs).length) = 2
    rw [if_neg (by decide)]
    show min 2 (xs.length + 1 + 1) = 2
    omega
  unfold cutV
  rw [e1, e2]
  rfl
section
variable {P : Program} {w : World} {K : PySem.W.Frag} {mg : Str → Option Value} {base : Heap} {fW : Addr} {dW : FuncData}
theorem scLRead : FnScope ["line", "words", "wrong", "word"] ["line"] (defScope sLRead) := ⟨rfl, rfl, rfl, by decide +kernel, rfl, by decide +kernel, by decide +kernel⟩
theorem ok_lread {f : Addr} {fd : FuncData} (F : Fun K "_law_read" "_law_read" sLRead f fd) (T : Free mg) (GW : FnOk P w K mg base CX0 1 fW dW ["value"] spLWord) (bW : Binds K dW ["value"] []) (gW : mg "_law_is_word" = some (.ref fW)) (kW : PySem.W.keepIn K (.ref fW) = true) : FnOk P w K mg base CX0 2 f fd ["line"] spLRead := by
  refine F.ok scLRead (fun vs H Q E h => ?_) (fun cdv A outer s H vs Q E hr h => ?_)
  · obtain ⟨v, rfl, _⟩ := h
    rfl
  · obtain ⟨v, rfl, ⟨⟨ty, kd⟩, hz⟩, q⟩ := h
    have hu := hr.units
    have hu1 : ∀ {u : Nat}, u + 64 < cLine → u + 1 < cLine := fun h => by omega
    refine ⟨_, (pss_cons (ps_if (pt_not (pt_val (pe_callB call_isi (by rfl) T.isi (by decide +kernel) (pa_cons (pv 0) (pa_cons (pe_bltn (v := .ty "str") (by rfl) T.str (by decide +kernel) rfl) pa_nil))))) (pss_one (ps_ret pe_non)) pss_nil) (pss_cons (ps_set (i := 1) scLRead.nd rfl (.inl rfl) (pe_split (pv 0) pe_str)) (pss_cons (ps_if (PW.pt (pw_and (pt_cmpR op_eq (pe_ix ix_list (pv 1) pe_int (fun _ _ => rfl)) pe_str (nomark _)) (pw_and (pt_cmpR op_eq (pe_callB call_len_seq (by rfl) T.len PySem.boot_len (pa_cons (pv 1) pa_nil)) pe_int (nomark _)) (pw_and (pt_val (pe_call GW hr (by rfl) gW kW bW .nil pass0 (pa_cons (pe_ix ix_list (pv 1) pe_int (fun _ _ => rfl)) pa_nil))) (pw_and1 (pt_cmpR op_in_seq (pe_ix ix_list (pv 1) pe_int (fun _ _ => rfl)) (pe_lst (pa_cons pe_str (pa_cons pe_str (pa_cons pe_str pa_nil)))) (by rfl))))))) (pss_one (ps_ret (pv 1))) pss_nil) (pss_cons (ps_if (PW.pt (pw_and (pt_cmpR op_eq (pe_ix ix_list (pv 1) pe_int (fun _ _ => rfl)) pe_str (nomark _)) (pw_and (pt_cmpR op_eq (pe_callB call_len_seq (by rfl) T.len PySem.boot_len (pa_cons (pv 1) pa_nil)) pe_int (nomark _)) (pw_and1 (pt_val (pe_call GW hr (by rfl) gW kW bW .nil pass0 (pa_cons (pe_ix ix_list (pv 1) pe_int (fun _ _ => rfl)) pa_nil))))))) (pss_one (ps_ret (pv 1))) pss_nil) (pss_cons (ps_if (PW.pt (pw_or (pt_cmpR op_ne (pe_ix ix_list (pv 1) pe_int (fun _ _ => rfl)) pe_str (nomark _)) (pw_or (pt_not (pt_chain op_lt op_lt pe_int (pe_callB call_len_seq (by rfl) T.len PySem.boot_len (pa_cons (pv 1) pa_nil)) pe_int)) (pw_or1 (pt_cmpR op_notIn_seq (pe_ix ix_list (pv 1) pe_int (fun _ _ => rfl)) (pe_callTy (call_list_text rfl) (by rfl) T.list (by decide +kernel) (pa_cons pe_str pa_nil)) (by rfl)))))) (pss_one (ps_ret pe_non)) pss_nil) (pss_cons (ps_setLc (i := 2) (own := [("word", 3)]) (g := gName 3) (by rfl) scLRead.nd rfl rfl (sw_true rfl rfl rfl (by decide +kernel)) (pi_list (pe_op op_cat (pe_slice sl_list (pv 1) (po_some pe_int) (po_some pe_int)) (pe_slice sl_list (pv 1) (po_some pe_int) po_none))) (blkOk_by (own := [("word", 3)]) (N := ["line", "words", "wrong", "word"]) (sc := defScope sLRead) (by decide +kernel)) (fun _ _ _ _ _ => pg_name (i := 3) scLRead.nd rfl (.inl rfl)) (fun _ _ _ _ _ => pts_one (pt_not (pt_val (pe_call GW hr (by rfl) gW kW bW .nil pass0 (pa_cons (pv 3) pa_nil))))) (fun _ _ _ _ _ => pv 3)) (pss_one (ps_ret (pe_ifExp (pt_cmpR (op_eqE hu) (pv 2) (pe_lst pa_nil) (nomark _)) (pv 1) pe_non))))))))), ?_⟩
    refine ⟨_, rfl, v, _, _, _, _, rfl, .ty "str", kd.ty, kit_str kd, _, rfl, ?_⟩
    cases kd with
    | str z =>
      have l := hz z rfl
      refine iteF ⟨_, rfl, ⟨_, rfl⟩, z, " ", rfl, rfl, rfl, by rw [sizeLine_eq]; omega, fun p np => ?_⟩
      have sN : Same H (upd H p (.lst ((Txt.split z " ").map V.str))) := Same.new np
      have hp : (upd H p (.lst ((Txt.split z " ").map V.str))) p = some (.lst ((sp z).map V.str)) := by rw [upd_same, sp_eq]
      have ofz : ∀ w ∈ sp z, w.length ≤ z.length := fun w m => (sp_of m).1
      generalize upd H p (.lst ((Txt.split z " ").map V.str)) = H1 at sN hp ⊢
      have el : lineOf (.str z) = lineL (sp z) := rfl
      have eg : goalOf (.str z) = goalL (sp z) := rfl
      have er : ruleOf (.str z) = ruleL (sp z) := rfl
      have ne := sp_ne z
      generalize sp z = ws at hp ofz el eg er ne
      obtain ⟨a, us, rfl⟩ := List.exists_cons_of_ne_nil ne
      have gl : ∀ b ∈ us, b.length ≤ 100000 := fun b m => by
        have := ofz b (List.mem_cons_of_mem _ m)
        omega
      have lm : ((a :: us).map V.str).length = us.length + 1 := by rw [List.length_map, List.length_cons]
      have neA : ∀ {z : Str}, a ≠ z → decide (V.str a = V.str z) = false := fun n => decide_eq_false fun e => n (V.str.inj e)
      refine' joinF (H := H1) (F := lineOf (.str z) = none) (fun KK => ?AA) ?BB
      case AA =>
        refine ⟨_, rfl, p, _, 0, V.str a, rfl, rfl, SqL.of hp, atI_nat (j := 0) rfl, rfl, _, rfl, ?_⟩
        by_cases ea : a = "op"
        case neg => exact if_false_of (neA ea) (if_false_of rfl (KK H1 (Same.refl _) (el.trans (lineL_not fun e => ea (Option.some.inj e)))))
        subst ea
        refine if_true_of (decide_eq_true rfl) ⟨_, rfl, p, _, rfl, .inl (SqL.of hp), rfl, _, rfl, ?_⟩
        by_cases c3 : us.length = 2
        case neg => exact if_false_of (decide_eq_false fun e => c3 (by have := V.int.inj e; rw [lm] at this; omega)) (if_false_of rfl (KK H1 (Same.refl _) (el.trans (lineL_three fun e => c3 (by simpa using e)))))
        obtain ⟨b, d, rfl⟩ := len_pair c3
        have lb := gl b (by simp)
        refine if_true_of (decide_eq_true rfl) ⟨_, rfl, p, _, 1, V.str b, rfl, rfl, SqL.of hp, atI_nat (j := 1) rfl, .str b, "str", rfl, .str b, fun y e => by cases e; omega, fun H2 s2 => ⟨_, rfl, ?_⟩⟩
        have em : lineL [("op" : Str), b, d] = if azB b = true then (dig d).map fun n => (b, n) else none := by
          show (if ("op" : Str) = "op" then (if azB b = true then (dig d).map fun n => (b, n) else none) else none) = _
          rw [if_pos rfl]
        cases nz : azB b with
        | false =>
          rw [if_neg (by rw [nz]; exact Bool.false_ne_true)] at em
          exact if_false_of nz (if_false_of rfl (KK H2 s2 (el.trans em)))
        | true =>
          rw [if_pos nz] at em
          refine if_true_of nz ⟨_, rfl, p, _, 2, V.str d, rfl, rfl, SqL.of (s2 _ _ hp), atI_nat (j := 2) rfl, by show 3 ≤ sizeLine; decide, fun t1 n1 => ⟨t1, _, rfl, .inl (SqL.of upd_same), rfl, rfl, _, rfl, ?_⟩⟩
          have s3 := s2.trans (Same.new n1 (o := .lst [V.str "0", .str "1", .str "2"]))
          generalize upd H2 t1 (.lst [V.str "0", .str "1", .str "2"]) = H3 at s3 ⊢
          cases ei : inV (.str d) [V.str "0", .str "1", .str "2"] with
          | false =>
            rw [dig_none ei] at em
            exact if_false_of (by rfl) (KK H3 s3 (el.trans em))
          | true =>
            obtain ⟨n, dn, _, _⟩ := dig_some ei
            rw [dn] at em
            exact if_true_of (by rfl) ⟨_, rfl, q _ H3 (sN.trans s3) (.inr ⟨p, _, rfl, s3 _ _ hp, .op (el.trans em) dn⟩)⟩
      case BB =>
        intro G sG fl
        refine' joinF (H := G) (F := goalOf (.str z) = none) (fun KK => ?AA) ?BB
        case AA =>
          have hpG := sG _ _ hp
          refine ⟨_, rfl, p, _, 0, V.str a, rfl, rfl, SqL.of hpG, atI_nat (j := 0) rfl, rfl, _, rfl, ?_⟩
          by_cases ea : a = "goal"
          case neg => exact if_false_of (neA ea) (if_false_of rfl (KK G (Same.refl _) (eg.trans (goalL_not fun e => ea (Option.some.inj e)))))
          subst ea
          refine if_true_of (decide_eq_true rfl) ⟨_, rfl, p, _, rfl, .inl (SqL.of hpG), rfl, _, rfl, ?_⟩
          by_cases c2 : us.length = 1
          case neg => exact if_false_of (decide_eq_false fun e => c2 (by have := V.int.inj e; rw [lm] at this; omega)) (if_false_of rfl (KK G (Same.refl _) (eg.trans (goalL_two fun e => c2 (by simpa using e)))))
          obtain ⟨b, rfl⟩ := len_sole c2
          have lb := gl b (by simp)
          refine if_true_of (decide_eq_true rfl) ⟨_, rfl, p, _, 1, V.str b, rfl, rfl, SqL.of hpG, atI_nat (j := 1) rfl, .str b, "str", rfl, .str b, fun y e => by cases e; omega, fun H2 s2 => ⟨_, rfl, ?_⟩⟩
          have em : goalL [("goal" : Str), b] = if azB b = true then some b else none := by
            show (if ("goal" : Str) = "goal" then (if azB b = true then some b else none) else none) = _
            rw [if_pos rfl]
          cases nz : azB b with
          | false =>
            rw [if_neg (by rw [nz]; exact Bool.false_ne_true)] at em
            exact if_false_of nz (KK H2 s2 (eg.trans em))
          | true =>
            rw [if_pos nz] at em
            exact if_true_of nz ⟨_, rfl, q _ H2 ((sN.trans sG).trans s2) (.inr ⟨p, _, rfl, s2 _ _ hpG, .goal (eg.trans em)⟩)⟩
        case BB =>
          intro G2 sG2 fg
          have sA := sG.trans sG2
          have hpG := sA _ _ hp
          have sH := sN.trans sA
          have no : ∀ G', Same G2 G' → ruleL (a :: us) = none → Q .non G' := fun G' s' e => q _ G' (sH.trans s') (.inl ⟨fl, fg, er.trans e, rfl⟩)
          refine ⟨_, rfl, p, _, 0, V.str a, rfl, rfl, SqL.of hpG, atI_nat (j := 0) rfl, rfl, _, rfl, ?_⟩
          by_cases ea : a = "rule"
          case neg => exact if_true_of (by rw [neA ea]; rfl) (if_true_of rfl (no _ (Same.refl _) (ruleL_no fun e => ea (Option.some.inj e))))
          subst ea
          refine if_false_of (by simp) ⟨_, rfl, p, _, rfl, .inl (SqL.of hpG), _, _, rfl, rfl, _, rfl, ?_⟩
          have lm2 : ((("rule" : Str) :: us).map V.str).length = us.length + 1 := lm
          by_cases c4 : 3 ≤ us.length
          case neg =>
            refine if_false_of (decide_eq_false (by rw [lm2]; omega)) ?_
            exact ⟨_, rfl, if_true_of rfl (if_true_of rfl (no _ (Same.refl _) (ruleL_few (.inl (by simp; omega)))))⟩
          refine if_true_of (decide_eq_true (by rw [lm2]; omega)) ⟨_, _, rfl, rfl, _, rfl, ?_⟩
          by_cases c10 : us.length < 10
          case neg => exact if_true_of (by rw [decide_eq_false (by rw [lm2]; omega)]; rfl) (if_true_of rfl (no _ (Same.refl _) (ruleL_few (.inr (by simp; omega)))))
          refine if_false_of (by rw [decide_eq_true (by rw [lm2]; omega)]; rfl) ?_
          match us, gl, hp, hpG, lm2, c4, c10, er, no with
          | [], _, _, _, _, c4, _, _, _ => exact absurd c4 (by simp)
          | [_], _, _, _, _, c4, _, _, _ => exact absurd c4 (by simp)
          | h :: d :: us, gl, hp, hpG, lm2, c4, c10, er, no =>
          have u1 : 1 ≤ us.length := by
            simp only [List.length_cons] at c4
            omega
          have u7 : us.length ≤ 7 := by
            simp only [List.length_cons] at c10
            omega
          have em : ruleL (("rule" : Str) :: h :: d :: us) = if azB h = true ∧ us.all azB = true then (fig d).map fun p => ((h, p, us) : Rl) else none := by
            show (if ("rule" : Str) = "rule" then (if 1 ≤ us.length ∧ us.length ≤ 7 then (if azB h = true ∧ us.all azB = true then (fig d).map fun p => ((h, p, us) : Rl) else none) else none) else none) = _
            rw [if_pos rfl, if_pos ⟨u1, u7⟩]
          refine ⟨_, rfl, p, _, 2, V.str d, rfl, rfl, SqL.of hpG, atI_nat (j := 2) rfl, _, rfl, by decide, fun t1 n1 => ⟨t1, _, rfl, .inl (SqL.of upd_same), rfl, ?_, _, rfl, ?_⟩⟩
          · rw [sig_figs]
            exact flat_strs9 figs
          have s3 := Same.new n1 (o := .lst (signsV "0123456789"))
          generalize upd G2 t1 (.lst (signsV "0123456789")) = G3 at s3 ⊢
          have fi := fig_in d
          have gh := gl h (by simp)
          have gu : ∀ b ∈ us, b.length ≤ 100000 := fun b m => gl b (by simp [m])
          cases hf : fig d with
          | none =>
            have ni : d ∉ figs := by
              rw [hf] at fi
              exact of_decide_eq_false fi.symm
            have em : ruleL (("rule" : Str) :: h :: d :: us) = none := by
              rw [em, hf]
              split <;> rfl
            exact if_true_of (by rw [if_pos rfl, sig_figs, inV_figs, decide_eq_false ni]; rfl) (no _ s3 em)
          | some pr =>
          rw [hf] at em fi
          have yi : d ∈ figs := of_decide_eq_true fi.symm
          refine if_false_of (by rw [if_pos rfl, sig_figs, inV_figs, decide_eq_true yi]; rfl) ?_
          have hp3 := s3 _ _ hpG
          refine ⟨_, rfl, 1, rfl, 2, rfl, p, _, rfl, SqL.of hp3, fun c1 nc1 => ?_⟩
          have w1 := Same.new nc1 (o := .lst [V.str h])
          have ec1 : cutV ((("rule" : Str) :: h :: d :: us).map V.str) (some 1) (some 2) = [V.str h] := cut12
          rw [ec1]
          refine ⟨_, rfl, 3, rfl, p, _, rfl, SqL.of (w1 _ _ hp3), fun c2 nc2 => ?_⟩
          rw [cut3 (by simp)]
          have w2 := Same.new nc2 (o := .lst (us.map V.str))
          have e3 : ((("rule" : Str) :: h :: d :: us).map V.str).drop 3 = us.map V.str := rfl
          rw [e3]
          refine ⟨c1, c2, _, _, rfl, rfl, w2 _ _ upd_same, upd_same, by rw [List.length_map, sizeLine_eq]; simp; omega, fun L nL => ?_⟩
          have w3 := Same.new nL (o := .lst ([V.str h] ++ us.map V.str))
          have hL : (upd (upd (upd G3 c1 (.lst [V.str h])) c2 (.lst (us.map V.str))) L (.lst ([V.str h] ++ us.map V.str))) L = some (.lst ((h :: us).map V.str)) := upd_same
          have s4 := s3.trans (w1.trans (w2.trans w3))
          generalize upd (upd (upd G3 c1 (.lst [V.str h])) c2 (.lst (us.map V.str))) L (.lst ([V.str h] ++ us.map V.str)) = G4 at hL s4 ⊢
          refine ⟨L, rfl, ⟨_, SqL.of hL⟩, fun D nD => ?_⟩
          refine lc_list (K := K) (a := L) (xs := (h :: us).map V.str) (fun i G' => G' D = some (.lst (badN ((h :: us).take i))) ∧ Same G4 G') ⟨upd_same, Same.new nD⟩ (fun i G' _ ⟨_, s⟩ => SqL.of (s _ _ hL)) ?_ ?_
          · rintro i v G5 hv ⟨eD, s5⟩
            obtain ⟨y, hy, rfl⟩ := str_at hv
            have ym : y ∈ h :: us := List.mem_of_getElem? hy
            have ly : y.length ≤ 100000 := (List.mem_cons.mp ym).elim (fun e => by rw [e]; exact gh) (gu y)
            have il := (List.getElem?_eq_some_iff.mp hy).1
            have bl := badN_len ((h :: us).take i)
            rw [List.length_take] at bl
            simp only [List.length_cons] at il bl
            refine ⟨rfl, _, rfl, .str y, "str", rfl, .str y, fun x e => by cases e; omega, fun G6 s6 => ⟨_, rfl, ?_⟩⟩
            have eD6 := s6 _ _ eD
            cases nz : azB y with
            | true =>
              refine if_false_of (show (!azB y) = false by rw [nz]; rfl) ⟨?_, s5.trans s6⟩
              rw [badN_more hy, nz, eD6]
              simp
            | false =>
              refine if_true_of (show (!azB y) = true by rw [nz]; rfl) ⟨_, rfl, _, eD6, by rw [sizeLine_eq]; omega, ?_, fun b o e => by rw [upd_ne (ne_of_none e nD)]; exact s6 _ _ (s5 _ _ e)⟩
              rw [upd_same, badN_more hy, nz]
              rfl
          · rintro G5 ⟨eD, s5⟩
            rw [List.length_map, List.take_length] at eD
            have sz := s4.trans s5
            refine ⟨_, rfl, by show 0 ≤ sizeLine; decide, fun e0 ne0 => ⟨D, e0, _, rfl, rfl, SqL.of ((Same.new ne0) _ _ eD), SqL.of upd_same, ?_⟩⟩
            have w9 := Same.new ne0 (o := .lst [])
            have sF := sz.trans w9
            cases nn : (badN (h :: us)).isEmpty with
            | true =>
              have az : (h :: us).all azB = true := badN_nil.mp (List.isEmpty_iff.mp nn)
              rw [List.all_cons, Bool.and_eq_true] at az
              rw [if_pos az] at em
              exact ⟨_, rfl, if_true_of rfl ⟨_, rfl, q _ _ (sH.trans sF) (.inr ⟨p, _, rfl, sF _ _ hpG, .rule (r := (h, pr, us)) (er.trans em) hf⟩)⟩⟩
            | false =>
              have na : ¬ (azB h = true ∧ us.all azB = true) := fun az => by
                have : badN (h :: us) = [] := badN_nil.mpr (by rw [List.all_cons, az.1, az.2]; rfl)
                rw [this] at nn
                cases nn
              rw [if_neg na] at em
              exact ⟨_, rfl, if_false_of rfl (no _ sF em)⟩
    | _ => exact iteT (q _ _ (Same.refl _) (.inl ⟨rfl, rfl, rfl, rfl⟩))
end
end Pr
namespace Pr
open PySem PySem.Spec PyProof.Rows L2 Gd
/-! ### _law_due -/
/-- what a row of lines is due to make -/
inductive Due (rest : List V) (G : Hp) : List V → Prop where
  | parse {i : Nat} (e : rdB 0 S0 rest = .inl i) : Due rest G [.str "parse", .int (i : Int)]
  | ops {s : S3} (e : rdB 0 S0 rest = .inr s) (n : ¬ (1 ≤ s.1.length ∧ s.1.length ≤ 8)) : Due rest G [.str "operators", .non]
  | book {s : S3} (e : rdB 0 S0 rest = .inr s) (o : 1 ≤ s.1.length ∧ s.1.length ≤ 8) (n : ¬ ∃ g, s.2.1 = some g ∧ BkOk s.1 g s.2.2) : Due rest G [.str "book", .non]
  | fine {s : S3} {g : Str} {d : Addr} (e : rdB 0 S0 rest = .inr s) (eg : s.2.1 = some g) (bk : BkOk s.1 g s.2.2) (pl : PlainAt G d s.1 g s.2.2) : Due rest G [.str "fine", .ref d]
def spLDue : Sp := fun vs H Q _ => ∃ (p : Addr) (rest : List V), vs = [.ref p] ∧ H p = some (.lst rest) ∧ (∀ v ∈ rest, Ln H v) ∧ rest.length ≤ 100 ∧ (∃ D, NmD D rest) ∧
  ∀ (a : Addr) (xs : List V) (H' : Hp), Same H H' → H a = none → H' a = some (.lst xs) → Due rest H' xs → Q (.ref a) H'
def plN (la ra : Addr) : List (Key × V) := [((.inr ("arities" : Str) : Key), V.ref la), (.inr ("goal" : Str), .non), (.inr ("rules" : Str), .ref ra)]
theorem pn_ar {la ra : Addr} : valV (plN la ra) (.inr ("arities" : Str) : Key) = some (.ref la) := valV_pos rfl
theorem pn_ru {la ra : Addr} : valV (plN la ra) (.inr ("rules" : Str) : Key) = some (.ref ra) := by
  unfold plN
  rw [valV_neg key_ar, valV_neg key_gr, valV_pos rfl]
theorem pn_merge {la ra : Addr} : mergeK [] (plN la ra) = plN la ra := by
  show putK (putK (putK [] (.inr (Str.ofString "arities") : Key) (.ref la)) (.inr (Str.ofString "goal")) .non) (.inr (Str.ofString "rules")) (.ref ra) = _
  rw [putK_new (kvs := []) (k := (.inr (Str.ofString "arities") : Key)) _ rfl, List.nil_append, putK_new (kvs := [((.inr (Str.ofString "arities") : Key), V.ref la)]) (k := (.inr (Str.ofString "goal") : Key)) _ (by rw [valV_neg key_ag]; rfl),
    putK_new (kvs := [((.inr (Str.ofString "arities") : Key), V.ref la)] ++ [((.inr (Str.ofString "goal") : Key), V.non)]) (k := (.inr (Str.ofString "rules") : Key)) _ (by show valV [((.inr (Str.ofString "arities") : Key), V.ref la), (.inr (Str.ofString "goal"), .non)] _ = none; rw [valV_neg key_ar, valV_neg key_gr]; rfl)]
  rfl
def goL : Option Str → List V
  | none => []
  | some g => [.str g]
theorem dig_int {c : Str} {n : Nat} (h : dig c = some n) : intText? c = some (n : Int) ∧ c.length ≤ 640 := by
  have key : ∀ c ∈ (["0", "1", "2"] : List Str), ∃ n, dig c = some n ∧ intText? c = some (n : Int) ∧ c.length ≤ 640 := by
    intro c m
    simp only [List.mem_cons, List.not_mem_nil, or_false] at m
    rcases m with rfl | rfl | rfl
    · exact ⟨0, by decide +kernel⟩
    · exact ⟨1, by decide +kernel⟩
    · exact ⟨2, by decide +kernel⟩
  obtain ⟨m, a, b⟩ := key c (dig_two h).2.1
  rw [h] at a
  cases a
  exact b
section
variable {P : Program} {w : World} {K : PySem.W.Frag} {mg : Str → Option Value} {base : Heap} {fR fP : Addr} {dR dP : FuncData}
theorem scLDue : FnScope ["lines", "found", "goals", "index", "line", "words"] ["lines"] (defScope sLDue) := ⟨rfl, rfl, rfl, by decide +kernel, rfl, by decide +kernel, by decide +kernel⟩
theorem ok_ldue {f : Addr} {fd : FuncData} (F : Fun K "_law_due" "_law_due" sLDue f fd) (T : Free mg) (GR : FnOk P w K mg base CX0 2 fR dR ["line"] spLRead) (bR : Binds K dR ["line"] []) (gR : mg "_law_read" = some (.ref fR)) (kR : PySem.W.keepIn K (.ref fR) = true)
    (GP : FnOk P w K mg base CX0 3 fP dP ["arities", "goal", "rules"] spLPlainG) (bP : Binds K dP ["arities", "goal", "rules"] []) (gP : mg "_law_is_plain" = some (.ref fP)) (kP : PySem.W.keepIn K (.ref fP) = true) : FnOk P w K mg base CX0 4 f fd ["lines"] spLDue := by
  refine F.ok scLDue (fun vs H Q E h => ?_) (fun cdv A outer s H vs Q E hr h => ?_)
  · obtain ⟨p, rest, rfl, _⟩ := h
    rfl
  · obtain ⟨p, rest, rfl, hp, lns, few, ⟨D, nm⟩, q⟩ := h
    have hu := hr.units
    have hu1 : ∀ {u : Nat}, u + 64 < cLine → u + 1 < cLine := fun h => by omega
    have r2 : Room 2 _ := hr.mono (by decide)
    refine ⟨_, (pss_cons (ps_par (i := 1) (j := 2) (by rfl) scLDue.nd rfl rfl (by decide) rfl rfl (pa_cons (pe_disp (pps_cons pe_str pe_dnewK (pps_cons pe_str pe_non (pps_cons pe_str (pe_lst pa_nil) pps_nil))) (by rfl) (by rfl) (fun z => by cases z) (by decide)) (pa_cons (pe_lst pa_nil) pa_nil)) (by rfl)) (pss_cons (ps_for PassesOwn.never rfl (pi_enum (by rfl) T.enum (pa_cons (pv 0) pa_nil)) (pg_tup rfl (pgs_cons (pg_name (i := 3) scLDue.nd rfl (.inl rfl)) (pgs_cons (pg_name (i := 4) scLDue.nd rfl (.inl rfl)) pgs_nil))) (pss_cons (ps_set (i := 5) scLDue.nd rfl (.inl rfl) (pe_call GR r2 (by rfl) gR kR bR .nil pass0 (pa_cons (pv 4) pa_nil))) (pss_cons (ps_if (PW.pt (pw_or (pt_cmpR op_isN (pv 5) pe_non (nomark _)) (pw_or (PW.pt (pw_and (pt_cmpR op_eq (pe_ix ix_list (pv 5) pe_int (fun _ _ => rfl)) pe_str (nomark _)) (pw_and1 (pt_cmp (pc_din (hu1 hu) (pe_ix ix_list (pv 5) pe_int (fun _ _ => rfl)) (pe_dget (hu1 hu) (pv 1) pe_str (fun _ _ => rfl))))))) (pw_or1 (PW.pt (pw_and (pt_cmpR op_eq (pe_ix ix_list (pv 5) pe_int (fun _ _ => rfl)) pe_str (nomark _)) (pw_and1 (pt_cmpR (op_neL hu) (pv 2) (pe_lst pa_nil) (nomark _))))))))) (pss_one (ps_ret (pe_lst (pa_cons pe_str (pa_cons (pv 3) pa_nil))))) pss_nil) (pss_one (ps_if (pt_cmpR op_eq (pe_ix ix_list (pv 5) pe_int (fun _ _ => rfl)) pe_str (nomark _)) (pss_one (ps_asg (pe_callTy call_int_str (by rfl) T.int (by decide +kernel) (pa_cons (pe_ix ix_list (pv 5) pe_int (fun _ _ => rfl)) pa_nil)) (pg_sub (pe_dget (hu1 hu) (pv 1) pe_str (fun _ _ => rfl)) (pe_ix ix_list (pv 5) pe_int (fun _ _ => rfl)) (set_dict (Nat.lt_of_le_of_lt (Nat.add_le_add_left (by decide : 1 ≤ 64) _) hu))))) (pss_one (ps_if (pt_cmpR op_eq (pe_ix ix_list (pv 5) pe_int (fun _ _ => rfl)) pe_str (nomark _)) (pss_one (ps_expr (pe_bm PySem.F.plainAttrs_list PySem.F.slot_list_append PySem.F.type_list_append mt_append (pv 2) (pa_cons (pe_ix ix_list (pv 5) pe_int (fun _ _ => rfl)) pa_nil)))) (pss_one (ps_expr (pe_bm PySem.F.plainAttrs_list PySem.F.slot_list_append PySem.F.type_list_append mt_append (pe_dget (hu1 hu) (pv 1) pe_str (fun _ _ => rfl)) (pa_cons (pe_tup (pa_cons (pe_ix ix_list (pv 5) pe_int (fun _ _ => rfl)) (pa_cons (pe_callTy call_int_str (by rfl) T.int (by decide +kernel) (pa_cons (pe_ix ix_list (pv 5) pe_int (fun _ _ => rfl)) pa_nil)) (pa_cons (pe_callTy call_tuple_of (by rfl) T.tuple (by decide +kernel) (pa_cons (pe_slice sl_list (pv 5) (po_some pe_int) po_none) pa_nil)) pa_nil)))) pa_nil))))))))))) (pss_cons (ps_if (pt_not (pt_chain op_lt op_lt pe_int (pe_callB call_lenD (by rfl) T.len PySem.boot_len (pa_cons (pe_dget (hu1 hu) (pv 1) pe_str (fun _ _ => rfl)) pa_nil)) pe_int)) (pss_one (ps_ret (pe_lst (pa_cons pe_str (pa_cons pe_non pa_nil))))) pss_nil) (pss_cons (ps_if (PW.pt (pw_or (pt_cmpR (op_eqE hu) (pv 2) (pe_lst pa_nil) (nomark _)) (pw_or1 (pt_not (pt_val (pe_call GP hr (by rfl) gP kP bP .nil pass0 (pa_cons (pe_dget (hu1 hu) (pv 1) pe_str (fun _ _ => rfl)) (pa_cons (pe_ix ix_list (pv 2) pe_int (fun _ _ => rfl)) (pa_cons (pe_callTy call_tuple_of (by rfl) T.tuple (by decide +kernel) (pa_cons (pe_dget (hu1 hu) (pv 1) pe_str (fun _ _ => rfl)) pa_nil)) pa_nil))))))))) (pss_one (ps_ret (pe_lst (pa_cons pe_str (pa_cons pe_non pa_nil))))) pss_nil) (pss_one (ps_ret (pe_lst (pa_cons pe_str (pa_cons (pe_disp (pps_cons pe_str (pe_dget (hu1 hu) (pv 1) pe_str (fun _ _ => rfl)) (pps_cons pe_str (pe_ix ix_list (pv 2) pe_int (fun _ _ => rfl)) (pps_cons pe_str (pe_dget (hu1 hu) (pv 1) pe_str (fun _ _ => rfl)) pps_nil))) (by rfl) (by rfl) (fun z => by cases z) (by decide)) pa_nil))))))))), ?_⟩
    refine fun pf npf => fun la nla => ⟨by show 0 ≤ sizeLine; decide, fun ra nra => ⟨?_, plN la ra, rfl, Nat.le_of_ble_eq_true rfl, ?_⟩⟩
    · rw [upd_ne (ne_of_none (by rw [upd_ne (ne_of_none upd_same nla)]; exact upd_same) nra), upd_ne (ne_of_none upd_same nla)]
      exact upd_same
    rw [pn_merge]
    have pla : pf ≠ la := ne_of_none upd_same nla
    have lara : la ≠ ra := ne_of_none (upd_same (a := la) (o := .dK []) (H := upd H pf (.dK []))) nra
    have pra : pf ≠ ra := ne_of_none (by rw [upd_ne pla]; exact upd_same) nra
    have nlaH : H la = none := by rw [upd_ne pla.symm] at nla; exact nla
    have nraH : H ra = none := by rw [upd_ne lara.symm, upd_ne pra.symm] at nra; exact nra
    have s0 : Same H (upd (upd (upd (upd H pf (.dK [])) la (.dK [])) ra (.lst [])) pf (.dK (plN la ra))) := fun b u e => by
      rw [upd_ne (ne_of_none e npf), upd_ne (ne_of_none e nraH), upd_ne (ne_of_none e nlaH), upd_ne (ne_of_none e npf)]
      exact e
    have i1 : (upd (upd (upd (upd H pf (.dK [])) la (.dK [])) ra (.lst [])) pf (.dK (plN la ra))) pf = some (.dK (plN la ra)) := upd_same
    have i2 : (upd (upd (upd (upd H pf (.dK [])) la (.dK [])) ra (.lst [])) pf (.dK (plN la ra))) la = some (.dK []) := by rw [upd_ne pla.symm, upd_ne lara]; exact upd_same
    have i3 : (upd (upd (upd (upd H pf (.dK [])) la (.dK [])) ra (.lst [])) pf (.dK (plN la ra))) ra = some (.lst []) := by rw [upd_ne pra.symm]; exact upd_same
    generalize upd (upd (upd (upd H pf (.dK [])) la (.dK [])) ra (.lst [])) pf (.dK (plN la ra)) = H1 at s0 i1 i2 i3 ⊢
    refine ⟨by show 0 ≤ sizeLine; decide, fun gs ngs => ⟨_, _, rfl, ?_⟩⟩
    have w0 := Same.new ngs (o := .lst [])
    have ngsH : H gs = none := s0.free ngs
    have ragn : ra ≠ gs := ne_of_none i3 ngs
    have j1 := w0 _ _ i1
    have j2 := w0 _ _ i2
    have j3 := w0 _ _ i3
    have j4 : (upd H1 gs (.lst [])) gs = some (.lst []) := upd_same
    have s1 := s0.trans w0
    generalize upd H1 gs (.lst []) = H2 at j1 j2 j3 j4 s1 ⊢
    clear i1 i2 i3 s0 w0 ngs nla nra
    refine ⟨_, rfl, p, rest, rfl, SqL.of (s1 _ _ hp), ?_⟩
    refine for_it (walk_enum (K := K) (a := p) (xs := rest)) (fun i σ G => ∃ (v3 v4 v5 : Option V) (l : List (Str × Nat)) (go : Option Str) (rs : List Rl) (as : List Addr), σ = [some (.ref p), some (.ref pf), some (.ref gs), v3, v4, v5] ∧ Same H G ∧ G pf = some (.dK (plN la ra)) ∧ G la = some (.dK (dkv l)) ∧ G ra = some (.lst (as.map V.ref)) ∧ G gs = some (.lst (goL go)) ∧
        Paired (fun b r => RuleAt G b r) as rs ∧ Got l ∧ (∀ r ∈ rs, RW D r) ∧ (∀ g, go = some g → azB g = true ∧ g ∈ D) ∧ l.length + rs.length ≤ i ∧ rdB 0 S0 rest = rdB i (l, go, rs) (rest.drop i))
      ⟨none, none, none, [], none, [], [], rfl, s1, j1, j2, j3, j4, .nil, Got.nil, (fun r m => nomatch m), (fun g e => by cases e), Nat.le_refl _, rfl⟩ (fun i σ G _ ⟨_, _, _, _, _, _, _, _, s, _⟩ => SqL.of (s _ _ hp)) ?_ ?_
    · rintro i x σ G G1 hi ⟨v3, v4, v5, l, go, rs, as, rfl, sm, hf, hla, hra, hgs, pr, got, rw_, gz, ll, er⟩ ⟨U, x1, x2, rfl, nU, rfl, e1, e2⟩
      cases e1
      have hd : rest.drop i = rest[i] :: rest.drop (i + 1) := List.drop_eq_getElem_cons hi
      have e3 : rest[i]? = some x2 := e2
      rw [List.getElem?_eq_getElem hi] at e3
      cases e3
      rw [hd] at er
      have lny := (lns rest[i] (List.getElem_mem hi)).same sm
      have ym : rest[i] ∈ rest := List.getElem_mem hi
      generalize rest[i] = y at er lny ym
      refine ⟨U, _, rfl, SqT.of upd_same, rfl, ?_⟩
      have w1 := Same.new nU (o := .tup [.int (i : Nat), y])
      have lny := lny.same w1
      refine ⟨_, _, rfl, _, _, rfl, rfl, ?_⟩
      refine ⟨_, rfl, y, rfl, lny, fun res G3 s3 hres => ?_⟩
      have s13 := w1.trans s3
      have sm := sm.trans s13
      have hf := s13 _ _ hf
      have hla := s13 _ _ hla
      have hra := s13 _ _ hra
      have hgs := s13 _ _ hgs
      have pr := paired_map (fun b r (k : RuleAt G b r) => k.same s13) pr
      clear s13 s3 w1 lny nU
      have stop : stepB (l, go, rs) y = none → ∀ L, G3 L = none → Q (.ref L) (upd G3 L (.lst [V.str "parse", .int (i : Int)])) := fun e L nL => q L _ _ (sm.trans (Same.new nL)) (sm.free nL) upd_same (.parse (er.trans (rdB_stop e)))
      have dF : ∀ {o : HO} {z : Addr}, H z = none → Same H (upd G3 z o) := fun {o z} n b u e => by
        rw [upd_ne (ne_of_none e n)]
        exact sm b u e
      rcases hres with ⟨eo, eg, eu, rfl⟩ | ⟨pw, ws, rfl, hw, lw⟩
      · exact ⟨_, rfl, rfl, _, rfl, if_true_of rfl (if_true_of rfl ⟨_, rfl, by show 2 ≤ sizeLine; decide, fun L nL => stop (step_no eo eg eu) L nL⟩)⟩
      refine ⟨_, rfl, rfl, _, rfl, if_false_of rfl ?_⟩
      cases lw with
      | @op z d n eo f =>
        have hx : ∀ {b : Addr} {xs : List V} {o : HO}, G3 b = some (.tup xs) → (upd G3 la o) b = some (.tup xs) := fun {b xs o} e => by
          rw [upd_ne (fun c => by rw [c, hla] at e; cases e)]
          exact e
        refine ⟨_, rfl, pw, _, 0, _, rfl, rfl, SqL.of hw, rfl, rfl, _, rfl, if_true_of (decide_eq_true rfl) ?_⟩
        refine ⟨_, rfl, pw, _, 1, _, rfl, rfl, SqL.of hw, rfl, _, rfl, pf, .ref la, rfl, pn_ar ▸ DGet.k (k := .inr ("arities" : Str)) hf, ?_⟩
        by_cases c : z ∈ l.map (·.1)
        · obtain ⟨pz, mz, ez⟩ := List.mem_map.mp c
          have vz := val_mem (kvs := dkv l) (p := (.inr z, .int (pz.2 : Int))) (by rw [keys_dkv]; exact List.Pairwise.map Sum.inr (fun a b h e => h (Sum.inr.inj e)) got.nd) (List.mem_map.mpr ⟨pz, mz, by rw [← ez]⟩)
          exact ⟨la, _, rfl, vz ▸ DGet.k (k := .inr z) hla, _, rfl, if_true_of rfl (if_true_of rfl ⟨_, rfl, by show 2 ≤ sizeLine; decide, fun L nL => stop (step_again eo c) L nL⟩)⟩
        · have vz := val_none c
          refine ⟨la, _, rfl, vz ▸ DGet.k (k := .inr z) hla, _, rfl, if_false_of rfl ?_⟩
          refine ⟨_, rfl, pw, _, 0, _, rfl, rfl, SqL.of hw, rfl, rfl, _, rfl, if_false_of (by decide +kernel) (if_false_of rfl ?_)⟩
          refine ⟨_, rfl, pw, _, 0, _, rfl, rfl, SqL.of hw, rfl, rfl, _, rfl, if_true_of (decide_eq_true rfl) ?_⟩
          obtain ⟨it, lc⟩ := dig_int f
          have el : (dkv l).length = l.length := List.length_map _
          refine ⟨_, rfl, pw, _, 2, _, rfl, rfl, SqL.of hw, rfl, d, n, rfl, it, lc, _, rfl, pf, .ref la, rfl, pn_ar ▸ DGet.k (k := .inr ("arities" : Str)) hf, _, rfl, pw, _, 1, _, rfl, rfl, SqL.of hw, rfl, la, _, rfl, DPut.k (k := .inr z) hla (by rw [el, sizeLine_eq]; omega), ?_⟩
          refine ⟨_, _, _, l ++ [(z, n)], go, rs, as, rfl, dF nlaH, by rw [upd_ne pla]; exact hf, by rw [upd_same, put_end c], by rw [upd_ne lara.symm]; exact hra, by rw [upd_ne (ne_of hgs hla (by intro z; cases z))]; exact hgs, paired_map (fun b r ⟨u, h1, h2⟩ => ⟨u, hx h1, hx h2⟩) pr, got.more eo c, rw_, gz, by rw [List.length_append]; simp; omega, er.trans (rdB_go (step_op eo c))⟩
      | @goal g eg =>
        have eo : lineOf y = none := by
          cases e : lineOf y with
          | none => rfl
          | some q =>
            rw [(line_goal e).1] at eg
            cases eg
        have hx : ∀ {b : Addr} {xs : List V} {o : HO}, G3 b = some (.tup xs) → (upd G3 gs o) b = some (.tup xs) := fun {b xs o} e => by
          rw [upd_ne (fun c => by rw [c, hgs] at e; cases e)]
          exact e
        refine ⟨_, rfl, pw, _, 0, _, rfl, rfl, SqL.of hw, rfl, rfl, _, rfl, if_false_of (by decide +kernel) (if_false_of rfl ?_)⟩
        refine ⟨_, rfl, pw, _, 0, _, rfl, rfl, SqL.of hw, rfl, rfl, _, rfl, if_true_of (decide_eq_true rfl) ?_⟩
        refine ⟨_, rfl, by show 0 ≤ sizeLine; decide, fun L nL => ?_⟩
        have w2 := Same.new nL (o := .lst [])
        cases go with
        | some g' =>
          refine ⟨gs, L, _, _, rfl, rfl, SqL.of (w2 _ _ hgs), SqL.of upd_same, .inl ⟨by simp [goL], _, rfl, if_true_of rfl ⟨_, rfl, by show 2 ≤ sizeLine; decide, fun L2 nL2 => ?_⟩⟩⟩
          exact q L2 _ _ (sm.trans (w2.trans (Same.new nL2))) (sm.free (w2.free nL2)) upd_same (.parse (er.trans (rdB_stop (step_goal2 eo eg (fun e => nomatch e)))))
        | none =>
          refine ⟨gs, L, _, _, rfl, rfl, SqL.of (w2 _ _ hgs), SqL.of upd_same, .inr ⟨rfl, (fun v m => by cases m), _, rfl, if_false_of rfl ?_⟩⟩
          have sm := sm.trans w2
          have hw := w2 _ _ hw
          have hf := w2 _ _ hf
          have hla := w2 _ _ hla
          have hra := w2 _ _ hra
          have hgs := w2 _ _ hgs
          have pr := paired_map (fun b r (k : RuleAt G3 b r) => k.same w2) pr
          clear dF hx stop
          generalize upd G3 L (.lst []) = G4 at sm hw hf hla hra hgs pr ⊢
          have hx : ∀ {b : Addr} {xs : List V} {o : HO}, G4 b = some (.tup xs) → (upd G4 gs o) b = some (.tup xs) := fun {b xs o} e => by
            rw [upd_ne (fun c => by rw [c, hgs] at e; cases e)]
            exact e
          have dF : ∀ {o : HO} {z : Addr}, H z = none → Same H (upd G4 z o) := fun {o z} n b u e => by
            rw [upd_ne (ne_of_none e n)]
            exact sm b u e
          refine ⟨_, rfl, pw, _, 0, _, rfl, rfl, SqL.of hw, rfl, rfl, _, rfl, if_false_of (by decide +kernel) ?_⟩
          refine ⟨_, rfl, pw, _, 0, _, rfl, rfl, SqL.of hw, rfl, rfl, _, rfl, if_true_of (decide_eq_true rfl) ?_⟩
          refine ⟨_, rfl, .inl ⟨rfl, _, SqL.of hgs⟩, _, rfl, pw, _, 1, _, rfl, rfl, SqL.of hw, rfl, gs, _, _, rfl, rfl, hgs, by show 0 < sizeLine; decide, ?_⟩
          exact ⟨_, _, _, l, some g, rs, as, rfl, dF ngsH, by rw [upd_ne (ne_of hf hgs (by intro z; cases z))]; exact hf, by rw [upd_ne (ne_of hla hgs (by intro z; cases z))]; exact hla, by rw [upd_ne ragn]; exact hra, upd_same, paired_map (fun b r ⟨u, h1, h2⟩ => ⟨u, hx h1, hx h2⟩) pr, got, rw_, fun g' e => by cases e; exact nm.gz ym eg, by omega, er.trans (rdB_go (step_goal eo eg rfl))⟩
      | @rule r d eu f =>
        have eg : goalOf y = none := by
          cases e : goalOf y with
          | none => rfl
          | some q =>
            rw [goal_rule e] at eu
            cases eu
        have eo : lineOf y = none := by
          cases e : lineOf y with
          | none => rfl
          | some q =>
            rw [(line_goal e).2] at eu
            cases eu
        obtain ⟨p9, _, it, lc⟩ := fig_some f
        have las : as.length = rs.length := Paired.length pr
        refine ⟨_, rfl, pw, _, 0, V.str "rule", rfl, rfl, SqL.of hw, atI_nat (j := 0) rfl, rfl, _, rfl, if_false_of (by decide +kernel) (if_false_of rfl ?_)⟩
        refine ⟨_, rfl, pw, _, 0, V.str "rule", rfl, rfl, SqL.of hw, atI_nat (j := 0) rfl, rfl, _, rfl, if_false_of (by decide +kernel) (if_false_of rfl ?_)⟩
        refine ⟨_, rfl, pw, _, 0, V.str "rule", rfl, rfl, SqL.of hw, atI_nat (j := 0) rfl, rfl, _, rfl, if_false_of (by decide +kernel) ?_⟩
        refine ⟨_, rfl, pw, _, 0, V.str "rule", rfl, rfl, SqL.of hw, atI_nat (j := 0) rfl, rfl, _, rfl, if_false_of (by decide +kernel) ?_⟩
        refine ⟨_, rfl, pf, .ref ra, rfl, pn_ru ▸ DGet.k (k := .inr ("rules" : Str)) hf, .inl ⟨rfl, _, SqL.of hra⟩, ?_⟩
        refine ⟨_, rfl, pw, _, 1, V.str r.1, rfl, rfl, SqL.of hw, atI_nat (j := 1) rfl, _, rfl, pw, _, 2, V.str d, rfl, rfl, SqL.of hw, atI_nat (j := 2) rfl, d, _, rfl, it, lc, _, rfl, 3, rfl, pw, _, rfl, SqL.of hw, fun cp ncp => ?_⟩
        rw [cut3 (by simp)]
        have e3 : ((("rule" : Str) :: r.1 :: d :: r.2.2).map V.str).drop 3 = r.2.2.map V.str := rfl
        rw [e3]
        refine ⟨cp, _, rfl, .inl ⟨SqL.of upd_same, fun t nt => ⟨by show 3 ≤ sizeLine; decide, fun b nb => ?_⟩⟩⟩
        have w2 := Same.new ncp (o := .lst (r.2.2.map V.str))
        have w3 := Same.new nt (o := .tup (r.2.2.map V.str))
        have w4 := Same.new nb (o := .tup [V.str r.1, .int (r.2.1 : Int), .ref t])
        have W := w2.trans (w3.trans w4)
        have hb : (upd (upd (upd G3 cp (.lst (r.2.2.map V.str))) t (.tup (r.2.2.map V.str))) b (.tup [V.str r.1, .int (r.2.1 : Int), .ref t])) b = some (.tup [V.str r.1, .int (r.2.1 : Int), .ref t]) := upd_same
        have ht := w4 _ _ (upd_same (a := t) (o := .tup (r.2.2.map V.str)) (H := upd G3 cp (.lst (r.2.2.map V.str))))
        clear w2 w3 w4 nb nt ncp
        generalize upd (upd (upd G3 cp _) t _) b _ = G4 at W hb ht ⊢
        have sm := sm.trans W
        have hf := W _ _ hf
        have hla := W _ _ hla
        have hra := W _ _ hra
        have hgs := W _ _ hgs
        have pr := paired_map (fun b r (k : RuleAt G3 b r) => k.same W) pr
        have hx : ∀ {b : Addr} {xs : List V} {o : HO}, G4 b = some (.tup xs) → (upd G4 ra o) b = some (.tup xs) := fun {b xs o} e => by
          rw [upd_ne (fun c => by rw [c, hra] at e; cases e)]
          exact e
        refine ⟨ra, _, _, rfl, rfl, hra, by rw [List.length_map, sizeLine_eq]; omega, ?_⟩
        refine ⟨_, _, _, l, go, rs ++ [r], as ++ [b], rfl, fun b u e => by rw [upd_ne (ne_of_none e nraH)]; exact sm b u e, by rw [upd_ne pra]; exact hf, by rw [upd_ne lara]; exact hla, by rw [upd_same, List.map_append]; rfl, by rw [upd_ne ragn.symm]; exact hgs, pair_end ⟨t, hx hb, hx ht⟩ (paired_map (fun b r ⟨u, h1, h2⟩ => ⟨u, hx h1, hx h2⟩) pr), got, ?_, gz, by rw [List.length_append]; simp; omega, er.trans (rdB_go (step_rule eo eg eu))⟩
        intro q m
        rcases List.mem_append.mp m with m | m
        · exact rw_ q m
        · rw [List.mem_singleton.mp m]
          exact nm.rw ym eu
    · rintro σ G ⟨v3, v4, v5, l, go, rs, as, rfl, sm, hf, hla, hra, hgs, pr, got, rw_, gz, ll, er⟩
      have er : rdB 0 S0 rest = .inr (l, go, rs) := by
        rw [er, List.drop_length]
        rfl
      have las : as.length = rs.length := Paired.length pr
      have el : (dkv l).length = l.length := List.length_map _
      refine ⟨_, rfl, pf, .ref la, rfl, pn_ar ▸ DGet.k (k := .inr ("arities" : Str)) hf, la, _, rfl, hla, ?_⟩
      have ops_ : ¬ (1 ≤ l.length ∧ l.length ≤ 8) → ∀ L, G L = none → Q (.ref L) (upd G L (.lst [V.str "operators", .non])) := fun n L nL => q L _ _ (sm.trans (Same.new nL)) (sm.free nL) upd_same (.ops er n)
      refine ⟨_, _, rfl, rfl, _, rfl, ?_⟩
      by_cases l0 : 0 < l.length
      case neg =>
        refine if_false_of (decide_eq_false (by rw [el]; omega)) ?_
        exact ⟨_, rfl, if_true_of rfl ⟨by show 2 ≤ sizeLine; decide, fun L nL => ops_ (by omega) L nL⟩⟩
      refine if_true_of (decide_eq_true (by rw [el]; omega)) ⟨_, _, rfl, rfl, _, rfl, ?_⟩
      by_cases l8 : l.length ≤ 8
      case neg => exact if_true_of (by rw [decide_eq_false (by rw [el]; omega)]; rfl) ⟨by show 2 ≤ sizeLine; decide, fun L nL => ops_ (by omega) L nL⟩
      refine if_false_of (by rw [decide_eq_true (by rw [el]; omega)]; rfl) ?_
      clear ops_
      have o8 : 1 ≤ l.length ∧ l.length ≤ 8 := ⟨l0, l8⟩
      refine ⟨_, rfl, by show 0 ≤ sizeLine; decide, fun e0 ne0 => ⟨gs, e0, _, rfl, rfl, SqL.of ((Same.new ne0) _ _ hgs), SqL.of upd_same, ?_⟩⟩
      have w1 := Same.new ne0 (o := .lst [])
      have sm := sm.trans w1
      have hf := w1 _ _ hf
      have hla := w1 _ _ hla
      have hra := w1 _ _ hra
      have hgs := w1 _ _ hgs
      have pr := paired_map (fun b r (k : RuleAt G b r) => k.same w1) pr
      clear w1 ne0
      generalize upd G e0 (.lst []) = G1 at sm hf hla hra hgs pr ⊢
      have book_ : (¬ ∃ g, go = some g ∧ BkOk l g rs) → ∀ G', Same G1 G' → ∀ L, G' L = none → Q (.ref L) (upd G' L (.lst [V.str "book", .non])) := fun n G' s' L nL => q L _ _ ((sm.trans s').trans (Same.new nL)) ((sm.trans s').free nL) upd_same (.book er o8 n)
      cases go with
      | none =>
        exact ⟨_, rfl, if_true_of rfl (if_true_of rfl ⟨by show 2 ≤ sizeLine; decide, fun L nL => book_ (fun ⟨g, e, _⟩ => nomatch e) _ (Same.refl _) L nL⟩)⟩
      | some g =>
        refine ⟨_, rfl, if_false_of rfl ?_⟩
        refine ⟨_, rfl, pf, .ref la, rfl, pn_ar ▸ DGet.k (k := .inr ("arities" : Str)) hf, _, rfl, gs, _, 0, .str g, rfl, rfl, SqL.of hgs, rfl, _, rfl, pf, .ref ra, rfl, pn_ru ▸ DGet.k (k := .inr ("rules" : Str)) hf, ra, _, rfl, .inl ⟨SqL.of hra, fun ta nta => ?_⟩⟩
        have w2 := Same.new nta (o := .tup (as.map V.ref))
        have rat : RulesAt (upd G1 ta (.tup (as.map V.ref))) ta rs := ⟨as, upd_same, paired_map (fun b r k => RuleAt.same k w2) pr⟩
        obtain ⟨az, mD⟩ := gz g rfl
        have l9 := az_len az
        refine ⟨.str g, .ref ta, D, la, l, rfl, nm.few, .text (by omega) fun _ => mD, RW.jvs rw_ (by omega) rat, w2 _ _ hla, got.ok o8, fun b G2 s2 hb => ⟨_, rfl, ?_⟩⟩
        have hb2 := hb.trans (BookV.iff rat)
        have W := w2.trans s2
        cases b with
        | false =>
          exact if_true_of rfl ⟨by show 2 ≤ sizeLine; decide, fun L nL => book_ (fun ⟨g', e, ok⟩ => by cases e; exact Bool.false_ne_true (hb2.mpr ok)) G2 W L nL⟩
        | true =>
          have ok := hb2.mp rfl
          refine if_false_of rfl ?_
          have sm := sm.trans W
          have hf := W _ _ hf
          have hla := W _ _ hla
          have hra := W _ _ hra
          have hgs := W _ _ hgs
          have pr := paired_map (fun b r (k : RuleAt G1 b r) => k.same W) pr
          refine fun pd npd => ?_
          have w3 := Same.new npd (o := .dK [])
          refine ⟨_, rfl, pf, .ref la, rfl, pn_ar ▸ DGet.k (k := .inr ("arities" : Str)) (w3 _ _ hf), _, rfl, gs, _, 0, .str g, rfl, rfl, SqL.of (w3 _ _ hgs), rfl, _, rfl, pf, .ref ra, rfl, pn_ru ▸ DGet.k (k := .inr ("rules" : Str)) (w3 _ _ hf), upd_same, plK la g ra, rfl, Nat.le_of_ble_eq_true rfl, by show 2 ≤ sizeLine; decide, fun L nL => ?_⟩
          rw [pl_merge] at nL ⊢
          have npdH : H pd = none := sm.free npd
          have sX : ∀ b u, b ≠ pd → G2 b = some u → (upd (upd (upd G2 pd (.dK [])) pd (.dK (plK la g ra))) L (.lst [V.str "fine", .ref pd])) b = some u := fun b u n e => by
            rw [upd_ne (ne_of_none (by rw [upd_ne n, upd_ne n]; exact e) nL), upd_ne n, upd_ne n]
            exact e
          have sN : ∀ b u, G2 b = some u → b ≠ pd := fun b u e => ne_of_none e npd
          refine q L _ _ (fun b u e => sX b u (ne_of_none e npdH) (sm b u e)) ?_ upd_same (.fine er rfl ok ⟨la, ra, as, ?_, sX _ _ (sN _ _ hla) hla, sX _ _ (sN _ _ hra) hra, paired_map (fun b r ⟨u, h1, h2⟩ => ⟨u, sX _ _ (sN _ _ h1) h1, sX _ _ (sN _ _ h2) h2⟩) pr⟩)
          · cases e : H L with
            | none => rfl
            | some u =>
              have := sm L u e
              have n := sN _ _ this
              rw [upd_ne n, upd_ne n, this] at nL
              cases nL
          · have n : pd ≠ L := ne_of_none upd_same nL
            rw [upd_ne n]
            exact upd_same
end
end Pr
namespace Pr
open PySem PySem.Spec PyProof.Rows L2 Gd
/-! ### _law_from_many -/
/-- what is known of Book.from_lines -/
structure FromBF (P : Program) (w : World) (K : PySem.W.Frag) (mg : Str → Option Value) (base : Heap) (C B CP CO CB pF gF fN : Addr) (mc : Value) : Prop where
  R : ClX.CRead K B mc
  M : ClX.CMet K B mc "from_lines" pF gF
  G : FnR P w K mg base (L2.CX P w) 7 gF (spFromBk K C B CP CO CB)
  L : PySem.PeX.PeTxt K mg CP fN
  gB : mg "Book" = some (.ref B)
  XO : ExF K mg "InvalidOperators" CO
  XB : ExF K mg "InvalidBook" CB
  e1 : PySem.W.exmOne K (.ref CP) (.ref CP) = some true
  e2 : PySem.W.exmOne K (.ref CO) (.ref CP) = some false
  e3 : PySem.W.exmOne K (.ref CO) (.ref CO) = some true
  e4 : PySem.W.exmOne K (.ref CB) (.ref CP) = some false
  e5 : PySem.W.exmOne K (.ref CB) (.ref CO) = some false
  e6 : PySem.W.exmOne K (.ref CB) (.ref CB) = some true
def spMany (K : PySem.W.Frag) (C B CP CO CB : Addr) : Sp := fun vs H Q E => ∃ (p : Addr) (rest : List V), vs = [.ref p] ∧ H p = some (.lst rest) ∧ 3 ≤ rest.length ∧ rest.length ≤ 9 ∧ FromQB K C B CP CO CB rest H Q E
theorem many_cases : ∀ {rest : List V}, 3 ≤ rest.length → rest.length ≤ 9 → (∃ x0 x1 x2, rest = [x0, x1, x2]) ∨ (∃ x0 x1 x2 x3, rest = [x0, x1, x2, x3]) ∨ (∃ x0 x1 x2 x3 x4, rest = [x0, x1, x2, x3, x4]) ∨ (∃ x0 x1 x2 x3 x4 x5, rest = [x0, x1, x2, x3, x4, x5]) ∨ (∃ x0 x1 x2 x3 x4 x5 x6, rest = [x0, x1, x2, x3, x4, x5, x6]) ∨
    (∃ x0 x1 x2 x3 x4 x5 x6 x7, rest = [x0, x1, x2, x3, x4, x5, x6, x7]) ∨ (∃ x0 x1 x2 x3 x4 x5 x6 x7 x8, rest = [x0, x1, x2, x3, x4, x5, x6, x7, x8])
  | [], h, _ => absurd h (by simp)
  | [_], h, _ => absurd h (by simp)
  | [_, _], h, _ => absurd h (by simp)
  | [x0, x1, x2], _, _ => .inl ⟨x0, x1, x2, rfl⟩
  | [x0, x1, x2, x3], _, _ => .inr (.inl ⟨x0, x1, x2, x3, rfl⟩)
  | [x0, x1, x2, x3, x4], _, _ => .inr (.inr (.inl ⟨x0, x1, x2, x3, x4, rfl⟩))
  | [x0, x1, x2, x3, x4, x5], _, _ => .inr (.inr (.inr (.inl ⟨x0, x1, x2, x3, x4, x5, rfl⟩)))
  | [x0, x1, x2, x3, x4, x5, x6], _, _ => .inr (.inr (.inr (.inr (.inl ⟨x0, x1, x2, x3, x4, x5, x6, rfl⟩))))
  | [x0, x1, x2, x3, x4, x5, x6, x7], _, _ => .inr (.inr (.inr (.inr (.inr (.inl ⟨x0, x1, x2, x3, x4, x5, x6, x7, rfl⟩)))))
  | [x0, x1, x2, x3, x4, x5, x6, x7, x8], _, _ => .inr (.inr (.inr (.inr (.inr (.inr ⟨x0, x1, x2, x3, x4, x5, x6, x7, x8, rfl⟩)))))
  | _ :: _ :: _ :: _ :: _ :: _ :: _ :: _ :: _ :: _ :: _, _, h => absurd h (by simp)
section
variable {P : Program} {w : World} {K : PySem.W.Frag} {mg : Str → Option Value} {base : Heap} {C B CP CO CB pF gF fN : Addr} {mc : Value}
theorem scMany : FnScope ["some", "size"] ["some"] (defScope sLFromMany) := ⟨rfl, rfl, rfl, by decide +kernel, rfl, by decide +kernel, by decide +kernel⟩
theorem ok_many {f : Addr} {fd : FuncData} (F : Fun K "_law_from_many" "_law_from_many" sLFromMany f fd) (T : Free mg) (Z : FromBF P w K mg base C B CP CO CB pF gF fN mc) : FnOk P w K mg base (L2.CX P w) 8 f fd ["some"] (spMany K C B CP CO CB) := by
  refine F.okX scMany (fun vs H Q E h => ?_) (fun cdv A outer s H vs Q E hr h => ?_)
  · obtain ⟨p, rest, rfl, _⟩ := h
    rfl
  · obtain ⟨p, rest, rfl, hp, l3, l9, fq⟩ := h
    refine ⟨_, (pss_cons (ps_set (i := 1) scMany.nd rfl (.inl rfl) (pe_callB call_len_seq (by rfl) T.len PySem.boot_len (pa_cons (pv 0) pa_nil))) (pss_cons (ps_if (pt_cmpR op_eq (pv 1) pe_int (nomark _)) (pss_one (ps_ret (ClX.pe_cmeth (pe_glob (v := .ref B) (by rfl) Z.gB rfl) Z.R Z.M Z.G hr (passes_call (takes_of rfl rfl rfl rfl) (fun _ _ _ _ h => h)) (by exact (pa_cons (pe_ix ix_list (pv 0) pe_int (fun _ _ => rfl)) (pa_cons (pe_ix ix_list (pv 0) pe_int (fun _ _ => rfl)) (pa_cons (pe_ix ix_list (pv 0) pe_int (fun _ _ => rfl)) pa_nil))))))) pss_nil) (pss_cons (ps_if (pt_cmpR op_eq (pv 1) pe_int (nomark _)) (pss_one (ps_ret (ClX.pe_cmeth (pe_glob (v := .ref B) (by rfl) Z.gB rfl) Z.R Z.M Z.G hr (passes_call (takes_of rfl rfl rfl rfl) (fun _ _ _ _ h => h)) (by exact (pa_cons (pe_ix ix_list (pv 0) pe_int (fun _ _ => rfl)) (pa_cons (pe_ix ix_list (pv 0) pe_int (fun _ _ => rfl)) (pa_cons (pe_ix ix_list (pv 0) pe_int (fun _ _ => rfl)) (pa_cons (pe_ix ix_list (pv 0) pe_int (fun _ _ => rfl)) pa_nil)))))))) pss_nil) (pss_cons (ps_if (pt_cmpR op_eq (pv 1) pe_int (nomark _)) (pss_one (ps_ret (ClX.pe_cmeth (pe_glob (v := .ref B) (by rfl) Z.gB rfl) Z.R Z.M Z.G hr (passes_call (takes_of rfl rfl rfl rfl) (fun _ _ _ _ h => h)) (by exact (pa_cons (pe_ix ix_list (pv 0) pe_int (fun _ _ => rfl)) (pa_cons (pe_ix ix_list (pv 0) pe_int (fun _ _ => rfl)) (pa_cons (pe_ix ix_list (pv 0) pe_int (fun _ _ => rfl)) (pa_cons (pe_ix ix_list (pv 0) pe_int (fun _ _ => rfl)) (pa_cons (pe_ix ix_list (pv 0) pe_int (fun _ _ => rfl)) pa_nil))))))))) pss_nil) (pss_cons (ps_if (pt_cmpR op_eq (pv 1) pe_int (nomark _)) (pss_one (ps_ret (ClX.pe_cmeth (pe_glob (v := .ref B) (by rfl) Z.gB rfl) Z.R Z.M Z.G hr (passes_call (takes_of rfl rfl rfl rfl) (fun _ _ _ _ h => h)) (by exact (pa_cons (pe_ix ix_list (pv 0) pe_int (fun _ _ => rfl)) (pa_cons (pe_ix ix_list (pv 0) pe_int (fun _ _ => rfl)) (pa_cons (pe_ix ix_list (pv 0) pe_int (fun _ _ => rfl)) (pa_cons (pe_ix ix_list (pv 0) pe_int (fun _ _ => rfl)) (pa_cons (pe_ix ix_list (pv 0) pe_int (fun _ _ => rfl)) (pa_cons (pe_ix ix_list (pv 0) pe_int (fun _ _ => rfl)) pa_nil)))))))))) pss_nil) (pss_cons (ps_if (pt_cmpR op_eq (pv 1) pe_int (nomark _)) (pss_one (ps_ret (ClX.pe_cmeth (pe_glob (v := .ref B) (by rfl) Z.gB rfl) Z.R Z.M Z.G hr (passes_call (takes_of rfl rfl rfl rfl) (fun _ _ _ _ h => h)) (by exact (pa_cons (pe_ix ix_list (pv 0) pe_int (fun _ _ => rfl)) (pa_cons (pe_ix ix_list (pv 0) pe_int (fun _ _ => rfl)) (pa_cons (pe_ix ix_list (pv 0) pe_int (fun _ _ => rfl)) (pa_cons (pe_ix ix_list (pv 0) pe_int (fun _ _ => rfl)) (pa_cons (pe_ix ix_list (pv 0) pe_int (fun _ _ => rfl)) (pa_cons (pe_ix ix_list (pv 0) pe_int (fun _ _ => rfl)) (pa_cons (pe_ix ix_list (pv 0) pe_int (fun _ _ => rfl)) pa_nil))))))))))) pss_nil) (pss_cons (ps_if (pt_cmpR op_eq (pv 1) pe_int (nomark _)) (pss_one (ps_ret (ClX.pe_cmeth (pe_glob (v := .ref B) (by rfl) Z.gB rfl) Z.R Z.M Z.G hr (passes_call (takes_of rfl rfl rfl rfl) (fun _ _ _ _ h => h)) (by exact (pa_cons (pe_ix ix_list (pv 0) pe_int (fun _ _ => rfl)) (pa_cons (pe_ix ix_list (pv 0) pe_int (fun _ _ => rfl)) (pa_cons (pe_ix ix_list (pv 0) pe_int (fun _ _ => rfl)) (pa_cons (pe_ix ix_list (pv 0) pe_int (fun _ _ => rfl)) (pa_cons (pe_ix ix_list (pv 0) pe_int (fun _ _ => rfl)) (pa_cons (pe_ix ix_list (pv 0) pe_int (fun _ _ => rfl)) (pa_cons (pe_ix ix_list (pv 0) pe_int (fun _ _ => rfl)) (pa_cons (pe_ix ix_list (pv 0) pe_int (fun _ _ => rfl)) pa_nil)))))))))))) pss_nil) (pss_one (ps_ret (ClX.pe_cmeth (pe_glob (v := .ref B) (by rfl) Z.gB rfl) Z.R Z.M Z.G hr (passes_call (takes_of rfl rfl rfl rfl) (fun _ _ _ _ h => h)) (by exact (pa_cons (pe_ix ix_list (pv 0) pe_int (fun _ _ => rfl)) (pa_cons (pe_ix ix_list (pv 0) pe_int (fun _ _ => rfl)) (pa_cons (pe_ix ix_list (pv 0) pe_int (fun _ _ => rfl)) (pa_cons (pe_ix ix_list (pv 0) pe_int (fun _ _ => rfl)) (pa_cons (pe_ix ix_list (pv 0) pe_int (fun _ _ => rfl)) (pa_cons (pe_ix ix_list (pv 0) pe_int (fun _ _ => rfl)) (pa_cons (pe_ix ix_list (pv 0) pe_int (fun _ _ => rfl)) (pa_cons (pe_ix ix_list (pv 0) pe_int (fun _ _ => rfl)) (pa_cons (pe_ix ix_list (pv 0) pe_int (fun _ _ => rfl)) pa_nil)))))))))))))))))))), ?_⟩
    rcases many_cases l3 l9 with ⟨x0, x1, x2, rfl⟩ | ⟨x0, x1, x2, x3, rfl⟩ | ⟨x0, x1, x2, x3, x4, rfl⟩ | ⟨x0, x1, x2, x3, x4, x5, rfl⟩ | ⟨x0, x1, x2, x3, x4, x5, x6, rfl⟩ | ⟨x0, x1, x2, x3, x4, x5, x6, x7, rfl⟩ | ⟨x0, x1, x2, x3, x4, x5, x6, x7, x8, rfl⟩
    · refine ⟨_, rfl, p, _, rfl, .inl (SqL.of hp), ?_⟩
      refine ⟨_, rfl, rfl, _, rfl, if_true_of (by rfl) ?_⟩
      exact ⟨rfl, _, rfl, p, _, 0, _, rfl, rfl, SqL.of hp, rfl, _, rfl, p, _, 1, _, rfl, rfl, SqL.of hp, rfl, _, rfl, p, _, 2, _, rfl, rfl, SqL.of hp, rfl, _, rfl, fq⟩
    · refine ⟨_, rfl, p, _, rfl, .inl (SqL.of hp), ?_⟩
      refine ⟨_, rfl, rfl, _, rfl, if_false_of (by rfl) ?_⟩
      refine ⟨_, rfl, rfl, _, rfl, if_true_of (by rfl) ?_⟩
      exact ⟨rfl, _, rfl, p, _, 0, _, rfl, rfl, SqL.of hp, rfl, _, rfl, p, _, 1, _, rfl, rfl, SqL.of hp, rfl, _, rfl, p, _, 2, _, rfl, rfl, SqL.of hp, rfl, _, rfl, p, _, 3, _, rfl, rfl, SqL.of hp, rfl, _, rfl, fq⟩
    · refine ⟨_, rfl, p, _, rfl, .inl (SqL.of hp), ?_⟩
      refine ⟨_, rfl, rfl, _, rfl, if_false_of (by rfl) ?_⟩
      refine ⟨_, rfl, rfl, _, rfl, if_false_of (by rfl) ?_⟩
      refine ⟨_, rfl, rfl, _, rfl, if_true_of (by rfl) ?_⟩
      exact ⟨rfl, _, rfl, p, _, 0, _, rfl, rfl, SqL.of hp, rfl, _, rfl, p, _, 1, _, rfl, rfl, SqL.of hp, rfl, _, rfl, p, _, 2, _, rfl, rfl, SqL.of hp, rfl, _, rfl, p, _, 3, _, rfl, rfl, SqL.of hp, rfl, _, rfl, p, _, 4, _, rfl, rfl, SqL.of hp, rfl, _, rfl, fq⟩
    · refine ⟨_, rfl, p, _, rfl, .inl (SqL.of hp), ?_⟩
      refine ⟨_, rfl, rfl, _, rfl, if_false_of (by rfl) ?_⟩
      refine ⟨_, rfl, rfl, _, rfl, if_false_of (by rfl) ?_⟩
      refine ⟨_, rfl, rfl, _, rfl, if_false_of (by rfl) ?_⟩
      refine ⟨_, rfl, rfl, _, rfl, if_true_of (by rfl) ?_⟩
      exact ⟨rfl, _, rfl, p, _, 0, _, rfl, rfl, SqL.of hp, rfl, _, rfl, p, _, 1, _, rfl, rfl, SqL.of hp, rfl, _, rfl, p, _, 2, _, rfl, rfl, SqL.of hp, rfl, _, rfl, p, _, 3, _, rfl, rfl, SqL.of hp, rfl, _, rfl, p, _, 4, _, rfl, rfl, SqL.of hp, rfl, _, rfl, p, _, 5, _, rfl, rfl, SqL.of hp, rfl, _, rfl, fq⟩
    · refine ⟨_, rfl, p, _, rfl, .inl (SqL.of hp), ?_⟩
      refine ⟨_, rfl, rfl, _, rfl, if_false_of (by rfl) ?_⟩
      refine ⟨_, rfl, rfl, _, rfl, if_false_of (by rfl) ?_⟩
      refine ⟨_, rfl, rfl, _, rfl, if_false_of (by rfl) ?_⟩
      refine ⟨_, rfl, rfl, _, rfl, if_false_of (by rfl) ?_⟩
      refine ⟨_, rfl, rfl, _, rfl, if_true_of (by rfl) ?_⟩
      exact ⟨rfl, _, rfl, p, _, 0, _, rfl, rfl, SqL.of hp, rfl, _, rfl, p, _, 1, _, rfl, rfl, SqL.of hp, rfl, _, rfl, p, _, 2, _, rfl, rfl, SqL.of hp, rfl, _, rfl, p, _, 3, _, rfl, rfl, SqL.of hp, rfl, _, rfl, p, _, 4, _, rfl, rfl, SqL.of hp, rfl, _, rfl, p, _, 5, _, rfl, rfl, SqL.of hp, rfl, _, rfl, p, _, 6, _, rfl, rfl, SqL.of hp, rfl, _, rfl, fq⟩
    · refine ⟨_, rfl, p, _, rfl, .inl (SqL.of hp), ?_⟩
      refine ⟨_, rfl, rfl, _, rfl, if_false_of (by rfl) ?_⟩
      refine ⟨_, rfl, rfl, _, rfl, if_false_of (by rfl) ?_⟩
      refine ⟨_, rfl, rfl, _, rfl, if_false_of (by rfl) ?_⟩
      refine ⟨_, rfl, rfl, _, rfl, if_false_of (by rfl) ?_⟩
      refine ⟨_, rfl, rfl, _, rfl, if_false_of (by rfl) ?_⟩
      refine ⟨_, rfl, rfl, _, rfl, if_true_of (by rfl) ?_⟩
      exact ⟨rfl, _, rfl, p, _, 0, _, rfl, rfl, SqL.of hp, rfl, _, rfl, p, _, 1, _, rfl, rfl, SqL.of hp, rfl, _, rfl, p, _, 2, _, rfl, rfl, SqL.of hp, rfl, _, rfl, p, _, 3, _, rfl, rfl, SqL.of hp, rfl, _, rfl, p, _, 4, _, rfl, rfl, SqL.of hp, rfl, _, rfl, p, _, 5, _, rfl, rfl, SqL.of hp, rfl, _, rfl, p, _, 6, _, rfl, rfl, SqL.of hp, rfl, _, rfl, p, _, 7, _, rfl, rfl, SqL.of hp, rfl, _, rfl, fq⟩
    · refine ⟨_, rfl, p, _, rfl, .inl (SqL.of hp), ?_⟩
      refine ⟨_, rfl, rfl, _, rfl, if_false_of (by rfl) ?_⟩
      refine ⟨_, rfl, rfl, _, rfl, if_false_of (by rfl) ?_⟩
      refine ⟨_, rfl, rfl, _, rfl, if_false_of (by rfl) ?_⟩
      refine ⟨_, rfl, rfl, _, rfl, if_false_of (by rfl) ?_⟩
      refine ⟨_, rfl, rfl, _, rfl, if_false_of (by rfl) ?_⟩
      refine ⟨_, rfl, rfl, _, rfl, if_false_of (by rfl) ?_⟩
      exact ⟨rfl, _, rfl, p, _, 0, _, rfl, rfl, SqL.of hp, rfl, _, rfl, p, _, 1, _, rfl, rfl, SqL.of hp, rfl, _, rfl, p, _, 2, _, rfl, rfl, SqL.of hp, rfl, _, rfl, p, _, 3, _, rfl, rfl, SqL.of hp, rfl, _, rfl, p, _, 4, _, rfl, rfl, SqL.of hp, rfl, _, rfl, p, _, 5, _, rfl, rfl, SqL.of hp, rfl, _, rfl, p, _, 6, _, rfl, rfl, SqL.of hp, rfl, _, rfl, p, _, 7, _, rfl, rfl, SqL.of hp, rfl, _, rfl, p, _, 8, _, rfl, rfl, SqL.of hp, rfl, _, rfl, fq⟩
end
end Pr
namespace Pr
open PySem PySem.Spec PyProof.Rows L2 Gd
/-! ### _law_told -/
inductive Told (K : PySem.W.Frag) (C B : Addr) (rest : List V) (G : Hp) : List V → Prop where
  | parse {i : Nat} (e : rdB 0 S0 rest = .inl i) : Told K C B rest G [.str "parse", .int (i : Int)]
  | ops {s : S3} (e : rdB 0 S0 rest = .inr s) (n : ¬ (1 ≤ s.1.length ∧ s.1.length ≤ 8)) : Told K C B rest G [.str "operators", .non]
  | book {s : S3} (e : rdB 0 S0 rest = .inr s) (o : 1 ≤ s.1.length ∧ s.1.length ≤ 8) (n : ¬ ∃ g, s.2.1 = some g ∧ BkOk s.1 g s.2.2) : Told K C B rest G [.str "book", .non]
  | fine {s : S3} {g : Str} {x : Addr} {l' : List (Str × Nat)} (e : rdB 0 S0 rest = .inr s) (eg : s.2.1 = some g) (bk : BkOk s.1 g s.2.2) (pm : l'.Perm s.1) (srt : sortedS (l'.map (·.1)) = true) (at_ : BookAt K G C B x l' g s.2.2) : Told K C B rest G [.str "fine", .ref x]
def spLTold (K : PySem.W.Frag) (C B : Addr) : Sp := fun vs H Q _ => ∃ (p : Addr) (rest : List V), vs = [.ref p] ∧ H p = some (.lst rest) ∧ (∀ v ∈ rest, Ln H v) ∧ rest.length ≤ 9 ∧ (∃ D, NmD D rest) ∧
  ∀ (a : Addr) (xs : List V) (H' : Hp), Same H H' → H a = none → H' a = some (.lst xs) → Told K C B rest H' xs → Q (.ref a) H'
theorem len_two10 {α : Type} {l : List α} (h : l.length = 2) : ∃ a b, l = [a, b] := by
  match l, h with
  | [a, b], _ => exact ⟨a, b, rfl⟩
section
variable {P : Program} {w : World} {K : PySem.W.Frag} {mg : Str → Option Value} {base : Heap} {C B CP CO CB pF gF fN fM : Addr} {dM : FuncData} {mc : Value}
theorem scLTold : FnScope ["lines", "size", "some", "e"] ["lines"] (defScope sLTold) := ⟨rfl, rfl, rfl, by decide +kernel, rfl, by decide +kernel, by decide +kernel⟩
abbrev tFb (K : PySem.W.Frag) (C B CP CO CB : Addr) (W : WX) (t : TA) : TS := tRet (tLst (tCons (tC (.str "fine")) (tCons (tCMethS B (spFromBk K C B CP CO CB) (WE W) (tC (.ref B)) t) tNil)))
theorem ok_ltold {f : Addr} {fd : FuncData} (F : Fun K "_law_told" "_law_told" sLTold f fd) (T : Free mg) (Z : FromBF P w K mg base C B CP CO CB pF gF fN mc)
    (GM : FnOk P w K mg base (L2.CX P w) 8 fM dM ["some"] (spMany K C B CP CO CB)) (bM : Binds K dM ["some"] []) (gM : mg "_law_from_many" = some (.ref fM)) (kM : PySem.W.keepIn K (.ref fM) = true) : FnOk P w K mg base CX0 9 f fd ["lines"] (spLTold K C B) := by
  refine F.ok scLTold (fun vs H Q E h => ?_) (fun cdv A outer s H vs Q E hr h => ?_)
  · obtain ⟨p, rest, rfl, _⟩ := h
    rfl
  · obtain ⟨p, rest, rfl, hp, lns, l9, nm, q⟩ := h
    have r7 : Room 7 _ := hr.mono (by decide)
    refine ⟨_, pss_cons (ps_set (i := 1) scLTold.nd rfl (.inl rfl) (pe_callB call_len_seq (by rfl) T.len PySem.boot_len (pa_cons (pv 0) pa_nil))) (pss_cons (ps_set (i := 2) scLTold.nd rfl (.inl rfl) (pe_op op_cat (pe_callTy call_list_of (by rfl) T.list (by decide +kernel) (pa_cons (pv 0) pa_nil)) (pe_op op_rep (pe_lst (pa_cons pe_str pa_nil)) pe_int)))
      (pss_one (ps_try_two (i := 3) (tb := fun W => tSeq (tIfS (tTest (tOp rEq (tVar 1) (tC (.int 2)))) (tFb K C B CP CO CB W (tCons (tOp (rIxL K) (tVar 2) (tC (.int 0))) (tCons (tOp (rIxL K) (tVar 2) (tC (.int 1))) tNil))) tNext)
          (tSeq (tIfS (tTest (tOp (rI0 fun i j => V.bl (decide (i < j))) (tVar 1) (tC (.int 2)))) (tRet (tLst (tCons (tC (.str "fine")) (tCons (tIf (tTest (tOp rEq (tVar 1) (tC (.int 0)))) (tCMethS B (spFromBk K C B CP CO CB) (WE W) (tC (.ref B)) tNil) (tCMethS B (spFromBk K C B CP CO CB) (WE W) (tC (.ref B)) (tCons (tOp (rIxL K) (tVar 2) (tC (.int 0))) tNil))) tNil)))) tNext)
          (tRet (tLst (tCons (tC (.str "fine")) (tCons (tCallS (spMany K C B CP CO CB) (WE W) (tCons (tVar 0) tNil)) tNil)))))) (Wout := fun _ _ _ _ => False) rfl rfl scLTold.nd rfl rfl ⟨rfl, by decide, Or.inl Z.L.gC⟩ takes0
        (fun W pn xe tk _ => by
          exact (pss_cons (ps_if (by exact (pt_cmpR op_eq (pv 1) pe_int (nomark _))) (pss_one (ps_ret (by exact (pe_lst (pa_cons pe_str (pa_cons (pe_cmethS (E := WE W) (pe_glob (v := .ref B) (by rfl) Z.gB rfl) Z.R Z.M Z.G r7 (fun σ => passAt tk σ) (by exact (pa_cons (pe_ix ix_list (pv 2) pe_int (fun _ _ => rfl)) (pa_cons (pe_ix ix_list (pv 2) pe_int (fun _ _ => rfl)) pa_nil)))) pa_nil)))))) pss_nil)
            (pss_cons (ps_if (by exact (pt_cmpR op_lt (pv 1) pe_int (nomark _))) (pss_one (ps_ret (by exact (pe_lst (pa_cons pe_str (pa_cons (pe_ifExp (pt_cmpR op_eq (pv 1) pe_int (nomark _)) (pe_cmethS0 (E := WE W) (pe_glob (v := .ref B) (by rfl) Z.gB rfl) Z.R Z.M Z.G r7 (fun σ => passAt tk σ)) (pe_cmethS (E := WE W) (pe_glob (v := .ref B) (by rfl) Z.gB rfl) Z.R Z.M Z.G r7 (fun σ => passAt tk σ) (by exact (pa_cons (pe_ix ix_list (pv 2) pe_int (fun _ _ => rfl)) pa_nil)))) pa_nil)))))) pss_nil)
            (pss_one (ps_ret (by exact (pe_lst (pa_cons pe_str (pa_cons (pe_callS GM hr (by rfl) gM kM bM (fun σ => passAt tk σ) (by exact (pa_cons (pv 0) pa_nil))) pa_nil)))))))))
        (fun a oe cls d pn hz hf => pss_one (ps_ret (pe_lst (pa_cons pe_str (pa_cons (pe_byPe Z.L hz hf (pv 3)) pa_nil)))))
        (.cons (c := .ref CO) ⟨rfl, by decide, Or.inl Z.XO.g⟩ (fun a oe cls d pn hz hf => pss_one (ps_ret (pe_lst (pa_cons pe_str (pa_cons pe_non pa_nil))))) (.cons (c := .ref CB) ⟨rfl, by decide, Or.inl Z.XB.g⟩ (fun a oe cls d pn hz hf => pss_one (ps_ret (pe_lst (pa_cons pe_str (pa_cons pe_non pa_nil))))) .nil))))), ?_⟩
    refine ⟨_, rfl, p, _, rfl, .inl (SqL.of hp), ?_⟩
    refine ⟨_, rfl, p, _, rfl, .inl (SqL.of hp), fun c nc => ⟨by show 1 ≤ sizeLine; decide, fun n1 h1 => ⟨_, _, _, rfl, rfl, upd_same, by decide, by decide, by show 1 * 4 ≤ sizeLine; decide, fun n2 h2 => ?_⟩⟩⟩
    have w1 := Same.new nc (o := .lst rest)
    have w2 := Same.new h1 (o := .lst [V.str ""])
    have w3 := Same.new h2 (o := .lst (List.replicate (4 : Int).toNat [V.str ""]).flatten)
    have hc := (w2.trans w3) _ _ (upd_same (a := c) (o := .lst rest) (H := H))
    refine ⟨_, _, _, _, rfl, rfl, hc, upd_same, by rw [sizeLine_eq]; show rest.length + 4 ≤ _; omega, fun r3 h3 => ?_⟩
    have w4 := Same.new h3 (o := .lst (rest ++ (List.replicate (4 : Int).toNat [V.str ""]).flatten))
    have s3 : Same H _ := (w1.trans (w2.trans w3)).trans w4
    have hr3 : (upd (upd (upd (upd H c (.lst rest)) n1 (.lst [V.str ""])) n2 (.lst (List.replicate (4 : Int).toNat [V.str ""]).flatten)) r3 (.lst (rest ++ (List.replicate (4 : Int).toNat [V.str ""]).flatten))) r3 = some (.lst (rest ++ (List.replicate (4 : Int).toNat [V.str ""]).flatten)) := upd_same
    clear w1 w2 w3 w4 hc nc h1 h2 h3
    generalize upd (upd (upd (upd H c (.lst rest)) n1 (.lst [V.str ""])) n2 (.lst (List.replicate (4 : Int).toNat [V.str ""]).flatten)) r3 (.lst (rest ++ (List.replicate (4 : Int).toNat [V.str ""]).flatten)) = H3 at s3 hr3 ⊢
    have hr3 : H3 r3 = some (.lst (rest ++ [V.str "", .str "", .str "", .str ""])) := hr3
    have hp3 := s3 _ _ hp
    have lns3 : ∀ v ∈ rest, Ln H3 v := fun v m => (lns v m).same s3
    have qq : ∀ (L : Addr) (xs : List V) (G : Hp), Same H3 G → G L = none → Told K C B rest (upd G L (.lst xs)) xs → Q (.ref L) (upd G L (.lst xs)) := fun L xs G sG nL t => q L xs _ ((s3.trans sG).trans (Same.new nL)) ((s3.trans sG).free nL) upd_same t
    clear q lns s3
    by_cases c2 : rest.length = 2
    · obtain ⟨x0, x1, rfl⟩ := len_two10 c2
      refine ⟨_, rfl, rfl, _, rfl, if_true_of (by rfl) ?_⟩
      refine ⟨rfl, _, rfl, r3, _, 0, _, rfl, rfl, SqL.of hr3, rfl, _, rfl, r3, _, 1, _, rfl, rfl, SqL.of hr3, rfl, [x0, x1], rfl, ?_⟩
      exact ⟨lns3, by omega, nm, fun i er G d sG nd => ⟨true, Z.e1, fun _ a ha => ⟨_, rfl, rfl, rfl, d, .int (i : Int), rfl, upd_same, by show 2 ≤ sizeLine; decide, fun L nL => qq L _ _ (sG.trans (Same.new nd)) nL (.parse er)⟩, fun z => Bool.noConfusion z⟩,
        fun s er nb G sG => ⟨false, Z.e2, fun z => Bool.noConfusion z, fun _ => ⟨true, Z.e3, fun _ a _ => ⟨by show 2 ≤ sizeLine; decide, fun L nL => qq L _ _ sG nL (.ops er nb)⟩, fun z => Bool.noConfusion z⟩⟩,
        fun s er o8 nb G sG => ⟨false, Z.e4, fun z => Bool.noConfusion z, fun _ => ⟨false, Z.e5, fun z => Bool.noConfusion z, fun _ => ⟨true, Z.e6, fun _ a _ => ⟨by show 2 ≤ sizeLine; decide, fun L nL => qq L _ _ sG nL (.book er o8 nb)⟩, fun z => Bool.noConfusion z⟩⟩⟩,
        fun s g er eg bk l' x G pm srt nx sG at_ => ⟨by show 2 ≤ sizeLine; decide, fun L nL => qq L _ _ sG nL (.fine er eg bk pm srt (at_.same (Same.new nL)))⟩⟩
    refine ⟨_, rfl, rfl, _, rfl, if_false_of (decide_eq_false fun e => c2 (by have := V.int.inj e; omega)) ?_⟩
    by_cases lt : rest.length < 2
    · refine ⟨_, rfl, _, _, rfl, rfl, _, rfl, if_true_of (decide_eq_true (by omega)) ?_⟩
      match rest, lt, hp3, hr3, lns3, nm, qq, l9 with
      | [], _, hp3, hr3, lns3, nm, qq, l9 =>
        refine ⟨_, rfl, rfl, _, rfl, if_true_of (by rfl) ?_⟩
        refine ⟨rfl, [], rfl, ?_⟩
        exact ⟨lns3, by omega, nm, fun i er G d sG nd => ⟨true, Z.e1, fun _ a ha => ⟨_, rfl, rfl, rfl, d, .int (i : Int), rfl, upd_same, by show 2 ≤ sizeLine; decide, fun L nL => qq L _ _ (sG.trans (Same.new nd)) nL (.parse er)⟩, fun z => Bool.noConfusion z⟩,
        fun s er nb G sG => ⟨false, Z.e2, fun z => Bool.noConfusion z, fun _ => ⟨true, Z.e3, fun _ a _ => ⟨by show 2 ≤ sizeLine; decide, fun L nL => qq L _ _ sG nL (.ops er nb)⟩, fun z => Bool.noConfusion z⟩⟩,
        fun s er o8 nb G sG => ⟨false, Z.e4, fun z => Bool.noConfusion z, fun _ => ⟨false, Z.e5, fun z => Bool.noConfusion z, fun _ => ⟨true, Z.e6, fun _ a _ => ⟨by show 2 ≤ sizeLine; decide, fun L nL => qq L _ _ sG nL (.book er o8 nb)⟩, fun z => Bool.noConfusion z⟩⟩⟩,
        fun s g er eg bk l' x G pm srt nx sG at_ => ⟨by show 2 ≤ sizeLine; decide, fun L nL => qq L _ _ sG nL (.fine er eg bk pm srt (at_.same (Same.new nL)))⟩⟩
      | [x0], _, hp3, hr3, lns3, nm, qq, l9 =>
        refine ⟨_, rfl, rfl, _, rfl, if_false_of (by rfl) ?_⟩
        refine ⟨rfl, _, rfl, r3, _, 0, _, rfl, rfl, SqL.of hr3, rfl, [x0], rfl, ?_⟩
        exact ⟨lns3, by omega, nm, fun i er G d sG nd => ⟨true, Z.e1, fun _ a ha => ⟨_, rfl, rfl, rfl, d, .int (i : Int), rfl, upd_same, by show 2 ≤ sizeLine; decide, fun L nL => qq L _ _ (sG.trans (Same.new nd)) nL (.parse er)⟩, fun z => Bool.noConfusion z⟩,
        fun s er nb G sG => ⟨false, Z.e2, fun z => Bool.noConfusion z, fun _ => ⟨true, Z.e3, fun _ a _ => ⟨by show 2 ≤ sizeLine; decide, fun L nL => qq L _ _ sG nL (.ops er nb)⟩, fun z => Bool.noConfusion z⟩⟩,
        fun s er o8 nb G sG => ⟨false, Z.e4, fun z => Bool.noConfusion z, fun _ => ⟨false, Z.e5, fun z => Bool.noConfusion z, fun _ => ⟨true, Z.e6, fun _ a _ => ⟨by show 2 ≤ sizeLine; decide, fun L nL => qq L _ _ sG nL (.book er o8 nb)⟩, fun z => Bool.noConfusion z⟩⟩⟩,
        fun s g er eg bk l' x G pm srt nx sG at_ => ⟨by show 2 ≤ sizeLine; decide, fun L nL => qq L _ _ sG nL (.fine er eg bk pm srt (at_.same (Same.new nL)))⟩⟩
    refine ⟨_, rfl, _, _, rfl, rfl, _, rfl, if_false_of (decide_eq_false (by omega)) ?_⟩
    refine ⟨_, rfl, p, rest, rfl, hp3, by omega, l9, ?_⟩
    exact ⟨lns3, by omega, nm, fun i er G d sG nd => ⟨true, Z.e1, fun _ a ha => ⟨_, rfl, rfl, rfl, d, .int (i : Int), rfl, upd_same, by show 2 ≤ sizeLine; decide, fun L nL => qq L _ _ (sG.trans (Same.new nd)) nL (.parse er)⟩, fun z => Bool.noConfusion z⟩,
        fun s er nb G sG => ⟨false, Z.e2, fun z => Bool.noConfusion z, fun _ => ⟨true, Z.e3, fun _ a _ => ⟨by show 2 ≤ sizeLine; decide, fun L nL => qq L _ _ sG nL (.ops er nb)⟩, fun z => Bool.noConfusion z⟩⟩,
        fun s er o8 nb G sG => ⟨false, Z.e4, fun z => Bool.noConfusion z, fun _ => ⟨false, Z.e5, fun z => Bool.noConfusion z, fun _ => ⟨true, Z.e6, fun _ a _ => ⟨by show 2 ≤ sizeLine; decide, fun L nL => qq L _ _ sG nL (.book er o8 nb)⟩, fun z => Bool.noConfusion z⟩⟩⟩,
        fun s g er eg bk l' x G pm srt nx sG at_ => ⟨by show 2 ≤ sizeLine; decide, fun L nL => qq L _ _ sG nL (.fine er eg bk pm srt (at_.same (Same.new nL)))⟩⟩
end
end Pr
namespace Pr
open PySem PySem.Spec PyProof.Rows L2 Gd
/-! ### _law_spoilt -/
/-- a value that a spoilt row can hold -/
def Lg (c : Nat) (G : Hp) (v : V) : Prop := (∃ ty, Kd G v ty) ∧ ∀ z, v = .str z → Gz c z
theorem Lg.same {c : Nat} {G G' : Hp} {v : V} (h : Lg c G v) (s : Same G G') : Lg c G' v := ⟨let ⟨ty, k⟩ := h.1; ⟨ty, k.same s⟩, h.2⟩
theorem Lg.le {c d : Nat} {G : Hp} {v : V} (h : Lg c G v) (l : c ≤ d) : Lg d G v := ⟨h.1, fun z e => (h.2 z e).le l⟩
theorem Lg.str {c : Nat} {G : Hp} {z : Str} (h : Gz c z) : Lg c G (.str z) := ⟨⟨_, .str z⟩, fun y e => by cases e; exact h⟩
theorem Lg.ln {c : Nat} {G : Hp} {v : V} (h : Lg c G v) (l : c ≤ 1000) : Ln G v := ⟨h.1, fun z e => by have := (h.2 z e).len; omega⟩
def oddW : List Str := ["", "c", "3", "9", "10", "01", "R", "r ", "-1", "goal", "op", "abcdefghi", "p", "r", "a1"]
theorem oddW_ok : ∀ o ∈ oddW, (∀ x ∈ sp o, x ∈ W0) ∧ (sp o).length ≤ 2 ∧ o.length ≤ 9 := by decide +kernel
theorem Gz.empty {c : Nat} (h : 1 ≤ c) : Gz c ("" : Str) := by
  have e : ∀ w ∈ sp ("" : Str), w ∈ W0 := by decide +kernel
  exact ⟨e, Nat.le_trans (by decide +kernel : (sp ("" : Str)).length ≤ 1) h⟩
theorem Gz.blank {c : Nat} (h : 2 ≤ c) : Gz c (" " : Str) := by
  have e : ∀ w ∈ sp (" " : Str), w ∈ W0 := by decide +kernel
  exact ⟨e, Nat.le_trans (by decide +kernel : (sp (" " : Str)).length ≤ 2) h⟩
theorem cutTo10 {xs : List V} {i : Nat} (h : i ≤ xs.length) : cutV xs none (some (i : Int)) = xs.take i := by
  have e1 : HT.sIx xs.length 0 none = 0 := rfl
  have e2 : HT.sIx xs.length xs.length (some (i : Int)) = i := by
    show (if (i : Int) < 0 then ((i : Int) + (xs.length : Int)).toNat else min (i : Int).toNat xs.length) = i
    rw [if_neg (by omega), Int.toNat_natCast]
    omega
  unfold cutV
  rw [e1, e2]
  simp
theorem cutFrom10 {xs : List V} {i : Nat} (h : i ≤ xs.length) : cutV xs (some (i : Int)) none = xs.drop i := by
  have e1 : HT.sIx xs.length 0 (some (i : Int)) = i := by
    show (if (i : Int) < 0 then ((i : Int) + (xs.length : Int)).toNat else min (i : Int).toNat xs.length) = i
    rw [if_neg (by omega), Int.toNat_natCast]
    omega
  have e2 : HT.sIx xs.length xs.length none = xs.length := rfl
  unfold cutV
  rw [e1, e2, ← List.length_drop, List.take_length]
theorem ret_one {te : TE} {D : Ends} {σ : L2.St} {H : Hp} (h : te σ H D.rt) : tRet te D σ H := h
/-- l + [x] + m -/
theorem cat3T {X : TE} {P : V → Hp → Prop} {σ : L2.St} {G : Hp} {R : VK} {i j : Nat} {ap bp : Addr} {us ws : List V} (hX : ∀ Q' : VK, (∀ v G1, P v G1 → Q' v G1) → X σ G Q') (hi : σ[i]? = some (some (.ref ap))) (hj : σ[j]? = some (some (.ref bp))) (sz : us.length + 1 + ws.length ≤ 1000)
    (k : ∀ v G1, P v G1 → G1 ap = some (.lst us) ∧ G1 bp = some (.lst ws) ∧ ∀ x3 G', Same G1 G' → G1 x3 = none → G' x3 = some (.lst (us ++ [v] ++ ws)) → R (.ref x3) G')
    (ha : G ap = some (.lst us)) : tOp rCat (tOp rCat (tVar i) (tLst (tCons X tNil))) (tVar j) σ G R := by
  refine ⟨_, hi, ?_⟩
  refine hX _ fun v G1 hp => ?_
  obtain ⟨h1, h2, q⟩ := k v G1 hp
  refine ⟨by show 1 ≤ sizeLine; decide, fun x1 n1 => ?_⟩
  have w1 := Same.new n1 (o := .lst [v])
  refine ⟨ap, x1, us, [v], rfl, rfl, w1 _ _ h1, upd_same, by rw [sizeLine_eq]; simp; omega, fun x2 n2 => ?_⟩
  have w2 := Same.new n2 (o := .lst (us ++ [v]))
  refine ⟨_, hj, x2, bp, _, ws, rfl, rfl, upd_same, (w1.trans w2) _ _ h2, by rw [sizeLine_eq, List.length_append]; simp; omega, fun x3 n3 => ?_⟩
  have w3 := Same.new n3 (o := .lst (us ++ [v] ++ ws))
  exact q x3 _ ((w1.trans w2).trans w3) ((w1.trans w2).free n3) upd_same
theorem str_empty_r (z : Str) : z ++ ("" : Str) = z := TL.ext_tl (by rw [TL.tl_append]; show TL.tl z ++ [] = _; rw [List.append_nil])
theorem str_empty_l (z : Str) : ("" : Str) ++ z = z := TL.ext_tl (by rw [TL.tl_append]; show [] ++ TL.tl z = _; rw [List.nil_append])
theorem sp_empty : sp ("" : Str) = [("" : Str)] := W0_sp _ (by decide +kernel)
theorem Gz.behind {c : Nat} {z : Str} (h : Gz c z) : Gz (c + 1) (z ++ (" " : Str)) := by
  have e : sp (z ++ (" " : Str)) = sp z ++ [("" : Str)] := by
    have := sp_cat z ("" : Str)
    rw [str_empty_r, sp_empty] at this
    exact this
  refine ⟨fun w m => ?_, by rw [e, List.length_append]; have := h.few; simp; omega⟩
  rw [e] at m
  rcases List.mem_append.mp m with m | m
  · exact h.all w m
  · rw [List.mem_singleton.mp m]
    decide +kernel
theorem Gz.ahead {c : Nat} {z : Str} (h : Gz c z) : Gz (c + 1) ((" " : Str) ++ z) := by
  have e : sp ((" " : Str) ++ z) = [("" : Str)] ++ sp z := by
    have := sp_cat ("" : Str) z
    rw [str_empty_l, sp_empty] at this
    exact this
  refine ⟨fun w m => ?_, by rw [e, List.length_append]; have := h.few; simp; omega⟩
  rw [e] at m
  rcases List.mem_append.mp m with m | m
  · rw [List.mem_singleton.mp m]
    decide +kernel
  · exact h.all w m
theorem flat_len {ws : List Str} (h : ∀ w ∈ ws, w ∈ W0) : ws.flatMap sp = ws := flat_word fun w m => W0_sp w (h w m)
theorem jn_sum {ws : List Str} (h : ∀ w ∈ ws, w.length ≤ 9) (f : ws.length ≤ 1000) : (ws.map (·.length)).sum + ws.length * (" " : Str).length ≤ 16777216 := by
  have e : (" " : Str).length = 1 := rfl
  have key : ∀ {ws : List Str}, (∀ w ∈ ws, w.length ≤ 9) → (ws.map (·.length)).sum ≤ 9 * ws.length := by
    intro ws
    induction ws with
    | nil => intro _; simp
    | cons w ws ih =>
      intro h
      have a := h w List.mem_cons_self
      have b := ih fun x m => h x (List.mem_cons_of_mem _ m)
      rw [List.map_cons, List.sum_cons, List.length_cons]
      omega
  have := key h
  rw [e]
  omega
/-- words of a line with another one between -/
theorem Gz.mid {A B : List Str} {o : Str} {c : Nat} (hA : ∀ w ∈ A, w ∈ W0) (hB : ∀ w ∈ B, w ∈ W0) (ho : ∀ x ∈ sp o, x ∈ W0) (n : A.length + (sp o).length + B.length ≤ c) : Gz c (Txt.join (" " : Str) (A ++ [o] ++ B)) := by
  have h1 : 1 ≤ (sp o).length := List.length_pos_iff.mpr (sp_ne o)
  refine Gz.jn (fun w m x mx => ?_) ?_ (by omega)
  · rcases List.mem_append.mp m with m | m
    · rcases List.mem_append.mp m with m | m
      · rw [W0_sp w (hA w m), List.mem_singleton] at mx
        rw [mx]; exact hA w m
      · rw [List.mem_singleton.mp m] at mx
        exact ho x mx
    · rw [W0_sp w (hB w m), List.mem_singleton] at mx
      rw [mx]; exact hB w m
  · rw [List.flatMap_append, List.flatMap_append, flat_len hA, flat_len hB, List.length_append, List.length_append]
    simp
    omega
theorem Gz.two {A B : List Str} {c : Nat} (hA : ∀ w ∈ A, w ∈ W0) (hB : ∀ w ∈ B, w ∈ W0) (n : A.length + B.length ≤ c) (h1 : 1 ≤ c) : Gz c (Txt.join (" " : Str) (A ++ B)) := by
  refine Gz.jn (fun w m x mx => ?_) ?_ h1
  · have mw : w ∈ W0 := (List.mem_append.mp m).elim (hA w) (hB w)
    rw [W0_sp w mw, List.mem_singleton] at mx
    rw [mx]; exact mw
  · rw [List.flatMap_append, flat_len hA, flat_len hB, List.length_append]
    exact n
def spSpoilt : Sp := fun vs H Q _ => ∃ (d a : Addr) (zs : List Str) (c k : Nat), vs = [.ref d, .ref a] ∧ a ≠ d ∧ H a = some (.lst (zs.map V.str)) ∧ zs ≠ [] ∧ zs.length ≤ 20 ∧ (∀ z ∈ zs, Gz c z) ∧ 2 ≤ c ∧ c ≤ 50 ∧ Dice H d k ∧ k + 10 < 1000000 ∧
  ∀ (L : Addr) (xs : List V) (H' : Hp), Kp d H H' → L ≠ d → H L = none → H' L = some (.lst xs) → xs.length ≤ zs.length + 1 → (∀ v ∈ xs, Lg (c + 2) (Hm d H') v) → Dice H' d (k + 10) → Q (.ref L) H'
section
variable {P : Program} {w : World} {K : PySem.W.Frag} {mg : Str → Option Value} {base : Heap} {fR fP fM : Addr} {dR dP dM : FuncData}
theorem scSpoilt : FnScope ["dice", "lines", "spot", "way", "words", "ahead", "behind", "place", "first", "last", "odd"] ["dice", "lines"] (defScope sLSpoilt) := ⟨rfl, rfl, rfl, by decide +kernel, rfl, by decide +kernel, by decide +kernel⟩
theorem ok_spoilt {f : Addr} {fd : FuncData} (F : Fun K "_law_spoilt" "_law_spoilt" sLSpoilt f fd) (D : Draws K mg fR fP fM dR dP dM) (T : Free mg) : FnOk P w K mg base CX0 3 f fd ["dice", "lines"] spSpoilt := by
  have GR : FnOk P w K mg base CX0 1 fR dR ["dice", "total"] spRoll := ok_roll D.FR T
  have GP : FnOk P w K mg base CX0 2 fP dP ["dice", "items"] (spPick K) := ok_pick D T
  refine F.ok scSpoilt (fun vs H Q E h => ?_) (fun cdv A outer s H vs Q E hr h => ?_)
  · obtain ⟨d, a, zs, c, k, rfl, _⟩ := h
    rfl
  · obtain ⟨d, a, zs, c, k, rfl, ad, ha, ne, few, gz, c2, c50, di, hk, q⟩ := h
    have hu := hr.units
    have hu1 : ∀ {u : Nat}, u + 64 < cLine → u + 1 < cLine := fun h => by omega
    have r1 : Room 1 _ := hr.mono (by decide)
    refine ⟨_, (pss_cons (ps_par (i := 2) (j := 3) (by rfl) scSpoilt.nd rfl rfl (by decide) rfl rfl (pa_cons (pe_call GR r1 (by rfl) D.gR D.FR.kp D.bR .nil pass0 (pa_cons (pv 0) (pa_cons (pe_callB call_len_seq (by rfl) T.len PySem.boot_len (pa_cons (pv 1) pa_nil)) pa_nil))) (pa_cons (pe_call GR r1 (by rfl) D.gR D.FR.kp D.bR .nil pass0 (pa_cons (pv 0) (pa_cons pe_int pa_nil))) pa_nil)) (by rfl)) (pss_cons (ps_par (i := 4) (j := 5) (by rfl) scSpoilt.nd rfl rfl (by decide) rfl rfl (pa_cons (pe_split (pe_ix ix_list (pv 1) (pv 2) (fun _ _ => rfl)) pe_str) (pa_cons (pe_slice sl_list (pv 1) po_none (po_some (pv 2))) pa_nil)) (by rfl)) (pss_cons (ps_set (i := 6) scSpoilt.nd rfl (.inl rfl) (pe_slice sl_list (pv 1) (po_some (pe_op op_add (pv 2) pe_int)) po_none)) (pss_cons (ps_set (i := 7) scSpoilt.nd rfl (.inl rfl) (pe_call GR r1 (by rfl) D.gR D.FR.kp D.bR .nil pass0 (pa_cons (pv 0) (pa_cons (pe_callB call_len_seq (by rfl) T.len PySem.boot_len (pa_cons (pv 4) pa_nil)) pa_nil)))) (pss_cons (ps_par (i := 8) (j := 9) (by rfl) scSpoilt.nd rfl rfl (by decide) rfl rfl (pa_cons (pe_slice sl_list (pv 4) po_none (po_some (pv 7))) (pa_cons (pe_slice sl_list (pv 4) (po_some (pe_op op_add (pv 7) pe_int)) po_none) pa_nil)) (by rfl)) (pss_cons (ps_if (pt_cmpR op_eq (pv 3) pe_int (nomark _)) (pss_one (ps_ret (pe_op op_cat (pv 5) (pv 6)))) pss_nil) (pss_cons (ps_if (pt_cmpR op_eq (pv 3) pe_int (nomark _)) (pss_one (ps_ret (pe_op op_cat (pe_op op_cat (pv 5) (pe_lst (pa_cons (pe_ix ix_list (pv 1) (pv 2) (fun _ _ => rfl)) pa_nil))) (pe_slice sl_list (pv 1) (po_some (pv 2)) po_none)))) pss_nil) (pss_cons (ps_if (pt_cmpR op_eq (pv 3) pe_int (nomark _)) (pss_cons (ps_set (i := 10) scSpoilt.nd rfl (.inl rfl) (pe_call GP hr (by rfl) D.gP D.FP.kp D.bP .nil pass0 (pa_cons (pv 0) (pa_cons (pe_lst (pa_cons pe_str (pa_cons pe_str (pa_cons pe_str (pa_cons pe_str (pa_cons pe_str (pa_cons pe_str (pa_cons pe_str (pa_cons pe_str (pa_cons pe_str (pa_cons pe_str (pa_cons pe_str (pa_cons pe_str (pa_cons pe_str (pa_cons pe_str (pa_cons pe_str pa_nil)))))))))))))))) pa_nil)))) (pss_one (ps_ret (pe_op op_cat (pe_op op_cat (pv 5) (pe_lst (pa_cons (pe_bm PySem.F.plainAttrs_str PySem.F.slot_str_join PySem.F.type_str_join mt_join pe_str (pa_cons (pe_op op_cat (pe_op op_cat (pv 8) (pe_lst (pa_cons (pv 10) pa_nil))) (pv 9)) pa_nil)) pa_nil))) (pv 6))))) pss_nil) (pss_cons (ps_if (pt_cmpR op_eq (pv 3) pe_int (nomark _)) (pss_one (ps_ret (pe_op op_cat (pe_op op_cat (pv 5) (pe_lst (pa_cons (pe_bm PySem.F.plainAttrs_str PySem.F.slot_str_join PySem.F.type_str_join mt_join pe_str (pa_cons (pe_op op_cat (pv 8) (pv 9)) pa_nil)) pa_nil))) (pv 6)))) pss_nil) (pss_cons (ps_if (pt_cmpR op_eq (pv 3) pe_int (nomark _)) (pss_one (ps_ret (pe_op op_cat (pe_op op_cat (pv 5) (pe_lst (pa_cons (pe_bm PySem.F.plainAttrs_str PySem.F.slot_str_join PySem.F.type_str_join mt_join pe_str (pa_cons (pe_op op_cat (pe_op op_cat (pv 8) (pe_lst (pa_cons (pe_call GP hr (by rfl) D.gP D.FP.kp D.bP .nil pass0 (pa_cons (pv 0) (pa_cons (pv 4) pa_nil))) pa_nil))) (pe_slice sl_list (pv 4) (po_some (pv 7)) po_none)) pa_nil)) pa_nil))) (pv 6)))) pss_nil) (pss_cons (ps_set (i := 10) scSpoilt.nd rfl (.inl rfl) (pe_call GP hr (by rfl) D.gP D.FP.kp D.bP .nil pass0 (pa_cons (pv 0) (pa_cons (pe_lst (pa_cons pe_non (pa_cons pe_int (pa_cons pe_str (pa_cons pe_str (pa_cons (pe_tup (pa_cons pe_str pa_nil)) (pa_cons (pe_lst pa_nil) (pa_cons (pe_op op_add_str (pe_ix ix_list (pv 1) (pv 2) (fun _ _ => rfl)) pe_str) (pa_cons (pe_op op_add_str pe_str (pe_ix ix_list (pv 1) (pv 2) (fun _ _ => rfl))) (pa_cons pe_dnewK (pa_cons pe_bl pa_nil))))))))))) pa_nil)))) (pss_one (ps_ret (pe_op op_cat (pe_op op_cat (pv 5) (pe_lst (pa_cons (pv 10) pa_nil))) (pv 6))))))))))))))), ?_⟩
    have lz : (zs.map V.str).length = zs.length := List.length_map _
    have z1 : 1 ≤ zs.length := by
      cases zs with
      | nil => exact absurd rfl ne
      | cons x y => simp
    refine ⟨_, rfl, _, rfl, a, _, rfl, .inl (SqL.of ha), d, _, k, rfl, di, by omega, by rw [lz]; omega, by rw [lz]; exact Int.lt_of_le_of_lt (show (zs.length : Int) ≤ 20 by omega) (by decide +kernel), fun a0 o1 r0 r1_ di1 => ?_⟩
    obtain ⟨s0, rfl⟩ := Int.eq_ofNat_of_zero_le r0
    rw [lz] at r1_
    have s0l : s0 < zs.length := by omega
    have k1 : Kp d H (upd H d o1) := Kp.upd
    have ha1 : (upd H d o1) a = some (.lst (zs.map V.str)) := by rw [upd_ne ad]; exact ha
    generalize upd H d o1 = H1 at di1 k1 ha1 ⊢
    refine ⟨_, rfl, d, _, _, rfl, di1, by omega, by decide, by decide +kernel, fun w0 o2 w0_ w1_ di2 => ⟨_, _, rfl, ?_⟩⟩
    have k2 : Kp d H (upd H1 d o2) := k1.trans Kp.upd
    have ha2 : (upd H1 d o2) a = some (.lst (zs.map V.str)) := by rw [upd_ne ad]; exact ha1
    generalize upd H1 d o2 = H2 at di2 k2 ha2 ⊢
    clear k1 ha1 di1 r0 r1_
    -- words, ahead
    have hz : (zs.map V.str)[s0]? = some (.str zs[s0]) := by rw [List.getElem?_map, List.getElem?_eq_getElem s0l]; rfl
    have gz0 := gz zs[s0] (List.getElem_mem s0l)
    generalize hz0 : zs[s0] = z0 at hz gz0
    refine ⟨_, rfl, _, rfl, a, _, _, .str z0, rfl, rfl, SqL.of ha2, atI_nat hz, ⟨_, rfl⟩, z0, " ", rfl, rfl, rfl, by have := gz0.len; rw [sizeLine_eq]; omega, fun wp nwp => ?_⟩
    rw [sp_eq]
    have wsn := sp_ne z0
    have w1 := Same.new nwp (o := .lst ((sp z0).map V.str))
    have hw : (upd H2 wp (.lst ((sp z0).map V.str))) wp = some (.lst ((sp z0).map V.str)) := upd_same
    have wpd : wp ≠ d := fun e => by
      obtain ⟨ds, x⟩ := di2.there
      rw [e, x] at nwp
      cases nwp
    have di3 := di2.same w1
    have k3 := k2.trans (Kp.same (d := d) w1)
    have ha3 := w1 _ _ ha2
    generalize upd H2 wp (.lst ((sp z0).map V.str)) = H3 at hw di3 k3 ha3 ⊢
    refine ⟨_, rfl, _, rfl, _, rfl, a, _, rfl, SqL.of ha3, fun ap nap => ⟨_, _, rfl, ?_⟩⟩
    rw [cutTo10 (by rw [lz]; omega)]
    have w2 := Same.new nap (o := .lst ((zs.map V.str).take s0))
    have hap : (upd H3 ap (.lst ((zs.map V.str).take s0))) ap = some (.lst ((zs.map V.str).take s0)) := upd_same
    have apd : ap ≠ d := fun e => by
      obtain ⟨ds, x⟩ := di3.there
      rw [e, x] at nap
      cases nap
    have di4 := di3.same w2
    have k4 := k3.trans (Kp.same (d := d) w2)
    have ha4 := w2 _ _ ha3
    have hw := w2 _ _ hw
    clear k3 ha3 di3 w1 w2 nap nwp k2 ha2 di2
    generalize upd H3 ap (.lst ((zs.map V.str).take s0)) = H4 at hap hw di4 k4 ha4 ⊢
    -- behind
    refine ⟨_, rfl, _, rfl, _, _, rfl, rfl, _, rfl, a, _, rfl, SqL.of ha4, fun bp nbp => ?_⟩
    rw [show ((s0 : Int) + 1) = ((s0 + 1 : Nat) : Int) from rfl, cutFrom10 (by rw [lz]; omega)]
    have w3 := Same.new nbp (o := .lst ((zs.map V.str).drop (s0 + 1)))
    have hbp : (upd H4 bp (.lst ((zs.map V.str).drop (s0 + 1)))) bp = some (.lst ((zs.map V.str).drop (s0 + 1))) := upd_same
    have bpd : bp ≠ d := fun e => by
      obtain ⟨ds, x⟩ := di4.there
      rw [e, x] at nbp
      cases nbp
    have di5 := di4.same w3
    have k5 := k4.trans (Kp.same (d := d) w3)
    have ha5 := w3 _ _ ha4
    have hw := w3 _ _ hw
    have hap := w3 _ _ hap
    clear k4 ha4 di4 w3 nbp
    generalize upd H4 bp (.lst ((zs.map V.str).drop (s0 + 1))) = H5 at hap hw hbp di5 k5 ha5 ⊢
    -- place
    have wl : 1 ≤ (sp z0).length := List.length_pos_iff.mpr wsn
    have wf := gz0.few
    have lw : ((sp z0).map V.str).length = (sp z0).length := List.length_map _
    refine ⟨_, rfl, _, rfl, wp, _, rfl, .inl (SqL.of hw), d, _, _, rfl, di5, by omega, by rw [lw]; omega, by rw [lw]; exact Int.lt_of_le_of_lt (show ((sp z0).length : Int) ≤ 50 by omega) (by decide +kernel), fun p0 o4 p0_ p1_ di6 => ?_⟩
    obtain ⟨pl, rfl⟩ := Int.eq_ofNat_of_zero_le p0_
    rw [lw] at p1_
    have plw : pl < (sp z0).length := by omega
    have k6 : Kp d H (upd H5 d o4) := k5.trans Kp.upd
    have ha6 : (upd H5 d o4) a = some (.lst (zs.map V.str)) := by rw [upd_ne ad]; exact ha5
    have hw : (upd H5 d o4) wp = some (.lst ((sp z0).map V.str)) := by rw [upd_ne wpd]; exact hw
    have hap : (upd H5 d o4) ap = some (.lst ((zs.map V.str).take s0)) := by rw [upd_ne apd]; exact hap
    have hbp : (upd H5 d o4) bp = some (.lst ((zs.map V.str).drop (s0 + 1))) := by rw [upd_ne bpd]; exact hbp
    clear k5 ha5 di5 p0_ p1_
    generalize upd H5 d o4 = H6 at di6 k6 ha6 hw hap hbp ⊢
    -- first, last
    refine ⟨_, rfl, _, rfl, _, rfl, wp, _, rfl, SqL.of hw, fun fp nfp => ?_⟩
    rw [cutTo10 (by rw [lw]; omega)]
    have w4 := Same.new nfp (o := .lst (((sp z0).map V.str).take pl))
    refine ⟨_, rfl, _, rfl, _, _, rfl, rfl, _, rfl, wp, _, rfl, SqL.of (w4 _ _ hw), fun lp nlp => ⟨_, _, rfl, ?_⟩⟩
    rw [show ((pl : Int) + 1) = ((pl + 1 : Nat) : Int) from rfl, cutFrom10 (by rw [lw]; omega)]
    have w5 := Same.new nlp (o := .lst (((sp z0).map V.str).drop (pl + 1)))
    have hfp := w5 _ _ (upd_same (a := fp) (o := .lst (((sp z0).map V.str).take pl)) (H := H6))
    have hlp : (upd (upd H6 fp (.lst (((sp z0).map V.str).take pl))) lp (.lst (((sp z0).map V.str).drop (pl + 1)))) lp = some (.lst (((sp z0).map V.str).drop (pl + 1))) := upd_same
    have w45 := w4.trans w5
    have fpd : fp ≠ d := fun e => by
      obtain ⟨ds, x⟩ := di6.there
      rw [e, x] at nfp
      cases nfp
    have lpd : lp ≠ d := fun e => by
      obtain ⟨ds, x⟩ := di6.there
      have := w4 _ _ x
      rw [e, this] at nlp
      cases nlp
    have di7 := di6.same w45
    have k7 := k6.trans (Kp.same (d := d) w45)
    have ha7 := w45 _ _ ha6
    have hw := w45 _ _ hw
    have hap := w45 _ _ hap
    have hbp := w45 _ _ hbp
    clear k6 ha6 di6 w4 w5 w45 nfp nlp
    generalize upd (upd H6 fp _) lp _ = H7 at di7 k7 ha7 hw hap hbp hfp hlp ⊢
    -- what stands in the rows
    have e1 : ((zs.map V.str).take s0).length = s0 := by rw [List.length_take, lz]; omega
    have e2 : ((zs.map V.str).drop (s0 + 1)).length = zs.length - (s0 + 1) := by rw [List.length_drop, lz]
    have lgs : ∀ (G : Hp) (v : V), v ∈ zs.map V.str → Lg (c + 2) G v := fun G v m => by
      obtain ⟨z, mz, rfl⟩ := List.mem_map.mp m
      exact Lg.str ((gz z mz).le (by omega))
    have lgA : ∀ (G : Hp) (v : V), v ∈ (zs.map V.str).take s0 → Lg (c + 2) G v := fun G v m => lgs G v (List.mem_of_mem_take m)
    have lgB : ∀ (G : Hp) (v : V), v ∈ (zs.map V.str).drop (s0 + 1) → Lg (c + 2) G v := fun G v m => lgs G v (List.mem_of_mem_drop m)
    have tk : ∀ {i : Nat}, ((sp z0).map V.str).take i = ((sp z0).take i).map V.str := fun {i} => List.map_take.symm
    have dk : ∀ {i : Nat}, ((sp z0).map V.str).drop i = ((sp z0).drop i).map V.str := fun {i} => List.map_drop.symm
    rw [tk] at hfp
    rw [dk] at hlp
    have hA : ∀ w ∈ (sp z0).take pl, w ∈ W0 := fun w m => gz0.all w (List.mem_of_mem_take m)
    have hB : ∀ {i : Nat}, ∀ w ∈ (sp z0).drop i, w ∈ W0 := fun {i} w m => gz0.all w (List.mem_of_mem_drop m)
    have lA : ((sp z0).take pl).length = pl := by rw [List.length_take]; omega
    have lB : ∀ {i : Nat}, ((sp z0).drop i).length = (sp z0).length - i := fun {i} => List.length_drop
    have lgz : ∀ {G : Hp} {z : Str}, Gz (c + 2) z → Lg (c + 2) G (.str z) := fun h => Lg.str h
    have dxn : ∀ {G : Hp} {m : Nat} {x : Addr}, Dice G d m → G x = none → x ≠ d := fun {G m x} dg n e => by
      obtain ⟨ds, y⟩ := dg.there
      rw [e, y] at n
      cases n
    -- the end of most ways
    have fin : ∀ (m : Nat) (v : V) (G1 : Hp), m ≤ k + 10 → Kp d H7 G1 → Dice G1 d m → Lg (c + 2) (Hm d G1) v → (G1 ap = some (.lst ((zs.map V.str).take s0)) ∧ G1 bp = some (.lst ((zs.map V.str).drop (s0 + 1))) ∧
        ∀ x3 G', Same G1 G' → G1 x3 = none → G' x3 = some (.lst ((zs.map V.str).take s0 ++ [v] ++ (zs.map V.str).drop (s0 + 1))) → Q (.ref x3) G') := fun m v G1 hm kg dg lv => by
      refine ⟨kg _ _ apd hap, kg _ _ bpd hbp, fun x3 G' s' n3 hx => ?_⟩
      have x3d := dxn dg n3
      refine q x3 _ G' ((k7.trans kg).trans (Kp.same s')) x3d (Kp.free (k7.trans kg) x3d n3) hx (by rw [List.length_append, List.length_append, e1, e2]; simp; omega) (fun u mu => ?_) ((dg.same s').more hm (by omega))
      rcases List.mem_append.mp mu with mu | mu
      · rcases List.mem_append.mp mu with mu | mu
        · exact lgA _ u mu
        · rw [List.mem_singleton.mp mu]
          exact lv.same (Same.hm s')
      · exact lgB _ u mu
    have sz3 : ((zs.map V.str).take s0).length + 1 + ((zs.map V.str).drop (s0 + 1)).length ≤ 1000 := by rw [e1, e2]; omega
    refine ⟨_, rfl, rfl, _, rfl, ite2 (fun cw => ?_) (fun cw => ?_)⟩
    · -- 0
      refine ⟨_, rfl, _, rfl, ap, bp, _, _, rfl, rfl, hap, hbp, by rw [e1, e2, sizeLine_eq]; omega, fun x3 n3 => ?_⟩
      have w1 := Same.new n3 (o := .lst ((zs.map V.str).take s0 ++ (zs.map V.str).drop (s0 + 1)))
      have x3d := dxn di7 n3
      refine q x3 _ _ (k7.trans (Kp.same w1)) x3d (Kp.free k7 x3d n3) upd_same (by rw [List.length_append, e1, e2]; omega) (fun u mu => ?_) ((di7.same w1).more (by omega) (by omega))
      rcases List.mem_append.mp mu with mu | mu
      · exact lgA _ u mu
      · exact lgB _ u mu
    refine ⟨_, rfl, rfl, _, rfl, ite2 (fun cw => ?_) (fun cw => ?_)⟩
    · -- 1
      refine ⟨_, rfl, _, rfl, _, rfl, a, _, _, .str z0, rfl, rfl, SqL.of ha7, atI_nat hz, by show 1 ≤ sizeLine; decide, fun x1 n1 => ?_⟩
      have w1 := Same.new n1 (o := .lst [V.str z0])
      refine ⟨ap, x1, _, _, rfl, rfl, w1 _ _ hap, upd_same, by rw [e1, sizeLine_eq]; simp; omega, fun x2 n2 => ?_⟩
      have w2 := w1.trans (Same.new n2 (o := .lst ((zs.map V.str).take s0 ++ [V.str z0])))
      have hx2 : (upd (upd H7 x1 (.lst [V.str z0])) x2 (.lst ((zs.map V.str).take s0 ++ [V.str z0]))) x2 = some (.lst ((zs.map V.str).take s0 ++ [V.str z0])) := upd_same
      generalize upd (upd H7 x1 (.lst [V.str z0])) x2 (.lst ((zs.map V.str).take s0 ++ [V.str z0])) = G2 at w2 hx2 ⊢
      refine ⟨_, rfl, _, rfl, _, rfl, a, _, rfl, SqL.of (w2 _ _ ha7), fun cp ncp => ?_⟩
      rw [cutFrom10 (by rw [lz]; omega)]
      have w3 := Same.new ncp (o := .lst ((zs.map V.str).drop s0))
      refine ⟨x2, cp, _, _, rfl, rfl, w3 _ _ hx2, upd_same, by rw [List.length_append, e1, List.length_drop, lz, sizeLine_eq]; simp; omega, fun x3 n3 => ?_⟩
      have w4 := w2.trans (w3.trans (Same.new n3 (o := .lst ((zs.map V.str).take s0 ++ [V.str z0] ++ (zs.map V.str).drop s0))))
      have x3d := dxn (di7.same (w2.trans w3)) n3
      refine q x3 _ _ (k7.trans (Kp.same w4)) x3d (Kp.free (k7.trans (Kp.same (w2.trans w3))) x3d n3) upd_same (by rw [List.length_append, List.length_append, e1, List.length_drop, lz]; simp; omega) (fun u mu => ?_) ((di7.same w4).more (by omega) (by omega))
      rcases List.mem_append.mp mu with mu | mu
      · rcases List.mem_append.mp mu with mu | mu
        · exact lgA _ u mu
        · rw [List.mem_singleton.mp mu]
          exact lgz (gz0.le (by omega))
      · exact lgs _ u (List.mem_of_mem_drop mu)
    refine ⟨_, rfl, rfl, _, rfl, ite2 (fun cw => ?_) (fun cw => ?_)⟩
    · -- 2
      refine ⟨_, rfl, by show 15 ≤ sizeLine; decide, fun L nL => ?_⟩
      have w1 := Same.new nL (o := .lst [V.str "", .str "c", .str "3", .str "9", .str "10", .str "01", .str "R", .str "r ", .str "-1", .str "goal", .str "op", .str "abcdefghi", .str "p", .str "r", .str "a1"])
      have Ld := dxn di7 nL
      refine ⟨d, L, _, oddW.map V.str, rfl, Ld, .inl (SqL.of upd_same), by simp [oddW], by decide, di7.same w1, by omega, fun v o mv d8 => ?_⟩
      obtain ⟨od, mo, rfl⟩ := List.mem_map.mp mv
      obtain ⟨o1, o2, o3⟩ := oddW_ok od mo
      have kX : Kp d H7 (upd (upd H7 L (.lst [V.str "", .str "c", .str "3", .str "9", .str "10", .str "01", .str "R", .str "r ", .str "-1", .str "goal", .str "op", .str "abcdefghi", .str "p", .str "r", .str "a1"])) d o) := (Kp.same w1).trans Kp.upd
      clear w1
      generalize upd (upd H7 L (.lst [V.str "", .str "c", .str "3", .str "9", .str "10", .str "01", .str "R", .str "r ", .str "-1", .str "goal", .str "op", .str "abcdefghi", .str "p", .str "r", .str "a1"])) d o = G8 at d8 kX ⊢
      try dsimp only
      refine ret_one ?_
      have wo : ∀ w ∈ (sp z0).take pl ++ [od] ++ (sp z0).drop (pl + 1), w.length ≤ 9 := fun w m => by
        rcases List.mem_append.mp m with m | m
        · rcases List.mem_append.mp m with m | m
          · exact W0_short w (hA w m)
          · rw [List.mem_singleton.mp m]; exact o3
        · exact W0_short w (hB w m)
      refine cat3T (P := fun v G1 => Kp d H7 G1 ∧ Dice G1 d (k + 4) ∧ Lg (c + 2) (Hm d G1) v) (fun Q' kq => ?_) rfl rfl sz3 (fun v G1 ⟨kg, dg, lv⟩ => fin _ v G1 (by omega) kg dg lv) (kX _ _ apd hap)
      refine ⟨rfl, ?_⟩
      refine cat3T (P := fun v G1 => v = .str od ∧ G1 = G8) (fun Q2 kq2 => ⟨_, rfl, kq2 _ _ ⟨rfl, rfl⟩⟩) rfl rfl (us := ((sp z0).take pl).map V.str) (ws := ((sp z0).drop (pl + 1)).map V.str) (by rw [List.length_map, List.length_map, lA, lB]; omega) (fun v G1 ⟨ev, eG⟩ => ?_) (kX _ _ fpd hfp)
      subst ev eG
      refine ⟨kX _ _ fpd hfp, kX _ _ lpd hlp, fun x3 G' s' n3 hx => ?_⟩
      refine ⟨" ", x3, (sp z0).take pl ++ [od] ++ (sp z0).drop (pl + 1), rfl, rfl, .inl (SqL.of (by rw [hx, List.map_append, List.map_append]; rfl)), jn_sum wo (by rw [List.length_append, List.length_append, lA, lB]; simp; omega), kq _ _ ⟨kX.trans (Kp.same s'), (d8.same s').more (by omega) (by omega), lgz (Gz.mid hA hB o1 (by rw [lA, lB]; omega))⟩⟩
    refine ⟨_, rfl, rfl, _, rfl, ite2 (fun cw => ?_) (fun cw => ?_)⟩
    · -- 3
      try dsimp only
      refine ret_one ?_
      have wo : ∀ w ∈ (sp z0).take pl ++ (sp z0).drop (pl + 1), w.length ≤ 9 := fun w m => by
        rcases List.mem_append.mp m with m | m
        · exact W0_short w (hA w m)
        · exact W0_short w (hB w m)
      refine cat3T (P := fun v G1 => Kp d H7 G1 ∧ Dice G1 d (k + 4) ∧ Lg (c + 2) (Hm d G1) v) (fun Q' kq => ?_) rfl rfl sz3 (fun v G1 ⟨kg, dg, lv⟩ => fin _ v G1 (by omega) kg dg lv) hap
      refine ⟨rfl, _, rfl, _, rfl, fp, lp, _, _, rfl, rfl, hfp, hlp, by rw [List.length_map, List.length_map, lA, lB, sizeLine_eq]; omega, fun x3 n3 => ?_⟩
      have w1 := Same.new n3 (o := .lst (((sp z0).take pl).map V.str ++ ((sp z0).drop (pl + 1)).map V.str))
      refine ⟨" ", x3, (sp z0).take pl ++ (sp z0).drop (pl + 1), rfl, rfl, .inl (SqL.of (by rw [upd_same, List.map_append])), jn_sum wo (by rw [List.length_append, lA, lB]; omega), kq _ _ ⟨Kp.same w1, (di7.same w1).more (by omega) (by omega), lgz (Gz.two hA hB (by rw [lA, lB]; omega) (by omega))⟩⟩
    refine ⟨_, rfl, rfl, _, rfl, ite2 (fun cw => ?_) (fun cw => ?_)⟩
    · -- 4
      try dsimp only
      refine ret_one ?_
      refine cat3T (P := fun v G1 => Kp d H7 G1 ∧ Dice G1 d (k + 10) ∧ Lg (c + 2) (Hm d G1) v) (fun Q' kq => ?_) rfl rfl sz3 (fun v G1 ⟨kg, dg, lv⟩ => fin _ v G1 (by omega) kg dg lv) hap
      refine ⟨rfl, _, rfl, _, rfl, _, rfl, d, wp, _, _, rfl, wpd, .inl (SqL.of hw), (fun e => by rw [List.map_eq_nil_iff] at e; exact wsn e), by rw [lw]; omega, di7, by omega, fun v o mv d8 => ?_⟩
      obtain ⟨od, mo, rfl⟩ := List.mem_map.mp mv
      have mW := gz0.all od mo
      have kX : Kp d H7 (upd H7 d o) := Kp.upd
      generalize upd H7 d o = G8 at d8 kX ⊢
      have hfp8 := kX _ _ fpd hfp
      have hw8 := kX _ _ wpd hw
      refine ⟨by show 1 ≤ sizeLine; decide, fun x1 n1 => ?_⟩
      have w1 := Same.new n1 (o := .lst [V.str od])
      refine ⟨fp, x1, _, _, rfl, rfl, w1 _ _ hfp8, upd_same, by rw [List.length_map, lA, sizeLine_eq]; simp; omega, fun x2 n2 => ?_⟩
      have w2 := w1.trans (Same.new n2 (o := .lst (((sp z0).take pl).map V.str ++ [V.str od])))
      have hx2 : (upd (upd G8 x1 (.lst [V.str od])) x2 (.lst (((sp z0).take pl).map V.str ++ [V.str od]))) x2 = some (.lst (((sp z0).take pl).map V.str ++ [V.str od])) := upd_same
      generalize upd (upd G8 x1 (.lst [V.str od])) x2 (.lst (((sp z0).take pl).map V.str ++ [V.str od])) = G2 at w2 hx2 ⊢
      refine ⟨_, rfl, _, rfl, _, rfl, wp, _, rfl, SqL.of (w2 _ _ hw8), fun cp ncp => ?_⟩
      rw [cutFrom10 (by rw [lw]; omega), dk]
      have w3 := Same.new ncp (o := .lst (((sp z0).drop pl).map V.str))
      refine ⟨x2, cp, _, _, rfl, rfl, w3 _ _ hx2, upd_same, by rw [List.length_append, List.length_map, List.length_map, lA, lB, sizeLine_eq]; simp; omega, fun x3 n3 => ?_⟩
      have w4 := w2.trans (w3.trans (Same.new n3 (o := .lst (((sp z0).take pl).map V.str ++ [V.str od] ++ ((sp z0).drop pl).map V.str))))
      have so := W0_sp od mW
      have wo : ∀ w ∈ (sp z0).take pl ++ [od] ++ (sp z0).drop pl, w.length ≤ 9 := fun w m => by
        rcases List.mem_append.mp m with m | m
        · rcases List.mem_append.mp m with m | m
          · exact W0_short w (hA w m)
          · rw [List.mem_singleton.mp m]; exact W0_short od mW
        · exact W0_short w (hB w m)
      refine ⟨" ", x3, (sp z0).take pl ++ [od] ++ (sp z0).drop pl, rfl, rfl, .inl (SqL.of (by rw [upd_same, List.map_append, List.map_append]; rfl)), jn_sum wo (by rw [List.length_append, List.length_append, lA, lB]; simp; omega), kq _ _ ⟨kX.trans (Kp.same w4), (d8.same w4).more (by omega) (by omega), lgz (Gz.mid hA hB (fun x m => by rw [so, List.mem_singleton] at m; rw [m]; exact mW) (by rw [lA, lB, so]; simp; omega))⟩⟩
    · -- 5
      refine ⟨_, rfl, by show 1 ≤ sizeLine; decide, fun x1 n1 => ?_⟩
      have w1 := Same.new n1 (o := .tup [V.str "op c 0"])
      have t1 : (upd H7 x1 (.tup [V.str "op c 0"])) x1 = some (.tup [V.str "op c 0"]) := upd_same
      have x1d := dxn di7 n1
      generalize upd H7 x1 (.tup [V.str "op c 0"]) = G1 at w1 t1 ⊢
      refine ⟨by show 0 ≤ sizeLine; decide, fun x2 n2 => ?_⟩
      have w2 := w1.trans (Same.new n2 (o := .lst []))
      have t2 : (upd G1 x2 (.lst [])) x2 = some (.lst []) := upd_same
      have t1 := Same.new n2 (o := .lst []) _ _ t1
      have x2d := dxn (di7.same w1) n2
      generalize upd G1 x2 (.lst []) = G2 at w2 t1 t2 ⊢
      clear w1
      refine ⟨_, rfl, _, rfl, a, _, _, .str z0, rfl, rfl, SqL.of (w2 _ _ ha7), atI_nat hz, _, _, rfl, rfl, by have := gz0.len; rw [sizeLine_eq]; show _ + 1 ≤ _; omega, ?_⟩
      refine ⟨_, rfl, _, rfl, a, _, _, .str z0, rfl, rfl, SqL.of (w2 _ _ ha7), atI_nat hz, _, _, rfl, rfl, by have := gz0.len; rw [sizeLine_eq]; show 1 + _ ≤ _; omega, ?_⟩
      refine fun x3 n3 => ?_
      have w3 := Same.new n3 (o := .dK [])
      have t3 : (upd G2 x3 (.dK [])) x3 = some (.dK []) := upd_same
      have t1 := w3 _ _ t1
      have t2 := w3 _ _ t2
      have x3d := dxn (di7.same w2) n3
      have w3 := w2.trans w3
      generalize upd G2 x3 (.dK []) = G3 at w3 t1 t2 t3 ⊢
      clear w2
      refine ⟨by show 10 ≤ sizeLine; decide, fun L nL => ?_⟩
      have Ld := dxn (di7.same w3) nL
      have w4 := Same.new nL (o := .lst [V.non, .int 0, .str "", .str " ", .ref x1, .ref x2, .str (z0 ++ " "), .str (" " ++ z0), .ref x3, .bl true])
      have tL : (upd G3 L (.lst [V.non, .int 0, .str "", .str " ", .ref x1, .ref x2, .str (z0 ++ " "), .str (" " ++ z0), .ref x3, .bl true])) L = some (.lst [V.non, .int 0, .str "", .str " ", .ref x1, .ref x2, .str (z0 ++ " "), .str (" " ++ z0), .ref x3, .bl true]) := upd_same
      have t1 := w4 _ _ t1
      have t2 := w4 _ _ t2
      have t3 := w4 _ _ t3
      have w4 := w3.trans w4
      generalize upd G3 L (.lst [V.non, .int 0, .str "", .str " ", .ref x1, .ref x2, .str (z0 ++ " "), .str (" " ++ z0), .ref x3, .bl true]) = G4 at w4 t1 t2 t3 tL ⊢
      refine ⟨d, L, _, _, rfl, Ld, .inl (SqL.of tL), by simp, by simp, di7.same w4, by omega, fun v o mv d8 => ?_⟩
      have kX : Kp d H7 (upd G4 d o) := (Kp.same w4).trans Kp.upd
      have m1 : Hm d (upd G4 d o) x1 = some (.tup [V.str "op c 0"]) := Hm.of (by rw [upd_ne x1d]; exact t1) x1d
      have m2 : Hm d (upd G4 d o) x2 = some (.lst []) := Hm.of (by rw [upd_ne x2d]; exact t2) x2d
      have m3 : Hm d (upd G4 d o) x3 = some (.dK []) := Hm.of (by rw [upd_ne x3d]; exact t3) x3d
      generalize upd G4 d o = G5 at d8 kX m1 m2 m3 ⊢
      have lv : Lg (c + 2) (Hm d G5) v := by
        simp only [List.mem_cons, List.not_mem_nil, or_false] at mv
        rcases mv with rfl | rfl | rfl | rfl | rfl | rfl | rfl | rfl | rfl | rfl
        · exact ⟨⟨_, .non⟩, fun z e => by cases e⟩
        · exact ⟨⟨_, .int 0⟩, fun z e => by cases e⟩
        · exact lgz (Gz.empty (by omega))
        · exact lgz (Gz.blank (by omega))
        · exact ⟨⟨_, .tup m1⟩, fun z e => by cases e⟩
        · exact ⟨⟨_, .lst m2⟩, fun z e => by cases e⟩
        · exact lgz ((gz0.behind).le (by omega))
        · exact lgz ((gz0.ahead).le (by omega))
        · exact ⟨⟨_, .dK m3⟩, fun z e => by cases e⟩
        · exact ⟨⟨_, .bl true⟩, fun z e => by cases e⟩
      try dsimp only
      refine ret_one ?_
      refine cat3T (P := fun v' G' => v' = v ∧ G' = G5) (fun Q' kq => ⟨_, rfl, kq _ _ ⟨rfl, rfl⟩⟩) rfl rfl sz3 (fun v' G1 ⟨ev, eG⟩ => ?_) (kX _ _ apd hap)
      subst ev eG
      exact fin _ v' G1 (by omega) kX d8 lv
end
end Pr
namespace Pr
open PySem PySem.Spec PyProof.Rows L2 Gd
/-! ### _law_right -/
def spRight : Sp := fun vs H Q _ => ∃ (d : Addr) (k : Nat), vs = [.ref d] ∧ Dice H d k ∧ k + 1000 < 1000000 ∧ ∀ H', Kp d H H' → Dice H' d (k + 1000) → Q (.bl true) H'
/-! lines of drawn books -/
def opN : List Str := ["c", "s", "p", "v"]
theorem lnS_gz : ∀ z ∈ opN, ∀ n ∈ [0, 1, 2], (∀ w ∈ sp (lnS (z, n)), w ∈ W0) ∧ (sp (lnS (z, n))).length ≤ 9 := by decide +kernel
theorem goS_gz : (∀ w ∈ sp (goS "r"), w ∈ W0) ∧ (sp (goS "r")).length ≤ 9 := by decide +kernel
theorem fig_W0 : ∀ n ∈ List.range 10, Str.ofString (toString (n : Int)) ∈ W0 := by decide +kernel
theorem op_W0 : ∀ z ∈ opN, z ∈ W0 := by decide +kernel
theorem ran_W0 : ∀ z ∈ ran, z ∈ W0 := by decide +kernel
theorem DrR.words0 {l : List (Str × Nat)} (D : DrL l) {r : Rl} (h : DrR l r) : ∀ w ∈ (("rule" : Str) :: r.1 :: (Str.ofString (toString (r.2.1 : Int))) :: r.2.2), w ∈ W0 := fun w m => by
  have c1 : ("rule" : Str) ∈ W0 := by decide +kernel
  rcases List.mem_cons.mp m with e | m
  · rw [e]; exact c1
  rcases List.mem_cons.mp m with e | m
  · rw [e]; exact ran_W0 _ h.head
  rcases List.mem_cons.mp m with e | m
  · rw [e]; exact fig_W0 _ (List.mem_range.mpr (by have := h.ok.price; omega))
  · rcases h.words w m with k | k
    · exact op_W0 _ (D.four _ k)
    · exact ran_W0 _ k
theorem rlS_gz {l : List (Str × Nat)} (D : DrL l) {r : Rl} (h : DrR l r) : Gz 9 (rlS r) := by
  have hw := h.words0 D
  have h6 := h.six
  unfold rlS
  refine Gz.jn (fun w m x mx => ?_) ?_ (by omega)
  · rw [W0_sp w (hw w m), List.mem_singleton] at mx
    rw [mx]; exact hw w m
  · rw [flat_len hw]
    simp only [List.length_cons]
    omega
theorem lines_gz {l l' : List (Str × Nat)} {rs : List Rl} (D : DrL l) (p : l'.Perm l) (h : ∀ r ∈ rs, DrR l r) : ∀ z ∈ bkLines l' "r" rs, Gz 9 z := fun z m => by
  unfold bkLines at m
  rcases List.mem_append.mp m with m | m
  · obtain ⟨q, mq, rfl⟩ := List.mem_map.mp m
    have ml := p.mem_iff.mp mq
    have h2 := D.ok.two q ml
    obtain ⟨a, b⟩ := lnS_gz q.1 (D.four _ (List.mem_map_of_mem ml)) q.2 (by simp; omega)
    exact ⟨a, b⟩
  · rcases List.mem_cons.mp m with e | m
    · rw [e]; exact ⟨goS_gz.1, goS_gz.2⟩
    · obtain ⟨r, mr, rfl⟩ := List.mem_map.mp m
      exact rlS_gz D (h r mr)
theorem lg_nm {c : Nat} {G : Hp} {rest : List V} (h : ∀ v ∈ rest, Lg c G v) : NmD Dn rest := by
  refine ⟨by decide +kernel, fun v m r e => ?_, fun v m g e => ?_⟩
  · cases v with
    | str z =>
      have gz := (h _ m).2 z rfl
      obtain ⟨d, e1, _, _, _, a1, a2⟩ := ruleL_some (show ruleL (sp z) = some r from e)
      refine ⟨W0_az _ (gz.all _ (by rw [e1]; simp)) a1, fun w mw => W0_az _ (gz.all _ (by rw [e1]; simp [mw])) (a2 w mw)⟩
    | _ => cases e
  · cases v with
    | str z =>
      have gz := (h _ m).2 z rfl
      obtain ⟨e1, a1⟩ := goalL_some (show goalL (sp z) = some g from e)
      exact W0_az _ (gz.all _ (by rw [e1]; simp)) a1
    | _ => cases e
theorem hm_le10 {d : Addr} {G : Hp} : Same (Hm d G) G := fun b o h => (Hm.some_of h).1
theorem strs_of {G : Hp} {c : Nat} : ∀ {xs : List V}, (∀ v ∈ xs, Lg c G v) → (∀ v ∈ xs, ∃ z, v = .str z) → ∃ zs : List Str, xs = zs.map V.str ∧ ∀ z ∈ zs, Gz c z
  | [], _, _ => ⟨[], rfl, fun _ m => nomatch m⟩
  | x :: xs, h, k => by
    obtain ⟨zs, e, g⟩ := strs_of (xs := xs) (fun v m => h v (List.mem_cons_of_mem _ m)) (fun v m => k v (List.mem_cons_of_mem _ m))
    obtain ⟨z, ez⟩ := k x List.mem_cons_self
    have gz := (h x List.mem_cons_self).2 z ez
    refine ⟨z :: zs, by rw [ez, e]; rfl, fun y m => ?_⟩
    rcases List.mem_cons.mp m with e | m
    · rw [e]; exact gz
    · exact g y m
theorem boot_isi10 : bootBuiltins "isinstance" = some (.builtin "isinstance") := by decide +kernel
theorem boot_str10 : bootBuiltins "str" = some (.type "str") := by decide +kernel
theorem call_isiK {X : Cx} {K : PySem.W.Frag} (h : X.K = K) : CallR X (.builtin "isinstance") (rIsi K) := h ▸ call_isi
theorem told_due {K : PySem.W.Frag} {C B : Addr} {rest : List V} {G G' : Hp} {xs ys : List V} (t : Told K C B rest G xs) (u : Due rest G' ys) (s : Same G G') : ∃ (z : Str) (x y : V), xs = [.str z, x] ∧ ys = [.str z, y] ∧
    (z = "fine" → ∃ (o dd : Addr) (l l' : List (Str × Nat)) (g : Str) (rs : List Rl), x = .ref o ∧ y = .ref dd ∧ BookAt K G' C B o l' g rs ∧ l'.Perm l ∧ sortedS (l'.map (·.1)) = true ∧ PlainAt G' dd l g rs ∧ BkOk l g rs) ∧ (z = "parse" → ∃ n : Int, x = .int n ∧ y = .int n) := by
  have n1 : ("parse" : Str) ≠ "fine" := by decide +kernel
  have n2 : ("operators" : Str) ≠ "fine" := by decide +kernel
  have n3 : ("operators" : Str) ≠ "parse" := by decide +kernel
  have n4 : ("book" : Str) ≠ "fine" := by decide +kernel
  have n5 : ("book" : Str) ≠ "parse" := by decide +kernel
  have n6 : ("fine" : Str) ≠ "parse" := by decide +kernel
  cases t with
  | parse e =>
    cases u with
    | parse e' =>
      cases e.symm.trans e'
      exact ⟨_, _, _, rfl, rfl, fun z => absurd z n1, fun _ => ⟨_, rfl, rfl⟩⟩
    | ops e' => cases e.symm.trans e'
    | book e' => cases e.symm.trans e'
    | fine e' => cases e.symm.trans e'
  | ops e n =>
    cases u with
    | parse e' => cases e.symm.trans e'
    | ops e' => exact ⟨_, _, _, rfl, rfl, fun z => absurd z n2, fun z => absurd z n3⟩
    | book e' o => cases e.symm.trans e'; exact absurd o n
    | fine e' _ bk => cases e.symm.trans e'; exact absurd bk.ops.few n
  | book e o n =>
    cases u with
    | parse e' => cases e.symm.trans e'
    | ops e' n' => cases e.symm.trans e'; exact absurd o n'
    | book e' => exact ⟨_, _, _, rfl, rfl, fun z => absurd z n4, fun z => absurd z n5⟩
    | fine e' eg bk => cases e.symm.trans e'; exact absurd ⟨_, eg, bk⟩ n
  | fine e eg bk pm srt at_ =>
    cases u with
    | parse e' => cases e.symm.trans e'
    | ops e' n => cases e.symm.trans e'; exact absurd bk.ops.few n
    | book e' _ n => cases e.symm.trans e'; exact absurd ⟨_, eg, bk⟩ n
    | fine e' eg' bk' pl =>
      cases e.symm.trans e'
      cases eg.symm.trans eg'
      exact ⟨_, _, _, rfl, rfl, fun _ => ⟨_, _, _, _, _, _, rfl, rfl, at_.same s, pm, srt, pl, bk'⟩, fun z => absurd z n6⟩
theorem gname_in {i : Nat} {v : V} {σ : L2.St} {H : Hp} {Q : L2.St → Hp → Prop} (h : Q (σ.set i (some v)) H) : gName i v σ H Q := h
theorem seqJ {A B : TS} {D : Ends} {σ : L2.St} {H : Hp} (Pr : L2.St → Hp → Prop) (h : ∀ N : L2.St → Hp → Prop, (∀ σ' H', Pr σ' H' → N σ' H') → A { D with nx := N } σ H) (g : ∀ σ' H', Pr σ' H' → B D σ' H') : tSeq A B D σ H := h _ g
section
variable {P : Program} {w : World} {K : PySem.W.Frag} {mg : Str → Option Value} {base : Heap} {C B fR fP fM fB fL fS fT fU fV : Addr} {dR dP dM dB dL dS dT dU dV : FuncData}
theorem scRight : FnScope ["dice", "plain", "lines", "turn", "some", "told", "due", "line"] ["dice"] (defScope sLRight) := ⟨rfl, rfl, rfl, by decide +kernel, rfl, by decide +kernel, by decide +kernel⟩
theorem ok_right {f : Addr} {fd : FuncData} (F : Fun K "_law_right" "_law_right" sLRight f fd) (D : Draws K mg fR fP fM dR dP dM) (T : Free mg)
    (GB : FnOk P w K mg base CX0 4 fB dB ["dice", "rules", "heads"] spDBook) (bB : Binds K dB ["dice", "rules", "heads"] []) (gB : mg "_law_drawn_book" = some (.ref fB)) (kB : PySem.W.keepIn K (.ref fB) = true)
    (GL : FnOk P w K mg base CX0 1 fL dL ["plain"] (spLLines K)) (bL : Binds K dL ["plain"] []) (gL : mg "_law_lines" = some (.ref fL)) (kL : PySem.W.keepIn K (.ref fL) = true)
    (GS : FnOk P w K mg base CX0 3 fS dS ["dice", "lines"] spSpoilt) (bS : Binds K dS ["dice", "lines"] []) (gS : mg "_law_spoilt" = some (.ref fS)) (kS : PySem.W.keepIn K (.ref fS) = true)
    (GT : FnOk P w K mg base CX0 9 fT dT ["lines"] (spLTold K C B)) (bT : Binds K dT ["lines"] []) (gT : mg "_law_told" = some (.ref fT)) (kT : PySem.W.keepIn K (.ref fT) = true)
    (GU : FnOk P w K mg base CX0 4 fU dU ["lines"] spLDue) (bU : Binds K dU ["lines"] []) (gU : mg "_law_due" = some (.ref fU)) (kU : PySem.W.keepIn K (.ref fU) = true)
    (GV : FnOk P w K mg base CX0 6 fV dV ["told", "plain"] (spSame K C B)) (bV : Binds K dV ["told", "plain"] []) (gV : mg "_law_same_book" = some (.ref fV)) (kV : PySem.W.keepIn K (.ref fV) = true) :
    FnOk P w K mg base CX0 10 f fd ["dice"] spRight := by
  have GM : FnOk P w K mg base CX0 2 fM dM ["dice", "items"] (spMixed K) := ok_mixed D T
  refine F.ok scRight (fun vs H Q E h => ?_) (fun cdv A outer s H vs Q E hr h => ?_)
  · obtain ⟨d, k, rfl, _⟩ := h
    rfl
  · obtain ⟨d, k, rfl, di, hk, q⟩ := h
    have hu := hr.units
    have hu1 : ∀ {u : Nat}, u + 64 < cLine → u + 1 < cLine := fun h => by omega
    have r1 : Room 1 _ := hr.mono (by decide)
    have r2 : Room 2 _ := hr.mono (by decide)
    have r3 : Room 3 _ := hr.mono (by decide)
    have r4 : Room 4 _ := hr.mono (by decide)
    have r6 : Room 6 _ := hr.mono (by decide)
    refine ⟨_, (pss_cons (ps_set (i := 1) scRight.nd rfl (.inl rfl) (pe_call GB r4 (by rfl) gB kB bB .nil pass0 (pa_cons (pv 0) (pa_cons pe_int (pa_cons pe_int pa_nil))))) (pss_cons (ps_set (i := 2) scRight.nd rfl (.inl rfl) (pe_slice sl_list (pe_call GL r1 (by rfl) gL kL bL .nil pass0 (pa_cons (pv 1) pa_nil)) po_none (po_some pe_int))) (pss_cons (ps_for PassesOwn.never rfl (pi_range1 rfl T.range (pa_cons pe_int pa_nil)) (pg_name (i := 3) scRight.nd rfl (.inl rfl)) (pss_cons (ps_set (i := 4) scRight.nd rfl (.inl rfl) (pe_call GM r2 (by rfl) D.gM D.FM.kp D.bM .nil pass0 (pa_cons (pv 0) (pa_cons (pv 2) pa_nil)))) (pss_cons (ps_if (pt_cmpR op_gt (pv 3) pe_int (nomark _)) (pss_one (ps_set (i := 4) scRight.nd rfl (.inl rfl) (pe_call GS r3 (by rfl) gS kS bS .nil pass0 (pa_cons (pv 0) (pa_cons (pv 4) pa_nil))))) pss_nil) (pss_cons (ps_if (PW.pt (pw_and (pt_cmpR op_gt (pv 3) pe_int (nomark _)) (pw_and (pt_cmpR (op_eqE hu) (pe_lc (own := [("line", 7)]) (g := gName 7) (by rfl) scRight.nd (pi_list (pv 4)) (blkOk_by (own := [("line", 7)]) (N := ["dice", "plain", "lines", "turn", "some", "told", "due", "line"]) (sc := defScope sLRight) (by decide +kernel)) (fun _ _ _ _ _ => pg_name (i := 7) scRight.nd rfl (.inl rfl)) (fun _ _ _ _ _ => pts_one (pt_not (pt_val (pe_callB (call_isiK (K := K) rfl) (by rfl) T.isi boot_isi10 (pa_cons (pv 7) (pa_cons (pe_bltn (v := .ty "str") (by rfl) T.str boot_str10 rfl) pa_nil)))))) (fun _ _ _ _ _ => pv 7)) (pe_lst pa_nil) (nomark _)) (pw_and1 (pt_cmpR (op_neL hu) (pv 4) (pe_lst pa_nil) (nomark _)))))) (pss_one (ps_set (i := 4) scRight.nd rfl (.inl rfl) (pe_call GS r3 (by rfl) gS kS bS .nil pass0 (pa_cons (pv 0) (pa_cons (pv 4) pa_nil))))) pss_nil) (pss_cons (ps_set (i := 4) scRight.nd rfl (.inl rfl) (pe_slice sl_list (pv 4) po_none (po_some pe_int))) (pss_cons (ps_par (i := 5) (j := 6) (by rfl) scRight.nd rfl rfl (by decide) rfl rfl (pa_cons (pe_call GT hr (by rfl) gT kT bT .nil pass0 (pa_cons (pv 4) pa_nil)) (pa_cons (pe_call GU r4 (by rfl) gU kU bU .nil pass0 (pa_cons (pv 4) pa_nil)) pa_nil)) (by rfl)) (pss_cons (ps_if (PW.pt (pw_or (pt_cmpR op_ne (pe_ix ix_list (pv 5) pe_int (fun _ _ => rfl)) (pe_ix ix_list (pv 6) pe_int (fun _ _ => rfl)) (nomark _)) (pw_or1 (PW.pt (pw_and (pt_cmpR op_eq (pe_ix ix_list (pv 6) pe_int (fun _ _ => rfl)) pe_str (nomark _)) (pw_and1 (pt_not (pt_val (pe_call GV r6 (by rfl) gV kV bV .nil pass0 (pa_cons (pe_ix ix_list (pv 5) pe_int (fun _ _ => rfl)) (pa_cons (pe_ix ix_list (pv 6) pe_int (fun _ _ => rfl)) pa_nil))))))))))) (pss_one (ps_ret pe_bl)) pss_nil) (pss_one (ps_if (PW.pt (pw_and (pt_cmpR op_eq (pe_ix ix_list (pv 6) pe_int (fun _ _ => rfl)) pe_str (nomark _)) (pw_and1 (pt_cmpR op_ne (pe_ix ix_list (pv 5) pe_int (fun _ _ => rfl)) (pe_ix ix_list (pv 6) pe_int (fun _ _ => rfl)) (nomark _))))) (pss_one (ps_ret pe_bl)) pss_nil))))))))) (pss_one (ps_ret pe_bl))))), ?_⟩
    refine ⟨_, rfl, d, 5, 2, k, rfl, di, by omega, by decide, by decide, by decide, by decide, fun l g rs p H1 an DL dr eg rs1 rs5 pd np k1 d1 => ?_⟩
    subst eg
    refine ⟨_, rfl, p, l, "r", rs, rfl, an.pl, an.ok, fun l' q0 H2 pm _ nq0 s2 hq0 => ?_⟩
    refine ⟨_, rfl, q0, _, rfl, SqL.of hq0, fun lp nlp => ?_⟩
    rw [show ((9 : Int)) = ((9 : Nat) : Int) from rfl]
    have gzl := lines_gz DL pm dr
    have ecut : cutV ((bkLines l' "r" rs).map V.str) none (some ((9 : Nat) : Int)) = ((bkLines l' "r" rs).take 9).map V.str := by rw [cut_to, List.map_take]
    rw [ecut]
    have gzz : ∀ z ∈ (bkLines l' "r" rs).take 9, Gz 9 z := fun z m => gzl z (List.mem_of_mem_take m)
    have lz9 : ((bkLines l' "r" rs).take 9).length ≤ 9 := by rw [List.length_take]; omega
    have lz1 : ((bkLines l' "r" rs).take 9) ≠ [] := fun e => by
      have e1 := congrArg List.length e
      rw [List.length_take] at e1
      have e2 : (bkLines l' "r" rs).length = l'.length + (1 + rs.length) := by unfold bkLines; rw [List.length_append, List.length_map, List.length_cons, List.length_map]; omega
      rw [e2] at e1
      simp at e1
    generalize (bkLines l' "r" rs).take 9 = zs at gzz lz9 lz1 ⊢
    clear gzl ecut
    have s3 := s2.trans (Same.new nlp (o := .lst (zs.map V.str)))
    have hlp : (upd H2 lp (.lst (zs.map V.str))) lp = some (.lst (zs.map V.str)) := upd_same
    have d3 := d1.same s3
    have lpd : lp ≠ d := fun e => by
      obtain ⟨ds, x⟩ := d1.there
      have := s2 _ _ x
      rw [e, this] at nlp
      cases nlp
    have k3 := k1.trans (Kp.same (d := d) s3)
    generalize upd H2 lp (.lst (zs.map V.str)) = H3 at hlp d3 k3 ⊢
    have lzm : (zs.map V.str).length = zs.length := List.length_map _
    have dxn : ∀ {G : Hp} {m : Nat} {x : Addr}, Dice G d m → G x = none → x ≠ d := fun {G m x} dg n e => by
      obtain ⟨ds, y⟩ := dg.there
      rw [e, y] at n
      cases n
    refine ⟨_, rfl, by decide, by decide, ?_⟩
    refine for_range (lo := 0) (n := 6) (fun i σ G => ∃ (v3 v4 v5 v6 v7 : Option V), σ = [some (.ref d), some (.ref p), some (.ref lp), v3, v4, v5, v6, v7] ∧ Kp d H G ∧ G lp = some (.lst (zs.map V.str)) ∧ Dice G d (k + 400 + 40 * i))
      ⟨none, none, none, none, none, rfl, k3, hlp, d3⟩ ?_ ?_
    · rintro i σ G hi ⟨v3, v4, v5, v6, v7, rfl, kp, hlp, dg⟩
      refine ⟨_, rfl, _, rfl, d, lp, _, zs.map V.str, rfl, lpd, SqL.of hlp, by rw [lzm]; omega, dg, by rw [lzm]; omega, fun q1 ys G1 q1d nq1 kp1 hq1 pm1 dg1 => ?_⟩
      obtain ⟨zs1, pz, rfl⟩ := perm_map pm1
      rw [lzm] at dg1
      have l1 := pz.length_eq
      have gz1 : ∀ z ∈ zs1, Gz 9 z := fun z m => gzz z (pz.mem_iff.mp m)
      have ne1 : zs1 ≠ [] := fun e => lz1 (by rw [e] at l1; exact List.length_eq_zero_iff.mp l1.symm)
      have hlp1 : G1 lp = some (.lst (zs.map V.str)) := kp1 _ _ lpd hlp
      have kp1 := kp.trans kp1
      refine gname_in ?_
      dsimp only
      -- spoilt once
      refine seqJ (fun σ' G' => ∃ (q2 : Addr) (xs : List V), σ' = [some (.ref d), some (.ref p), some (.ref lp), some (.int (0 + (i : Int))), some (.ref q2), v5, v6, v7] ∧ q2 ≠ d ∧ G' q2 = some (.lst xs) ∧ xs.length ≤ 10 ∧ (∀ v ∈ xs, Lg 11 (Hm d G') v) ∧ Kp d H G' ∧ G' lp = some (.lst (zs.map V.str)) ∧ Dice G' d (k + 400 + 40 * i + 19)) (fun N nx => ?_) ?_
      · refine ⟨_, rfl, _, _, rfl, rfl, _, rfl, ite2 (fun cw => ?_) (fun cw => ?_)⟩
        · refine ⟨_, rfl, _, rfl, d, q1, zs1, 9, _, rfl, q1d, hq1, ne1, by omega, gz1, by decide, by decide, dg1, by omega, fun L xs G2 kp2 Ld nL hL lx lgx dg2 => ?_⟩
          exact nx _ _ ⟨L, xs, rfl, Ld, hL, by omega, lgx, kp1.trans kp2, kp2 _ _ lpd hlp1, dg2.more (by omega) (by omega)⟩
        · refine nx _ _ ⟨q1, _, rfl, q1d, hq1, by rw [List.length_map]; omega, fun v m => ?_, kp1, hlp1, dg1.more (by omega) (by omega)⟩
          obtain ⟨z, mz, rfl⟩ := List.mem_map.mp m
          exact Lg.str ((gz1 z mz).le (by omega))
      · rintro σ' G2 ⟨q2, xs, rfl, q2d, hq2, lx, lgx, kp2, hlp2, dg2⟩
        refine seqJ (fun σ' G' => ∃ (q2 : Addr) (v7 : Option V) (xs : List V), σ' = [some (.ref d), some (.ref p), some (.ref lp), some (.int (0 + (i : Int))), some (.ref q2), v5, v6, v7] ∧ G' q2 = some (.lst xs) ∧ (∀ v ∈ xs, Lg 13 G' v) ∧ Kp d H G' ∧ G' lp = some (.lst (zs.map V.str)) ∧ Dice G' d (k + 400 + 40 * i + 29)) (fun N nx => ?_) ?_
        · have stay : ∀ (w7 : Option V) (G4 : Hp), Same G2 G4 → N [some (.ref d), some (.ref p), some (.ref lp), some (.int (0 + (i : Int))), some (.ref q2), v5, v6, w7] G4 := fun w7 G4 s4 =>
            nx _ _ ⟨q2, w7, xs, rfl, s4 _ _ hq2, fun v m => ((lgx v m).le (by omega)).same (hm_le10.trans s4), kp2.trans (Kp.same s4), s4 _ _ hlp2, (dg2.same s4).more (by omega) (by omega)⟩
          refine ⟨_, rfl, _, _, rfl, rfl, _, rfl, ite2 (fun cw => ?_) (fun cw => ?_)⟩
          case refine_2 => exact if_false_of rfl (stay v7 G2 (Same.refl _))
          refine ⟨_, rfl, q2, rfl, ⟨_, SqL.of hq2⟩, fun D nD => ?_⟩
          refine lc_list (K := K) (a := q2) (xs := xs) (fun j G7 => ∃ ws : List V, G7 D = some (.lst ws) ∧ ws.length ≤ j ∧ (ws = [] ↔ ∀ v ∈ xs.take j, ∃ z, v = .str z) ∧ Same G2 G7)
            ⟨[], upd_same, Nat.le_refl _, by simp, Same.new nD⟩ (fun j G7 _ ⟨_, _, _, _, s⟩ => SqL.of (s _ _ hq2)) ?_ ?_
          · rintro j x G7 hx ⟨ws, eD, lw, iff, s7⟩
            have mx := List.mem_of_getElem? hx
            have jl := (List.getElem?_eq_some_iff.mp hx).1
            obtain ⟨⟨ty, kd0⟩, gzx⟩ := lgx x mx
            have kd := kd0.same (hm_le10.trans s7)
            have step : (∀ v ∈ xs.take (j + 1), ∃ z, v = .str z) ↔ (∀ v ∈ xs.take j, ∃ z, v = .str z) ∧ ∃ z, x = .str z := by
              rw [List.take_add_one, hx]
              constructor
              · intro h
                exact ⟨fun r m => h r (List.mem_append_left _ m), h x (List.mem_append_right _ (by simp))⟩
              · rintro ⟨h1, h2⟩ r m
                rcases List.mem_append.mp m with m | m
                · exact h1 r m
                · have e : r = x := by simpa using m
                  rw [e]
                  exact h2
            have yes : ((∃ z, x = .str z) → False) → ∃ acc, G7 D = some (.lst acc) ∧ acc.length < sizeLine ∧ ∃ ws : List V, (upd G7 D (.lst (acc ++ [x]))) D = some (.lst ws) ∧ ws.length ≤ j + 1 ∧ (ws = [] ↔ ∀ v ∈ xs.take (j + 1), ∃ z, v = .str z) ∧ Same G2 (upd G7 D (.lst (acc ++ [x]))) := fun no => by
              refine ⟨ws, eD, by rw [sizeLine_eq]; omega, _, upd_same, by rw [List.length_append]; simp; omega, ?_, fun b o q => by rw [upd_ne (ne_of_none q nD)]; exact s7 b o q⟩
              rw [step]
              constructor
              · intro h
                simp at h
              · rintro ⟨_, h⟩
                exact absurd h no
            refine ⟨rfl, _, rfl, x, _, _, _, _, rfl, .ty "str", kd.ty, kit_str kd, _, rfl, ?_⟩
            clear kd0
            cases kd with
            | str z => exact if_false_of rfl ⟨ws, eD, by omega, by rw [step, iff]; exact ⟨fun h => ⟨h, z, rfl⟩, fun h => h.1⟩, s7⟩
            | _ => exact if_true_of rfl ⟨_, rfl, yes (fun ⟨z, e⟩ => by cases e)⟩
          rintro G7 ⟨ws, eD, lw, iff, s7⟩
          rw [List.take_length] at iff
          refine ⟨by show 0 ≤ sizeLine; decide, fun e ne => ?_⟩
          have s8 := s7.trans (Same.new ne (o := .lst []))
          refine ⟨D, e, ws, rfl, rfl, SqL.of ((Same.new ne) _ _ eD), SqL.of upd_same, _, rfl, ?_⟩
          by_cases c : ws = []
          case neg => exact if_false_of (by cases ws with | nil => exact absurd rfl c | cons _ _ => rfl) (if_false_of rfl (stay _ _ s8))
          obtain ⟨zs2, rfl, gz2⟩ := strs_of lgx (iff.mp c)
          refine if_true_of (by rw [c]; rfl) ⟨_, rfl, by show 0 ≤ sizeLine; decide, fun e2 ne2 => ?_⟩
          have s9 := s8.trans (Same.new ne2 (o := .lst []))
          refine ⟨q2, e2, _, _, rfl, rfl, SqL.of (s9 _ _ hq2), SqL.of upd_same, ?_⟩
          rw [List.length_map] at lx
          by_cases c2 : zs2 = []
          · exact .inr ⟨by rw [c2]; rfl, fun v m => (by rw [c2] at m; cases m), _, rfl, if_false_of rfl (stay _ _ s9)⟩
          · refine .inl ⟨by rw [List.length_map]; intro x; exact c2 (List.length_eq_zero_iff.mp x), _, rfl, if_true_of rfl ?_⟩
            refine ⟨_, rfl, _, rfl, d, q2, zs2, 11, _, rfl, q2d, s9 _ _ hq2, c2, by omega, gz2, by decide, by decide, dg2.same s9, by omega, fun L xs G4 kp4 Ld nL hL lx lgx dg4 => ?_⟩
            exact nx _ _ ⟨L, _, xs, rfl, hL, fun v m => (lgx v m).same hm_le10, (kp2.trans (Kp.same s9)).trans kp4, kp4 _ _ lpd (s9 _ _ hlp2), dg4.more (by omega) (by omega)⟩
        · rintro σ' G3 ⟨q3, v7, xs, rfl, hq3, lgx, kp3, hlp3, dg3⟩
          refine ⟨_, rfl, _, rfl, q3, _, rfl, SqL.of hq3, fun sp nsp => ?_⟩
          rw [cut_to]
          have s4 := Same.new nsp (o := .lst (xs.take 9))
          have hsp : (upd G3 sp (.lst (xs.take 9))) sp = some (.lst (xs.take 9)) := upd_same
          have lns : ∀ v ∈ xs.take 9, Lg 13 (upd G3 sp (.lst (xs.take 9))) v := fun v m => (lgx v (List.mem_of_mem_take m)).same s4
          have l9 : (xs.take 9).length ≤ 9 := by rw [List.length_take]; omega
          have kp4 := kp3.trans (Kp.same (d := d) s4)
          have hlp4 := s4 _ _ hlp3
          have dg4 := dg3.same s4
          generalize upd G3 sp (.lst (xs.take 9)) = G4 at hsp lns kp4 hlp4 dg4 ⊢
          generalize xs.take 9 = rest at hsp lns l9 ⊢
          clear hq3 lgx kp3 hlp3 dg3 s4
          have nm := lg_nm lns
          refine ⟨_, rfl, sp, rest, rfl, hsp, fun v m => (lns v m).ln (by decide), l9, ⟨Dn, nm⟩, fun a1 xs1 G5 s5 na1 ha1 td => ?_⟩
          refine ⟨_, rfl, sp, rest, rfl, s5 _ _ hsp, fun v m => ((lns v m).same s5).ln (by decide), by omega, ⟨Dn, nm⟩, fun a2 xs2 G6 s6 na2 ha2 du => ⟨_, _, rfl, ?_⟩⟩
          have kp6 := kp4.trans (Kp.same (d := d) (s5.trans s6))
          have hlp6 := (s5.trans s6) _ _ hlp4
          have dg6 := dg4.same (s5.trans s6)
          have h1 := s6 _ _ ha1
          obtain ⟨t, x, y, ex1, ex2, fineF, parseF⟩ := told_due td du s6
          subst ex1 ex2
          clear td du
          dsimp only
          refine seqJ (fun σ' G' => Same G6 G' ∧ σ' = [some (.ref d), some (.ref p), some (.ref lp), some (.int (0 + (i : Int))), some (.ref sp), some (.ref a1), some (.ref a2), v7]) (fun N nx => ?_) ?_
          · refine ⟨_, rfl, a1, _, 0, .str t, rfl, rfl, SqL.of h1, atI_nat (j := 0) rfl, _, rfl, a2, _, 0, .str t, rfl, rfl, SqL.of ha2, atI_nat (j := 0) rfl, rfl, _, rfl, if_false_of (by simp) ?_⟩
            refine ⟨_, rfl, a2, _, 0, .str t, rfl, rfl, SqL.of ha2, atI_nat (j := 0) rfl, rfl, _, rfl, ?_⟩
            by_cases c : t = "fine"
            case neg => exact if_false_of (decide_eq_false fun e => c (V.str.inj e)) (if_false_of rfl (nx _ _ ⟨Same.refl _, rfl⟩))
            obtain ⟨o, dd, l, l', g, rs, rfl, rfl, at_, pm, srt, pl, bk⟩ := fineF c
            refine if_true_of (decide_eq_true (by rw [c])) ?_
            refine ⟨_, rfl, a1, _, 1, .ref o, rfl, rfl, SqL.of h1, atI_nat (j := 1) rfl, _, rfl, a2, _, 1, .ref dd, rfl, rfl, SqL.of ha2, atI_nat (j := 1) rfl, o, dd, l, l', g, rs, rfl, at_, pm, srt, pl, bk, fun G7 s7 => ⟨_, rfl, if_false_of rfl (nx _ _ ⟨s7, rfl⟩)⟩⟩
          · rintro σ' G7 ⟨s7, rfl⟩
            have done : ∃ u3 u4 u5 u6 u7 : Option V, [some (V.ref d), some (.ref p), some (.ref lp), some (.int (0 + (i : Int))), some (.ref sp), some (.ref a1), some (.ref a2), v7] = [some (.ref d), some (.ref p), some (.ref lp), u3, u4, u5, u6, u7] ∧ Kp d H G7 ∧ G7 lp = some (.lst (zs.map V.str)) ∧ Dice G7 d (k + 400 + 40 * (i + 1)) :=
              ⟨_, _, _, _, _, rfl, kp6.trans (Kp.same s7), s7 _ _ hlp6, (dg6.same s7).more (by omega) (by omega)⟩
            refine ⟨_, rfl, a2, _, 0, .str t, rfl, rfl, SqL.of (s7 _ _ ha2), atI_nat (j := 0) rfl, rfl, _, rfl, ?_⟩
            by_cases c : t = "parse"
            case neg => exact if_false_of (decide_eq_false fun e => c (V.str.inj e)) (if_false_of rfl done)
            obtain ⟨n, rfl, rfl⟩ := parseF c
            refine if_true_of (decide_eq_true (by rw [c])) ?_
            exact ⟨_, rfl, a1, _, 1, .int n, rfl, rfl, SqL.of (s7 _ _ h1), atI_nat (j := 1) rfl, _, rfl, a2, _, 1, .int n, rfl, rfl, SqL.of (s7 _ _ ha2), atI_nat (j := 1) rfl, rfl, _, rfl, if_false_of (by simp) done⟩
    · rintro σ G ⟨v3, v4, v5, v6, v7, rfl, kp, hlp, dg⟩
      refine q _ kp ?_
      exact dg.more (by omega) (by omega)
end
end Pr
namespace Pr
open PySem PySem.Spec PyProof.Rows L2 Gd
/-! ### law -/
def spLaw (K : PySem.W.Frag) : Sp := fun vs H Q _ => ∃ (a : Addr) (ns : List Int), vs = [.ref a] ∧ SqL K H a (ns.map V.int) ∧ ns.length ≤ 63 ∧ ∀ H', Q (.bl true) H'
def spots (n : Int) : Int := if (if n < 4 then n else 4) > 1 then (if n < 4 then n else 4) else 1
theorem spots_le (n : Int) : 1 ≤ spots n ∧ spots n ≤ 4 := by
  unfold spots
  split <;> split <;> omega
theorem Kp.seq2 {K : PySem.W.Frag} {d a : Addr} {H0 H1 H2 : Hp} {xs : List V} (nd : H0 d = none) (s : Same H0 H1) (k : Kp d H1 H2) (h : SqL K H0 a xs) : SqL K H2 a xs := by
  rcases h with (h | ⟨o, h⟩) | h
  · exact .inl (.inl (k _ _ (ne_of_none h nd) (s _ _ h)))
  · exact .inl (.inr ⟨o, k _ _ (ne_of_none h nd) (s _ _ h)⟩)
  · exact .inr h
theorem whB_of {f : Str → Nat} : ∀ (zs : List Str) (n : Nat), Wh f n zs → whB f n zs = true
  | [], n, h => decide_eq_true (p := n = 0) h
  | z :: zs, 0, h => h.elim
  | z :: zs, n + 1, h => whB_of zs _ h
theorem eqL9 {K : PySem.W.Frag} {H : Hp} {x y : V} {Q : VK} {ds : List PyData} (hx : Dp K H x (.list ds)) (hy : Dp K H y (.list ds)) (hs : SeqAt.shaped (.list ds) = true) (q : Q (.bl true) H) : rEqD K x y H Q :=
  ⟨_, _, hx, hy, hs, hs, by rw [SeqAt.eqv_refl _ (SeqAt.canLay_of_shaped hs)]; exact q⟩
/-- a text times a small number -/
def repT (z : Str) (k : Nat) : Str := ⟨(List.replicate k z.cps).foldl (· ++ ·) #[]⟩
def rRepT : R2 := fun x y H Q => ∃ z k, x = .str z ∧ y = .int k ∧ 2 ≤ k ∧ k ≤ 1000 ∧ 1 ≤ z.length ∧ z.length ≤ 100 ∧ Q (.str (repT z k.toNat)) H
section
variable {X : Cx}
theorem foldl_size10 (c : Array Nat) : ∀ (k : Nat) (a : Array Nat), ((List.replicate k c).foldl (· ++ ·) a).size = a.size + k * c.size
  | 0, a => by simp
  | k + 1, a => by
    rw [List.replicate_succ, List.foldl_cons, foldl_size10 c k (a ++ c), Array.size_append, Nat.succ_mul]
    omega
theorem op_repT : OpR X (binaryOp .Mult) rRepT := by
  intro pins s σ H x y v u Q I rx ry h
  obtain ⟨z, k, rfl, rfl, h2, h5, hz1, hz, q⟩ := h
  obtain ⟨t, rfl⟩ := rx
  obtain ⟨t', rfl⟩ := ry
  have k1 : ¬ k < 1 := by omega
  have e1 : (k == 1 || z.length == 0) = false := by
    have a1 : (k == 1) = false := by rw [beq_eq_false_iff_ne]; omega
    have a2 : (z.length == 0) = false := by rw [beq_eq_false_iff_ne]; omega
    rw [a1, a2]
    rfl
  have hk : (k.toNat : Int) = k := Int.toNat_of_nonneg (by omega)
  have hm : k.toNat * z.length ≤ 1000 * 100 := Nat.mul_le_mul (by omega) hz
  have es : (repT z k.toNat).length ≤ sizeLine := by
    show ((List.replicate k.toNat z.cps).foldl (· ++ ·) #[]).size ≤ sizeLine
    have hc : z.cps.size = z.length := rfl
    rw [foldl_size10, hc, sizeLine_eq]
    simp
    omega
  refine PySem.P.mul_str ?_ (fun _ _ => ?_) (fun _ _ => ?_) ?_
  · rw [decide_eq_false (by omega), decide_eq_false (by omega)]
    rfl
  · have hl : (z.length : Int) * k ≤ 2 ^ 63 - 1 := by
      rw [← hk, ← Int.natCast_mul, Nat.mul_comm]
      omega
    have := Int.le_ediv_of_mul_le (a := z.length) (b := 2 ^ 63 - 1) (c := k) (by omega) hl
    omega
  · show decide (_ > sizeLine) = false
    exact decide_eq_false (by rw [sizeLine_eq, Nat.mul_comm]; omega)
  · rw [if_neg k1, e1, if_neg Bool.false_ne_true]
    exact ⟨es, .str (repT z k.toNat), H, I.tok _, ⟨_, rfl⟩, q⟩
end
/-! the fixed rows -/
def rowsL : List (List Str) := [[], ["goal r"], ["op c 0"], ["op c 0", "goal c"], ["op c 0", "goal r", "goal r"], ["op c 0", "op c 1"], ["op c 0", "goal r", "rule r 0 c c"], ["op c 1", "goal r", "rule r 0 c c c c c c c r"], ["op c 1", "goal r", "rule r 0 c c c c c c r"], ["op c 0", "goal r", "rule r 0 r"], ["op c 0", "goal r", "rule r 10 c"], ["op c 0", "goal r", "rule r 01 c"]]
def dues : List Str := ["operators", "operators", "book", "book", "parse", "parse", "book", "parse", "fine", "book", "parse", "parse"]
theorem rows_gz : ∀ L ∈ rowsL, (∀ z ∈ L, (∀ w ∈ sp z, w ∈ W0) ∧ (sp z).length ≤ 50) ∧ L.length ≤ 9 := by decide +kernel
theorem rows_lg {L : List Str} (m : L ∈ rowsL) (G : Hp) : ∀ v ∈ L.map V.str, Lg 50 G v := fun v mv => by
  obtain ⟨z, mz, rfl⟩ := List.mem_map.mp mv
  obtain ⟨a, b⟩ := (rows_gz L m).1 z mz
  exact Lg.str ⟨a, b⟩
section
variable {K : PySem.W.Frag} {C B : Addr} {G : Hp} {rest xs : List V}
theorem told_parse {i : Nat} (t : Told K C B rest G xs) (e : rdB 0 S0 rest = .inl i) : xs = [.str "parse", .int (i : Int)] := by
  cases t with
  | parse e' => cases e.symm.trans e'; rfl
  | ops e' => cases e.symm.trans e'
  | book e' => cases e.symm.trans e'
  | fine e' => cases e.symm.trans e'
theorem told_ops {s : S3} (t : Told K C B rest G xs) (e : rdB 0 S0 rest = .inr s) (n : ¬ (1 ≤ s.1.length ∧ s.1.length ≤ 8)) : ∃ x, xs = [.str "operators", x] := by
  cases t with
  | parse e' => cases e.symm.trans e'
  | ops e' => exact ⟨_, rfl⟩
  | book e' o => cases e.symm.trans e'; exact absurd o n
  | fine e' _ bk => cases e.symm.trans e'; exact absurd bk.ops.few n
theorem told_book {s : S3} (t : Told K C B rest G xs) (e : rdB 0 S0 rest = .inr s) (o : 1 ≤ s.1.length ∧ s.1.length ≤ 8) (n : ¬ ∃ g, s.2.1 = some g ∧ BkOk s.1 g s.2.2) : ∃ x, xs = [.str "book", x] := by
  cases t with
  | parse e' => cases e.symm.trans e'
  | ops e' n' => cases e.symm.trans e'; exact absurd o n'
  | book e' => exact ⟨_, rfl⟩
  | fine e' eg bk => cases e.symm.trans e'; exact absurd ⟨_, eg, bk⟩ n
theorem told_fine {s : S3} {g : Str} (t : Told K C B rest G xs) (e : rdB 0 S0 rest = .inr s) (eg : s.2.1 = some g) (bk : BkOk s.1 g s.2.2) : ∃ x, xs = [.str "fine", x] := by
  cases t with
  | parse e' => cases e.symm.trans e'
  | ops e' n => cases e.symm.trans e'; exact absurd bk.ops.few n
  | book e' _ n => cases e.symm.trans e'; exact absurd ⟨_, eg, bk⟩ n
  | fine e' => exact ⟨_, rfl⟩
end
instance i1_10 : DecidableEq (Option Str × List Rl) := inferInstance
instance i2_10 : DecidableEq S3 := instDecidableEqProd
theorem ix_listK10 {X : Cx} {K : PySem.W.Frag} (h : X.K = K) : IxR X (rIxL K) := h ▸ ix_list
theorem rd0 : rdB 0 S0 (([] : List Str).map V.str) = .inr S0 := rfl
theorem rd1 : rdB 0 S0 ((["goal r"] : List Str).map V.str) = .inr ([], some "r", []) := by decide +kernel
theorem rd2 : rdB 0 S0 ((["op c 0"] : List Str).map V.str) = .inr ([("c", 0)], none, []) := by decide +kernel
theorem rd3 : rdB 0 S0 ((["op c 0", "goal c"] : List Str).map V.str) = .inr ([("c", 0)], some "c", []) := by decide +kernel
theorem rd4 : rdB 0 S0 ((["op c 0", "goal r", "goal r"] : List Str).map V.str) = .inl 2 := by decide +kernel
theorem rd5 : rdB 0 S0 ((["op c 0", "op c 1"] : List Str).map V.str) = .inl 1 := by decide +kernel
theorem rd6 : rdB 0 S0 ((["op c 0", "goal r", "rule r 0 c c"] : List Str).map V.str) = .inr ([("c", 0)], some "r", [("r", 0, ["c", "c"])]) := by decide +kernel
theorem rd7 : rdB 0 S0 ((["op c 1", "goal r", "rule r 0 c c c c c c c r"] : List Str).map V.str) = .inl 2 := by decide +kernel
theorem rd8 : rdB 0 S0 ((["op c 1", "goal r", "rule r 0 c c c c c c r"] : List Str).map V.str) = .inr ([("c", 1)], some "r", [("r", 0, ["c", "c", "c", "c", "c", "c", "r"])]) := by decide +kernel
theorem rd9 : rdB 0 S0 ((["op c 0", "goal r", "rule r 0 r"] : List Str).map V.str) = .inr ([("c", 0)], some "r", [("r", 0, ["r"])]) := by decide +kernel
theorem rd10 : rdB 0 S0 ((["op c 0", "goal r", "rule r 10 c"] : List Str).map V.str) = .inl 2 := by decide +kernel
theorem rd11 : rdB 0 S0 ((["op c 0", "goal r", "rule r 01 c"] : List Str).map V.str) = .inl 2 := by decide +kernel
theorem bk8 : BkOk [("c", 1)] "r" [("r", 0, ["c", "c", "c", "c", "c", "c", "r"])] := by
  have a1 : azB ("r" : Str) = true := by decide +kernel
  have a2 : ("r" : Str) ∉ ([("c", 1)] : List (Str × Nat)).map (·.1) := by decide +kernel
  have a3 : ∀ z ∈ (["c", "c", "c", "c", "c", "c", "r"] : List Str), azB z = true := by decide +kernel
  have a4 : (["c", "c", "c", "c", "c", "c", "r"] : List Str) ≠ [("r" : Str)] := by decide +kernel
  have a5 : ∀ z ∈ (["c", "c", "c", "c", "c", "c", "r"] : List Str), z ∉ ([("c", 1)] : List (Str × Nat)).map (·.1) → z ∈ (["r"] : List Str) := by decide +kernel
  refine ⟨opB_ok (by decide +kernel), a1, a2, by decide, fun r m => ?_, by simp, ([("r" : Str)] : List Str), by decide, fun z q => ?_⟩
  · rw [List.mem_singleton.mp m]
    exact ⟨a1, a2, Nat.zero_le _, Nat.le_of_ble_eq_true rfl, Nat.le_of_ble_eq_true rfl, a3, a4, whB_ok _ _ (by decide +kernel)⟩
  · rcases q with rfl | ⟨r, m, k, n⟩
    · exact List.mem_singleton.mpr rfl
    · rw [List.mem_singleton.mp m] at k
      rcases k with rfl | k
      · exact List.mem_singleton.mpr rfl
      · exact a5 z k n
theorem row_told {K : PySem.W.Frag} {C B : Addr} : ∀ (i : Nat) (L : List Str), rowsL[i]? = some L → ∀ (G : Hp) (xs : List V), Told K C B (L.map V.str) G xs → ∃ z x, dues[i]? = some z ∧ xs = [.str z, x] ∧ (i = 4 ∨ i = 7 → z = "parse" ∧ x = .int 2) := by
  intro i L h G xs t
  have no : ∀ {j : Nat} {A : Prop}, j ≠ 4 → j ≠ 7 → (j = 4 ∨ j = 7 → A) := fun h k x => x.elim (fun e => absurd e h) (fun e => absurd e k)
  rcases i with _ | _ | _ | _ | _ | _ | _ | _ | _ | _ | _ | _ | i
  · cases h; obtain ⟨x, e⟩ := told_ops t rd0 (by decide); exact ⟨_, x, rfl, e, no (by decide) (by decide)⟩
  · cases h; obtain ⟨x, e⟩ := told_ops t rd1 (by decide); exact ⟨_, x, rfl, e, no (by decide) (by decide)⟩
  · cases h; obtain ⟨x, e⟩ := told_book t rd2 (by decide) (fun ⟨g, e, _⟩ => by cases e); exact ⟨_, x, rfl, e, no (by decide) (by decide)⟩
  · cases h
    obtain ⟨x, e⟩ := told_book t rd3 (by decide) (fun ⟨g, e, bk⟩ => by cases e; exact bk.gnew (by simp))
    exact ⟨_, x, rfl, e, no (by decide) (by decide)⟩
  · cases h; exact ⟨_, _, rfl, told_parse t rd4, fun _ => ⟨rfl, rfl⟩⟩
  · cases h; exact ⟨_, _, rfl, told_parse t rd5, no (by decide) (by decide)⟩
  · cases h
    obtain ⟨x, e⟩ := told_book t rd6 (by decide) (fun ⟨g, e, bk⟩ => by
      have := whB_of _ _ (bk.rules _ List.mem_cons_self).whole
      exact absurd this (by decide +kernel))
    exact ⟨_, x, rfl, e, no (by decide) (by decide)⟩
  · cases h; exact ⟨_, _, rfl, told_parse t rd7, fun _ => ⟨rfl, rfl⟩⟩
  · cases h; obtain ⟨x, e⟩ := told_fine t rd8 rfl bk8; exact ⟨_, x, rfl, e, no (by decide) (by decide)⟩
  · cases h
    obtain ⟨x, e⟩ := told_book t rd9 (by decide) (fun ⟨g, e, bk⟩ => (bk.rules _ List.mem_cons_self).other rfl)
    exact ⟨_, x, rfl, e, no (by decide) (by decide)⟩
  · cases h; exact ⟨_, _, rfl, told_parse t rd10, no (by decide) (by decide)⟩
  · cases h; exact ⟨_, _, rfl, told_parse t rd11, no (by decide) (by decide)⟩
  · cases h
theorem dues_shaped : SeqAt.shaped (.list (dues.map strD)) = true := by decide +kernel
def p2D : List PyData := [strD "parse", .int 2]
theorem p2_dp {K : PySem.W.Frag} {H : Hp} : DpAll K H [V.str "parse", .int 2] p2D := .cons (.str _) (.cons (.int _) .nil)
theorem p2_shaped : SeqAt.shaped (.list p2D) = true := by decide +kernel
theorem row6 : ("rule r 0 " : Str) ++ ("c c" : Str) = "rule r 0 c c" := by decide +kernel
theorem row7 : ("rule r 0" : Str) ++ repT (" c" : Str) (7 : Int).toNat ++ (" r" : Str) = "rule r 0 c c c c c c c r" := by decide +kernel
theorem row8 : ("rule r 0" : Str) ++ repT (" c" : Str) (6 : Int).toNat ++ (" r" : Str) = "rule r 0 c c c c c c r" := by decide +kernel
section
variable {P : Program} {w : World} {K : PySem.W.Frag} {mg : Str → Option Value} {base : Heap} {C B fD fG fT : Addr} {dD dG dT : FuncData}
theorem scLaw : FnScope ["script", "spot", "dice", "turn", "rows", "told", "due", "row"] ["script"] (defScope sLaw) := ⟨rfl, rfl, rfl, by decide +kernel, rfl, by decide +kernel, by decide +kernel⟩
theorem ok_law {f : Addr} {fd : FuncData} (F : Fun K "law" "law" sLaw f fd) (T : Free mg)
    (FD : Fun K "_law_dice" "_law_dice" sDice fD dD) (bD : Binds K dD ["script", "spot"] []) (gD : mg "_law_dice" = some (.ref fD))
    (GG : FnOk P w K mg base CX0 10 fG dG ["dice"] spRight) (bG : Binds K dG ["dice"] []) (gG : mg "_law_right" = some (.ref fG)) (kG : PySem.W.keepIn K (.ref fG) = true)
    (GT : FnOk P w K mg base CX0 9 fT dT ["lines"] (spLTold K C B)) (bT : Binds K dT ["lines"] []) (gT : mg "_law_told" = some (.ref fT)) (kT : PySem.W.keepIn K (.ref fT) = true) :
    FnOk P w K mg base CX0 11 f fd ["script"] (spLaw K) := by
  have GD : FnOk P w K mg base CX0 1 fD dD ["script", "spot"] (spDice K) := ok_dice FD T
  refine F.ok scLaw (fun vs H Q E h => ?_) (fun cdv A outer s H vs Q E hr h => ?_)
  · obtain ⟨a, ns, rfl, _⟩ := h
    rfl
  · obtain ⟨a, ns, rfl, hS, hlen, q⟩ := h
    have hu := hr.units
    have hu1 : ∀ {u : Nat}, u + 64 < cLine → u + 1 < cLine := fun h => by omega
    have r1 : Room 1 _ := hr.mono (by decide)
    have r9 : Room 9 _ := hr.mono (by decide)
    refine ⟨_, (pss_cons (ps_for PassesOwn.never rfl (pi_range1 rfl T.range (pa_cons (pe_callB (call_max2 rfl) (by rfl) T.max (by decide +kernel) (pa_cons pe_int (pa_cons (pe_callB (call_min2 rfl) (by rfl) T.min (by decide +kernel) (pa_cons pe_int (pa_cons (pe_callB call_len_seq (by rfl) T.len PySem.boot_len (pa_cons (pv 0) pa_nil)) pa_nil))) pa_nil))) pa_nil)) (pg_name (i := 1) scLaw.nd rfl (.inl rfl)) (pss_cons (ps_set (i := 2) scLaw.nd rfl (.inl rfl) (pe_call GD r1 (by rfl) gD FD.kp bD .nil pass0 (pa_cons (pv 0) (pa_cons (pv 1) pa_nil)))) (pss_one (ps_for PassesOwn.never rfl (pi_range1 rfl T.range (pa_cons pe_int pa_nil)) (pg_name (i := 3) scLaw.nd rfl (.inl rfl)) (pss_one (ps_if (pt_not (pt_val (pe_call GG hr (by rfl) gG kG bG .nil pass0 (pa_cons (pv 2) pa_nil)))) (pss_one (ps_ret pe_bl)) pss_nil)))))) (pss_cons (ps_set (i := 4) scLaw.nd rfl (.inl rfl) (pe_lst (pa_cons (pe_lst pa_nil) (pa_cons (pe_lst (pa_cons pe_str pa_nil)) (pa_cons (pe_lst (pa_cons pe_str pa_nil)) (pa_cons (pe_lst (pa_cons pe_str (pa_cons pe_str pa_nil))) (pa_cons (pe_lst (pa_cons pe_str (pa_cons pe_str (pa_cons pe_str pa_nil)))) (pa_cons (pe_lst (pa_cons pe_str (pa_cons pe_str pa_nil))) pa_nil)))))))) (pss_cons (ps_set (i := 4) scLaw.nd rfl (.inl rfl) (pe_op op_cat (pv 4) (pe_lst (pa_cons (pe_lst (pa_cons pe_str (pa_cons pe_str (pa_cons (pe_op op_add_str pe_str pe_str) pa_nil)))) (pa_cons (pe_lst (pa_cons pe_str (pa_cons pe_str (pa_cons (pe_op op_add_str (pe_op op_add_str pe_str (pe_op op_repT pe_str pe_int)) pe_str) pa_nil)))) pa_nil))))) (pss_cons (ps_set (i := 4) scLaw.nd rfl (.inl rfl) (pe_op op_cat (pv 4) (pe_lst (pa_cons (pe_lst (pa_cons pe_str (pa_cons pe_str (pa_cons (pe_op op_add_str (pe_op op_add_str pe_str (pe_op op_repT pe_str pe_int)) pe_str) pa_nil)))) (pa_cons (pe_lst (pa_cons pe_str (pa_cons pe_str (pa_cons pe_str pa_nil)))) pa_nil))))) (pss_cons (ps_set (i := 4) scLaw.nd rfl (.inl rfl) (pe_op op_cat (pv 4) (pe_lst (pa_cons (pe_lst (pa_cons pe_str (pa_cons pe_str (pa_cons pe_str pa_nil)))) (pa_cons (pe_lst (pa_cons pe_str (pa_cons pe_str (pa_cons pe_str pa_nil)))) pa_nil))))) (pss_cons (ps_setLc (i := 5) (own := [("row", 7)]) (g := gName 7) (by rfl) scLaw.nd rfl rfl (sw_true rfl rfl rfl (by decide +kernel)) (pi_list (pv 4)) (blkOk_by (own := [("row", 7)]) (N := ["script", "spot", "dice", "turn", "rows", "told", "due", "row"]) (sc := defScope sLaw) (by decide +kernel)) (fun _ _ _ _ _ => pg_name (i := 7) scLaw.nd rfl (.inl rfl)) (fun _ _ _ _ _ => pts_nil) (fun _ _ _ _ _ => pe_ix (ix_listK10 (K := K) rfl) (pe_call GT r9 (by rfl) gT kT bT .nil pass0 (pa_cons (pv 7) pa_nil)) pe_int (fun _ _ => rfl))) (pss_cons (ps_set (i := 6) scLaw.nd rfl (.inl rfl) (pe_lst (pa_cons pe_str (pa_cons pe_str (pa_cons pe_str (pa_cons pe_str (pa_cons pe_str (pa_cons pe_str (pa_cons pe_str (pa_cons pe_str (pa_cons pe_str (pa_cons pe_str pa_nil)))))))))))) (pss_cons (ps_set (i := 6) scLaw.nd rfl (.inl rfl) (pe_op op_cat (pv 6) (pe_lst (pa_cons pe_str (pa_cons pe_str pa_nil))))) (pss_one (ps_ret (pe_and (pe_cmpR (op_eqD hu) (pv 5) (pv 6) (nomark _)) (pe_and (pe_cmpR (op_eqD hu) (pe_call GT r9 (by rfl) gT kT bT .nil pass0 (pa_cons (pe_ix ix_list (pv 4) pe_int (fun _ _ => rfl)) pa_nil)) (pe_lst (pa_cons pe_str (pa_cons pe_int pa_nil))) (nomark _)) (pe_one (pe_cmpR (op_eqD hu) (pe_call GT r9 (by rfl) gT kT bT .nil pass0 (pa_cons (pe_ix ix_list (pv 4) pe_int (fun _ _ => rfl)) pa_nil)) (pe_lst (pa_cons pe_str (pa_cons pe_int pa_nil))) (nomark _))))))))))))))), ?_⟩
    have sl := spots_le (ns.map V.int).length
    refine ⟨_, rfl, a, _, rfl, .inl hS, _, _, rfl, _, _, rfl, _, rfl, by show -(2 ^ 62) ≤ spots _; omega, by show spots _ < 2 ^ 62; omega, ?_⟩
    refine for_range (lo := 0) (n := (spots (ns.map V.int).length).toNat) (fun i σ H' => ∃ v1 v2 v3 : Option V, σ = [some (.ref a), v1, v2, v3, none, none, none, none] ∧ SqL K H' a (ns.map V.int))
      ⟨none, none, none, rfl, hS⟩ ?_ ?_
    · rintro i σ H0 hi ⟨v1, v2, v3, rfl, hS0⟩
      have hi' : i < 64 := by omega
      refine ⟨_, rfl, _, rfl, a, ns, i, by simp, hS0, hi', fun d H1 nd s1 di => ?_⟩
      refine ⟨_, rfl, by decide, by decide, ?_⟩
      refine for_range (lo := 0) (n := 3) (fun j σ G => ∃ v3 : Option V, σ = [some (.ref a), some (.int (0 + (i : Int))), some (.ref d), v3, none, none, none, none] ∧ Kp d H1 G ∧ Dice G d (1000 * j))
        ⟨_, rfl, Kp.refl _ _, di⟩ ?_ ?_
      · rintro j σ G hj ⟨v3, rfl, kG, dG⟩
        refine ⟨_, rfl, d, 1000 * j, rfl, dG, by omega, fun H' k' d' => ⟨_, rfl, if_false_of rfl ⟨_, rfl, kG.trans k', d'⟩⟩⟩
      · rintro σ G ⟨v3, rfl, kG, dG⟩
        exact ⟨_, _, _, rfl, Kp.seq2 nd s1 kG hS0⟩
    · rintro σ H0 ⟨v1, v2, v3, rfl, hS0⟩
      clear hS0
      refine ⟨by show 0 ≤ sizeLine; decide, fun r0 nr0 => ?_⟩
      have s := Same.new nr0 (o := .lst [])
      have hr0 : (upd H0 r0 (.lst [])) r0 = some (.lst []) := upd_same
      clear s nr0
      generalize upd H0 r0 (.lst []) = Br0 at hr0 ⊢
      refine ⟨by show 1 ≤ sizeLine; decide, fun r1 nr1 => ?_⟩
      have s := Same.new nr1 (o := .lst [V.str "goal r"])
      have hr1 : (upd Br0 r1 (.lst [V.str "goal r"])) r1 = some (.lst [V.str "goal r"]) := upd_same
      have hr0 := s _ _ hr0
      clear s nr1
      generalize upd Br0 r1 (.lst [V.str "goal r"]) = Br1 at hr0 hr1 ⊢
      refine ⟨by show 1 ≤ sizeLine; decide, fun r2 nr2 => ?_⟩
      have s := Same.new nr2 (o := .lst [V.str "op c 0"])
      have hr2 : (upd Br1 r2 (.lst [V.str "op c 0"])) r2 = some (.lst [V.str "op c 0"]) := upd_same
      have hr0 := s _ _ hr0
      have hr1 := s _ _ hr1
      clear s nr2
      generalize upd Br1 r2 (.lst [V.str "op c 0"]) = Br2 at hr0 hr1 hr2 ⊢
      refine ⟨by show 2 ≤ sizeLine; decide, fun r3 nr3 => ?_⟩
      have s := Same.new nr3 (o := .lst [V.str "op c 0", .str "goal c"])
      have hr3 : (upd Br2 r3 (.lst [V.str "op c 0", .str "goal c"])) r3 = some (.lst [V.str "op c 0", .str "goal c"]) := upd_same
      have hr0 := s _ _ hr0
      have hr1 := s _ _ hr1
      have hr2 := s _ _ hr2
      clear s nr3
      generalize upd Br2 r3 (.lst [V.str "op c 0", .str "goal c"]) = Br3 at hr0 hr1 hr2 hr3 ⊢
      refine ⟨by show 3 ≤ sizeLine; decide, fun r4 nr4 => ?_⟩
      have s := Same.new nr4 (o := .lst [V.str "op c 0", .str "goal r", .str "goal r"])
      have hr4 : (upd Br3 r4 (.lst [V.str "op c 0", .str "goal r", .str "goal r"])) r4 = some (.lst [V.str "op c 0", .str "goal r", .str "goal r"]) := upd_same
      have hr0 := s _ _ hr0
      have hr1 := s _ _ hr1
      have hr2 := s _ _ hr2
      have hr3 := s _ _ hr3
      clear s nr4
      generalize upd Br3 r4 (.lst [V.str "op c 0", .str "goal r", .str "goal r"]) = Br4 at hr0 hr1 hr2 hr3 hr4 ⊢
      refine ⟨by show 2 ≤ sizeLine; decide, fun r5 nr5 => ?_⟩
      have s := Same.new nr5 (o := .lst [V.str "op c 0", .str "op c 1"])
      have hr5 : (upd Br4 r5 (.lst [V.str "op c 0", .str "op c 1"])) r5 = some (.lst [V.str "op c 0", .str "op c 1"]) := upd_same
      have hr0 := s _ _ hr0
      have hr1 := s _ _ hr1
      have hr2 := s _ _ hr2
      have hr3 := s _ _ hr3
      have hr4 := s _ _ hr4
      clear s nr5
      generalize upd Br4 r5 (.lst [V.str "op c 0", .str "op c 1"]) = Br5 at hr0 hr1 hr2 hr3 hr4 hr5 ⊢
      refine ⟨by show 6 ≤ sizeLine; decide, fun L1 nL1 => ?_⟩
      have s := Same.new nL1 (o := .lst [V.ref r0, .ref r1, .ref r2, .ref r3, .ref r4, .ref r5])
      have hL1 : (upd Br5 L1 (.lst [V.ref r0, .ref r1, .ref r2, .ref r3, .ref r4, .ref r5])) L1 = some (.lst [V.ref r0, .ref r1, .ref r2, .ref r3, .ref r4, .ref r5]) := upd_same
      have hr0 := s _ _ hr0
      have hr1 := s _ _ hr1
      have hr2 := s _ _ hr2
      have hr3 := s _ _ hr3
      have hr4 := s _ _ hr4
      have hr5 := s _ _ hr5
      clear s nL1
      generalize upd Br5 L1 (.lst [V.ref r0, .ref r1, .ref r2, .ref r3, .ref r4, .ref r5]) = BL1 at hr0 hr1 hr2 hr3 hr4 hr5 hL1 ⊢
      refine ⟨_, rfl, ?_⟩
      refine ⟨_, _, rfl, rfl, Nat.le_of_ble_eq_true rfl, ?_⟩
      rw [row6]
      refine ⟨by show 3 ≤ sizeLine; decide, fun r6 nr6 => ?_⟩
      have s := Same.new nr6 (o := .lst [V.str "op c 0", .str "goal r", .str "rule r 0 c c"])
      have hr6 : (upd BL1 r6 (.lst [V.str "op c 0", .str "goal r", .str "rule r 0 c c"])) r6 = some (.lst [V.str "op c 0", .str "goal r", .str "rule r 0 c c"]) := upd_same
      have hr0 := s _ _ hr0
      have hr1 := s _ _ hr1
      have hr2 := s _ _ hr2
      have hr3 := s _ _ hr3
      have hr4 := s _ _ hr4
      have hr5 := s _ _ hr5
      have hL1 := s _ _ hL1
      clear s nr6
      generalize upd BL1 r6 (.lst [V.str "op c 0", .str "goal r", .str "rule r 0 c c"]) = Br6 at hr0 hr1 hr2 hr3 hr4 hr5 hL1 hr6 ⊢
      refine ⟨_, _, rfl, rfl, by decide, by decide, Nat.le_of_ble_eq_true rfl, Nat.le_of_ble_eq_true rfl, _, _, rfl, rfl, Nat.le_of_ble_eq_true rfl, _, _, rfl, rfl, Nat.le_of_ble_eq_true rfl, ?_⟩
      rw [row7]
      refine ⟨by show 3 ≤ sizeLine; decide, fun r7 nr7 => ?_⟩
      have s := Same.new nr7 (o := .lst [V.str "op c 1", .str "goal r", .str "rule r 0 c c c c c c c r"])
      have hr7 : (upd Br6 r7 (.lst [V.str "op c 1", .str "goal r", .str "rule r 0 c c c c c c c r"])) r7 = some (.lst [V.str "op c 1", .str "goal r", .str "rule r 0 c c c c c c c r"]) := upd_same
      have hr0 := s _ _ hr0
      have hr1 := s _ _ hr1
      have hr2 := s _ _ hr2
      have hr3 := s _ _ hr3
      have hr4 := s _ _ hr4
      have hr5 := s _ _ hr5
      have hL1 := s _ _ hL1
      have hr6 := s _ _ hr6
      clear s nr7
      generalize upd Br6 r7 (.lst [V.str "op c 1", .str "goal r", .str "rule r 0 c c c c c c c r"]) = Br7 at hr0 hr1 hr2 hr3 hr4 hr5 hL1 hr6 hr7 ⊢
      refine ⟨by show 2 ≤ sizeLine; decide, fun M0 nM0 => ?_⟩
      have s := Same.new nM0 (o := .lst [V.ref r6, .ref r7])
      have hM0 : (upd Br7 M0 (.lst [V.ref r6, .ref r7])) M0 = some (.lst [V.ref r6, .ref r7]) := upd_same
      have hr0 := s _ _ hr0
      have hr1 := s _ _ hr1
      have hr2 := s _ _ hr2
      have hr3 := s _ _ hr3
      have hr4 := s _ _ hr4
      have hr5 := s _ _ hr5
      have hL1 := s _ _ hL1
      have hr6 := s _ _ hr6
      have hr7 := s _ _ hr7
      clear s nM0
      generalize upd Br7 M0 (.lst [V.ref r6, .ref r7]) = BM0 at hr0 hr1 hr2 hr3 hr4 hr5 hL1 hr6 hr7 hM0 ⊢
      refine ⟨L1, M0, _, _, rfl, rfl, hL1, hM0, by show 8 ≤ sizeLine; decide, fun L2 nL2 => ?_⟩
      have s := Same.new nL2 (o := .lst ([V.ref r0, .ref r1, .ref r2, .ref r3, .ref r4, .ref r5] ++ [V.ref r6, .ref r7]))
      have hL2 : (upd BM0 L2 (.lst ([V.ref r0, .ref r1, .ref r2, .ref r3, .ref r4, .ref r5] ++ [V.ref r6, .ref r7]))) L2 = some (.lst ([V.ref r0, .ref r1, .ref r2, .ref r3, .ref r4, .ref r5] ++ [V.ref r6, .ref r7])) := upd_same
      have hr0 := s _ _ hr0
      have hr1 := s _ _ hr1
      have hr2 := s _ _ hr2
      have hr3 := s _ _ hr3
      have hr4 := s _ _ hr4
      have hr5 := s _ _ hr5
      have hr6 := s _ _ hr6
      have hr7 := s _ _ hr7
      clear s nL2
      generalize upd BM0 L2 (.lst ([V.ref r0, .ref r1, .ref r2, .ref r3, .ref r4, .ref r5] ++ [V.ref r6, .ref r7])) = BL2 at hr0 hr1 hr2 hr3 hr4 hr5 hr6 hr7 hL2 ⊢
      refine ⟨_, rfl, ?_⟩
      refine ⟨_, _, rfl, rfl, by decide, by decide, Nat.le_of_ble_eq_true rfl, Nat.le_of_ble_eq_true rfl, _, _, rfl, rfl, Nat.le_of_ble_eq_true rfl, _, _, rfl, rfl, Nat.le_of_ble_eq_true rfl, ?_⟩
      rw [row8]
      refine ⟨by show 3 ≤ sizeLine; decide, fun r8 nr8 => ?_⟩
      have s := Same.new nr8 (o := .lst [V.str "op c 1", .str "goal r", .str "rule r 0 c c c c c c r"])
      have hr8 : (upd BL2 r8 (.lst [V.str "op c 1", .str "goal r", .str "rule r 0 c c c c c c r"])) r8 = some (.lst [V.str "op c 1", .str "goal r", .str "rule r 0 c c c c c c r"]) := upd_same
      have hr0 := s _ _ hr0
      have hr1 := s _ _ hr1
      have hr2 := s _ _ hr2
      have hr3 := s _ _ hr3
      have hr4 := s _ _ hr4
      have hr5 := s _ _ hr5
      have hr6 := s _ _ hr6
      have hr7 := s _ _ hr7
      have hL2 := s _ _ hL2
      clear s nr8
      generalize upd BL2 r8 (.lst [V.str "op c 1", .str "goal r", .str "rule r 0 c c c c c c r"]) = Br8 at hr0 hr1 hr2 hr3 hr4 hr5 hr6 hr7 hL2 hr8 ⊢
      refine ⟨by show 3 ≤ sizeLine; decide, fun r9 nr9 => ?_⟩
      have s := Same.new nr9 (o := .lst [V.str "op c 0", .str "goal r", .str "rule r 0 r"])
      have hr9 : (upd Br8 r9 (.lst [V.str "op c 0", .str "goal r", .str "rule r 0 r"])) r9 = some (.lst [V.str "op c 0", .str "goal r", .str "rule r 0 r"]) := upd_same
      have hr0 := s _ _ hr0
      have hr1 := s _ _ hr1
      have hr2 := s _ _ hr2
      have hr3 := s _ _ hr3
      have hr4 := s _ _ hr4
      have hr5 := s _ _ hr5
      have hr6 := s _ _ hr6
      have hr7 := s _ _ hr7
      have hL2 := s _ _ hL2
      have hr8 := s _ _ hr8
      clear s nr9
      generalize upd Br8 r9 (.lst [V.str "op c 0", .str "goal r", .str "rule r 0 r"]) = Br9 at hr0 hr1 hr2 hr3 hr4 hr5 hr6 hr7 hL2 hr8 hr9 ⊢
      refine ⟨by show 2 ≤ sizeLine; decide, fun M1 nM1 => ?_⟩
      have s := Same.new nM1 (o := .lst [V.ref r8, .ref r9])
      have hM1 : (upd Br9 M1 (.lst [V.ref r8, .ref r9])) M1 = some (.lst [V.ref r8, .ref r9]) := upd_same
      have hr0 := s _ _ hr0
      have hr1 := s _ _ hr1
      have hr2 := s _ _ hr2
      have hr3 := s _ _ hr3
      have hr4 := s _ _ hr4
      have hr5 := s _ _ hr5
      have hr6 := s _ _ hr6
      have hr7 := s _ _ hr7
      have hL2 := s _ _ hL2
      have hr8 := s _ _ hr8
      have hr9 := s _ _ hr9
      clear s nM1
      generalize upd Br9 M1 (.lst [V.ref r8, .ref r9]) = BM1 at hr0 hr1 hr2 hr3 hr4 hr5 hr6 hr7 hL2 hr8 hr9 hM1 ⊢
      refine ⟨L2, M1, _, _, rfl, rfl, hL2, hM1, by show 10 ≤ sizeLine; decide, fun L3 nL3 => ?_⟩
      have s := Same.new nL3 (o := .lst ([V.ref r0, .ref r1, .ref r2, .ref r3, .ref r4, .ref r5] ++ [V.ref r6, .ref r7] ++ [V.ref r8, .ref r9]))
      have hL3 : (upd BM1 L3 (.lst ([V.ref r0, .ref r1, .ref r2, .ref r3, .ref r4, .ref r5] ++ [V.ref r6, .ref r7] ++ [V.ref r8, .ref r9]))) L3 = some (.lst ([V.ref r0, .ref r1, .ref r2, .ref r3, .ref r4, .ref r5] ++ [V.ref r6, .ref r7] ++ [V.ref r8, .ref r9])) := upd_same
      have hr0 := s _ _ hr0
      have hr1 := s _ _ hr1
      have hr2 := s _ _ hr2
      have hr3 := s _ _ hr3
      have hr4 := s _ _ hr4
      have hr5 := s _ _ hr5
      have hr6 := s _ _ hr6
      have hr7 := s _ _ hr7
      have hr8 := s _ _ hr8
      have hr9 := s _ _ hr9
      clear s nL3
      generalize upd BM1 L3 (.lst ([V.ref r0, .ref r1, .ref r2, .ref r3, .ref r4, .ref r5] ++ [V.ref r6, .ref r7] ++ [V.ref r8, .ref r9])) = BL3 at hr0 hr1 hr2 hr3 hr4 hr5 hr6 hr7 hr8 hr9 hL3 ⊢
      refine ⟨_, rfl, ?_⟩
      refine ⟨by show 3 ≤ sizeLine; decide, fun r10 nr10 => ?_⟩
      have s := Same.new nr10 (o := .lst [V.str "op c 0", .str "goal r", .str "rule r 10 c"])
      have hr10 : (upd BL3 r10 (.lst [V.str "op c 0", .str "goal r", .str "rule r 10 c"])) r10 = some (.lst [V.str "op c 0", .str "goal r", .str "rule r 10 c"]) := upd_same
      have hr0 := s _ _ hr0
      have hr1 := s _ _ hr1
      have hr2 := s _ _ hr2
      have hr3 := s _ _ hr3
      have hr4 := s _ _ hr4
      have hr5 := s _ _ hr5
      have hr6 := s _ _ hr6
      have hr7 := s _ _ hr7
      have hr8 := s _ _ hr8
      have hr9 := s _ _ hr9
      have hL3 := s _ _ hL3
      clear s nr10
      generalize upd BL3 r10 (.lst [V.str "op c 0", .str "goal r", .str "rule r 10 c"]) = Br10 at hr0 hr1 hr2 hr3 hr4 hr5 hr6 hr7 hr8 hr9 hL3 hr10 ⊢
      refine ⟨by show 3 ≤ sizeLine; decide, fun r11 nr11 => ?_⟩
      have s := Same.new nr11 (o := .lst [V.str "op c 0", .str "goal r", .str "rule r 01 c"])
      have hr11 : (upd Br10 r11 (.lst [V.str "op c 0", .str "goal r", .str "rule r 01 c"])) r11 = some (.lst [V.str "op c 0", .str "goal r", .str "rule r 01 c"]) := upd_same
      have hr0 := s _ _ hr0
      have hr1 := s _ _ hr1
      have hr2 := s _ _ hr2
      have hr3 := s _ _ hr3
      have hr4 := s _ _ hr4
      have hr5 := s _ _ hr5
      have hr6 := s _ _ hr6
      have hr7 := s _ _ hr7
      have hr8 := s _ _ hr8
      have hr9 := s _ _ hr9
      have hL3 := s _ _ hL3
      have hr10 := s _ _ hr10
      clear s nr11
      generalize upd Br10 r11 (.lst [V.str "op c 0", .str "goal r", .str "rule r 01 c"]) = Br11 at hr0 hr1 hr2 hr3 hr4 hr5 hr6 hr7 hr8 hr9 hL3 hr10 hr11 ⊢
      refine ⟨by show 2 ≤ sizeLine; decide, fun M2 nM2 => ?_⟩
      have s := Same.new nM2 (o := .lst [V.ref r10, .ref r11])
      have hM2 : (upd Br11 M2 (.lst [V.ref r10, .ref r11])) M2 = some (.lst [V.ref r10, .ref r11]) := upd_same
      have hr0 := s _ _ hr0
      have hr1 := s _ _ hr1
      have hr2 := s _ _ hr2
      have hr3 := s _ _ hr3
      have hr4 := s _ _ hr4
      have hr5 := s _ _ hr5
      have hr6 := s _ _ hr6
      have hr7 := s _ _ hr7
      have hr8 := s _ _ hr8
      have hr9 := s _ _ hr9
      have hL3 := s _ _ hL3
      have hr10 := s _ _ hr10
      have hr11 := s _ _ hr11
      clear s nM2
      generalize upd Br11 M2 (.lst [V.ref r10, .ref r11]) = BM2 at hr0 hr1 hr2 hr3 hr4 hr5 hr6 hr7 hr8 hr9 hL3 hr10 hr11 hM2 ⊢
      refine ⟨L3, M2, _, _, rfl, rfl, hL3, hM2, by show 12 ≤ sizeLine; decide, fun L4 nL4 => ?_⟩
      have s := Same.new nL4 (o := .lst ([V.ref r0, .ref r1, .ref r2, .ref r3, .ref r4, .ref r5] ++ [V.ref r6, .ref r7] ++ [V.ref r8, .ref r9] ++ [V.ref r10, .ref r11]))
      have hL4 : (upd BM2 L4 (.lst ([V.ref r0, .ref r1, .ref r2, .ref r3, .ref r4, .ref r5] ++ [V.ref r6, .ref r7] ++ [V.ref r8, .ref r9] ++ [V.ref r10, .ref r11]))) L4 = some (.lst ([V.ref r0, .ref r1, .ref r2, .ref r3, .ref r4, .ref r5] ++ [V.ref r6, .ref r7] ++ [V.ref r8, .ref r9] ++ [V.ref r10, .ref r11])) := upd_same
      have hr0 := s _ _ hr0
      have hr1 := s _ _ hr1
      have hr2 := s _ _ hr2
      have hr3 := s _ _ hr3
      have hr4 := s _ _ hr4
      have hr5 := s _ _ hr5
      have hr6 := s _ _ hr6
      have hr7 := s _ _ hr7
      have hr8 := s _ _ hr8
      have hr9 := s _ _ hr9
      have hr10 := s _ _ hr10
      have hr11 := s _ _ hr11
      clear s nL4
      generalize upd BM2 L4 (.lst ([V.ref r0, .ref r1, .ref r2, .ref r3, .ref r4, .ref r5] ++ [V.ref r6, .ref r7] ++ [V.ref r8, .ref r9] ++ [V.ref r10, .ref r11])) = BL4 at hr0 hr1 hr2 hr3 hr4 hr5 hr6 hr7 hr8 hr9 hr10 hr11 hL4 ⊢
      have hL : BL4 L4 = some (.lst [V.ref r0, .ref r1, .ref r2, .ref r3, .ref r4, .ref r5, .ref r6, .ref r7, .ref r8, .ref r9, .ref r10, .ref r11]) := hL4
      clear hL4
      have pt : ∀ (i : Nat) (v : V), ([V.ref r0, .ref r1, .ref r2, .ref r3, .ref r4, .ref r5, .ref r6, .ref r7, .ref r8, .ref r9, .ref r10, .ref r11])[i]? = some v → ∃ q L, v = .ref q ∧ BL4 q = some (.lst (L.map V.str)) ∧ rowsL[i]? = some L := by
        intro i v h
        rcases i with _ | _ | _ | _ | _ | _ | _ | _ | _ | _ | _ | _ | i
        · cases h; exact ⟨_, ([] : List Str), rfl, hr0, rfl⟩
        · cases h; exact ⟨_, (["goal r"] : List Str), rfl, hr1, rfl⟩
        · cases h; exact ⟨_, (["op c 0"] : List Str), rfl, hr2, rfl⟩
        · cases h; exact ⟨_, (["op c 0", "goal c"] : List Str), rfl, hr3, rfl⟩
        · cases h; exact ⟨_, (["op c 0", "goal r", "goal r"] : List Str), rfl, hr4, rfl⟩
        · cases h; exact ⟨_, (["op c 0", "op c 1"] : List Str), rfl, hr5, rfl⟩
        · cases h; exact ⟨_, (["op c 0", "goal r", "rule r 0 c c"] : List Str), rfl, hr6, rfl⟩
        · cases h; exact ⟨_, (["op c 1", "goal r", "rule r 0 c c c c c c c r"] : List Str), rfl, hr7, rfl⟩
        · cases h; exact ⟨_, (["op c 1", "goal r", "rule r 0 c c c c c c r"] : List Str), rfl, hr8, rfl⟩
        · cases h; exact ⟨_, (["op c 0", "goal r", "rule r 0 r"] : List Str), rfl, hr9, rfl⟩
        · cases h; exact ⟨_, (["op c 0", "goal r", "rule r 10 c"] : List Str), rfl, hr10, rfl⟩
        · cases h; exact ⟨_, (["op c 0", "goal r", "rule r 01 c"] : List Str), rfl, hr11, rfl⟩
        · cases h
      clear hr0 hr1 hr2 hr3 hr4 hr5 hr6 hr7 hr8 hr9 hr10 hr11
      generalize hxs : ([V.ref r0, .ref r1, .ref r2, .ref r3, .ref r4, .ref r5, .ref r6, .ref r7, .ref r8, .ref r9, .ref r10, .ref r11]) = xs at hL pt
      have lxs : xs.length = 12 := by rw [← hxs]; rfl
      clear hxs
      refine ⟨_, rfl, L4, rfl, ⟨_, SqL.of hL⟩, fun D nD => ?_⟩
      refine lc_list (K := K) (a := L4) (xs := xs) (fun i G' => G' D = some (.lst ((dues.take i).map V.str)) ∧ Same BL4 G') ⟨upd_same, Same.new nD⟩ (fun i G' _ ⟨_, s⟩ => SqL.of (s _ _ hL)) ?_ ?_
      · rintro i v G1 hv ⟨eD, s⟩
        obtain ⟨q1, L, rfl, hq, hr⟩ := pt i v hv
        have mL := List.mem_of_getElem? hr
        have i12 : i < 12 := by
          rw [← lxs]
          exact (List.getElem?_eq_some_iff.mp hv).1
        refine ⟨rfl, _, rfl, q1, L.map V.str, rfl, s _ _ hq, fun v m => (rows_lg mL G1 v m).ln (by decide), by rw [List.length_map]; exact (rows_gz L mL).2, ⟨Dn, lg_nm (rows_lg mL G1)⟩, fun a1 xs1 G2 s2 na1 ha1 td => ?_⟩
        obtain ⟨z, x, hz, rfl, _⟩ := row_told i L hr G2 xs1 td
        refine ⟨a1, _, 0, .str z, rfl, rfl, SqL.of ha1, atI_nat (j := 0) rfl, ?_⟩
        refine ⟨_, s2 _ _ eD, by rw [List.length_map, sizeLine_eq, List.length_take]; omega, ?_, fun c o e => ?_⟩
        · rw [upd_same, List.take_add_one, List.map_append, hz]
          rfl
        · rw [upd_ne (ne_of_none e nD)]
          exact s2 _ _ (s _ _ e)
      · rintro G1 ⟨eD, s⟩
        rw [lxs] at eD
        have eD : G1 D = some (.lst (dues.map V.str)) := eD
        refine ⟨by show 10 ≤ sizeLine; decide, fun Q1 nQ1 => ⟨_, rfl, by show 2 ≤ sizeLine; decide, fun Q2 nQ2 => ⟨Q1, Q2, _, _, rfl, rfl, (Same.new nQ2) _ _ upd_same, upd_same, by show 12 ≤ sizeLine; decide, fun Q3 nQ3 => ?_⟩⟩⟩
        have s1 := (Same.new nQ1 (o := .lst [V.str "operators", .str "operators", .str "book", .str "book", .str "parse", .str "parse", .str "book", .str "parse", .str "fine", .str "book"])).trans ((Same.new nQ2 (o := .lst [V.str "parse", .str "parse"])).trans (Same.new nQ3 (o := .lst ([V.str "operators", .str "operators", .str "book", .str "book", .str "parse", .str "parse", .str "book", .str "parse", .str "fine", .str "book"] ++ [V.str "parse", .str "parse"]))))
        have s2 := s.trans s1
        have eD2 := s1 _ _ eD
        have eQ : (upd (upd (upd G1 Q1 (.lst [V.str "operators", .str "operators", .str "book", .str "book", .str "parse", .str "parse", .str "book", .str "parse", .str "fine", .str "book"])) Q2 (.lst [V.str "parse", .str "parse"])) Q3 (.lst ([V.str "operators", .str "operators", .str "book", .str "book", .str "parse", .str "parse", .str "book", .str "parse", .str "fine", .str "book"] ++ [V.str "parse", .str "parse"]))) Q3 = some (.lst (dues.map V.str)) := upd_same
        generalize upd (upd (upd G1 Q1 _) Q2 _) Q3 _ = G2 at s2 eD2 eQ ⊢
        have at_ : ∀ (j : Nat), j < 12 → (j = 4 ∨ j = 7) → ∃ q L, xs[j]? = some (V.ref q) ∧ BL4 q = some (.lst (L.map V.str)) ∧ rowsL[j]? = some L := fun j hj _ => by
          have h := List.getElem?_eq_getElem (l := xs) (i := j) (by omega)
          obtain ⟨q, L, e, hq, hr⟩ := pt j _ h
          rw [e] at h
          exact ⟨q, L, h, hq, hr⟩
        obtain ⟨q4, L4', x4, hq4, hr4⟩ := at_ 4 (by decide) (.inl rfl)
        obtain ⟨q7, L7', x7, hq7, hr7⟩ := at_ 7 (by decide) (.inr rfl)
        have m4 := List.mem_of_getElem? hr4
        have m7 := List.mem_of_getElem? hr7
        refine ⟨_, rfl, _, rfl, eqL9 (.lst (SqL.of eD2) (dp_strs dues)) (.lst (SqL.of eQ) (dp_strs dues)) dues_shaped ⟨_, rfl, if_true_of rfl ?_⟩⟩
        refine ⟨_, rfl, L4, xs, 4, .ref q4, rfl, rfl, SqL.of (s2 _ _ hL), atI_nat (j := 4) x4, q4, L4'.map V.str, rfl, s2 _ _ hq4, fun v m => (rows_lg m4 G2 v m).ln (by decide), by rw [List.length_map]; exact (rows_gz L4' m4).2, ⟨Dn, lg_nm (rows_lg m4 G2)⟩, fun a1 xs1 G3 s3 na1 ha1 td => ?_⟩
        obtain ⟨z, x, _, rfl, f4⟩ := row_told 4 L4' hr4 G3 xs1 td
        obtain ⟨rfl, rfl⟩ := f4 (.inl rfl)
        refine ⟨by show 2 ≤ sizeLine; decide, fun Q5 nQ5 => ?_⟩
        have s4 := s3.trans (Same.new nQ5 (o := .lst [V.str "parse", .int 2]))
        refine eqL9 (.lst (SqL.of ((Same.new nQ5) _ _ ha1)) p2_dp) (.lst (SqL.of upd_same) p2_dp) p2_shaped ⟨_, rfl, if_true_of rfl ?_⟩
        have s5 := s2.trans s4
        clear ha1 eD2 eQ s3 s4 s2 td na1 nQ5 s1 eD
        generalize upd G3 Q5 (.lst [V.str "parse", .int 2]) = G5 at s5 ⊢
        refine ⟨_, rfl, L4, xs, 7, .ref q7, rfl, rfl, SqL.of (s5 _ _ hL), atI_nat (j := 7) x7, q7, L7'.map V.str, rfl, s5 _ _ hq7, fun v m => (rows_lg m7 G5 v m).ln (by decide), by rw [List.length_map]; exact (rows_gz L7' m7).2, ⟨Dn, lg_nm (rows_lg m7 G5)⟩, fun a1 xs1 G3 s3 na1 ha1 td => ?_⟩
        obtain ⟨z, x, _, rfl, f4⟩ := row_told 7 L7' hr7 G3 xs1 td
        obtain ⟨rfl, rfl⟩ := f4 (.inr rfl)
        refine ⟨by show 2 ≤ sizeLine; decide, fun Q5 nQ5 => ?_⟩
        exact eqL9 (.lst (SqL.of ((Same.new nQ5) _ _ ha1)) p2_dp) (.lst (SqL.of upd_same) p2_dp) p2_shaped (q _)
end
end Pr
namespace Hk
open PySem PySem.Spec PyProof.Rows L2
/-! ### what the end of a law asks of the top, counted by the kernel off the run -/
abbrev ga := He.ga
abbrev ma := He.ma
/-- a property's getter -/
abbrev pf (K : PySem.W.Frag) (C : Addr) (m : Str) : Addr := He5.wf K C "property" m
inductive Fk where
  | fa (f : He.Fa)
  | prop (x m : Str)
  | cm
  | isi (x : Str)
  | eqs (x : Str)
  | noins (x : Str)
  | pe (x : Str)
  | cread (x : Str)
  | cmet (x m : Str)
  | strs (x : Str) (ws : List Str)
def recB (K : PySem.W.Frag) (p : Addr) : Bool := match PySem.W.recIn K p "property" with
  | some (.ref _ :: _) => true
  | _ => false
/-- an exception class of its own __init__ -/
def peB (K : PySem.W.Frag) (C : Addr) : Bool := match K.lookup C with
  | some ⟨.type "type", _, .cls cd, sl⟩ => (match cd.mro, sl.toList with
    | .ref C' :: bm, [_, _, _, _, some (.builtin n), _] => decide (C' = C) && (decide (n = "ValueError.__new__") && (!cd.hasDel && (cd.hasDict && PySem.HandSPX.refsVE bm)))
    | _, _ => false)
  | _ => false
theorem peB_ok {K : PySem.W.Frag} {C : Addr} (h : peB K C = true) : ∃ nm q N bs bm sn sub ab col dd k0 k1 k2 k3 k5, K.lookup C = some (excClassObj nm q C N bs bm true sn sub ab col dd k0 k1 k2 k3 k5 "ValueError.__new__") ∧ PySem.HandSPX.refsVE bm = true := by
  unfold peB at h
  split at h
  · rename_i dd cd sl ho
    split at h
    · rename_i C' bm k0 k1 k2 k3 n k5 hm hs
      obtain ⟨c1, h⟩ := He.ba h
      obtain ⟨c2, h⟩ := He.ba h
      obtain ⟨c3, h⟩ := He.ba h
      obtain ⟨c4, c5⟩ := He.ba h
      have c1 := of_decide_eq_true c1
      have c2 := of_decide_eq_true c2
      rw [Bool.not_eq_true'] at c3
      subst c1 c2
      obtain ⟨nm, bs, mro, ns, qn, hd, sn, sub, ab, col, del⟩ := cd
      dsimp only at hm c3 c4
      subst hm c3 c4
      have hsl : sl = #[k0, k1, k2, k3, some (.builtin "ValueError.__new__"), k5] := by
        obtain ⟨l⟩ := sl
        simp only at hs
        rw [hs]
      subst hsl
      exact ⟨nm, qn, ns, bs, bm, sn, sub, ab, col, dd, k0, k1, k2, k3, k5, ho, c5⟩
    · cases h
  · cases h
/-- texts -/
def strsB : List Value → List Str → Bool
  | [], [] => true
  | .str z _ :: vs, w :: ws => decide (z = w) && strsB vs ws
  | _, _ => false
theorem strsB_ok : ∀ {vs : List Value} {ws : List Str}, strsB vs ws = true → Vals (ws.map V.str) vs
  | [], [], _ => .nil
  | [], _ :: _, h => by cases h
  | v :: vs, [], h => by cases v <;> cases h
  | v :: vs, w :: ws, h => by
    cases v with
    | str z t =>
      obtain ⟨a, b⟩ := He.ba (show (decide (z = w) && strsB vs ws) = true from h)
      have a := of_decide_eq_true a
      subst a
      exact .cons ⟨_, rfl⟩ (strsB_ok b)
    | _ => cases h
def tupB (K : PySem.W.Frag) (a : Addr) (ws : List Str) : Bool := match K.lookup a with
  | some ⟨.type "tuple", _, .seq its _, _⟩ => decide (its.size ≤ 1000) && strsB its.toList ws
  | _ => false
theorem tupB_ok {K : PySem.W.Frag} {a : Addr} {ws : List Str} (h : tupB K a ws = true) : ∀ H : Hp, SqT K H a (ws.map V.str) := fun H => by
  unfold tupB at h
  split at h
  · rename_i dd its n sl ho
    obtain ⟨c1, c2⟩ := He.ba h
    exact .inr ⟨_, its, n, ho, rfl, rfl, Nat.le_trans (of_decide_eq_true c1) (by rw [sizeLine_eq]; decide), strsB_ok c2⟩
  · cases h
def Fk.ok (K : PySem.W.Frag) : Fk → Bool
  | .fa f => f.ok K
  | .prop x m => He.eqO (PySem.W.findIn K (.ref (ga K x)) m) (some (some (.ref (ma K (ga K x) m)))) && (He.eqO (PySem.W.specialIn K (.ref (ma K (ga K x) m)) "__get__") (some (some (.builtin "property.__get__"))) &&
      (decide (PySem.W.takesIn K (.ref (ma K (ga K x) m)) = some true) && recB K (ma K (ga K x) m)))
  | .cm => He.eqO (PySem.W.specialIn K (.builtin "object.__class__") "__get__") (some (some (.builtin "getset_descriptor.__get__"))) && decide (PySem.W.takesIn K (.builtin "object.__class__") = some true)
  | .isi x => He.eqO (PySem.W.findIn K (.ref (ga K x)) "__class__") (some (some (.builtin "object.__class__"))) && (decide (PySem.W.mroIn K (ga K x) (.type "object") = some true) && decide (PySem.W.kitOne K (.ref (ga K x)) (.ref (ga K x)) = some true))
  | .eqs x => He.eqO (PySem.W.findIn K (.ref (ga K x)) "__ne__") (some (some (.builtin "object.__ne__"))) && (decide (PySem.W.subIn K (.ref (ga K x)) (.type "object") = some true) && (PySem.W.notFirst K (ga K x) (.type "dict") && PySem.W.notFirst K (ga K x) (.type "int")))
  | .noins x => (["NoneType", "bool", "int", "str", "list", "tuple", "dict"] : List String).all fun ty => decide (PySem.W.kitOne K (.type ty) (.ref (ga K x)) = some false)
  | .pe x => peB K (ga K x) && (He.eqO (PySem.W.findIn K (.ref (ga K x)) "__setattr__") (some (some (.builtin "object.__setattr__"))) && (He.eqO (PySem.W.findIn K (.ref (ga K x)) "__getattribute__") (some (some (.builtin "BaseException.__getattribute__"))) && (He.eqO (PySem.W.findIn K (.ref (ga K x)) "__getattr__") (some none) &&
      (He.eqO (PySem.W.findIn K (.ref (ga K x)) "number") (some none) && (He.eqO (PySem.W.findIn K (.ref (ga K x)) "__init__") (some (some (.ref (ma K (ga K x) "__init__")))) && (decide (PySem.W.typeIn K (.ref (ma K (ga K x) "__init__")) = some (.type "function")) && (PySem.W.keepIn K (.ref (ga K x)) &&
      (decide (PySem.W.subIn K (.ref (ga K x)) (.type "BaseException") = some true) && (decide (PySem.W.typeIn K (.ref (ga K x)) = some (.type "type")) && (PySem.W.hasDictIn K (ga K x) && decide (PySem.W.exmOne K (.ref (ga K x)) (.ref (ga K x)) = some true)))))))))))
  | .cread x => PySem.W.readsIn K (ga K x) (.type "type") && He.eqO (PySem.W.specialIn K (.ref (ga K x)) "__getattribute__") (some (some (.builtin "type.__getattribute__")))
  | .cmet x m => He5.wrapB K (ga K x) "classmethod" "classmethod.__get__" m && PySem.W.fnIn K (He5.wf K (ga K x) "classmethod" m)
  | .strs x ws => tupB K (ga K x) ws
section
variable {K : PySem.W.Frag}
theorem noins_ok {x : Str} (c : (Fk.noins x).ok K = true) : ∀ ty ∈ (["NoneType", "bool", "int", "str", "list", "tuple", "dict"] : List String), PySem.W.kitOne K (.type ty) (.ref (ga K x)) = some false := fun ty m => of_decide_eq_true (List.all_eq_true.mp c ty m)
theorem pe_ok {x : Str} (c : (Fk.pe x).ok K = true) : (∃ nm q N bs bm sn sub ab col dd k0 k1 k2 k3 k5, K.lookup (ga K x) = some (excClassObj nm q (ga K x) N bs bm true sn sub ab col dd k0 k1 k2 k3 k5 "ValueError.__new__") ∧ PySem.HandSPX.refsVE bm = true) ∧
    PySem.W.findIn K (.ref (ga K x)) "__setattr__" = some (some (.builtin "object.__setattr__")) ∧ PySem.W.findIn K (.ref (ga K x)) "__getattribute__" = some (some (.builtin "BaseException.__getattribute__")) ∧ PySem.W.findIn K (.ref (ga K x)) "__getattr__" = some none ∧
    PySem.W.findIn K (.ref (ga K x)) "number" = some none ∧ PySem.W.findIn K (.ref (ga K x)) "__init__" = some (some (.ref (ma K (ga K x) "__init__"))) ∧ PySem.W.typeIn K (.ref (ma K (ga K x) "__init__")) = some (.type "function") ∧ PySem.W.keepIn K (.ref (ga K x)) = true ∧
    PySem.W.subIn K (.ref (ga K x)) (.type "BaseException") = some true ∧ PySem.W.typeIn K (.ref (ga K x)) = some (.type "type") ∧ PySem.W.hasDictIn K (ga K x) = true ∧ PySem.W.exmOne K (.ref (ga K x)) (.ref (ga K x)) = some true := by
  obtain ⟨c1, c⟩ := He.ba c
  obtain ⟨c2, c⟩ := He.ba c
  obtain ⟨c3, c⟩ := He.ba c
  obtain ⟨c4, c⟩ := He.ba c
  obtain ⟨c5, c⟩ := He.ba c
  obtain ⟨c6, c⟩ := He.ba c
  obtain ⟨c7, c⟩ := He.ba c
  obtain ⟨c8, c⟩ := He.ba c
  obtain ⟨c9, c⟩ := He.ba c
  obtain ⟨ca, c⟩ := He.ba c
  obtain ⟨cb, cc⟩ := He.ba c
  exact ⟨peB_ok c1, He.eqO_ok c2, He.eqO_ok c3, He.eqO_ok c4, He.eqO_ok c5, He.eqO_ok c6, of_decide_eq_true c7, c8, of_decide_eq_true c9, of_decide_eq_true ca, cb, of_decide_eq_true cc⟩
theorem cread_ok {x : Str} (c : (Fk.cread x).ok K = true) : ClX.CRead K (ga K x) (.type "type") := by
  obtain ⟨c1, c2⟩ := He.ba c
  exact ⟨c1, He.eqO_ok c2⟩
theorem cmet_ok {x m : Str} (c : (Fk.cmet x m).ok K = true) : ClX.CMet K (ga K x) (.type "type") m (ma K (ga K x) m) (He5.wf K (ga K x) "classmethod" m) := by
  obtain ⟨c1, c2⟩ := He.ba c
  exact He5.cmet_of c1 c2
theorem strs_ok {x : Str} {ws : List Str} (c : (Fk.strs x ws).ok K = true) : ∀ H : Hp, SqT K H (ga K x) (ws.map V.str) := tupB_ok c
theorem prop_ok {x m : Str} (c : (Fk.prop x m).ok K = true) : PropOf K (ga K x) m (ma K (ga K x) m) (pf K (ga K x) m) := by
  obtain ⟨c1, c⟩ := He.ba c
  obtain ⟨c2, c⟩ := He.ba c
  obtain ⟨c3, c4⟩ := He.ba c
  refine ⟨He.eqO_ok c1, He.eqO_ok c2, of_decide_eq_true c3, ?_⟩
  have h2 : (match PySem.W.recIn K (ma K (ga K x) m) "property" with
    | some (.ref _ :: _) => true
    | _ => false) = true := c4
  unfold pf He5.wf
  split at h2
  · rename_i f r e
    exact ⟨r, by rw [show PySem.W.recIn K (He.ma K (ga K x) m) "property" = some (.ref f :: r) from e]⟩
  · cases h2
theorem cm_ok (c : Fk.cm.ok K = true) : PySem.W.specialIn K (.builtin "object.__class__") "__get__" = some (some (.builtin "getset_descriptor.__get__")) ∧ PySem.W.takesIn K (.builtin "object.__class__") = some true := by
  have c0 : (He.eqO (PySem.W.specialIn K (.builtin "object.__class__") "__get__") (some (some (.builtin "getset_descriptor.__get__"))) && decide (PySem.W.takesIn K (.builtin "object.__class__") = some true)) = true := c
  obtain ⟨c1, c2⟩ := He.ba c0
  exact ⟨He.eqO_ok c1, of_decide_eq_true c2⟩
theorem isi_ok {x : Str} (c : (Fk.isi x).ok K = true) : PySem.W.findIn K (.ref (ga K x)) "__class__" = some (some (.builtin "object.__class__")) ∧ PySem.W.mroIn K (ga K x) (.type "object") = some true ∧ PySem.W.kitOne K (.ref (ga K x)) (.ref (ga K x)) = some true := by
  obtain ⟨c1, c⟩ := He.ba c
  obtain ⟨c2, c3⟩ := He.ba c
  exact ⟨He.eqO_ok c1, of_decide_eq_true c2, of_decide_eq_true c3⟩
theorem eqs_ok {x : Str} (c : (Fk.eqs x).ok K = true) : PySem.W.findIn K (.ref (ga K x)) "__ne__" = some (some (.builtin "object.__ne__")) ∧ PySem.W.subIn K (.ref (ga K x)) (.type "object") = some true ∧ PySem.W.notFirst K (ga K x) (.type "dict") = true ∧ PySem.W.notFirst K (ga K x) (.type "int") = true := by
  obtain ⟨c1, c⟩ := He.ba c
  obtain ⟨c2, c⟩ := He.ba c
  obtain ⟨c3, c4⟩ := He.ba c
  exact ⟨He.eqO_ok c1, of_decide_eq_true c2, c3, c4⟩
/-- what the names glo, meth, mkr, cls say, in the words of the ends -/
theorem at_glo {x : Str} (c : (Fk.fa (.glo x)).ok K = true) : PySem.W.nsIn K mainGlobals x = some (some (.ref (ga K x))) := He.eqO_ok c
theorem at_free {x : Str} (c : (Fk.fa (.free x)).ok K = true) : PySem.W.nsIn K mainGlobals x = some none := He.eqO_ok c
theorem at_int {x : Str} {i : Int} (c : (Fk.fa (.int x i)).ok K = true) : ∃ t, PySem.W.nsIn K mainGlobals x = some (some (.int i t)) := by
  have c2 : (match PySem.W.nsIn K mainGlobals x with
    | some (some (.int j _)) => decide (j = i)
    | _ => false) = true := c
  split at c2
  · rename_i j t e
    exact ⟨t, by rw [e, of_decide_eq_true c2]⟩
  · cases c2
end
/-! ### the Hook -/
/-- a def of the module, a method of a class, a getter of a class -/
abbrev aG (x : Str) (K : PySem.W.Frag) : Addr := ga K x
abbrev aM (x m : Str) (K : PySem.W.Frag) : Addr := ma K (ga K x) m
abbrev aP (x m : Str) (K : PySem.W.Frag) : Addr := pf K (ga K x) m
def dG (x : Str) (st : Stmt) : He5.DefA := ⟨aG x, x, x, defArgs st, defBody st, defScope st, [], []⟩
def dM (x m q : Str) (st : Stmt) : He5.DefA := ⟨aM x m, m, q, defArgs st, defBody st, defScope st, [], []⟩
def dP (x m q : Str) (st : Stmt) : He5.DefA := ⟨aP x m, m, q, defArgs st, defBody st, defScope st, [], []⟩
abbrev aC (x m : Str) (K : PySem.W.Frag) : Addr := He5.wf K (ga K x) "classmethod" m
def dC (x m q : Str) (st : Stmt) : He5.DefA := ⟨aC x m, m, q, defArgs st, defBody st, defScope st, [], []⟩
def obsK (fa : List Fk) (fn : List He5.DefA) (K : PySem.W.Frag) : He.AlD := ((fa.all fun f => f.ok K) && fn.all fun d => d.ok K, fn.map fun d => He5.fnA K (d.at_ K))
def valK (fn : List He5.DefA) : He.AlD := (true, fn.map He5.DefA.val)
def SaysK (fa : List Fk) (fn : List He5.DefA) (K : PySem.W.Frag) : Prop := obsK fa fn K = valK fn
/-- what is looked at: the module's names, then step by step what these name -/
def front (g : Addr → Option Obj) : Nat → List Addr → List Addr
  | 0, as => as
  | n + 1, as => as ++ front g n (as.flatMap fun a => match g a with
    | some o => He.refsO o
    | none => [])
def asK (g : Addr → Option Obj) : List Addr := front g 5 [mainGlobals] ++ [cStatics]
def obsKG (fa : List Fk) (fn : List He5.DefA) (g : Addr → Option Obj) : He.AlD := obsK fa fn (He.frG g (asK g))
def hookK (fa : List Fk) (fn : List He5.DefA) : PySem.W.Hook where
  α := He.AlD
  obs := fun s => obsKG fa fn s.heap.get?
  val := fun _ => valK fn
  says := fun _ h => ∃ K : PySem.W.Frag, K.In h ∧ SaysK fa fn K
  of := fun _ _ e => ⟨_, He.frG_in, e⟩
  keeps := fun _ _ _ ⟨K, hK, c⟩ k => ⟨K, PySem.W.Frag.In.keeps hK k, c⟩
theorem obsKG_eq {fa : List Fk} {fn : List He5.DefA} {g : Addr → Option Obj} {s : Shared} (h : ∀ a, g a = s.heap.get? a) : obsKG fa fn g = (hookK fa fn).obs s := by
  have e : g = s.heap.get? := funext h
  rw [e] <;> rfl
section
variable {fa : List Fk} {fn : List He5.DefA} {K : PySem.W.Frag}
theorem SaysK.fact (c : SaysK fa fn K) {f : Fk} (i : Nat) (h : fa[i]? = some f) : f.ok K = true := by
  have c1 := (He.ba (show ((fa.all fun f => f.ok K) && fn.all fun d => d.ok K) = true from congrArg (fun z : He.AlD => z.1) c)).1
  exact List.all_eq_true.mp c1 f (List.mem_of_getElem? h)
theorem SaysK.def_ (c : SaysK fa fn K) {d : He5.DefA} (i : Nat) (h : fn[i]? = some d) : ∃ fd, L2.FunD K d.name d.qual d.params d.body d.scope (d.dvs K) (d.kws K) (d.at_ K) fd := by
  have c2 := (He.ba (show ((fa.all fun f => f.ok K) && fn.all fun d => d.ok K) = true from congrArg (fun z : He.AlD => z.1) c)).2
  have e : fn.map (fun d => He5.fnA K (d.at_ K)) = fn.map He5.DefA.val := congrArg (fun z : He.AlD => z.2) c
  have e2 : (fn.map fun d => He5.fnA K (d.at_ K))[i]? = (fn.map He5.DefA.val)[i]? := by rw [e]
  rw [List.getElem?_map, List.getElem?_map, h] at e2
  exact He5.DefA.funD (Option.some.inj e2) (List.all_eq_true.mp c2 d (List.mem_of_getElem? h))
theorem SaysK.glo (c : SaysK fa fn K) {x : Str} {st : Stmt} (i : Nat) (h : fn[i]? = some (dG x st)) : ∃ fd, Fun K x x st (ga K x) fd := by
  obtain ⟨fd, F⟩ := c.def_ i h
  exact ⟨fd, He5.fun_of F⟩
theorem SaysK.met (c : SaysK fa fn K) {x m q : Str} {st : Stmt} (i : Nat) (h : fn[i]? = some (dM x m q st)) : ∃ fd, Fun K m q st (ma K (ga K x) m) fd := by
  obtain ⟨fd, F⟩ := c.def_ i h
  exact ⟨fd, He5.fun_of F⟩
theorem SaysK.get (c : SaysK fa fn K) {x m q : Str} {st : Stmt} (i : Nat) (h : fn[i]? = some (dP x m q st)) : ∃ fd, Fun K m q st (pf K (ga K x) m) fd := by
  obtain ⟨fd, F⟩ := c.def_ i h
  exact ⟨fd, He5.fun_of F⟩
theorem SaysK.cla (c : SaysK fa fn K) {x m q : Str} {st : Stmt} (i : Nat) (h : fn[i]? = some (dC x m q st)) : ∃ fd, Fun K m q st (He5.wf K (ga K x) "classmethod" m) fd := by
  obtain ⟨fd, F⟩ := c.def_ i h
  exact ⟨fd, He5.fun_of F⟩
end
/-- the law's own binding -/
theorem bindsLaw {K : PySem.W.Frag} {x qual p : Str} {st : Stmt} {f : Addr} {fd : FuncData} (F : Fun K x qual st f fd)
    (h : ∀ (kV doc pm : Value) (an : Option Addr) (cdv ct v : Value), bindArgs (PySem.W.fnOf x qual (defArgs st) (defBody st) (defScope st) .none kV doc pm an cdv ct) ⟨[v], []⟩ = pure [(p, v)]) (s : Shared) (v : Value) : BindsTo s fd ⟨[v], []⟩ [(p, v)] := by
  obtain ⟨oc, od, kV, doc, pm, an, cdv, ct, osl, rfl, lk, hcd⟩ := F.ex
  exact .of_eq (h kV doc pm an cdv ct v)
end Hk
namespace Gd
open PySem PySem.Spec PyProof.Rows L2
/-- a law's end over a head by facts, for a promise where no repr is under way -/
theorem walk_ofGE {l : PySem.W.OpenLaw} {n k : Nat} {q : Program} {loose : List Str} {XP : (Str → Option Value) → Heap → Prop} {YP : World → Heap → Prop} {d : DefRec} {CX : CXT} {x : Str}
    (hn : l.most = some n) (hn2 : n ≤ sizeLine) (hdf : d.params.defaults = []) (hr : Room k callerA)
    (F : ∀ (w : World) (mg : Str → Option Value) (fa : Addr) (h : Heap), YP w h → h.Ns mainGlobals mg → mg d.name = some (.ref fa) →
      ∃ (K : PySem.W.Frag) (fd : FuncData) (sp : Sp), K.In h ∧ (∀ (s : Shared) (u : Value), BindsTo s fd ⟨[u], []⟩ [(x, u)]) ∧
        (∀ (H : Hp) (a : Addr) (ns : List Int), ns.length ≤ n → Only H → SqL K H a (ns.map V.int) → sp [.ref a] H (fun v _ => v = .bl true) fun _ _ _ => False) ∧
        ∀ base : Heap, K.In base → base.Ns mainGlobals mg → FnG l.prog w K mg base CX k fa fd [x] sp)
    (hCX : ∀ (H : Hp) (s : Shared) (e : Value) (s' : Shared), CX [] H s (fun _ _ _ => False) e s' → False) :
    PySem.W.WalkO q loose XP YP l.row.toRowW d [] (fun f vs => PySem.call f vs) := by
  refine Att.attach_call hn hdf fun w s₀ s₁ mg mb fa o pm cd doc a vs ns G Y ho hd hcd hmg hobj hints hlen hg => ?_
  obtain ⟨K, fd, sp, KX, hb, hsp, hF⟩ := F w mg fa _ Y G.T.g hmg
  exact law_callG KX G.T.g G.T.b G.T.builtins G.T.nolimit hg hobj hints (Nat.le_trans hlen hn2) hr hF hb (fun H hO hS => hsp H a ns hlen hO hS) fun H e s' => hCX H s₁ e s'
end Gd
namespace Pr
open PySem PySem.Spec PyProof.Rows L2
/-- ParseError.__init__ -/
def inPE (i : Nat) : Stmt := match topS 9 with
  | .ClassDef _ _ _ body _ _ _ _ _ _ _ => body.getD i (.Pass ⟨0, 0, 0, 0⟩)
  | _ => .Pass ⟨0, 0, 0, 0⟩
abbrev peInit : Stmt := inPE 0
theorem pe_txt {K : PySem.W.Frag} {C f : Addr} {fd : FuncData} {mg : Str → Option Value} (g : mg "ParseError" = some (.ref C)) (F : Fun K "__init__" "ParseError.__init__" peInit f fd)
    (h : (∃ nm q N bs bm sn sub ab col dd k0 k1 k2 k3 k5, K.lookup C = some (excClassObj nm q C N bs bm true sn sub ab col dd k0 k1 k2 k3 k5 "ValueError.__new__") ∧ PySem.HandSPX.refsVE bm = true) ∧
    PySem.W.findIn K (.ref C) "__setattr__" = some (some (.builtin "object.__setattr__")) ∧ PySem.W.findIn K (.ref C) "__getattribute__" = some (some (.builtin "BaseException.__getattribute__")) ∧ PySem.W.findIn K (.ref C) "__getattr__" = some none ∧
    PySem.W.findIn K (.ref C) "number" = some none ∧ PySem.W.findIn K (.ref C) "__init__" = some (some (.ref f)) ∧ PySem.W.typeIn K (.ref f) = some (.type "function") ∧ PySem.W.keepIn K (.ref C) = true ∧
    PySem.W.subIn K (.ref C) (.type "BaseException") = some true ∧ PySem.W.typeIn K (.ref C) = some (.type "type") ∧ PySem.W.hasDictIn K C = true ∧ PySem.W.exmOne K (.ref C) (.ref C) = some true) : PySem.PeX.PeTxt K mg C f := by
  obtain ⟨a1, a2, a3, a4, a5, a6, a7, a8, a9, b1, b2, b3⟩ := h
  obtain ⟨oc, od, kV, doc, pm, an, cdv, ct, osl, rfl, lk, hcd⟩ := F.ex
  exact { gC := g, cls := a1, sa := a2, ga := a3, gg := a4, noN := a5, iC := a6, tC := a7, kC := a8, exC := a9, tyC := b1, hdC := b2, te := b3, fn := ⟨oc, od, kV, doc, pm, an, cdv, ct, osl, _, _, _, _, _, _, lk, hcd⟩ }
end Pr
namespace Pr
open PySem PySem.Spec PyProof.Rows L2 Gd
theorem all_mk {P : Program} {w : World} {K : PySem.W.Frag} {h : Heap} {mg : Str → Option Value} {fa : Addr} (X : K.In h) (G : h.Ns mainGlobals mg) (hfa : mg "law" = some (.ref fa))
    {f1 : Addr} {fd1 : FuncData}
    {f2 : Addr} {fd2 : FuncData}
    {f3 : Addr} {fd3 : FuncData}
    {f4 : Addr} {fd4 : FuncData}
    {f5 : Addr} {fd5 : FuncData}
    {f6 : Addr} {fd6 : FuncData}
    {f7 : Addr} {fd7 : FuncData}
    {f8 : Addr} {fd8 : FuncData}
    {f9 : Addr} {fd9 : FuncData}
    {f10 : Addr} {fd10 : FuncData}
    {f11 : Addr} {fd11 : FuncData}
    {f12 : Addr} {fd12 : FuncData}
    {f13 : Addr} {fd13 : FuncData}
    {f14 : Addr} {fd14 : FuncData}
    {f15 : Addr} {fd15 : FuncData}
    {f16 : Addr} {fd16 : FuncData}
    {f17 : Addr} {fd17 : FuncData}
    {f18 : Addr} {fd18 : FuncData}
    {f19 : Addr} {fd19 : FuncData}
    {f20 : Addr} {fd20 : FuncData}
    {f21 : Addr} {fd21 : FuncData}
    {f22 : Addr} {fd22 : FuncData}
    {f23 : Addr} {fd23 : FuncData}
    {f24 : Addr} {fd24 : FuncData}
    {f25 : Addr} {fd25 : FuncData}
    {f26 : Addr} {fd26 : FuncData}
    {f27 : Addr} {fd27 : FuncData}
    {f28 : Addr} {fd28 : FuncData}
    {f29 : Addr} {fd29 : FuncData}
    {f30 : Addr} {fd30 : FuncData}
    {f31 : Addr} {fd31 : FuncData}
    {f32 : Addr} {fd32 : FuncData}
    {f33 : Addr} {fd33 : FuncData}
    {f34 : Addr} {fd34 : FuncData}
    {C : Addr}
    {i_C : Addr}
    {B : Addr}
    {i_B : Addr}
    {CO : Addr}
    {CB : Addr}
    {CP : Addr}
    {f35 : Addr} {fd35 : FuncData}
    {f36 : Addr} {fd36 : FuncData}
    {p_from : Addr}
    {aF : Addr}
    {f37 : Addr} {fd37 : FuncData}
    {f38 : Addr} {fd38 : FuncData}
    {f39 : Addr} {fd39 : FuncData}
    {f40 : Addr} {fd40 : FuncData}
    {f41 : Addr} {fd41 : FuncData}
    {p41 : Addr}
    {f42 : Addr} {fd42 : FuncData}
    {p42 : Addr}
    {f43 : Addr} {fd43 : FuncData}
    {p43 : Addr}
    {f44 : Addr} {fd44 : FuncData}
    {p44 : Addr}
    {f45 : Addr} {fd45 : FuncData}
    {p45 : Addr}
    {f46 : Addr} {fd46 : FuncData}
    {p46 : Addr}
    {f47 : Addr} {fd47 : FuncData}
    {p47 : Addr}
    {tk_MAX_OPERATORS : Tok}
    {tk_MAX_LETTERS : Tok}
    {tk_MAX_PRICE : Tok}
    {tk_MAX_PATTERN : Tok}
    {tk_MAX_RULES : Tok}
    {tk_MAX_NONTERMINALS : Tok}
    (F1 : Fun K "ends_of" "ends_of" sEnds f1 fd1)
    (a1 : PySem.W.nsIn K mainGlobals "ends_of" = some (some (.ref f1)))
    (F2 : Fun K "parts_of" "parts_of" sParts f2 fd2)
    (a2 : PySem.W.nsIn K mainGlobals "parts_of" = some (some (.ref f2)))
    (F3 : Fun K "is_integer" "is_integer" sInteger f3 fd3)
    (a3 : PySem.W.nsIn K mainGlobals "is_integer" = some (some (.ref f3)))
    (F4 : Fun K "is_name" "is_name" sName f4 fd4)
    (a4 : PySem.W.nsIn K mainGlobals "is_name" = some (some (.ref f4)))
    (F5 : Fun K "are_names" "are_names" sNames f5 fd5)
    (a5 : PySem.W.nsIn K mainGlobals "are_names" = some (some (.ref f5)))
    (F6 : Fun K "are_arities" "are_arities" sAre f6 fd6)
    (a6 : PySem.W.nsIn K mainGlobals "are_arities" = some (some (.ref f6)))
    (F7 : Fun K "operator_of" "operator_of" sOper f7 fd7)
    (a7 : PySem.W.nsIn K mainGlobals "operator_of" = some (some (.ref f7)))
    (F8 : Fun K "is_whole" "is_whole" sWhole f8 fd8)
    (a8 : PySem.W.nsIn K mainGlobals "is_whole" = some (some (.ref f8)))
    (F9 : Fun K "goal_of" "goal_of" sGoalOf f9 fd9)
    (a9 : PySem.W.nsIn K mainGlobals "goal_of" = some (some (.ref f9)))
    (F10 : Fun K "rule_of" "rule_of" sRuleOf f10 fd10)
    (a10 : PySem.W.nsIn K mainGlobals "rule_of" = some (some (.ref f10)))
    (F11 : Fun K "is_rule" "is_rule" sRule f11 fd11)
    (a11 : PySem.W.nsIn K mainGlobals "is_rule" = some (some (.ref f11)))
    (F12 : Fun K "nonterminals_of" "nonterminals_of" sNonts f12 fd12)
    (a12 : PySem.W.nsIn K mainGlobals "nonterminals_of" = some (some (.ref f12)))
    (F13 : Fun K "is_book" "is_book" sIsBook f13 fd13)
    (a13 : PySem.W.nsIn K mainGlobals "is_book" = some (some (.ref f13)))
    (F14 : Fun K "_law_dice" "_law_dice" sDice f14 fd14)
    (a14 : PySem.W.nsIn K mainGlobals "_law_dice" = some (some (.ref f14)))
    (F15 : Fun K "_law_roll" "_law_roll" sRoll f15 fd15)
    (a15 : PySem.W.nsIn K mainGlobals "_law_roll" = some (some (.ref f15)))
    (F16 : Fun K "_law_pick" "_law_pick" sPick f16 fd16)
    (a16 : PySem.W.nsIn K mainGlobals "_law_pick" = some (some (.ref f16)))
    (F17 : Fun K "_law_mixed" "_law_mixed" sMixed f17 fd17)
    (a17 : PySem.W.nsIn K mainGlobals "_law_mixed" = some (some (.ref f17)))
    (F18 : Fun K "_law_lines" "_law_lines" sLLines f18 fd18)
    (a18 : PySem.W.nsIn K mainGlobals "_law_lines" = some (some (.ref f18)))
    (F19 : Fun K "_law_nonterminals" "_law_nonterminals" sLNonts f19 fd19)
    (a19 : PySem.W.nsIn K mainGlobals "_law_nonterminals" = some (some (.ref f19)))
    (F20 : Fun K "_law_drawn_pattern" "_law_drawn_pattern" sDPat f20 fd20)
    (a20 : PySem.W.nsIn K mainGlobals "_law_drawn_pattern" = some (some (.ref f20)))
    (F21 : Fun K "_law_drawn_book" "_law_drawn_book" sDBook f21 fd21)
    (a21 : PySem.W.nsIn K mainGlobals "_law_drawn_book" = some (some (.ref f21)))
    (F22 : Fun K "_law_pattern_end" "_law_pattern_end" sLPatternEnd f22 fd22)
    (a22 : PySem.W.nsIn K mainGlobals "_law_pattern_end" = some (some (.ref f22)))
    (F23 : Fun K "_law_is_word" "_law_is_word" sLIsWord f23 fd23)
    (a23 : PySem.W.nsIn K mainGlobals "_law_is_word" = some (some (.ref f23)))
    (F24 : Fun K "_law_is_figure" "_law_is_figure" sLIsFigure f24 fd24)
    (a24 : PySem.W.nsIn K mainGlobals "_law_is_figure" = some (some (.ref f24)))
    (F25 : Fun K "_law_is_rule" "_law_is_rule" sLIsRule f25 fd25)
    (a25 : PySem.W.nsIn K mainGlobals "_law_is_rule" = some (some (.ref f25)))
    (F26 : Fun K "_law_is_plain" "_law_is_plain" sLIsPlain f26 fd26)
    (a26 : PySem.W.nsIn K mainGlobals "_law_is_plain" = some (some (.ref f26)))
    (F27 : Fun K "_law_same_book" "_law_same_book" sSame f27 fd27)
    (a27 : PySem.W.nsIn K mainGlobals "_law_same_book" = some (some (.ref f27)))
    (F28 : Fun K "_law_read" "_law_read" sLRead f28 fd28)
    (a28 : PySem.W.nsIn K mainGlobals "_law_read" = some (some (.ref f28)))
    (F29 : Fun K "_law_due" "_law_due" sLDue f29 fd29)
    (a29 : PySem.W.nsIn K mainGlobals "_law_due" = some (some (.ref f29)))
    (F30 : Fun K "_law_told" "_law_told" sLTold f30 fd30)
    (a30 : PySem.W.nsIn K mainGlobals "_law_told" = some (some (.ref f30)))
    (F31 : Fun K "_law_from_many" "_law_from_many" sLFromMany f31 fd31)
    (a31 : PySem.W.nsIn K mainGlobals "_law_from_many" = some (some (.ref f31)))
    (F32 : Fun K "_law_spoilt" "_law_spoilt" sLSpoilt f32 fd32)
    (a32 : PySem.W.nsIn K mainGlobals "_law_spoilt" = some (some (.ref f32)))
    (F33 : Fun K "_law_right" "_law_right" sLRight f33 fd33)
    (a33 : PySem.W.nsIn K mainGlobals "_law_right" = some (some (.ref f33)))
    (F34 : Fun K "law" "law" sLaw f34 fd34)
    (a34 : PySem.W.nsIn K mainGlobals "law" = some (some (.ref f34)))
    (n_C : PySem.W.nsIn K mainGlobals "Operators" = some (some (.ref C)))
    (cl_C : Cls K C)
    (mr_C : Mk K C i_C)
    (no0_C : NoAttr K C "_names")
    (no1_C : NoAttr K C "_arities")
    (no2_C : NoAttr K C "_lines")
    (no3_C : NoAttr K C "_many")
    (no4_C : NoAttr K C "_counts")
    (no5_C : NoAttr K C "_rows")
    (n_B : PySem.W.nsIn K mainGlobals "Book" = some (some (.ref B)))
    (cl_B : Cls K B)
    (mr_B : Mk K B i_B)
    (no0_B : NoAttr K B "_operators")
    (no1_B : NoAttr K B "_goal")
    (no2_B : NoAttr K B "_rules")
    (no3_B : NoAttr K B "_nonterminals")
    (no4_B : NoAttr K B "_parts")
    (no5_B : NoAttr K B "_lines")
    (no6_B : NoAttr K B "_sides")
    (no7_B : NoAttr K B "_kept")
    (n_CO : PySem.W.nsIn K mainGlobals "InvalidOperators" = some (some (.ref CO)))
    (e_CO : PySem.W.excIn K CO He.veBase "ValueError.__new__" = true ∧ PySem.W.keepIn K (.ref CO) = true ∧ PySem.W.subIn K (.ref CO) (.type "BaseException") = some true ∧ PySem.W.typeIn K (.ref CO) = some (.type "type"))
    (n_CB : PySem.W.nsIn K mainGlobals "InvalidBook" = some (some (.ref CB)))
    (e_CB : PySem.W.excIn K CB He.veBase "ValueError.__new__" = true ∧ PySem.W.keepIn K (.ref CB) = true ∧ PySem.W.subIn K (.ref CB) (.type "BaseException") = some true ∧ PySem.W.typeIn K (.ref CB) = some (.type "type"))
    (n_CP : PySem.W.nsIn K mainGlobals "ParseError" = some (some (.ref CP)))
    (F35 : Fun K "__init__" "ParseError.__init__" peInit f35 fd35)
    (pe_CP : (∃ nm q N bs bm sn sub ab col dd k0 k1 k2 k3 k5, K.lookup CP = some (excClassObj nm q CP N bs bm true sn sub ab col dd k0 k1 k2 k3 k5 "ValueError.__new__") ∧ PySem.HandSPX.refsVE bm = true) ∧
    PySem.W.findIn K (.ref CP) "__setattr__" = some (some (.builtin "object.__setattr__")) ∧ PySem.W.findIn K (.ref CP) "__getattribute__" = some (some (.builtin "BaseException.__getattribute__")) ∧ PySem.W.findIn K (.ref CP) "__getattr__" = some none ∧
    PySem.W.findIn K (.ref CP) "number" = some none ∧ PySem.W.findIn K (.ref CP) "__init__" = some (some (.ref f35)) ∧ PySem.W.typeIn K (.ref f35) = some (.type "function") ∧ PySem.W.keepIn K (.ref CP) = true ∧
    PySem.W.subIn K (.ref CP) (.type "BaseException") = some true ∧ PySem.W.typeIn K (.ref CP) = some (.type "type") ∧ PySem.W.hasDictIn K CP = true ∧ PySem.W.exmOne K (.ref CP) (.ref CP) = some true)
    (m_CO_CP : PySem.W.exmOne K (.ref CO) (.ref CP) = some false)
    (m_CO_CO : PySem.W.exmOne K (.ref CO) (.ref CO) = some true)
    (m_CB_CP : PySem.W.exmOne K (.ref CB) (.ref CP) = some false)
    (m_CB_CO : PySem.W.exmOne K (.ref CB) (.ref CO) = some false)
    (m_CB_CB : PySem.W.exmOne K (.ref CB) (.ref CB) = some true)
    (ni_C : ∀ ty ∈ (["NoneType", "bool", "int", "str", "list", "tuple", "dict"] : List String), PySem.W.kitOne K (.type ty) (.ref C) = some false)
    (F36 : Fun K "from_lines" "Book.from_lines" bFromLines f36 fd36)
    (cm_from : ClX.CMet K B (.type "type") "from_lines" p_from f36)
    (cr_B : ClX.CRead K B (.type "type"))
    (n_FIG : PySem.W.nsIn K mainGlobals "FIGURES" = some (some (.ref aF)))
    (sq_FIG : ∀ H : Hp, SqT K H aF (figs.map V.str))
    (F37 : Fun K "__init__" "Operators.__init__" mInit f37 fd37)
    (m37 : Meth K C "__init__" f37)
    (F38 : Fun K "__eq__" "Operators.__eq__" mEq f38 fd38)
    (m38 : Meth K C "__eq__" f38)
    (F39 : Fun K "__init__" "Book.__init__" bInit f39 fd39)
    (m39 : Meth K B "__init__" f39)
    (F40 : Fun K "__len__" "Book.__len__" bLen f40 fd40)
    (m40 : Meth K B "__len__" f40)
    (F41 : Fun K "arities" "Operators.arities" mArities f41 fd41)
    (q41 : PropOf K C "arities" p41 f41)
    (F42 : Fun K "lines" "Operators.lines" mLines f42 fd42)
    (q42 : PropOf K C "lines" p42 f42)
    (F43 : Fun K "operators" "Book.operators" bOps f43 fd43)
    (q43 : PropOf K B "operators" p43 f43)
    (F44 : Fun K "goal" "Book.goal" bGoal f44 fd44)
    (q44 : PropOf K B "goal" p44 f44)
    (F45 : Fun K "rules" "Book.rules" bRules f45 fd45)
    (q45 : PropOf K B "rules" p45 f45)
    (F46 : Fun K "nonterminals" "Book.nonterminals" bNonts f46 fd46)
    (q46 : PropOf K B "nonterminals" p46 f46)
    (F47 : Fun K "lines" "Book.lines" bLines f47 fd47)
    (q47 : PropOf K B "lines" p47 f47)
    (cn_MAX_OPERATORS : PySem.W.nsIn K mainGlobals "MAX_OPERATORS" = some (some (.int 8 tk_MAX_OPERATORS)))
    (cn_MAX_LETTERS : PySem.W.nsIn K mainGlobals "MAX_LETTERS" = some (some (.int 8 tk_MAX_LETTERS)))
    (cn_MAX_PRICE : PySem.W.nsIn K mainGlobals "MAX_PRICE" = some (some (.int 9 tk_MAX_PRICE)))
    (cn_MAX_PATTERN : PySem.W.nsIn K mainGlobals "MAX_PATTERN" = some (some (.int 7 tk_MAX_PATTERN)))
    (cn_MAX_RULES : PySem.W.nsIn K mainGlobals "MAX_RULES" = some (some (.int 12 tk_MAX_RULES)))
    (cn_MAX_NONTERMINALS : PySem.W.nsIn K mainGlobals "MAX_NONTERMINALS" = some (some (.int 6 tk_MAX_NONTERMINALS)))
    (jsp : PySem.W.specialIn K (.builtin "object.__class__") "__get__" = some (some (.builtin "getset_descriptor.__get__")))
    (jtk : PySem.W.takesIn K (.builtin "object.__class__") = some true)
    (qneC : PySem.W.findIn K (.ref C) "__ne__" = some (some (.builtin "object.__ne__")))
    (qobC : PySem.W.subIn K (.ref C) (.type "object") = some true)
    (qnDC : PySem.W.notFirst K C (.type "dict") = true)
    (qnIC : PySem.W.notFirst K C (.type "int") = true)
    (jclC : PySem.W.findIn K (.ref C) "__class__" = some (some (.builtin "object.__class__")))
    (jobC : PySem.W.mroIn K C (.type "object") = some true)
    (jkC : PySem.W.kitOne K (.ref C) (.ref C) = some true)
    (qneB : PySem.W.findIn K (.ref B) "__ne__" = some (some (.builtin "object.__ne__")))
    (qobB : PySem.W.subIn K (.ref B) (.type "object") = some true)
    (qnDB : PySem.W.notFirst K B (.type "dict") = true)
    (qnIB : PySem.W.notFirst K B (.type "int") = true)
    (jclB : PySem.W.findIn K (.ref B) "__class__" = some (some (.builtin "object.__class__")))
    (jobB : PySem.W.mroIn K B (.type "object") = some true)
    (jkB : PySem.W.kitOne K (.ref B) (.ref B) = some true)
    (z_len : PySem.W.nsIn K mainGlobals "len" = some none)
    (z_int : PySem.W.nsIn K mainGlobals "int" = some none)
    (z_abs : PySem.W.nsIn K mainGlobals "abs" = some none)
    (z_max : PySem.W.nsIn K mainGlobals "max" = some none)
    (z_min : PySem.W.nsIn K mainGlobals "min" = some none)
    (z_list : PySem.W.nsIn K mainGlobals "list" = some none)
    (z_range : PySem.W.nsIn K mainGlobals "range" = some none)
    (z_isinstance : PySem.W.nsIn K mainGlobals "isinstance" = some none)
    (z_bool : PySem.W.nsIn K mainGlobals "bool" = some none)
    (z_tuple : PySem.W.nsIn K mainGlobals "tuple" = some none)
    (z_str : PySem.W.nsIn K mainGlobals "str" = some none)
    (z_dict : PySem.W.nsIn K mainGlobals "dict" = some none)
    (z_sorted : PySem.W.nsIn K mainGlobals "sorted" = some none)
    (z_all : PySem.W.nsIn K mainGlobals "all" = some none)
    (z_sum : PySem.W.nsIn K mainGlobals "sum" = some none)
    (z_repr : PySem.W.nsIn K mainGlobals "repr" = some none)
    (z_enumerate : PySem.W.nsIn K mainGlobals "enumerate" = some none)
    (z_iter : PySem.W.nsIn K mainGlobals "iter" = some none)
    (z_set : PySem.W.nsIn K mainGlobals "set" = some none) :
    ∃ fd : FuncData, (∀ (s : Shared) (v : Value), BindsTo s fd ⟨[v], []⟩ [("script", v)]) ∧ ∀ base : Heap, K.In base → base.Ns mainGlobals mg → FnOk P w K mg base CX0 11 fa fd ["script"] (spLaw K) := by
  have e := hfa.symm.trans (PySem.W.mg_of X G a34)
  cases e
  have k1 := F1.kp
  have b1 := F1.binds (ps := ["words", "arities"]) fun _ _ _ _ _ _ us hl => match us, hl with | [_, _], _ => rfl
  have g1 := PySem.W.mg_of X G a1
  have k2 := F2.kp
  have b2 := F2.binds (ps := ["patterns", "arities"]) fun _ _ _ _ _ _ us hl => match us, hl with | [_, _], _ => rfl
  have g2 := PySem.W.mg_of X G a2
  have k3 := F3.kp
  have b3 := F3.binds (ps := ["value"]) fun _ _ _ _ _ _ us hl => match us, hl with | [_], _ => rfl
  have g3 := PySem.W.mg_of X G a3
  have k4 := F4.kp
  have b4 := F4.binds (ps := ["value"]) fun _ _ _ _ _ _ us hl => match us, hl with | [_], _ => rfl
  have g4 := PySem.W.mg_of X G a4
  have k5 := F5.kp
  have b5 := F5.binds (ps := ["value"]) fun _ _ _ _ _ _ us hl => match us, hl with | [_], _ => rfl
  have g5 := PySem.W.mg_of X G a5
  have k6 := F6.kp
  have b6 := F6.binds (ps := ["value"]) fun _ _ _ _ _ _ us hl => match us, hl with | [_], _ => rfl
  have g6 := PySem.W.mg_of X G a6
  have k7 := F7.kp
  have b7 := F7.binds (ps := ["line"]) fun _ _ _ _ _ _ us hl => match us, hl with | [_], _ => rfl
  have g7 := PySem.W.mg_of X G a7
  have k8 := F8.kp
  have b8 := F8.binds (ps := ["words", "arities"]) fun _ _ _ _ _ _ us hl => match us, hl with | [_, _], _ => rfl
  have g8 := PySem.W.mg_of X G a8
  have k9 := F9.kp
  have b9 := F9.binds (ps := ["line"]) fun _ _ _ _ _ _ us hl => match us, hl with | [_], _ => rfl
  have g9 := PySem.W.mg_of X G a9
  have k10 := F10.kp
  have b10 := F10.binds (ps := ["line"]) fun _ _ _ _ _ _ us hl => match us, hl with | [_], _ => rfl
  have g10 := PySem.W.mg_of X G a10
  have k11 := F11.kp
  have b11 := F11.binds (ps := ["value", "arities"]) fun _ _ _ _ _ _ us hl => match us, hl with | [_, _], _ => rfl
  have g11 := PySem.W.mg_of X G a11
  have k12 := F12.kp
  have b12 := F12.binds (ps := ["goal", "rules", "arities"]) fun _ _ _ _ _ _ us hl => match us, hl with | [_, _, _], _ => rfl
  have g12 := PySem.W.mg_of X G a12
  have k13 := F13.kp
  have b13 := F13.binds (ps := ["goal", "rules", "arities"]) fun _ _ _ _ _ _ us hl => match us, hl with | [_, _, _], _ => rfl
  have g13 := PySem.W.mg_of X G a13
  have k14 := F14.kp
  have b14 := F14.binds (ps := ["script", "spot"]) fun _ _ _ _ _ _ us hl => match us, hl with | [_, _], _ => rfl
  have g14 := PySem.W.mg_of X G a14
  have k15 := F15.kp
  have b15 := F15.binds (ps := ["dice", "total"]) fun _ _ _ _ _ _ us hl => match us, hl with | [_, _], _ => rfl
  have g15 := PySem.W.mg_of X G a15
  have k16 := F16.kp
  have b16 := F16.binds (ps := ["dice", "items"]) fun _ _ _ _ _ _ us hl => match us, hl with | [_, _], _ => rfl
  have g16 := PySem.W.mg_of X G a16
  have k17 := F17.kp
  have b17 := F17.binds (ps := ["dice", "items"]) fun _ _ _ _ _ _ us hl => match us, hl with | [_, _], _ => rfl
  have g17 := PySem.W.mg_of X G a17
  have k18 := F18.kp
  have b18 := F18.binds (ps := ["plain"]) fun _ _ _ _ _ _ us hl => match us, hl with | [_], _ => rfl
  have g18 := PySem.W.mg_of X G a18
  have k19 := F19.kp
  have b19 := F19.binds (ps := ["plain"]) fun _ _ _ _ _ _ us hl => match us, hl with | [_], _ => rfl
  have g19 := PySem.W.mg_of X G a19
  have k20 := F20.kp
  have b20 := F20.binds (ps := ["dice", "arities", "nonterminals", "cap"]) fun _ _ _ _ _ _ us hl => match us, hl with | [_, _, _, _], _ => rfl
  have g20 := PySem.W.mg_of X G a20
  have k21 := F21.kp
  have b21 := F21.binds (ps := ["dice", "rules", "heads"]) fun _ _ _ _ _ _ us hl => match us, hl with | [_, _, _], _ => rfl
  have g21 := PySem.W.mg_of X G a21
  have k22 := F22.kp
  have b22 := F22.binds (ps := ["arities", "words"]) fun _ _ _ _ _ _ us hl => match us, hl with | [_, _], _ => rfl
  have g22 := PySem.W.mg_of X G a22
  have k23 := F23.kp
  have b23 := F23.binds (ps := ["value"]) fun _ _ _ _ _ _ us hl => match us, hl with | [_], _ => rfl
  have g23 := PySem.W.mg_of X G a23
  have k24 := F24.kp
  have b24 := F24.binds (ps := ["value", "top"]) fun _ _ _ _ _ _ us hl => match us, hl with | [_, _], _ => rfl
  have g24 := PySem.W.mg_of X G a24
  have k25 := F25.kp
  have b25 := F25.binds (ps := ["arities", "value"]) fun _ _ _ _ _ _ us hl => match us, hl with | [_, _], _ => rfl
  have g25 := PySem.W.mg_of X G a25
  have k26 := F26.kp
  have b26 := F26.binds (ps := ["arities", "goal", "rules"]) fun _ _ _ _ _ _ us hl => match us, hl with | [_, _, _], _ => rfl
  have g26 := PySem.W.mg_of X G a26
  have k27 := F27.kp
  have b27 := F27.binds (ps := ["told", "plain"]) fun _ _ _ _ _ _ us hl => match us, hl with | [_, _], _ => rfl
  have g27 := PySem.W.mg_of X G a27
  have k28 := F28.kp
  have b28 := F28.binds (ps := ["line"]) fun _ _ _ _ _ _ us hl => match us, hl with | [_], _ => rfl
  have g28 := PySem.W.mg_of X G a28
  have k29 := F29.kp
  have b29 := F29.binds (ps := ["lines"]) fun _ _ _ _ _ _ us hl => match us, hl with | [_], _ => rfl
  have g29 := PySem.W.mg_of X G a29
  have k30 := F30.kp
  have b30 := F30.binds (ps := ["lines"]) fun _ _ _ _ _ _ us hl => match us, hl with | [_], _ => rfl
  have g30 := PySem.W.mg_of X G a30
  have k31 := F31.kp
  have b31 := F31.binds (ps := ["some"]) fun _ _ _ _ _ _ us hl => match us, hl with | [_], _ => rfl
  have g31 := PySem.W.mg_of X G a31
  have k32 := F32.kp
  have b32 := F32.binds (ps := ["dice", "lines"]) fun _ _ _ _ _ _ us hl => match us, hl with | [_, _], _ => rfl
  have g32 := PySem.W.mg_of X G a32
  have k33 := F33.kp
  have b33 := F33.binds (ps := ["dice"]) fun _ _ _ _ _ _ us hl => match us, hl with | [_], _ => rfl
  have g33 := PySem.W.mg_of X G a33
  have k34 := F34.kp
  have mk_C := mr_C.makes
  have kc_C := mr_C.kp
  have g_C := PySem.W.mg_of X G n_C
  have mk_B := mr_B.makes
  have kc_B := mr_B.kp
  have g_B := PySem.W.mg_of X G n_B
  have g_CO := PySem.W.mg_of X G n_CO
  have X_CO : ExF K mg "InvalidOperators" CO := ⟨e_CO.1, g_CO, e_CO.2.1, e_CO.2.2.1, e_CO.2.2.2⟩
  have g_CB := PySem.W.mg_of X G n_CB
  have X_CB : ExF K mg "InvalidBook" CB := ⟨e_CB.1, g_CB, e_CB.2.1, e_CB.2.2.1, e_CB.2.2.2⟩
  have g_CP := PySem.W.mg_of X G n_CP
  have k35 := F35.kp
  have k36 := F36.kp
  have g_FIG := PySem.W.mg_of X G n_FIG
  have k37 := F37.kp
  have b37 := F37.binds (ps := ["self", "arities"]) fun _ _ _ _ _ _ us hl => match us, hl with | [_, _], _ => rfl
  have a37 := m37.at_
  have i37 := m37.fn
  have k38 := F38.kp
  have b38 := F38.binds (ps := ["self", "other"]) fun _ _ _ _ _ _ us hl => match us, hl with | [_, _], _ => rfl
  have a38 := m38.at_
  have i38 := m38.fn
  have k39 := F39.kp
  have b39 := F39.binds (ps := ["self", "operators", "goal", "rules"]) fun _ _ _ _ _ _ us hl => match us, hl with | [_, _, _, _], _ => rfl
  have a39 := m39.at_
  have i39 := m39.fn
  have k40 := F40.kp
  have b40 := F40.binds (ps := ["self"]) fun _ _ _ _ _ _ us hl => match us, hl with | [_], _ => rfl
  have a40 := m40.at_
  have i40 := m40.fn
  have k41 := F41.kp
  have b41 := F41.binds (ps := ["self"]) fun _ _ _ _ _ _ us hl => match us, hl with | [_], _ => rfl
  have k42 := F42.kp
  have b42 := F42.binds (ps := ["self"]) fun _ _ _ _ _ _ us hl => match us, hl with | [_], _ => rfl
  have k43 := F43.kp
  have b43 := F43.binds (ps := ["self"]) fun _ _ _ _ _ _ us hl => match us, hl with | [_], _ => rfl
  have k44 := F44.kp
  have b44 := F44.binds (ps := ["self"]) fun _ _ _ _ _ _ us hl => match us, hl with | [_], _ => rfl
  have k45 := F45.kp
  have b45 := F45.binds (ps := ["self"]) fun _ _ _ _ _ _ us hl => match us, hl with | [_], _ => rfl
  have k46 := F46.kp
  have b46 := F46.binds (ps := ["self"]) fun _ _ _ _ _ _ us hl => match us, hl with | [_], _ => rfl
  have k47 := F47.kp
  have b47 := F47.binds (ps := ["self"]) fun _ _ _ _ _ _ us hl => match us, hl with | [_], _ => rfl
  have gc_MAX_OPERATORS := PySem.W.mg_of X G cn_MAX_OPERATORS
  have gc_MAX_LETTERS := PySem.W.mg_of X G cn_MAX_LETTERS
  have gc_MAX_PRICE := PySem.W.mg_of X G cn_MAX_PRICE
  have gc_MAX_PATTERN := PySem.W.mg_of X G cn_MAX_PATTERN
  have gc_MAX_RULES := PySem.W.mg_of X G cn_MAX_RULES
  have gc_MAX_NONTERMINALS := PySem.W.mg_of X G cn_MAX_NONTERMINALS
  have T : Free mg := ⟨PySem.W.mg_none_of X G z_len, PySem.W.mg_none_of X G z_int, PySem.W.mg_none_of X G z_abs, PySem.W.mg_none_of X G z_max, PySem.W.mg_none_of X G z_min, PySem.W.mg_none_of X G z_list, PySem.W.mg_none_of X G z_range, PySem.W.mg_none_of X G z_isinstance, PySem.W.mg_none_of X G z_bool, PySem.W.mg_none_of X G z_tuple, PySem.W.mg_none_of X G z_str, PySem.W.mg_none_of X G z_dict, PySem.W.mg_none_of X G z_sorted, PySem.W.mg_none_of X G z_all, PySem.W.mg_none_of X G z_sum, PySem.W.mg_none_of X G z_repr, PySem.W.mg_none_of X G z_enumerate, PySem.W.mg_none_of X G z_iter, PySem.W.mg_none_of X G z_set⟩
  exact ⟨fd34, Hk.bindsLaw F34 fun _ _ _ _ _ _ _ => rfl, fun base _ _ => by
    have low1 : PySem.PeX.PeTxt K mg CP f35 := pe_txt g_CP F35 pe_CP
    have cf : OpF K C := ⟨cl_C, no0_C, no1_C, no2_C, no3_C, no4_C, no5_C⟩
    have bf : BkF K B := ⟨cl_B, no0_B, no1_B, no2_B, no3_B, no4_B, no5_B, no6_B, no7_B⟩
    have isC : IsF K mg "Operators" C := ⟨g_C, jclC, jsp, jtk, jobC, jkC⟩
    have isB : IsF K mg "Book" B := ⟨g_B, jclB, jsp, jtk, jobB, jkB⟩
    have GAre : FnOk P w K mg base CX0 2 f6 _ ["value"] spAre7 := ok_are7 F6 T gc_MAX_LETTERS gc_MAX_OPERATORS F4 b4 g4 F3 b3 g3
    have GI : FnOk P w K mg base CX0 3 f37 _ ["self", "arities"] (spInitV C) := ok_initV F37 T cf GAre F6 b6 g6
    have L := Low.mk F4 b4 g4 F3 b3 g3 F5 b5 g5 F8 b8 g8 gc_MAX_LETTERS gc_MAX_PRICE gc_MAX_PATTERN
    have M := Mid.mk F11 b11 g11 F12 b12 g12 gc_MAX_RULES gc_MAX_NONTERMINALS
    have GB : FnOk P w K mg base CX0 4 f13 _ ["goal", "rules", "arities"] spIsBook := ok_isBook F13 T L M
    have GT : FnOk P w K mg base CX0 1 f12 _ ["goal", "rules", "arities"] spNonts := ok_nonts F12 T
    have GP : FnOk P w K mg base CX0 2 f2 _ ["patterns", "arities"] (spParts K) := ok_parts F2 T F1 b1 g1
    have Z0 := Top.mk cf isC GB b13 g13 k13 GT b12 g12 k12 GP b2 g2 k2 q41 (ok_pa F41 cf T) b41 q42 (ok_pl F42 cf T) b42
    have GBI : FnOk P w K mg base CX0 5 f39 _ ["self", "operators", "goal", "rules"] (spBInit K C B) := ok_binit F39 T Z0 bf
    have Z : Maker P w K mg base C B f37 f39 _ _ := ⟨⟨mk_C, a37, i37, kc_C⟩, g_C, GI, b37, ⟨mk_B, a39, i39, kc_B⟩, g_B, GBI, b39⟩
    have io : IopF K mg CO := ⟨X_CO.x, X_CO.g, X_CO.k, X_CO.b, X_CO.t⟩
    have GIx : FnOk P w K mg base (L2.CX P w) 3 f37 _ ["self", "arities"] (spInit C CO) := ok_init F37 T cf io GAre F6 b6 g6
    have GBG : FnOk P w K mg base CX0 4 f13 _ ["goal", "rules", "arities"] spIsBookG := ok_isBookG F13 T L M
    have GBx : FnOk P w K mg base (L2.CX P w) 5 f39 _ ["self", "operators", "goal", "rules"] (spBAll K C B CO CB) := fn_or (fn_lift (ok_binit F39 T Z0 bf)) (fn_or (ok_binitno F39 T g_C ni_C X_CO) (ok_binitbad F39 T cf isC GBG b13 g13 k13 q41 (ok_pa F41 cf T) b41 X_CB))
    have GO : FnOk P w K mg base CX0 2 f7 _ ["line"] spOper := ok_oper F7 T gc_MAX_LETTERS F4 b4 g4
    have GG : FnOk P w K mg base CX0 2 f9 _ ["line"] spGoalOf := ok_goalof F9 T gc_MAX_LETTERS F4 b4 g4
    have GNa : FnOk P w K mg base CX0 2 f5 _ ["value"] spNamesG := ok_namesG F5 T gc_MAX_LETTERS F4 b4 g4
    have GRu : FnOk P w K mg base CX0 3 f10 _ ["line"] spRuleOf := ok_ruleof F10 T gc_MAX_LETTERS gc_MAX_PATTERN F4 b4 g4 GNa b5 g5 k5 g_FIG sq_FIG
    have FB : FromBF P w K mg base C B CP CO CB p_from f36 f35 (.type "type") := ⟨cr_B, cm_from, fn_fromB F36 T ⟨mk_C, a37, i37, kc_C⟩ g_C GIx b37 ⟨mk_B, a39, i39, kc_B⟩ GBx b39 low1 GO b7 g7 k7 GG b9 g9 k9 GRu b10 g10 k10, low1, g_B, X_CO, X_CB, low1.te, m_CO_CP, m_CO_CO, m_CB_CP, m_CB_CO, m_CB_CB⟩
    have D : Draws K mg f15 f16 f17 _ _ _ := ⟨F15, b15, g15, F16, b16, g16, F17, b17, g17⟩
    have S : Teller P w K mg base C B := ⟨bf, ⟨⟨_, _, _, q45, ok_bRules F45 bf, b45⟩⟩, ⟨⟨_, _, _, q44, ok_bGoal F44 bf, b44⟩⟩, ⟨⟨_, _, _, q47, ok_bLines F47 bf, b47⟩⟩, ⟨⟨_, _, _, q46, ok_bNonts F46 bf, b46⟩⟩, ⟨⟨_, _, _, q43, ok_bOps F43 bf, b43⟩⟩, ⟨_, _, ok_bLen F40 T bf, b40, ⟨a40, i40⟩⟩, ⟨_, _, ok_oEq F38 cf T isC, b38, ⟨a38, i38, qneC, qobC, qnDC, qnIC⟩⟩⟩
    have GS : FnOk P w K mg base CX0 6 f27 _ ["told", "plain"] (spSame K C B) := ok_same9 F27 T Z S F18 b18 g18 F19 b19 g19
    have LJ_ := LJ.mk F23 b23 g23 F24 b24 g24 F22 b22 g22
    have GLR : FnOk P w K mg base CX0 2 f25 _ ["arities", "value"] spLRuleG := ok_lrule F25 T LJ_
    have GLW : FnOk P w K mg base CX0 1 f23 _ ["value"] spLWord := ok_lword F23 T
    have GLT : FnOk P w K mg base CX0 1 f19 _ ["plain"] spLNontsG := ok_lnontsG F19 T
    have GLP : FnOk P w K mg base CX0 3 f26 _ ["arities", "goal", "rules"] spLPlainG := ok_lplain F26 T GLW b23 g23 k23 GLR b25 g25 k25 GLT b19 g19 k19
    have GDB : FnOk P w K mg base CX0 4 f21 _ ["dice", "rules", "heads"] spDBook := ok_dbook F21 D T F20 b20 g20
    have GLL : FnOk P w K mg base CX0 1 f18 _ ["plain"] (spLLines K) := ok_llines F18 T
    have GRd : FnOk P w K mg base CX0 2 f28 _ ["line"] spLRead := ok_lread F28 T GLW b23 g23 k23
    have GDu : FnOk P w K mg base CX0 4 f29 _ ["lines"] spLDue := ok_ldue F29 T GRd b28 g28 k28 GLP b26 g26 k26
    have GMa : FnOk P w K mg base (L2.CX P w) 8 f31 _ ["some"] (spMany K C B CP CO CB) := ok_many F31 T FB
    have GTo : FnOk P w K mg base CX0 9 f30 _ ["lines"] (spLTold K C B) := ok_ltold F30 T FB GMa b31 g31 k31
    have GSp : FnOk P w K mg base CX0 3 f32 _ ["dice", "lines"] spSpoilt := ok_spoilt F32 D T
    have GR : FnOk P w K mg base CX0 10 f33 _ ["dice"] spRight := ok_right F33 D T GDB b21 g21 k21 GLL b18 g18 k18 GSp b32 g32 k32 GTo b30 g30 k30 GDu b29 g29 k29 GS b27 g27 k27
    exact ok_law F34 T F14 b14 g14 GR b33 g33 k33 GTo b30 g30 k30⟩
def factL0 : List Hk.Fk := [.fa (.glo "ends_of"),
  .fa (.glo "parts_of"),
  .fa (.glo "is_integer"),
  .fa (.glo "is_name"),
  .fa (.glo "are_names"),
  .fa (.glo "are_arities"),
  .fa (.glo "operator_of"),
  .fa (.glo "is_whole"),
  .fa (.glo "goal_of"),
  .fa (.glo "rule_of"),
  .fa (.glo "is_rule"),
  .fa (.glo "nonterminals_of"),
  .fa (.glo "is_book"),
  .fa (.glo "_law_dice"),
  .fa (.glo "_law_roll"),
  .fa (.glo "_law_pick"),
  .fa (.glo "_law_mixed"),
  .fa (.glo "_law_lines"),
  .fa (.glo "_law_nonterminals"),
  .fa (.glo "_law_drawn_pattern"),
  .fa (.glo "_law_drawn_book"),
  .fa (.glo "_law_pattern_end"),
  .fa (.glo "_law_is_word"),
  .fa (.glo "_law_is_figure"),
  .fa (.glo "_law_is_rule"),
  .fa (.glo "_law_is_plain"),
  .fa (.glo "_law_same_book"),
  .fa (.glo "_law_read"),
  .fa (.glo "_law_due"),
  .fa (.glo "_law_told")]
def factL1 : List Hk.Fk := [.fa (.glo "_law_from_many"),
  .fa (.glo "_law_spoilt"),
  .fa (.glo "_law_right"),
  .fa (.glo "law"),
  .fa (.glo "Operators"),
  .fa (.cls "Operators"),
  .fa (.mkr "Operators"),
  .fa (.noat "Operators" "_names"),
  .fa (.noat "Operators" "_arities"),
  .fa (.noat "Operators" "_lines"),
  .fa (.noat "Operators" "_many"),
  .fa (.noat "Operators" "_counts"),
  .fa (.noat "Operators" "_rows"),
  .fa (.glo "Book"),
  .fa (.cls "Book"),
  .fa (.mkr "Book"),
  .fa (.noat "Book" "_operators"),
  .fa (.noat "Book" "_goal"),
  .fa (.noat "Book" "_rules"),
  .fa (.noat "Book" "_nonterminals"),
  .fa (.noat "Book" "_parts"),
  .fa (.noat "Book" "_lines"),
  .fa (.noat "Book" "_sides"),
  .fa (.noat "Book" "_kept"),
  .fa (.glo "InvalidOperators"),
  .fa (.exc "InvalidOperators"),
  .fa (.glo "InvalidBook"),
  .fa (.exc "InvalidBook"),
  .fa (.glo "ParseError"),
  .pe "ParseError"]
def factL2 : List Hk.Fk := [.fa (.exm "InvalidOperators" "ParseError" false),
  .fa (.exm "InvalidOperators" "InvalidOperators" true),
  .fa (.exm "InvalidBook" "ParseError" false),
  .fa (.exm "InvalidBook" "InvalidOperators" false),
  .fa (.exm "InvalidBook" "InvalidBook" true),
  .noins "Operators",
  .cmet "Book" "from_lines",
  .cread "Book",
  .fa (.glo "FIGURES"),
  .strs "FIGURES" figs,
  .fa (.meth "Operators" "__init__"),
  .fa (.meth "Operators" "__eq__"),
  .fa (.meth "Book" "__init__"),
  .fa (.meth "Book" "__len__"),
  .prop "Operators" "arities",
  .prop "Operators" "lines",
  .prop "Book" "operators",
  .prop "Book" "goal",
  .prop "Book" "rules",
  .prop "Book" "nonterminals",
  .prop "Book" "lines",
  .fa (.int "MAX_OPERATORS" 8),
  .fa (.int "MAX_LETTERS" 8),
  .fa (.int "MAX_PRICE" 9),
  .fa (.int "MAX_PATTERN" 7),
  .fa (.int "MAX_RULES" 12),
  .fa (.int "MAX_NONTERMINALS" 6),
  .cm,
  .eqs "Operators",
  .isi "Operators"]
def factL3 : List Hk.Fk := [.eqs "Book",
  .isi "Book",
  .fa (.free "len"),
  .fa (.free "int"),
  .fa (.free "abs"),
  .fa (.free "max"),
  .fa (.free "min"),
  .fa (.free "list"),
  .fa (.free "range"),
  .fa (.free "isinstance"),
  .fa (.free "bool"),
  .fa (.free "tuple"),
  .fa (.free "str"),
  .fa (.free "dict"),
  .fa (.free "sorted"),
  .fa (.free "all"),
  .fa (.free "sum"),
  .fa (.free "repr"),
  .fa (.free "enumerate"),
  .fa (.free "iter"),
  .fa (.free "set")]
def factL : List Hk.Fk := factL0 ++ factL1 ++ factL2 ++ factL3
def defL0 : List He5.DefA := [Hk.dG "ends_of" sEnds,
  Hk.dG "parts_of" sParts,
  Hk.dG "is_integer" sInteger,
  Hk.dG "is_name" sName,
  Hk.dG "are_names" sNames,
  Hk.dG "are_arities" sAre,
  Hk.dG "operator_of" sOper,
  Hk.dG "is_whole" sWhole,
  Hk.dG "goal_of" sGoalOf,
  Hk.dG "rule_of" sRuleOf,
  Hk.dG "is_rule" sRule,
  Hk.dG "nonterminals_of" sNonts,
  Hk.dG "is_book" sIsBook,
  Hk.dG "_law_dice" sDice,
  Hk.dG "_law_roll" sRoll,
  Hk.dG "_law_pick" sPick,
  Hk.dG "_law_mixed" sMixed,
  Hk.dG "_law_lines" sLLines,
  Hk.dG "_law_nonterminals" sLNonts,
  Hk.dG "_law_drawn_pattern" sDPat,
  Hk.dG "_law_drawn_book" sDBook,
  Hk.dG "_law_pattern_end" sLPatternEnd,
  Hk.dG "_law_is_word" sLIsWord,
  Hk.dG "_law_is_figure" sLIsFigure,
  Hk.dG "_law_is_rule" sLIsRule,
  Hk.dG "_law_is_plain" sLIsPlain,
  Hk.dG "_law_same_book" sSame,
  Hk.dG "_law_read" sLRead,
  Hk.dG "_law_due" sLDue,
  Hk.dG "_law_told" sLTold]
def defL1 : List He5.DefA := [Hk.dG "_law_from_many" sLFromMany,
  Hk.dG "_law_spoilt" sLSpoilt,
  Hk.dG "_law_right" sLRight,
  Hk.dG "law" sLaw,
  Hk.dM "ParseError" "__init__" "ParseError.__init__" peInit,
  Hk.dC "Book" "from_lines" "Book.from_lines" bFromLines,
  Hk.dM "Operators" "__init__" "Operators.__init__" mInit,
  Hk.dM "Operators" "__eq__" "Operators.__eq__" mEq,
  Hk.dM "Book" "__init__" "Book.__init__" bInit,
  Hk.dM "Book" "__len__" "Book.__len__" bLen,
  Hk.dP "Operators" "arities" "Operators.arities" mArities,
  Hk.dP "Operators" "lines" "Operators.lines" mLines,
  Hk.dP "Book" "operators" "Book.operators" bOps,
  Hk.dP "Book" "goal" "Book.goal" bGoal,
  Hk.dP "Book" "rules" "Book.rules" bRules,
  Hk.dP "Book" "nonterminals" "Book.nonterminals" bNonts,
  Hk.dP "Book" "lines" "Book.lines" bLines]
def defL : List He5.DefA := defL0 ++ defL1
theorem facts {P : Program} {w : World} {K : PySem.W.Frag} {h : Heap} {mg : Str → Option Value} {fa : Addr} (X : K.In h) (G : h.Ns mainGlobals mg) (hfa : mg "law" = some (.ref fa)) (c : Hk.SaysK factL defL K) :
    ∃ fd : FuncData, (∀ (s : Shared) (v : Value), BindsTo s fd ⟨[v], []⟩ [("script", v)]) ∧ ∀ base : Heap, K.In base → base.Ns mainGlobals mg → FnOk P w K mg base CX0 11 fa fd ["script"] (spLaw K) := by
  obtain ⟨fd1, F1⟩ := c.glo (x := "ends_of") (st := sEnds) 0 rfl
  obtain ⟨fd2, F2⟩ := c.glo (x := "parts_of") (st := sParts) 1 rfl
  obtain ⟨fd3, F3⟩ := c.glo (x := "is_integer") (st := sInteger) 2 rfl
  obtain ⟨fd4, F4⟩ := c.glo (x := "is_name") (st := sName) 3 rfl
  obtain ⟨fd5, F5⟩ := c.glo (x := "are_names") (st := sNames) 4 rfl
  obtain ⟨fd6, F6⟩ := c.glo (x := "are_arities") (st := sAre) 5 rfl
  obtain ⟨fd7, F7⟩ := c.glo (x := "operator_of") (st := sOper) 6 rfl
  obtain ⟨fd8, F8⟩ := c.glo (x := "is_whole") (st := sWhole) 7 rfl
  obtain ⟨fd9, F9⟩ := c.glo (x := "goal_of") (st := sGoalOf) 8 rfl
  obtain ⟨fd10, F10⟩ := c.glo (x := "rule_of") (st := sRuleOf) 9 rfl
  obtain ⟨fd11, F11⟩ := c.glo (x := "is_rule") (st := sRule) 10 rfl
  obtain ⟨fd12, F12⟩ := c.glo (x := "nonterminals_of") (st := sNonts) 11 rfl
  obtain ⟨fd13, F13⟩ := c.glo (x := "is_book") (st := sIsBook) 12 rfl
  obtain ⟨fd14, F14⟩ := c.glo (x := "_law_dice") (st := sDice) 13 rfl
  obtain ⟨fd15, F15⟩ := c.glo (x := "_law_roll") (st := sRoll) 14 rfl
  obtain ⟨fd16, F16⟩ := c.glo (x := "_law_pick") (st := sPick) 15 rfl
  obtain ⟨fd17, F17⟩ := c.glo (x := "_law_mixed") (st := sMixed) 16 rfl
  obtain ⟨fd18, F18⟩ := c.glo (x := "_law_lines") (st := sLLines) 17 rfl
  obtain ⟨fd19, F19⟩ := c.glo (x := "_law_nonterminals") (st := sLNonts) 18 rfl
  obtain ⟨fd20, F20⟩ := c.glo (x := "_law_drawn_pattern") (st := sDPat) 19 rfl
  obtain ⟨fd21, F21⟩ := c.glo (x := "_law_drawn_book") (st := sDBook) 20 rfl
  obtain ⟨fd22, F22⟩ := c.glo (x := "_law_pattern_end") (st := sLPatternEnd) 21 rfl
  obtain ⟨fd23, F23⟩ := c.glo (x := "_law_is_word") (st := sLIsWord) 22 rfl
  obtain ⟨fd24, F24⟩ := c.glo (x := "_law_is_figure") (st := sLIsFigure) 23 rfl
  obtain ⟨fd25, F25⟩ := c.glo (x := "_law_is_rule") (st := sLIsRule) 24 rfl
  obtain ⟨fd26, F26⟩ := c.glo (x := "_law_is_plain") (st := sLIsPlain) 25 rfl
  obtain ⟨fd27, F27⟩ := c.glo (x := "_law_same_book") (st := sSame) 26 rfl
  obtain ⟨fd28, F28⟩ := c.glo (x := "_law_read") (st := sLRead) 27 rfl
  obtain ⟨fd29, F29⟩ := c.glo (x := "_law_due") (st := sLDue) 28 rfl
  obtain ⟨fd30, F30⟩ := c.glo (x := "_law_told") (st := sLTold) 29 rfl
  obtain ⟨fd31, F31⟩ := c.glo (x := "_law_from_many") (st := sLFromMany) 30 rfl
  obtain ⟨fd32, F32⟩ := c.glo (x := "_law_spoilt") (st := sLSpoilt) 31 rfl
  obtain ⟨fd33, F33⟩ := c.glo (x := "_law_right") (st := sLRight) 32 rfl
  obtain ⟨fd34, F34⟩ := c.glo (x := "law") (st := sLaw) 33 rfl
  obtain ⟨fd35, F35⟩ := c.met (x := "ParseError") (m := "__init__") (q := "ParseError.__init__") (st := peInit) 34 rfl
  obtain ⟨fd36, F36⟩ := c.cla (x := "Book") (m := "from_lines") (q := "Book.from_lines") (st := bFromLines) 35 rfl
  obtain ⟨fd37, F37⟩ := c.met (x := "Operators") (m := "__init__") (q := "Operators.__init__") (st := mInit) 36 rfl
  obtain ⟨fd38, F38⟩ := c.met (x := "Operators") (m := "__eq__") (q := "Operators.__eq__") (st := mEq) 37 rfl
  obtain ⟨fd39, F39⟩ := c.met (x := "Book") (m := "__init__") (q := "Book.__init__") (st := bInit) 38 rfl
  obtain ⟨fd40, F40⟩ := c.met (x := "Book") (m := "__len__") (q := "Book.__len__") (st := bLen) 39 rfl
  obtain ⟨fd41, F41⟩ := c.get (x := "Operators") (m := "arities") (q := "Operators.arities") (st := mArities) 40 rfl
  obtain ⟨fd42, F42⟩ := c.get (x := "Operators") (m := "lines") (q := "Operators.lines") (st := mLines) 41 rfl
  obtain ⟨fd43, F43⟩ := c.get (x := "Book") (m := "operators") (q := "Book.operators") (st := bOps) 42 rfl
  obtain ⟨fd44, F44⟩ := c.get (x := "Book") (m := "goal") (q := "Book.goal") (st := bGoal) 43 rfl
  obtain ⟨fd45, F45⟩ := c.get (x := "Book") (m := "rules") (q := "Book.rules") (st := bRules) 44 rfl
  obtain ⟨fd46, F46⟩ := c.get (x := "Book") (m := "nonterminals") (q := "Book.nonterminals") (st := bNonts) 45 rfl
  obtain ⟨fd47, F47⟩ := c.get (x := "Book") (m := "lines") (q := "Book.lines") (st := bLines) 46 rfl
  obtain ⟨tk_MAX_OPERATORS, cn_MAX_OPERATORS⟩ := Hk.at_int (c.fact (f := .fa (.int "MAX_OPERATORS" 8)) 81 rfl)
  obtain ⟨tk_MAX_LETTERS, cn_MAX_LETTERS⟩ := Hk.at_int (c.fact (f := .fa (.int "MAX_LETTERS" 8)) 82 rfl)
  obtain ⟨tk_MAX_PRICE, cn_MAX_PRICE⟩ := Hk.at_int (c.fact (f := .fa (.int "MAX_PRICE" 9)) 83 rfl)
  obtain ⟨tk_MAX_PATTERN, cn_MAX_PATTERN⟩ := Hk.at_int (c.fact (f := .fa (.int "MAX_PATTERN" 7)) 84 rfl)
  obtain ⟨tk_MAX_RULES, cn_MAX_RULES⟩ := Hk.at_int (c.fact (f := .fa (.int "MAX_RULES" 12)) 85 rfl)
  obtain ⟨tk_MAX_NONTERMINALS, cn_MAX_NONTERMINALS⟩ := Hk.at_int (c.fact (f := .fa (.int "MAX_NONTERMINALS" 6)) 86 rfl)
  obtain ⟨jsp, jtk⟩ := Hk.cm_ok (c.fact (f := .cm) 87 rfl)
  obtain ⟨qneC, qobC, qnDC, qnIC⟩ := Hk.eqs_ok (c.fact (f := .eqs "Operators") 88 rfl)
  obtain ⟨jclC, jobC, jkC⟩ := Hk.isi_ok (c.fact (f := .isi "Operators") 89 rfl)
  obtain ⟨qneB, qobB, qnDB, qnIB⟩ := Hk.eqs_ok (c.fact (f := .eqs "Book") 90 rfl)
  obtain ⟨jclB, jobB, jkB⟩ := Hk.isi_ok (c.fact (f := .isi "Book") 91 rfl)
  exact all_mk X G hfa
    F1
    (Hk.at_glo (c.fact (f := .fa (.glo "ends_of")) 0 rfl))
    F2
    (Hk.at_glo (c.fact (f := .fa (.glo "parts_of")) 1 rfl))
    F3
    (Hk.at_glo (c.fact (f := .fa (.glo "is_integer")) 2 rfl))
    F4
    (Hk.at_glo (c.fact (f := .fa (.glo "is_name")) 3 rfl))
    F5
    (Hk.at_glo (c.fact (f := .fa (.glo "are_names")) 4 rfl))
    F6
    (Hk.at_glo (c.fact (f := .fa (.glo "are_arities")) 5 rfl))
    F7
    (Hk.at_glo (c.fact (f := .fa (.glo "operator_of")) 6 rfl))
    F8
    (Hk.at_glo (c.fact (f := .fa (.glo "is_whole")) 7 rfl))
    F9
    (Hk.at_glo (c.fact (f := .fa (.glo "goal_of")) 8 rfl))
    F10
    (Hk.at_glo (c.fact (f := .fa (.glo "rule_of")) 9 rfl))
    F11
    (Hk.at_glo (c.fact (f := .fa (.glo "is_rule")) 10 rfl))
    F12
    (Hk.at_glo (c.fact (f := .fa (.glo "nonterminals_of")) 11 rfl))
    F13
    (Hk.at_glo (c.fact (f := .fa (.glo "is_book")) 12 rfl))
    F14
    (Hk.at_glo (c.fact (f := .fa (.glo "_law_dice")) 13 rfl))
    F15
    (Hk.at_glo (c.fact (f := .fa (.glo "_law_roll")) 14 rfl))
    F16
    (Hk.at_glo (c.fact (f := .fa (.glo "_law_pick")) 15 rfl))
    F17
    (Hk.at_glo (c.fact (f := .fa (.glo "_law_mixed")) 16 rfl))
    F18
    (Hk.at_glo (c.fact (f := .fa (.glo "_law_lines")) 17 rfl))
    F19
    (Hk.at_glo (c.fact (f := .fa (.glo "_law_nonterminals")) 18 rfl))
    F20
    (Hk.at_glo (c.fact (f := .fa (.glo "_law_drawn_pattern")) 19 rfl))
    F21
    (Hk.at_glo (c.fact (f := .fa (.glo "_law_drawn_book")) 20 rfl))
    F22
    (Hk.at_glo (c.fact (f := .fa (.glo "_law_pattern_end")) 21 rfl))
    F23
    (Hk.at_glo (c.fact (f := .fa (.glo "_law_is_word")) 22 rfl))
    F24
    (Hk.at_glo (c.fact (f := .fa (.glo "_law_is_figure")) 23 rfl))
    F25
    (Hk.at_glo (c.fact (f := .fa (.glo "_law_is_rule")) 24 rfl))
    F26
    (Hk.at_glo (c.fact (f := .fa (.glo "_law_is_plain")) 25 rfl))
    F27
    (Hk.at_glo (c.fact (f := .fa (.glo "_law_same_book")) 26 rfl))
    F28
    (Hk.at_glo (c.fact (f := .fa (.glo "_law_read")) 27 rfl))
    F29
    (Hk.at_glo (c.fact (f := .fa (.glo "_law_due")) 28 rfl))
    F30
    (Hk.at_glo (c.fact (f := .fa (.glo "_law_told")) 29 rfl))
    F31
    (Hk.at_glo (c.fact (f := .fa (.glo "_law_from_many")) 30 rfl))
    F32
    (Hk.at_glo (c.fact (f := .fa (.glo "_law_spoilt")) 31 rfl))
    F33
    (Hk.at_glo (c.fact (f := .fa (.glo "_law_right")) 32 rfl))
    F34
    (Hk.at_glo (c.fact (f := .fa (.glo "law")) 33 rfl))
    (Hk.at_glo (c.fact (f := .fa (.glo "Operators")) 34 rfl))
    (He.cls_ok (c.fact (f := .fa (.cls "Operators")) 35 rfl))
    (He.mkr_ok (c.fact (f := .fa (.mkr "Operators")) 36 rfl))
    (He.noat_ok (c.fact (f := .fa (.noat "Operators" "_names")) 37 rfl))
    (He.noat_ok (c.fact (f := .fa (.noat "Operators" "_arities")) 38 rfl))
    (He.noat_ok (c.fact (f := .fa (.noat "Operators" "_lines")) 39 rfl))
    (He.noat_ok (c.fact (f := .fa (.noat "Operators" "_many")) 40 rfl))
    (He.noat_ok (c.fact (f := .fa (.noat "Operators" "_counts")) 41 rfl))
    (He.noat_ok (c.fact (f := .fa (.noat "Operators" "_rows")) 42 rfl))
    (Hk.at_glo (c.fact (f := .fa (.glo "Book")) 43 rfl))
    (He.cls_ok (c.fact (f := .fa (.cls "Book")) 44 rfl))
    (He.mkr_ok (c.fact (f := .fa (.mkr "Book")) 45 rfl))
    (He.noat_ok (c.fact (f := .fa (.noat "Book" "_operators")) 46 rfl))
    (He.noat_ok (c.fact (f := .fa (.noat "Book" "_goal")) 47 rfl))
    (He.noat_ok (c.fact (f := .fa (.noat "Book" "_rules")) 48 rfl))
    (He.noat_ok (c.fact (f := .fa (.noat "Book" "_nonterminals")) 49 rfl))
    (He.noat_ok (c.fact (f := .fa (.noat "Book" "_parts")) 50 rfl))
    (He.noat_ok (c.fact (f := .fa (.noat "Book" "_lines")) 51 rfl))
    (He.noat_ok (c.fact (f := .fa (.noat "Book" "_sides")) 52 rfl))
    (He.noat_ok (c.fact (f := .fa (.noat "Book" "_kept")) 53 rfl))
    (Hk.at_glo (c.fact (f := .fa (.glo "InvalidOperators")) 54 rfl))
    (He.exc_ok (c.fact (f := .fa (.exc "InvalidOperators")) 55 rfl))
    (Hk.at_glo (c.fact (f := .fa (.glo "InvalidBook")) 56 rfl))
    (He.exc_ok (c.fact (f := .fa (.exc "InvalidBook")) 57 rfl))
    (Hk.at_glo (c.fact (f := .fa (.glo "ParseError")) 58 rfl))
    F35
    (Hk.pe_ok (c.fact (f := .pe "ParseError") 59 rfl))
    (He.exm_ok (c.fact (f := .fa (.exm "InvalidOperators" "ParseError" false)) 60 rfl))
    (He.exm_ok (c.fact (f := .fa (.exm "InvalidOperators" "InvalidOperators" true)) 61 rfl))
    (He.exm_ok (c.fact (f := .fa (.exm "InvalidBook" "ParseError" false)) 62 rfl))
    (He.exm_ok (c.fact (f := .fa (.exm "InvalidBook" "InvalidOperators" false)) 63 rfl))
    (He.exm_ok (c.fact (f := .fa (.exm "InvalidBook" "InvalidBook" true)) 64 rfl))
    (Hk.noins_ok (c.fact (f := .noins "Operators") 65 rfl))
    F36
    (Hk.cmet_ok (c.fact (f := .cmet "Book" "from_lines") 66 rfl))
    (Hk.cread_ok (c.fact (f := .cread "Book") 67 rfl))
    (Hk.at_glo (c.fact (f := .fa (.glo "FIGURES")) 68 rfl))
    (Hk.strs_ok (c.fact (f := .strs "FIGURES" figs) 69 rfl))
    F37
    (He.meth_ok (c.fact (f := .fa (.meth "Operators" "__init__")) 70 rfl))
    F38
    (He.meth_ok (c.fact (f := .fa (.meth "Operators" "__eq__")) 71 rfl))
    F39
    (He.meth_ok (c.fact (f := .fa (.meth "Book" "__init__")) 72 rfl))
    F40
    (He.meth_ok (c.fact (f := .fa (.meth "Book" "__len__")) 73 rfl))
    F41
    (Hk.prop_ok (c.fact (f := .prop "Operators" "arities") 74 rfl))
    F42
    (Hk.prop_ok (c.fact (f := .prop "Operators" "lines") 75 rfl))
    F43
    (Hk.prop_ok (c.fact (f := .prop "Book" "operators") 76 rfl))
    F44
    (Hk.prop_ok (c.fact (f := .prop "Book" "goal") 77 rfl))
    F45
    (Hk.prop_ok (c.fact (f := .prop "Book" "rules") 78 rfl))
    F46
    (Hk.prop_ok (c.fact (f := .prop "Book" "nonterminals") 79 rfl))
    F47
    (Hk.prop_ok (c.fact (f := .prop "Book" "lines") 80 rfl))
    cn_MAX_OPERATORS
    cn_MAX_LETTERS
    cn_MAX_PRICE
    cn_MAX_PATTERN
    cn_MAX_RULES
    cn_MAX_NONTERMINALS
    jsp
    jtk
    qneC
    qobC
    qnDC
    qnIC
    jclC
    jobC
    jkC
    qneB
    qobB
    qnDB
    qnIB
    jclB
    jobB
    jkB
    (Hk.at_free (c.fact (f := .fa (.free "len")) 92 rfl))
    (Hk.at_free (c.fact (f := .fa (.free "int")) 93 rfl))
    (Hk.at_free (c.fact (f := .fa (.free "abs")) 94 rfl))
    (Hk.at_free (c.fact (f := .fa (.free "max")) 95 rfl))
    (Hk.at_free (c.fact (f := .fa (.free "min")) 96 rfl))
    (Hk.at_free (c.fact (f := .fa (.free "list")) 97 rfl))
    (Hk.at_free (c.fact (f := .fa (.free "range")) 98 rfl))
    (Hk.at_free (c.fact (f := .fa (.free "isinstance")) 99 rfl))
    (Hk.at_free (c.fact (f := .fa (.free "bool")) 100 rfl))
    (Hk.at_free (c.fact (f := .fa (.free "tuple")) 101 rfl))
    (Hk.at_free (c.fact (f := .fa (.free "str")) 102 rfl))
    (Hk.at_free (c.fact (f := .fa (.free "dict")) 103 rfl))
    (Hk.at_free (c.fact (f := .fa (.free "sorted")) 104 rfl))
    (Hk.at_free (c.fact (f := .fa (.free "all")) 105 rfl))
    (Hk.at_free (c.fact (f := .fa (.free "sum")) 106 rfl))
    (Hk.at_free (c.fact (f := .fa (.free "repr")) 107 rfl))
    (Hk.at_free (c.fact (f := .fa (.free "enumerate")) 108 rfl))
    (Hk.at_free (c.fact (f := .fa (.free "iter")) 109 rfl))
    (Hk.at_free (c.fact (f := .fa (.free "set")) 110 rfl))
end Pr
namespace Pr
open PySem PySem.W PySem.Calls PyProof.Rows
def looseL0 : List PySem.Str := ["_wall",
  "ends_of",
  "parts_of",
  "CoverError",
  "InvalidOperators",
  "InvalidTree",
  "InvalidBook",
  "ParseError",
  "InvalidNumber",
  "MAX_LETTERS",
  "is_integer",
  "is_count",
  "is_name",
  "are_names",
  "MAX_OPERATORS",
  "MAX_TREE",
  "are_arities",
  "operator_of",
  "is_whole",
  "Operators",
  "MAX_RULES",
  "MAX_PATTERN",
  "MAX_PRICE",
  "MAX_NONTERMINALS",
  "FIGURES",
  "goal_of",
  "rule_of",
  "is_rule",
  "nonterminals_of",
  "is_book"]
def looseL1 : List PySem.Str := ["Book",
  "_law_dice",
  "_law_roll",
  "_law_pick",
  "_law_mixed",
  "_law_lines",
  "_law_nonterminals",
  "_law_drawn_pattern",
  "_law_drawn_book",
  "_law_pattern_end",
  "_law_is_word",
  "_law_is_figure",
  "_law_is_rule",
  "_law_is_plain",
  "_law_same_book",
  "_law_read",
  "_law_due",
  "_law_told",
  "_law_from_many",
  "_law_spoilt",
  "_law_right"]
def looseL : List PySem.Str := looseL0 ++ looseL1
abbrev hk : PySem.W.Hook := Hk.hookK factL defL
def ob (s : PySem.W.SharedT) : He.AlD := Hk.obsKG factL defL (HandSHeadRun.getT s)
theorem ob_eq (s : PySem.W.SharedT) : ob s = hk.obs s.abs := Hk.obsKG_eq (HandSHeadRun.getT_eq s)
abbrev hR : OpenRow := OpenLaw.row PySem.Challenge.rw_munchbehind_k10_whole_lines_of_books
theorem run (w : World) : HandSHeadRun.RunEq hR (PySem.W.view hR.prog [57]) hk ob 16000 looseL w := by
  intro os
  kernel_rfl
end Pr
open PySem PySem.W PySem.Calls PyProof.Rows
set_option maxHeartbeats 0 in
theorem PySem.Challenge.cw_munchbehind_k10_whole_lines_of_books_holds : PySem.Challenge.rw_munchbehind_k10_whole_lines_of_books.Holds := by
  w_on; o_law
  refine HandSHeadRun.head_any (r := OpenLaw.row PySem.Challenge.rw_munchbehind_k10_whole_lines_of_books) (q := view (OpenLaw.row PySem.Challenge.rw_munchbehind_k10_whole_lines_of_books).prog [57]) (H := Pr.hk) (ob := Pr.ob) (M := 16000) (loose := Pr.looseL) (d := HandSHeadRun.topDef (OpenLaw.row PySem.Challenge.rw_munchbehind_k10_whole_lines_of_books).prog 57) (kwd := []) Pr.ob_eq
    (by kernel_rfl) (fun s => by kernel_rfl) Pr.run (by kernel_rfl) (by kernel_rfl) (by kernel_rfl) (by rfl) (by first | assumption | decide +kernel) (by decide +kernel) ⟨rfl, rfl, rfl, rfl, rfl, by decide +kernel⟩ ?hw ?hc
  case hw => w_witness2
  case hc =>
    refine L2.walk_ofE (l := PySem.Challenge.rw_munchbehind_k10_whole_lines_of_books) (n := 63) (k := 11) (x := "script") (CX := L2.CX0) rfl (by decide) (by kernel_rfl) ⟨rfl, by decide, by decide⟩ ?F (fun _ _ _ _ z => z)
    intro w mg fa h Y G hmg0
    obtain ⟨K, KX, c⟩ := Y
    have hmg : mg ("law" : PySem.Str) = some (.ref fa) := by
      have e : (HandSHeadRun.topDef (OpenLaw.row PySem.Challenge.rw_munchbehind_k10_whole_lines_of_books).prog 57).name = ("law" : PySem.Str) := by kernel_rfl
      rw [← e]
      exact hmg0
    obtain ⟨fd, hb, hF⟩ := Pr.facts (P := (PySem.Challenge.rw_munchbehind_k10_whole_lines_of_books).prog) (w := w) KX G hmg c
    exact ⟨K, fd, Pr.spLaw K, KX, hb, fun H a ns hl _ hS => ⟨a, ns, rfl, hS, hl, fun _ => rfl⟩, hF⟩
