import PyProof.Rows.All
import Wide.All
import OpenK.AllK
import Wide.FinOn
import PyProof.EqAt
import PyProof.EqKinds
import PyProof.TupleCall
import KE.KExcInit
import KE.OsGo
import HandS.ForMost
import HandS.ForExc
import HandS.Wide
import HandS.IsInst
import HandS.StrMore
import PyProof.ReprReads
import PyProof.ReprRoads
import PyProof.CallFns
import PyProof.ListStr
import PyProof.StrLawsRepr
import HandS.TupMul
import HandS.TupAny
import HandS.More
import KE.KExcIs
import HandS.ExcValue
import HandS.ExcIs
import HandS.ListItems
import HandS.Small
import HandS.DictComp
import HandS.FStr
import HandS.WordsDict
import HandS.Property
import HandS.Iter
import HandS.Walk
import HandS.SetFor
import HandS.Style
import HandS.Finally
import HandS.Strs
import HandS.Star
import HandS.MethStar
import HandS.StrSplit
import HandS.Text
import HandS.ClsMeth
import HandS.TryMany
import HandS.OwnIter
import HandS.OwnEq
import PySem.Challenge.RW_munchbehind_k07_operators_and_their_line
set_option Elab.async false
set_option linter.all false
set_option maxRecDepth 100000
set_option maxHeartbeats 2000000
/-! ### defs that are called where nothing is being shown (repr): what HandS says of a def, with that one fact more -/
namespace Gd
open PySem PySem.Spec PyProof.Rows L2
/-- a def's promise, kept wherever no repr is under way -/
structure FnG (P : Program) (w : World) (K : PySem.W.Frag) (mg : Str → Option Value) (base : Heap) (CX : CXT) (k : Nat) (f : Addr) (fd : FuncData) (ps : List Str) (sp : Sp) : Prop where
  len : ∀ vs H Q E, sp vs H Q E → vs.length = ps.length
  run : ∀ (A : Around) (outer : List Env) (s : Shared) (H : Hp) (args : Args) (us : List Value) (vs : List V) (Q : VK) (E : XK), Room k A → A.guards = some [] → Env0 P w K mg base A outer s H → BindsTo s fd args (ps.zip us) → Vals vs us → sp vs H Q E →
    codeAny (model P w) A (.call (.ref f) args) (CR CX outer P w H s Q E) s
section
variable {P : Program} {w : World} {K : PySem.W.Frag} {mg : Str → Option Value} {base : Heap} {CX : CXT} {k : Nat} {f : Addr} {fd : FuncData} {ps : List Str} {sp : Sp}
/-- out of its body -/
theorem FnG.of_body {qual : Str} {st : Stmt} {x : Str} {N : List Str} (F : Fun K x qual st f fd) (S : FnScope N ps (defScope st)) (len : ∀ vs H Q E, sp vs H Q E → vs.length = ps.length)
    (hbody : ∀ (cdv : Value) (A : Around) (outer : List Env) (s : Shared) (H : Hp) (vs : List V) (Q : VK) (E : XK), Room k (A.deeper (envOfC qual (defScope st) s.heap.objs.size f cdv)) →
      (A.deeper (envOfC qual (defScope st) s.heap.objs.size f cdv)).guards = some [] → sp vs H Q E →
      ∃ t, PSs (cxOf CX P w K mg base N qual (defScope st) f cdv A outer s H E) (defBody st) t ∧ t { nx := fun _ H' => Q .non H', rt := Q } (start N vs) H) : FnG P w K mg base CX (k + 1) f fd ps sp := by
  obtain ⟨oc, od, kV, doc, pm, an, cdv, ct, osl, rfl, lk, hcd⟩ := F.ex
  constructor
  · exact len
  intro A outer s H args us vs Q E room hg env bind rel want
  have size := len _ _ _ _ want
  have keep : ∀ b o, base.get? b = some o → s.heap.get? b = some o := fun b o e => (env.bs b o e).1
  have KX := env.mod.kin.keeps keep
  have lim := env.mod.nolimit.keeps keep
  have slots : ∀ y ∈ ps.zip us, (defScope st).names.lookup y.1 = some .local ∨ ((defScope st).names.lookup y.1 = some .cell ∧ ((cellsFrom (s.heap.objs.size + 1) (defScope st).names []).lookup y.1).isSome = true) := by
    rintro ⟨n, v⟩ hy
    exact (S.par n (List.of_mem_zip hy).1).imp id fun q => ⟨q, PySem.W.cellsFrom_some _ _ _ (.inl q)⟩
  refine codeAny_call_function room.depth (KX _ _ lk) rfl S.co S.gen rfl (PySem.W.codeRec_of KX hcd) (bind _ _ _ _ (wpAny_newFunctionEnv_cells S.kind slots fun env1 he s1 x => ?_))
  subst he
  refine ⟨lim.keeps x.toInCall.keep, codeAny_func ?_⟩
  have guard : (A.deeper (envOfC qual (defScope st) s.heap.objs.size f cdv)).guards = some [] := hg
  obtain ⟨t, ht, hq⟩ := hbody cdv A outer s H vs Q E (room.deeper _) guard want
  have I : Inv (cxOf CX P w K mg base N qual (defScope st) f cdv A outer s H E) [] (start N vs) H s1 := inv_start S room.hd env size rel x
  refine wpAny_mono (ht.run [] s1 (start N vs) H _ I hq) (fun fl s' hs => ?_) fun e s' hs => hs
  cases fl with
  | ret u =>
    obtain ⟨v, σ', H', J, rv, q⟩ := hs
    exact ⟨v, H', J.os, J.bare, J.base, J.hok, rv, q⟩
  | next =>
    obtain ⟨σ', H', J, q⟩ := hs
    exact ⟨V.non, H', J.os, J.bare, J.base, J.hok, rfl, q⟩
  | brk => exact (let ⟨_, _, _, q⟩ := hs; q : False).elim
  | cont => exact (let ⟨_, _, _, q⟩ := hs; q : False).elim
/-- the same, where no exception leaves it -/
theorem FnG.ok {qual : Str} {st : Stmt} {x : Str} {N : List Str} (F : Fun K x qual st f fd) (S : FnScope N ps (defScope st)) (len : ∀ vs H Q E, sp vs H Q E → vs.length = ps.length)
    (hbody : ∀ (cdv : Value) (A : Around) (outer : List Env) (s : Shared) (H : Hp) (vs : List V) (Q : VK) (E : XK), Room k (A.deeper (envOfC qual (defScope st) s.heap.objs.size f cdv)) →
      (A.deeper (envOfC qual (defScope st) s.heap.objs.size f cdv)).guards = some [] → sp vs H Q E →
      ∃ t, PSs (cxOf CX0 P w K mg base N qual (defScope st) f cdv A outer s H E).nox (defBody st) t ∧ t { nx := fun _ H' => Q .non H', rt := Q } (start N vs) H) : FnG P w K mg base CX0 (k + 1) f fd ps sp :=
  FnG.of_body F S len fun cdv A outer s H vs Q E hr hg h => let ⟨t, a, b⟩ := hbody cdv A outer s H vs Q E hr hg h; ⟨t, a.nox, b⟩
end
section
variable {X : Cx} {CX : CXT} {k : Nat} {f : Addr} {fd : FuncData} {ps : List Str} {sp : Sp} {E : XK} {x : Str} {p pos : Pos} {e : Expr} {es : List Expr} {t : TA}
/-- f(..) of such a def -/
theorem pe_callG (F : FnG X.prog X.w X.K X.mg X.base CX k f fd ps sp) (hr : Room k X.A) (gd : X.A.guards = some []) (hg : Gl X x) (hm : X.mg x = some (.ref f)) (hk : PySem.W.keepIn X.K (.ref f) = true) (hb : Binds X.K fd ps []) (hx : Passes CX X E)
    (ha : PA X (e :: es) t) (hdb : (x == ("__debug__" : Str)) = false := by decide) (he : starEach (e :: es) X.env = (false, eval e X.env) :: starEach es X.env := by rfl) (hpl : (backTo pos (starEach es X.env)).any (·.1) = false := by rfl) :
    PE X (.Call (.Name x p) (e :: es) [] pos) (tCall sp [] E t) := by
  refine ⟨fun pins s σ H Q I h => ?_⟩
  refine wpAny_Call_Name_kw (ld_glob I hg hm ?_ hdb)
  refine PySem.W.callWith_K (h₀ := X.base) I.ok.mod.kin hk (thn (ha.run pos pins s σ H _ I h) fun us s1 ⟨vs, H1, I1, r, q⟩ => ⟨I1.kIn, ?_⟩) he hpl
  have q' : sp vs H1 Q E := by
    have z : sp (vs ++ []) H1 Q E := q
    rw [List.append_nil] at z
    exact z
  have hl : us.length = ps.length := by rw [← r.length]; exact F.len _ _ _ _ q'
  have b := hb s1 us I1.kIn (by rw [List.append_nil]; exact hl)
  rw [List.append_nil] at b
  refine wpAny_call (codeAny_mono (F.run X.A X.stack s1 H1 ⟨us, []⟩ us vs Q E hr gd I1.env0 b r q') fun r' s' hq => ?_)
  cases r' with
  | error z => exact hx pins σ H1 s1 z s' I1 hq
  | ok fl =>
    cases fl with
    | ret u => exact I1.after hq
    | next => exact False.elim hq
    | brk => exact False.elim hq
    | cont => exact False.elim hq
end
/-- the script as the one thing that is tracked: at a, locked, where the written part has it not -/
def scriptH (K : PySem.W.Frag) (a : Addr) (o : Obj) (xs : List V) : Hp := fun b => if b = a ∧ K.lookup a = none then some (.frz o (.lst xs)) else none
theorem scriptH_some {K : PySem.W.Frag} {a b : Addr} {o : Obj} {xs : List V} {u : HO} (h : scriptH K a o xs b = some u) : b = a ∧ K.lookup a = none ∧ u = .frz o (.lst xs) := by
  unfold scriptH at h
  by_cases c : b = a ∧ K.lookup a = none
  · rw [if_pos c] at h
    exact ⟨c.1, c.2, (Option.some.inj h).symm⟩
  · rw [if_neg c] at h
    cases h
/-- the law's own call, from a promise that is kept where nothing is being shown -/
theorem law_callG {P : Program} {w : World} {K : PySem.W.Frag} {mg mb : Str → Option Value} {CX : CXT} {k : Nat} {fa a : Addr} {fd : FuncData} {x : Str} {sp : Sp} {s : Shared} {vs : List Value} {ns : List Int}
    (KX : K.In s.heap) (hns : s.heap.Ns mainGlobals mg) (hb : s.heap.Ns builtinsNs mb) (hbb : ∀ x : Str, x ≠ "__name__" → mb x = bootBuiltins x) (hlim : s.heap.NoLimit) (hg : s.gens = #[])
    (ha : s.heap.get? a = some { cls := .type "list", data := .seq vs.toArray }) (hi : IntsAre vs ns) (hl : ns.length ≤ sizeLine) (hr : Room k callerA)
    (F : ∀ base : Heap, K.In base → base.Ns mainGlobals mg → FnG P w K mg base CX k fa fd [x] sp) (hbind : ∀ (s : Shared) (u : Value), BindsTo s fd ⟨[u], []⟩ [(x, u)])
    (hsp : ∀ H : Hp, Only H → SqL K H a (ns.map V.int) → sp [.ref a] H (fun v _ => v = .bl true) fun _ _ _ => False)
    (hCX : ∀ H e s', CX [] H s (fun _ _ _ => False) e s' → False) :
    codeAny (model P w) callerA (.call (.ref fa) ⟨[.ref a], []⟩) (fun r s' => r = .ok (.ret (.bool true)) ∧ OldK s.heap s'.heap ∧ s'.os = s.os ∧ AllBare s'.gens) s := by
  have rv := vals_ints hi
  have lenV := hi.length
  let O : Obj := { cls := .type "list", data := .seq vs.toArray }
  let H : Hp := scriptH K a O (ns.map V.int)
  have only : Only H := fun b => by
    cases q : H b with
    | none => exact .inl rfl
    | some u => exact .inr ⟨O, ns.map V.int, by rw [(scriptH_some q).2.2]⟩
  have hS : SqL K H a (ns.map V.int) := by
    cases hk : K.lookup a with
    | none => exact .inl (.inr ⟨O, if_pos ⟨rfl, hk⟩⟩)
    | some o =>
      have e := KX a o hk
      rw [ha] at e
      cases e
      exact .inr ⟨_, vs.toArray, _, hk, rfl, rfl, rfl, by rw [List.size_toArray, lenV]; exact hl, by simpa using rv⟩
  have hok : HOk P w H s.heap := fun b u q => by
    obtain ⟨e1, _, e3⟩ := scriptH_some q
    rw [e1, e3]
    exact ⟨ha, by rw [List.length_map]; exact hl, vs, _, rv, ha⟩
  have notDict : ∀ {b : Addr} {o : Obj} {es : Array DictEntry} {ep : Nat}, s.heap.get? b = some o → o.data = .dict es ep → H b = none := fun {b o es ep} e d => by
    cases q : H b with
    | none => rfl
    | some u =>
      rw [(scriptH_some q).1, ha] at e
      cases e
      cases (show Data.seq vs.toArray _ = Data.dict es ep from d)
  have nsK : ∀ {b : Addr} {m : Str → Option Value}, s.heap.Ns b m → (hidT s.heap H).Ns b m := fun {b m} ⟨o, es, ep, e, d, r⟩ => ⟨o, es, ep, hidT_get e (notDict e d), d, r⟩
  have inK : K.In (hidT s.heap H) := fun b o e => hidT_get (KX b o e) (by
    cases q : H b with
    | none => rfl
    | some u =>
      obtain ⟨e1, e2, _⟩ := scriptH_some q
      rw [e1, e2] at e
      cases e)
  obtain ⟨mc, l1, l2⟩ := hlim
  have env : Env0 P w K mg (hidT s.heap H) callerA [] s H :=
    ⟨rfl, ⟨inK, nsK hns, ⟨mb, nsK hb, hbb⟩, ⟨mc, nsK l1, l2⟩⟩, fun b o e => of_hidT e, Nat.le_of_eq (hidT_size _ _), trivial, fun b m => absurd (show b ∈ ([] : List Addr) from m) (by simp), hok, .of_eq hg⟩
  refine codeAny_mono ((F _ inK (nsK hns)).run callerA [] s H ⟨[.ref a], []⟩ [.ref a] [.ref a] _ _ hr rfl env (hbind s (.ref a)) (.cons rfl .nil) (hsp H only hS)) fun r s' h => ?_
  cases r with
  | error e => exact (hCX H e s' h).elim
  | ok fl =>
    cases fl with
    | next => exact False.elim h
    | brk => exact False.elim h
    | cont => exact False.elim h
    | ret u =>
      obtain ⟨v, H', os, bare, un, hok', r', q⟩ := h
      obtain rfl : v = .bl true := q
      obtain rfl : u = Value.bool true := r'
      refine ⟨rfl, OldK.of_keep fun b o e => ?_, os, bare⟩
      cases q : H b with
      | none => exact un.keep b o e q (fun z => absurd (show b ∈ ([] : List Addr) from z) (by simp)) (by simp)
      | some u =>
        obtain ⟨_, _, eu⟩ := scriptH_some q
        rw [eu] at q
        have e1 := (hok b _ q).1
        have e2 := (hok' b _ (un.frzs b O _ q)).1
        rw [e] at e1
        cases e1
        exact e2
theorem walk_ofG {l : PySem.W.OpenLaw} {n k : Nat} {q : Program} {loose : List Str} {XP : (Str → Option Value) → Heap → Prop} {YP : World → Heap → Prop} {d : DefRec} {K : Params → PySem.W.Frag} {CX : World → CXT} {sp : World → Sp} {x : Str}
    (hn : l.most = some n) (hn2 : n ≤ sizeLine) (hdf : d.params.defaults = []) (hr : Room k callerA)
    (hY : ∀ (w : World) (h : Heap), YP w h → (K w.params).In h)
    (F : ∀ (w : World) (mg : Str → Option Value) (fa : Addr) (h : Heap), (K w.params).In h → h.Ns mainGlobals mg → mg d.name = some (.ref fa) →
      ∃ fd : FuncData, (∀ (s : Shared) (u : Value), BindsTo s fd ⟨[u], []⟩ [(x, u)]) ∧
        ∀ base : Heap, (K w.params).In base → base.Ns mainGlobals mg → FnG l.prog w (K w.params) mg base (CX w) k fa fd [x] (sp w))
    (hsp : ∀ (w : World) (H : Hp) (a : Addr) (ns : List Int), ns.length ≤ n → Only H → SqL (K w.params) H a (ns.map V.int) → sp w [.ref a] H (fun v _ => v = .bl true) fun _ _ _ => False)
    (hCX : ∀ (w : World) (H : Hp) (s : Shared) (e : Value) (s' : Shared), CX w [] H s (fun _ _ _ => False) e s' → False) :
    PySem.W.WalkO q loose XP YP l.row.toRowW d [] (fun f vs => PySem.call f vs) := by
  refine Att.attach_call hn hdf fun w s₀ s₁ mg mb fa o pm cd doc a vs ns G Y ho hd hcd hmg hobj hints hlen hg => ?_
  obtain ⟨fd, hb, hF⟩ := F w mg fa _ (hY w _ Y) G.T.g hmg
  exact law_callG (hY w _ Y) G.T.g G.T.b G.T.builtins G.T.nolimit hg hobj hints (Nat.le_trans hlen hn2) hr hF hb (fun H hO hS => hsp w H a ns hlen hO hS) fun H e s' => hCX w H s₁ e s'
end Gd
/-! ### tuples of which it is known that they are plain: rules that make them, and their methods -/
namespace Tx
open PySem PySem.Spec PyProof.Rows L2
/-- a plain tuple -/
def TX (H : Hp) (a : Addr) (xs : List V) : Prop := ∃ ob, H a = some (.frz ob (.tup xs)) ∧ ob.dict = none
theorem TX.same {H H' : Hp} {a : Addr} {xs : List V} (h : TX H a xs) (s : Same H H') : TX H' a xs := let ⟨ob, e, d⟩ := h; ⟨ob, s _ _ e, d⟩
theorem TX.sq {K : PySem.W.Frag} {H : Hp} {a : Addr} {xs : List V} (h : TX H a xs) : SqT K H a xs := let ⟨ob, e, _⟩ := h; .inl (.inr ⟨ob, e⟩)
theorem TX.there {H : Hp} {a : Addr} {xs : List V} (h : TX H a xs) : ∃ ob, H a = some (.frz ob (.tup xs)) := let ⟨ob, e, _⟩ := h; ⟨ob, e⟩
theorem same_new {p : Addr} {H : Hp} {o : HO} (n : H p = none) : Same H (L2.upd H p o) := fun b u h => by rw [upd_ne (ne_of_none h n)]; exact h
section
variable {X : Cx}
/-- a new plain tuple -/
theorem laid_tup {pins : List (Addr × Obj)} {σ : L2.St} {H : Hp} {s : Shared} {xs : List V} {us : List Value} (I : Inv X pins σ H s) (rel : Vals xs us) (few : xs.length ≤ sizeLine) :
    ∃ H2, Inv X pins σ H2 { s with heap := s.heap.push { cls := .type "tuple", data := .seq us.toArray } } ∧ H s.heap.objs.size = none ∧ Same H H2 ∧ TX H2 s.heap.objs.size xs := by
  have fresh := I.hok.fresh (Nat.le_refl s.heap.objs.size)
  have J := I.laid (t' := s.toks) (o := .frz { cls := .type "tuple", data := .seq us.toArray } (.tup xs)) (h' := s.heap.push { cls := .type "tuple", data := .seq us.toArray }) (fun b ob q => Heap.get?_push_of_some _ q) (Nat.le_refl _)
    ⟨Heap.get?_push_size _ rfl, few, us, rel, IsTup.new _ _⟩
  exact ⟨_, J, fresh, same_new fresh, _, upd_same, rfl⟩
/-- (a, b, ..) -/
def tTupX (t : TA) : TE := fun σ H Q => t σ H fun xs H1 => xs.length ≤ sizeLine ∧ ∀ p H2, H1 p = none → Same H1 H2 → TX H2 p xs → Q (.ref p) H2
theorem pe_tupX {es : List Expr} {pos : Pos} {x1} {t : TA} (h : PA X es t) : PE X (.Tuple es x1 pos) (tTupX t) := by
  refine ⟨fun pins s0 σ G0 Q J0 q0 => ?_⟩
  refine wpAny_Tuple_spliced (thn (h.run pos pins s0 σ G0 _ J0 q0) fun us s1 ⟨xs, G1, J1, rel, few, q⟩ => ⟨by rw [← rel.length]; exact few, ?_⟩)
  obtain ⟨G2, J2, fresh, same, tx⟩ := laid_tup J1 rel few
  exact ⟨.ref s1.heap.objs.size, G2, J2, rfl, q _ _ fresh same tx⟩
/-- t + u -/
def rCatX : R2 := fun x y H Q => ∃ a b xs ys, x = .ref a ∧ y = .ref b ∧ TX H a xs ∧ TX H b ys ∧ xs.length + ys.length ≤ sizeLine ∧ ∀ p H2, Same H H2 → TX H2 p (xs ++ ys) → Q (.ref p) H2
theorem op_catX : OpR X (binaryOp .Add) rCatX := by
  intro pins s σ H x y v u Q J rx ry h
  obtain ⟨a, b, xs, ys, rfl, rfl, ha, hb, few, q⟩ := h
  by_cases ex : xs = []
  · subst ex
    refine op_catA pins s σ H _ _ v u Q J rx ry ⟨a, b, [], ys, rfl, rfl, ha.sq, hb.sq, few, fun _ => q b H (Same.refl H) hb, fun e => absurd rfl e, fun e => absurd rfl e⟩
  · cases rx
    cases ry
    obtain ⟨us, r1, p1, _⟩ := J.tuple (ha.sq (K := X.K))
    obtain ⟨ws, r2, p2, _⟩ := J.tuple (hb.sq (K := X.K))
    refine HT.cat_tup p1 p2 (fun z => ex (r1.nil_iff.mp z)) (fun z => ?_) (fun z => ?_) (by rw [← r1.length, ← r2.length]; exact few)
    · have ey := r2.nil_iff.mp z
      subst ey
      exact ⟨.ref a, H, J, rfl, q a H (Same.refl H) (by rw [List.append_nil]; exact ha)⟩
    · obtain ⟨G2, J2, fresh, same, tx⟩ := laid_tup J (r1.append r2) (by rw [List.length_append]; exact few)
      exact ⟨.ref s.heap.objs.size, G2, J2, rfl, q _ _ same tx⟩
/-- t + u, what is new is plain -/
def rCatY (K : PySem.W.Frag) : R2 := fun x y H Q => ∃ a b xs ys, x = .ref a ∧ y = .ref b ∧ SqT K H a xs ∧ SqT K H b ys ∧ xs.length + ys.length ≤ sizeLine ∧
  (xs = [] → Q (.ref b) H) ∧ (xs ≠ [] → ys = [] → Q (.ref a) H) ∧ ∀ p H2, H p = none → Same H H2 → TX H2 p (xs ++ ys) → Q (.ref p) H2
theorem op_catY : OpR X (binaryOp .Add) (rCatY X.K) := by
  intro pins s σ H x y v u Q J rx ry h
  obtain ⟨a, b, xs, ys, rfl, rfl, ha, hb, few, q0, q1, q2⟩ := h
  by_cases ex : xs = []
  · subst ex
    exact op_catA pins s σ H _ _ v u Q J rx ry ⟨a, b, [], ys, rfl, rfl, ha, hb, few, q0, fun e => absurd rfl e, fun e => absurd rfl e⟩
  by_cases ey : ys = []
  · subst ey
    exact op_catA pins s σ H _ _ v u Q J rx ry ⟨a, b, xs, [], rfl, rfl, ha, hb, few, fun e => absurd e ex, q1, fun _ e => absurd rfl e⟩
  · cases rx
    cases ry
    obtain ⟨us, r1, p1, _⟩ := J.tuple ha
    obtain ⟨ws, r2, p2, _⟩ := J.tuple hb
    refine HT.cat_tup p1 p2 (fun z => ex (r1.nil_iff.mp z)) (fun z => absurd (r2.nil_iff.mp z) ey) (fun _ => ?_) (by rw [← r1.length, ← r2.length]; exact few)
    obtain ⟨G2, J2, fresh, same, tx⟩ := laid_tup J (r1.append r2) (by rw [List.length_append]; exact few)
    exact ⟨.ref s.heap.objs.size, G2, J2, rfl, q2 _ _ fresh same tx⟩
/-- t[lo:hi] -/
def rSlX : V → Option Int → Option Int → Hp → VK → Prop := fun x lo hi H Q => ∃ a xs, x = .ref a ∧ TX H a xs ∧ ∀ p H2, Same H H2 → TX H2 p (cutV xs lo hi) → Q (.ref p) H2
theorem cut_whole {xs : List V} {lo hi : Option Int} (h : HT.sIx xs.length 0 lo = 0 ∧ HT.sIx xs.length xs.length hi = xs.length) : cutV xs lo hi = xs := by
  unfold cutV
  rw [h.1, h.2, List.drop_zero, Nat.sub_zero, List.take_length]
theorem sl_tupX : SlR X rSlX := by
  intro pins s σ H x v vl vu lo hi sl Q J rx hs pl pu h
  obtain ⟨a, xs, rfl, hx, q⟩ := h
  cases rx
  obtain ⟨us, rel, tt, few⟩ := J.tuple (hx.sq (K := X.K))
  have len : us.toArray.size = xs.length := by rw [List.size_toArray]; exact rel.length.symm
  refine ⟨"tuple", _, PyProof.Rows.slot_tuple_getitem.lookup, tt.typeIs, ?_⟩
  by_cases whole : HT.sIx xs.length 0 lo = 0 ∧ HT.sIx xs.length xs.length hi = xs.length
  · refine getItem_tuple_whole tt hs pl pu (by rw [len]; exact whole) ⟨.ref a, H, J, rfl, q a H (Same.refl H) ?_⟩
    rw [cut_whole whole]
    exact hx
  · refine HT.getItem_tuple_cut tt hs pl pu (by rw [len]; exact whole) ?_ (by rw [len]; exact few)
    rw [len]
    obtain ⟨G2, J2, fresh, same, tx⟩ := laid_tup J ((rel.drop (HT.sIx xs.length 0 lo)).take (HT.sIx xs.length xs.length hi - HT.sIx xs.length 0 lo)) (Nat.le_trans (cutV_length xs lo hi) few)
    exact ⟨.ref s.heap.objs.size, G2, J2, rfl, q _ _ same tx⟩
/-- tuple(xs) of a list -/
theorem call_tupX : CallR X (.type "tuple") (fun xs H Q => ∃ p ys, xs = [.ref p] ∧ SqL X.K H p ys ∧ ∀ q H2, H q = none → Same H H2 → TX H2 q ys → Q (.ref q) H2) := by
  intro pins s σ H xs us Q J r h
  obtain ⟨p, ys, rfl, hq, q⟩ := h
  obtain ⟨u, rfl, rx⟩ := vals1 r
  cases rx
  obtain ⟨its, rel, pl, few⟩ := J.list hq
  have len := rel.length
  refine call_tuple_list pl.isList (fun h2 keep => ?_) (by simp only [List.size_toArray]; omega)
  have J1 : Inv X pins σ H { s with heap := h2 } := J.kept (t' := s.toks) keep
  obtain ⟨G2, J2, fresh, same, tx⟩ := laid_tup J1 rel few
  exact ⟨.ref h2.objs.size, G2, J2, rfl, q _ _ fresh same tx⟩
/-- t.name(..) -/
def tTM (r : V → List V → Hp → VK → Prop) (to : TE) (t : TA) : TE := fun σ H Q => to σ H fun x H1 => (∃ a xs, x = .ref a ∧ TX H1 a xs) ∧ t σ H1 fun vs H2 => r x vs H2 Q
variable {o e : Expr} {es : List Expr} {name : Str} {id : String} {apos cpos : Pos} {r : V → List V → Hp → VK → Prop} {to : TE} {t : TA}
theorem pe_tm (slot : Slot "tuple" name id) (hty : typeOf (.builtin id) = pure (.type "method_descriptor")) (hm : MtR X id r) (ho : PE X o to) (ha : PA X (e :: es) t)
    (hbase : attributeBase o name X.env (eval o X.env) = eval o X.env := by rfl)
    (few : ((backTo cpos (starEach (e :: es) X.env)).all (fun x => !x.1) && (backToKw cpos (keywordEach [] X.env)).all (fun x => x.1.isSome)
      && decide ((e :: es).length + ([] : List Keyword).length + (if ([] : List Keyword).isEmpty then 0 else 1) < 30)) = true := by rfl)
    (line : (apos.endLine == cpos.line) = true := by rfl) (st : starEach (e :: es) X.env = (false, eval e X.env) :: starEach es X.env := by rfl) (plain : (backTo cpos (starEach es X.env)).any (·.1) = false := by rfl) :
    PE X (.Call (.Attribute o name apos) (e :: es) [] cpos) (tTM r to t) := by
  refine ⟨fun pins s0 σ G0 Q J0 q0 => ?_⟩
  refine wpAny_Call_method_late hbase few line rfl (thn (ho.run pins s0 σ G0 _ J0 q0) fun v s1 ⟨x, G1, J1, r1, ⟨a, xs, ex, tx⟩, q1⟩ => ?_)
  subst ex
  obtain rfl : v = Value.ref a := r1
  obtain ⟨ob, at_, nod⟩ := tx
  obtain ⟨here, _, us, rel, tt⟩ := J1.hok a _ at_
  refine ⟨"tuple", id, F.plainAttrs_tuple, slot, hty, tt.typeIs, fun b eb => ?_, ?_⟩
  · cases eb
    exact ⟨ob, here, nod⟩
  have run := ha.run cpos pins s1 σ G1 _ J1 q1
  rw [st] at run ⊢
  refine Calls.callWith_builtin (by show (false || (backTo cpos (starEach es X.env)).any (·.1)) = false; rw [plain]; rfl) (Calls.evalArgs_plain ?_)
  exact thn run fun us2 s2 ⟨vs, G2, J2, r2, q2⟩ => hm pins s2 σ G2 (.ref a) vs _ us2 Q J2 rfl r2 q2
end
end Tx
/-! ### repr of what is tracked: None, bools, ints, texts, lists, tuples and dicts of them -/
namespace Gd
open PySem PySem.Spec PyProof.Rows L2 PySem.Builtin.List
def keyText : Key → Str
  | .inl i => ((toString i : String) : Str)
  | .inr x => reprText x
def keyFits : Key → Prop
  | .inl i => i.natAbs.log2 < 1920
  | .inr x => (reprText x).length ≤ sizeLine
/-- a plain value and its text -/
inductive Sc : V → Str → Prop where
  | non : Sc .non "None"
  | bl (b : Bool) : Sc (.bl b) (if b then "True" else "False")
  | int (i : Int) (h : i.natAbs.log2 < 1920) : Sc (.int i) ((toString i : String) : Str)
  | str (x : Str) (h : (reprText x).length ≤ sizeLine) : Sc (.str x) (reprText x)
/-- v is shown as t: nested at most n deep -/
def Sh (H : Hp) : Nat → V → Str → Prop
  | 0, v, t => Sc v t
  | n + 1, v, t => Sc v t ∨ (∃ a xs ts, v = .ref a ∧ H a = some (.lst xs) ∧ Paired (Sh H n) xs ts ∧ t = listText ts) ∨
      (∃ a xs ts, v = .ref a ∧ Tx.TX H a xs ∧ Paired (Sh H n) xs ts ∧ t = tupleText ts) ∨
      ∃ a kvs ts, v = .ref a ∧ H a = some (.dK kvs) ∧ Paired (fun (p : Key × V) t => keyFits p.1 ∧ Sh H n p.2 t) kvs ts ∧ t = dictText (List.zipWith (fun (p : Key × V) t => keyText p.1 ++ ": " ++ t) kvs ts)
theorem Sh.sc {H : Hp} {n : Nat} {v : V} {t : Str} (h : Sc v t) : Sh H n v t := by
  cases n with
  | zero => exact h
  | succ n => exact .inl h
theorem Sh.lst {H : Hp} {n : Nat} {a : Addr} {xs : List V} {ts : List Str} (e : H a = some (.lst xs)) (h : Paired (Sh H n) xs ts) : Sh H (n + 1) (.ref a) (listText ts) := .inr (.inl ⟨a, xs, ts, rfl, e, h, rfl⟩)
theorem Sh.tup {H : Hp} {n : Nat} {a : Addr} {xs : List V} {ts : List Str} (e : Tx.TX H a xs) (h : Paired (Sh H n) xs ts) : Sh H (n + 1) (.ref a) (tupleText ts) := .inr (.inr (.inl ⟨a, xs, ts, rfl, e, h, rfl⟩))
theorem Sh.dK {H : Hp} {n : Nat} {a : Addr} {kvs : List (Key × V)} {ts : List Str} (e : H a = some (.dK kvs)) (h : Paired (fun (p : Key × V) t => keyFits p.1 ∧ Sh H n p.2 t) kvs ts) :
    Sh H (n + 1) (.ref a) (dictText (List.zipWith (fun (p : Key × V) t => keyText p.1 ++ ": " ++ t) kvs ts)) := .inr (.inr (.inr ⟨a, kvs, ts, rfl, e, h, rfl⟩))
theorem Sc.det {v : V} {t t' : Str} (h : Sc v t) (h' : Sc v t') : t = t' := by
  cases h <;> cases h' <;> rfl
theorem Sc.noRef {a : Addr} {t : Str} (h : Sc (.ref a) t) : False := nomatch h
theorem paired_det {α : Type} {F G : α → Str → Prop} (k : ∀ a t t', F a t → G a t' → t = t') : ∀ {xs : List α} {ts ts' : List Str}, Paired F xs ts → Paired G xs ts' → ts = ts'
  | _, _, _, .nil, .nil => rfl
  | _, _, _, .cons h r, .cons h' r' => by rw [k _ _ _ h h', paired_det k r r']
/-- the text is one -/
theorem Sh.det {H : Hp} : ∀ (n : Nat) (v : V) (t : Str), Sh H n v t → ∀ (m : Nat) (t' : Str), Sh H m v t' → t = t'
  | 0, v, t, h, 0, t', h' => Sc.det h h'
  | 0, v, t, h, m + 1, t', h' => by
    rcases h' with h' | ⟨a, _, _, rfl, _⟩ | ⟨a, _, _, rfl, _⟩ | ⟨a, _, _, rfl, _⟩
    · exact Sc.det h h'
    all_goals exact (Sc.noRef h).elim
  | n + 1, v, t, h, 0, t', h' => by
    rcases h with h | ⟨a, _, _, rfl, _⟩ | ⟨a, _, _, rfl, _⟩ | ⟨a, _, _, rfl, _⟩
    · exact Sc.det h h'
    all_goals exact (Sc.noRef h').elim
  | n + 1, v, t, h, m + 1, t', h' => by
    rcases h with h | ⟨a, xs, ts, rfl, e, p, rfl⟩ | ⟨a, xs, ts, rfl, ⟨ob, e, od⟩, p, rfl⟩ | ⟨a, xs, ts, rfl, e, p, rfl⟩
    · rcases h' with h' | ⟨a, _, _, rfl, _⟩ | ⟨a, _, _, rfl, _⟩ | ⟨a, _, _, rfl, _⟩
      · exact Sc.det h h'
      all_goals exact (Sc.noRef h).elim
    · rcases h' with h' | ⟨b, xs', ts', eb, e', p', rfl⟩ | ⟨b, xs', ts', eb, ⟨ob', e', od'⟩, p', rfl⟩ | ⟨b, xs', ts', eb, e', p', rfl⟩
      · exact (Sc.noRef h').elim
      all_goals
        cases eb
        rw [e] at e'
        cases e'
      rw [paired_det (fun a t t' q q' => Sh.det n a t q m t' q') p p']
    · rcases h' with h' | ⟨b, xs', ts', eb, e', p', rfl⟩ | ⟨b, xs', ts', eb, ⟨ob', e', od'⟩, p', rfl⟩ | ⟨b, xs', ts', eb, e', p', rfl⟩
      · exact (Sc.noRef h').elim
      all_goals
        cases eb
        rw [e] at e'
        cases e'
      rw [paired_det (fun a t t' q q' => Sh.det n a t q m t' q') p p']
    · rcases h' with h' | ⟨b, xs', ts', eb, e', p', rfl⟩ | ⟨b, xs', ts', eb, ⟨ob', e', od'⟩, p', rfl⟩ | ⟨b, xs', ts', eb, e', p', rfl⟩
      · exact (Sc.noRef h').elim
      all_goals
        cases eb
        rw [e] at e'
        cases e'
      rw [paired_det (fun a t t' q q' => Sh.det n a.2 t q.2 m t' q'.2) p p']
theorem Sh.keep {H H' : Hp} (k : ∀ a o, H a = some o → H' a = some o) : ∀ (n : Nat) (v : V) (t : Str), Sh H n v t → Sh H' n v t
  | 0, _, _, h => h
  | n + 1, _, _, h => by
    rcases h with h | ⟨a, xs, ts, rfl, e, p, rfl⟩ | ⟨a, xs, ts, rfl, e, p, rfl⟩ | ⟨a, xs, ts, rfl, e, p, rfl⟩
    · exact .inl h
    · exact Sh.lst (k _ _ e) (L2.Paired.mapP p fun x t q => Sh.keep k n x t q)
    · exact Sh.tup (Tx.TX.same e k) (L2.Paired.mapP p fun x t q => Sh.keep k n x t q)
    · exact Sh.dK (k _ _ e) (L2.Paired.mapP p fun x t q => ⟨q.1, Sh.keep k n x.2 t q.2⟩)
section
variable {P : Program} {w : World} {H : Hp} {h : Heap}
def Below (H : Hp) (n : Nat) (b : Addr) : Prop := ∃ m, m ≤ n ∧ ∃ t, Sh H m (.ref b) t
theorem all_repr {n : Nat} (ih : ∀ (v : V) (t : Str) (u : Value), Sh H n v t → RelV v u → ∃ bs : List Addr, (∀ b ∈ bs, Below H n b) ∧ ReprK P w bs h n u t) :
    ∀ {xs : List V} {ts : List Str} {us : List Value}, Paired (Sh H n) xs ts → Vals xs us → ∃ bs : List Addr, (∀ b ∈ bs, Below H n b) ∧ ReprAllK P w bs h n us ts
  | _, _, _, .nil, .nil => ⟨[], (fun _ m => nomatch m), .nil⟩
  | _, _, _, .cons p q, .cons r s => by
    obtain ⟨b1, h1, k1⟩ := ih _ _ _ p r
    obtain ⟨b2, h2, k2⟩ := all_repr ih q s
    exact ⟨b1 ++ b2, fun b m => (List.mem_append.mp m).elim (h1 b) (h2 b), .cons (k1.more fun b m => List.mem_append_left _ m) (k2.more_le (fun b m => List.mem_append_right _ m) (Nat.le_refl _))⟩
theorem key_repr {k : Key} {v : Value} (e : keyIs k v = true) (f : keyFits k) (bs : List Addr) (n : Nat) : ReprK P w bs h n v (keyText k) := by
  rcases keyIs_shape e with ⟨i, t, rfl, rfl⟩ | ⟨x, t, rfl, rfl⟩
  · exact .of_is (ReprIs.int t f) _ _ _
  · exact .of_is (ReprIs.str x t f) _ _ _
theorem ReprEntriesK.wider {as as' : List Addr} {d : Nat} (sub : ∀ b ∈ as, b ∈ as') : ∀ {l : List DictEntry} {ts : List Str}, ReprEntriesK P w as h d l ts → ReprEntriesK P w as' h d l ts
  | _, _, .nil => .nil
  | _, _, .cons a b r => .cons (a.more sub) (b.more sub) (ReprEntriesK.wider sub r)
theorem entries_repr {n : Nat} (ih : ∀ (v : V) (t : Str) (u : Value), Sh H n v t → RelV v u → ∃ bs : List Addr, (∀ b ∈ bs, Below H n b) ∧ ReprK P w bs h n u t) :
    ∀ {kvs : List (Key × V)} {ts : List Str} {ws : List (Key × Value)} {es : List DictEntry}, Paired (fun (p : Key × V) t => keyFits p.1 ∧ Sh H n p.2 t) kvs ts → KV kvs ws → Pairs (mixKind P w) es ws →
      ∃ bs : List Addr, (∀ b ∈ bs, Below H n b) ∧ ReprEntriesK P w bs h n es (List.zipWith (fun (p : Key × V) t => keyText p.1 ++ ": " ++ t) kvs ts)
  | _, _, _, _, .nil, .nil, .nil => ⟨[], (fun _ m => nomatch m), .nil⟩
  | _, _, _, _, .cons p q, .cons r s, .cons (e := e) a b c => by
    obtain ⟨b1, h1, k1⟩ := ih _ _ _ p.2 r.2
    obtain ⟨b2, h2, k2⟩ := entries_repr ih q s c
    refine ⟨b1 ++ b2, fun b m => (List.mem_append.mp m).elim (h1 b) (h2 b), ?_⟩
    refine .cons (key_repr (by rw [r.1]; exact a) p.1 _ _) ?_ (ReprEntriesK.wider (fun b m => List.mem_append_right _ m) k2)
    rw [b]
    exact k1.more fun b m => List.mem_append_left _ m
/-- whatever is tracked and is shown as t gives t to repr -/
theorem repr_sh (ok : HOk P w H h) (n : Nat) : ∀ (v : V) (t : Str) (u : Value), Sh H n v t → RelV v u → ∃ bs : List Addr, (∀ b ∈ bs, Below H n b) ∧ ReprK P w bs h n u t := by
  induction n using Nat.strongRecOn with
  | ind n IH =>
    intro v t u hv r
    have plain : Sc v t → ∃ bs : List Addr, (∀ b ∈ bs, Below H n b) ∧ ReprK P w bs h n u t := fun c => by
      refine ⟨[], (fun _ m => nomatch m), ?_⟩
      cases c with
      | non =>
        cases (show u = Value.none from r)
        exact .of_is ReprIs.none _ _ _
      | bl b =>
        cases (show u = Value.bool b from r)
        exact .of_is (ReprIs.bool b) _ _ _
      | int i f =>
        obtain ⟨t, rfl⟩ := (show ∃ t, u = Value.int i t from r)
        exact .of_is (ReprIs.int t f) _ _ _
      | str x f =>
        obtain ⟨t, rfl⟩ := (show ∃ t, u = Value.str x t from r)
        exact .of_is (ReprIs.str x t f) _ _ _
    cases n with
    | zero => exact plain hv
    | succ n =>
      have ih := IH n (Nat.lt_succ_self n)
      -- a ring can't be: what is below has the same text at a lower level
      have ring : ∀ (a : Addr) (bs : List Addr), v = .ref a → (∀ b ∈ bs, Below H n b) → a ∈ bs → ∃ bs : List Addr, (∀ b ∈ bs, Below H (n + 1) b) ∧ ReprK P w bs h (n + 1) u t := fun a bs e hb m => by
        obtain ⟨m, hm, t', ht⟩ := hb a m
        subst e
        have et : t = t' := Sh.det _ _ _ hv _ _ ht
        subst et
        obtain ⟨cs, hc, k⟩ := IH m (by omega) _ _ _ ht r
        exact ⟨cs, fun b q => let ⟨l, hl, x⟩ := hc b q; ⟨l, by omega, x⟩, k.level_le (by omega)⟩
      rcases id hv with c | ⟨a, xs, ts, rfl, e, p, rfl⟩ | ⟨a, xs, ts, rfl, e, p, rfl⟩ | ⟨a, kvs, ts, rfl, e, p, rfl⟩
      · exact plain c
      · cases (show u = Value.ref a from r)
        obtain ⟨_, its, m, rv, ho⟩ := (show ObjOk P w H h a (.lst xs) from ok a _ e)
        obtain ⟨bs, hb, hk⟩ := all_repr ih p rv
        by_cases c : a ∈ bs
        · exact ring a bs rfl hb c
        · refine ⟨a :: bs, fun b q => ?_, ?_⟩
          · rcases List.mem_cons.mp q with rfl | q
            · exact ⟨n + 1, Nat.le_refl _, _, hv⟩
            · obtain ⟨l, hl, x⟩ := hb b q
              exact ⟨l, by omega, x⟩
          · cases its with
            | nil =>
              cases hk
              rw [listText_nil]
              exact ReprK.listEmpty ho rfl rfl
            | cons x l => exact ReprK.list ho rfl rfl c (by simpa using hk.length_eq) (fun i y q => hk.item i y (by simpa using q))
      · cases (show u = Value.ref a from r)
        obtain ⟨ob, e, od⟩ := e
        obtain ⟨_, _, its, rv, o, ho, hc, m, hd⟩ := (show ObjOk P w H h a (.frz ob (.tup xs)) from ok a _ e)
        obtain ⟨bs, hb, hk⟩ := all_repr ih p rv
        by_cases c : a ∈ bs
        · exact ring a bs rfl hb c
        · refine ⟨a :: bs, fun b q => ?_, ReprK.tuple ho hc hd c (by simpa using hk)⟩
          rcases List.mem_cons.mp q with rfl | q
          · exact ⟨n + 1, Nat.le_refl _, _, hv⟩
          · obtain ⟨l, hl, x⟩ := hb b q
            exact ⟨l, by omega, x⟩
      · cases (show u = Value.ref a from r)
        obtain ⟨_, ys, ws, rv, o, es, ep, ho, hc, hd, _, hp, _⟩ := (show ObjOk P w H h a (.dK kvs) from ok a _ e)
        obtain ⟨bs, hb, hk⟩ := entries_repr ih p rv hp
        by_cases c : a ∈ bs
        · exact ring a bs rfl hb c
        · refine ⟨a :: bs, fun b q => ?_, ReprK.dict ho hc.1 hd ys c hk⟩
          rcases List.mem_cons.mp q with rfl | q
          · exact ⟨n + 1, Nat.le_refl _, _, hv⟩
          · obtain ⟨l, hl, x⟩ := hb b q
            exact ⟨l, by omega, x⟩
/-- repr(v) -/
theorem call_sh (ok : HOk P w H h) (n : Nat) : ∀ (v : V) (t : Str) (u : Value), Sh H n v t → RelV v u → t.length ≤ sizeLine → ∀ (A : Around) (E : Value → Shared → Prop) (s : Shared) (Q : Value → Shared → Prop), A.guards = some [] → A.units + (n + 1) < cLine → s.heap = h →
    (∀ h' z tk, (∀ b o, s.heap.get? b = some o → h'.get? b = some o) → Q (.str t z) { s with heap := h', toks := tk }) → wpAny (model P w) A (call (.builtin "repr") [u]) Q E s := by
  induction n using Nat.strongRecOn with
  | ind n IH =>
    intro v t u hv r hz A E s Q hg hu eh hQ
    subst eh
    have plain : Sc v t → wpAny (model P w) A (call (.builtin "repr") [u]) Q E s := fun c => by
      cases c with
      | non =>
        cases (show u = Value.none from r)
        exact PySem.P.repr_of_none (hQ s.heap _ _ fun _ _ e => e)
      | bl b =>
        cases (show u = Value.bool b from r)
        exact PySem.P.repr_of_bool (by
          have q := hQ s.heap s.toks (s.toks + 1) fun _ _ e => e
          cases b <;> exact q)
      | int i f =>
        obtain ⟨t, rfl⟩ := (show ∃ t, u = Value.int i t from r)
        exact PySem.P.repr_of_int f (hQ s.heap _ _ fun _ _ e => e)
      | str x f =>
        obtain ⟨t, rfl⟩ := (show ∃ t, u = Value.str x t from r)
        exact PySem.P.repr_of_str (hQ s.heap _ _ fun _ _ e => e) f
    cases n with
    | zero => exact plain hv
    | succ n =>
      have ih := fun v t u => repr_sh (P := P) (w := w) ok n v t u
      have ring : ∀ (a : Addr) (bs : List Addr), v = .ref a → (∀ b ∈ bs, Below H n b) → a ∈ bs → wpAny (model P w) A (call (.builtin "repr") [u]) Q E s := fun a bs e hb m => by
        obtain ⟨m, hm, t', ht⟩ := hb a m
        subst e
        have et : t = t' := Sh.det _ _ _ hv _ _ ht
        subst et
        exact IH m (by omega) _ _ _ ht r hz A E s Q hg (by omega) rfl hQ
      have hu1 : A.in1.units + (n + 1) < cLine := by
        show A.units + 1 + (n + 1) < cLine
        omega
      have hk0 : ∀ b o, s.heap.get? b = some o → s.heap.get? b = some o := fun _ _ e => e
      rcases id hv with c | ⟨a, xs, ts, rfl, e, p, rfl⟩ | ⟨a, xs, ts, rfl, e, p, rfl⟩ | ⟨a, kvs, ts, rfl, e, p, rfl⟩
      · exact plain c
      · cases (show u = Value.ref a from r)
        obtain ⟨_, its, m, rv, ho⟩ := (show ObjOk P w H s.heap a (.lst xs) from ok a _ e)
        obtain ⟨bs, hb, hk⟩ := all_repr ih p rv
        by_cases c : a ∈ bs
        · exact ring a bs rfl hb c
        · refine call_repr_slot (by omega) (T := "list") ⟨_, ho, rfl⟩ F.slot_list_repr.toG ?_
          cases its with
          | nil =>
            cases hk
            rw [listText_nil] at hQ
            exact call_list_repr_empty ⟨_, ho, rfl⟩ ho rfl ⟨_, _, rfl, hQ s.heap _ _ fun _ _ e => e⟩
          | cons x l =>
            exact call_list_reprK ho rfl rfl c (by simpa using hk.length_eq) (fun i y q => hk.item i y (by simpa using q)) (A := A.in1) hg (fun b _ => Clear.nil b) hu1 hk0 (fun h' z tk k => ⟨_, _, rfl, hQ h' z tk k⟩) hz
      · cases (show u = Value.ref a from r)
        obtain ⟨ob, e, od⟩ := e
        obtain ⟨_, _, its, rv, o, ho, hc, m, hd⟩ := (show ObjOk P w H s.heap a (.frz ob (.tup xs)) from ok a _ e)
        obtain ⟨bs, hb, hk⟩ := all_repr ih p rv
        by_cases c : a ∈ bs
        · exact ring a bs rfl hb c
        · exact call_repr_slot (by omega) (T := "tuple") ⟨_, ho, hc⟩ F.slot_tuple_repr (call_tuple_reprK ho hc hd c (by simpa using hk) (A := A.in1) hg (fun b _ => Clear.nil b) hu1 hk0 (fun h' z tk k => ⟨_, _, rfl, hQ h' z tk k⟩) hz)
      · cases (show u = Value.ref a from r)
        obtain ⟨_, ys, ws, rv, o, es, ep, ho, hc, hd, _, hp, _⟩ := (show ObjOk P w H s.heap a (.dK kvs) from ok a _ e)
        obtain ⟨bs, hb, hk⟩ := entries_repr ih p rv hp
        by_cases c : a ∈ bs
        · exact ring a bs rfl hb c
        · exact call_repr_slot (by omega) (T := "dict") ⟨_, ho, hc.1⟩ F.slot_dict_repr (call_dict_reprK ho hc.1 hd ys c hk (A := A.in1) hg (fun b _ => Clear.nil b) hu1 hk0 (fun h' z tk k => ⟨_, _, rfl, hQ h' z tk k⟩) hz)
end
section
variable {X : Cx}
def rRepr : List V → Hp → VK → Prop := fun vs H Q => ∃ (v : V) (n : Nat) (t : Str), vs = [v] ∧ Sh H n v t ∧ n ≤ 50 ∧ t.length ≤ sizeLine ∧ Q (.str t) H
theorem call_repr (gd : X.A.guards = some []) (hu : X.A.units + 64 < cLine) : CallR X (.builtin "repr") rRepr := by
  intro pins s σ H vs us Q I r h
  obtain ⟨v, n, t, rfl, hv, hn, hz, q⟩ := h
  obtain ⟨u, rfl, ru⟩ := vals1 r
  exact call_sh I.hok n v t u hv ru hz X.A _ s _ gd (by omega) rfl fun h' z tk k => ⟨.str t, H, I.kept k, ⟨z, rfl⟩, q⟩
end
end Gd
namespace PySem
namespace PeX
open PySem.W PySem.Calls PyProof.Rows PySem.HandSPX
/-! ### the text of __init__ -/
def iA (p1 p2 : Pos) : Arguments := { posonlyargs := [], args := [{ arg := "self", annotation := none, pos := p1 }, { arg := "number", annotation := none, pos := p2 }], vararg := none, kwonlyargs := [], kw_defaults := [], kwarg := none, defaults := [] }
def iB (q1 q2 q3 q4 : Pos) : List Stmt := [.Assign [.Attribute (.Name "self" q1) "number" q2] (.Name "number" q3) q4]
def iS : Scope := { kind := .function, names := [(PySem.Str.ofString "self", .local), (PySem.Str.ofString "number", .local)], isGenerator := false, isCoroutine := false, more := [] }
/-- what the written part says of Low, at C, and of its __init__, at fI -/
structure PeTxt (K : Frag) (mg : Str → Option Value) (C fI : Addr) : Prop where
  gC : mg "ParseError" = some (.ref C)
  cls : ∃ nm q N bs bm sn sub ab col dd k0 k1 k2 k3 k5, K.lookup C = some (excClassObj nm q C N bs bm true sn sub ab col dd k0 k1 k2 k3 k5 "ValueError.__new__") ∧ refsVE bm = true
  sa : findIn K (.ref C) "__setattr__" = some (some (.builtin "object.__setattr__"))
  ga : findIn K (.ref C) "__getattribute__" = some (some (.builtin "BaseException.__getattribute__"))
  gg : findIn K (.ref C) "__getattr__" = some none
  noN : findIn K (.ref C) "number" = some none
  iC : findIn K (.ref C) "__init__" = some (some (.ref fI))
  tC : typeIn K (.ref fI) = some (.type "function")
  kC : keepIn K (.ref C) = true
  exC : subIn K (.ref C) (.type "BaseException") = some true
  tyC : typeIn K (.ref C) = some (.type "type")
  hdC : hasDictIn K C = true
  te : exmOne K (.ref C) (.ref C) = some true
  fn : ∃ (oc : Value) (od : Option Addr) (doc pm : Value) (an : Option Addr) (cdv ct : Value) (osl : Array (Option Value)) (p1 p2 q1 q2 q3 q4 : Pos),
    K.lookup fI = some ⟨oc, od, .func (fnOf "__init__" "ParseError.__init__" (iA p1 p2) (iB q1 q2 q3 q4) iS .none .none doc pm an cdv ct), osl⟩ ∧ codeIn K cdv "ParseError.__init__" = true
theorem one_size (v : Value) : [v].length ≤ sizeLine := by
  rw [sizeLine_eq]
  exact (by decide : 1 ≤ 16777216)
theorem kept_but {K : Frag} {h h' : Heap} {x : Addr} (X : K.In h) (hx : K.lookup x = none) (k : ∀ b o, b ≠ x → h.get? b = some o → h'.get? b = some o) : K.In h' := fun a o e =>
  k a o (fun z => by rw [z, hx] at e; cases e) (X a o e)
theorem ldC {M : Model} {s : Shared} {name : Str} {scope : Scope} {L a : Addr} {cd : Value} {m : Str → Option Value} {x : Str} {pos : Pos} {v : Value} {Q : Value → Shared → Prop} {A : Around} {E : Value → Shared → Prop} (hn : s.heap.Ns L m) (hv : m x = some v) (h : Q v s)
    (hk : scope.kind = .function := by rfl) (hl : (envOfC name scope L a cd).kindOf x = some .local := by rfl) (hd : (x == ("__debug__" : Str)) = false := by decide) :
    wpAny M A (eval (.Name x pos) (envOfC name scope L a cd)) Q E s := wpAny_Name (wpAny_loadName_local hk hl hn hv h) hd
/-- what __init__ leaves of a fresh exception at x -/
structure InitEnd (h h' : Heap) (x C dx t1 : Addr) (v : Value) : Prop where
  keep : ∀ b o, b ≠ x → h.get? b = some o → h'.get? b = some o
  obj : h'.get? x = some { cls := .ref C, dict := some dx, data := .fields #[.ref t1, .none, .none, .none, .bool false, .none] }
  dbig : h.objs.size ≤ dx
  dne : dx ≠ x
  ns : h'.Ns1 dx (fun y => if y = "number" then some v else none)
/-- a made Low -/
structure OwnMade (h h' : Heap) (e C d : Addr) (v : Value) : Prop where
  keep : ∀ b o, h.get? b = some o → h'.get? b = some o
  new : h.objs.size ≤ e
  obj : ∃ oe vs, h'.get? e = some oe ∧ oe.cls = .ref C ∧ oe.dict = some d ∧ oe.data = .fields vs ∧ vs[1]? = some .none
  dbig : h.objs.size ≤ d
  dne : d ≠ e
  ns : h'.Ns1 d (fun y => if y = "number" then some v else none)
section
variable {prog : Program} {w : World} {A : Around} {E : Value → Shared → Prop} {R : Result → Shared → Prop} {s : Shared} {K : Frag} {mg : Str → Option Value} {C fI : Addr}
theorem pe_init (T : PeTxt K mg C fI) {x t0 : Addr} {v : Value} (X : K.In s.heap) (hlim : s.heap.NoLimit) (hx : s.heap.get? x = some (excO C t0)) (hnx : K.lookup x = none) (hroom : A.depth < recursionLimit)
    (hq : ∀ h' tk dx, InitEnd s.heap h' x C dx t0 v → R (.ok (.ret .none)) { s with heap := h', toks := tk }) :
    codeAny (model prog w) A (.call (.ref fI) ⟨[.ref x, v], []⟩) R s := by
  obtain ⟨oc, od, doc, pm, an, cdv, ct, osl, p1, p2, q1, q2, q3, q4, ho, hcd⟩ := T.fn
  obtain ⟨nm, q, N, bs, bm, sn, sub, ab, col, dd, k0, k1, k2, k3, k5, hC, hbm⟩ := T.cls
  have hcl : clsIn K C = some { name := nm, bases := bs, mro := .ref C :: bm, ns := N, qualname := q, hasDict := true, slotNames := sn, subclasses := sub, abstract := ab, collection := col, hasDel := false } := by unfold clsIn; rw [hC] <;> rfl
  refine Att.call_fn (binds := [("self", .ref x), ("number", v)]) X hlim ho hcd hroom (BindsTo.of_eq (by first | rfl | with_unfolding_all rfl)) (by first | rfl | decide | with_unfolding_all rfl) (fun s₁ IC => ?_) rfl rfl rfl
  obtain ⟨h₁, tk₁, rfl⟩ := IC.toInCall.same
  have k : ∀ b o, s.heap.get? b = some o → h₁.get? b = some o := IC.toInCall.keep
  have hn := IC.toInCall.ns
  have hxL : s.heap.objs.size ≠ x := Nat.ne_of_gt (Heap.lt_size hx)
  have X₁ : K.In h₁ := X.keeps k
  have hx₁ := k _ _ hx
  -- self.by = by
  show wpAny _ _ (execs _ _) _ _ _
  refine wpAny_execs_cons (plainObj_wpAny_Assign_Attribute ?_)
  refine ldC (v := v) hn (by first | rfl | with_unfolding_all rfl | kernel_rfl) (ldC (v := .ref x) hn (by first | rfl | with_unfolding_all rfl | kernel_rfl) ?_)
  refine set_plain X₁ (ox := excO C t0) (od := none) ⟨hx₁, rfl, rfl, trivial⟩ T.sa ?_
  refine exc_osa X₁ hx₁ hcl (show refsVE (.ref C :: bm) = true from hbm) rfl T.noN (fun h₃ tk₃ dx k₃ dn dne hx₃ hn₃ => ?_)
  show wpAny _ _ (execs _ _) _ _ _
  have z : s.heap.objs.size < h₁.objs.size := hn.lt
  exact wpAny_execs_nil (hq h₃ tk₃ dx ⟨fun b o hb e => k₃ b o hb (k b o e), hx₃, Nat.le_of_lt (Nat.lt_of_lt_of_le z dn), dne, hn₃⟩)
theorem pe_made (T : PeTxt K mg C fI) {v : Value} (X : K.In s.heap) (hlim : s.heap.NoLimit) (hroom : A.depth + 1 < recursionLimit)
    (hq : ∀ h' tk e d, OwnMade s.heap h' e C d v → R (.ok (.ret (.ref e))) { s with heap := h', toks := tk }) :
    codeAny (model prog w) A (.call (.ref C) ⟨[v], []⟩) R s := by
  obtain ⟨nm, q, N, bs, bm, sn, sub, ab, col, dd, k0, k1, k2, k3, k5, hC, hbm⟩ := T.cls
  obtain ⟨hp, g, dr, tk, os⟩ := s
  have k : ∀ b o, hp.get? b = some o → ((hp.push (kdv_tup [v])).push (excO C hp.objs.size)).get? b = some o := fun b o e => Heap.get?_push_of_some _ (Heap.get?_push_of_some _ e)
  have hget : ((hp.push (kdv_tup [v])).push (excO C hp.objs.size)).get? (hp.objs.size + 1) = some (excO C hp.objs.size) := by heap_get
  have hnx : K.lookup (hp.objs.size + 1) = none := by
    cases e : K.lookup (hp.objs.size + 1) with
    | none => rfl
    | some o =>
      have z : hp.get? (hp.objs.size + 1) = some o := X _ _ e
      exact absurd (Nat.lt_of_succ_lt (Heap.lt_size z)) (Nat.lt_irrefl _)
  refine call_own F.excBase_ValueError (fun X => refsVE_contains X bm hbm) (X _ _ hC) (looks_findIn X T.iC) (fun self => bind_fn X self T.tC) (one_size v) ?_
  refine pe_init (s := ⟨(hp.push (kdv_tup [v])).push (excO C hp.objs.size), g, dr, tk, os⟩) T (X.keeps k) (hlim.keeps k) hget hnx ?_ fun h' tk' dx ⟨k', hx, dn, dne, hns⟩ => ?_
  · show A.depth + 1 < recursionLimit
    exact hroom
  · have old : ∀ b o, hp.get? b = some o → h'.get? b = some o := fun b o e => k' b o (Nat.ne_of_lt (Nat.lt_succ_of_lt (Heap.lt_size e))) (k b o e)
    have z : hp.objs.size + 1 + 1 ≤ dx := by
      first
        | (simpa only [Heap.size_push] using dn)
        | exact dn
        | (have q := dn; rw [Heap.size_push, Heap.size_push] at q; exact q)
    exact ⟨rfl, hq h' tk' (hp.objs.size + 1) dx ⟨old, Nat.le_succ _, ⟨_, _, hx, rfl, rfl, rfl, rfl⟩, Nat.le_trans (Nat.le_trans (Nat.le_succ _) (Nat.le_succ _)) z, dne, hns⟩⟩
end
end PeX
end PySem
namespace L2
open PySem PySem.Spec PyProof.Rows
theorem relO_pe {v : V} {v' : Value} (r : RelV v v') (f : Str) : RelO (List.lookup f [(("number" : Str), v)]) (if f = "number" then some v' else none) := by
  by_cases hw : f = "number"
  · subst hw
    rw [if_pos rfl]
    have q : List.lookup ("number" : Str) [(("number" : Str), v)] = some v := by simp [List.lookup]
    rw [q]
    exact r
  · rw [if_neg hw]
    have qw : (f == ("number" : Str)) = false := by simpa using hw
    have q2 : List.lookup f [(("number" : Str), v)] = none := by simp [List.lookup, qw]
    rw [q2]
    trivial
section
variable {X : Cx} {C fI : Addr}
/-- Low(e) -/
def tMkPe (C : Addr) (ta : TA) : St → Hp → XK → Prop := fun σ H Q => ta σ H fun vs H1 => ∃ v, vs = [v] ∧ ∀ d, H1 d = none → Q (.ref C) (some d) (upd H1 d (.xd [(("number" : Str), v)]))
theorem pmk_pe {a : Expr} {ta : TA} {p pos : Pos} {k : Nat} (T : PySem.PeX.PeTxt X.K X.mg C fI) (hr : Room k X.A) (ha : PA X [a] ta) (hg : Gl X "ParseError" := by rfl)
    (he : starEach (a :: []) X.env = (false, eval a X.env) :: starEach [] X.env := by rfl) (hpl : (backTo pos (starEach [] X.env)).any (·.1) = false := by rfl) :
    PMk X (.Call (.Name "ParseError" p) [a] [] pos) (tMkPe C ta) := by
  intro pins s σ H Q I h
  refine wpAny_Call_Name_kw (ld_glob I hg T.gC ?_)
  refine PySem.W.callWith_K (h₀ := X.base) I.ok.mod.kin T.kC (thn (ha.run pos pins s σ H _ I h) fun us s1 hh => ?_) he hpl
  obtain ⟨vs, H1, I1, r1, v, ev, q1⟩ := hh
  subst ev
  refine ⟨I1.kIn, ?_⟩
  cases r1 with
  | cons rv rn =>
    rename_i v' us'
    cases rn
    show wpAny _ _ (call (.ref C) [v']) _ _ _
    have hlim := I1.nolimit
    obtain ⟨hp, g, dr, tk, os⟩ := s1
    refine wpAny_call (PySem.PeX.pe_made T I1.kIn hlim (by have := hr.dp; omega) fun h' tk' e d M => ?_)
    show MkP X pins σ Q (.ref e) ⟨h', g, dr, tk', os⟩
    obtain ⟨oe, fv, hoe, hc, hd, hdat, h1⟩ := M.obj
    have hns := M.ns
    obtain ⟨G', g1, g2⟩ := restrict h' fun b => decide (b ≠ e)
    have gk : ∀ b, b ≠ e → G'.get? b = h'.get? b := fun b hb => g1 b (decide_eq_true hb)
    have ge : G'.get? e = none := g2 e (by simp)
    have old : ∀ b o, hp.get? b = some o → G'.get? b = some o := fun b o q => (gk b (Nat.ne_of_lt (Nat.lt_of_lt_of_le (Heap.lt_size q) M.new))).trans (M.keep b o q)
    have ob : ObjOk X.prog X.w (upd H1 d (.xd [(("number" : Str), v)])) G' d (.xd [(("number" : Str), v)]) :=
      ⟨_, hns.at (fun o q => (gk d M.dne).trans q), fun f => relO_pe rv f⟩
    have J : Inv X pins σ (upd H1 d (.xd [(("number" : Str), v)])) ⟨G', g, dr, tk', os⟩ := I1.laid (t' := tk') old M.dbig ob
    refine ⟨e, oe, fv, ⟨G', g, dr, tk', os⟩, _, .ref C, some d, rfl, J, fun b o q => ?_, ge, hoe, ⟨hc, hd⟩, hdat, h1, ?_, rfl, I1.bare, raises_own T.exC T.tyC, q1 d (I1.hok.fresh M.dbig)⟩
    · by_cases hb : b = e
      · have q' : G'.get? b = some o := q
        rw [hb, ge] at q'; cases q'
      · exact (gk b hb).symm.trans q
    · rw [upd_ne (Ne.symm M.dne)]
      exact I1.hok.fresh M.new
/-- raise Low(e) -/
def tRaisePe (C : Addr) (W : WX) (ta : TA) : TS := fun _ σ H => tMkPe C ta σ H fun cls d H' => W cls d σ H'
theorem ps_raisePe {a : Expr} {ta : TA} {W : WX} {p pos pos2 : Pos} {k : Nat} (hc : X.calm = true) (T : PySem.PeX.PeTxt X.K X.mg C fI) (hr : Room k X.A) (tk : Takes X W) (ha : PA X [a] ta) (hg : Gl X "ParseError" := by rfl)
    (he : starEach (a :: []) X.env = (false, eval a X.env) :: starEach [] X.env := by rfl) (hpl : (backTo pos (starEach [] X.env)).any (·.1) = false := by rfl) :
    PS X (.Raise (some (.Call (.Name "ParseError" p) [a] [] pos)) none pos2) (tRaisePe C W ta) := ps_raise hc tk (pmk_pe T hr ha hg he hpl)
/-- low.by, low the exception that the suite holds (at a; its class cls, its dict d) -/
def tByPe (C : Addr) (a : Addr) (cls : Value) (d : Option Addr) (te : TE) : TE := fun σ H Q => te σ H fun x H1 => x = .ref a ∧ cls = .ref C ∧ ∃ (dd : Addr) (v : V), d = some dd ∧ H1 dd = some (.xd [(("number" : Str), v)]) ∧ Q v H1
theorem pe_byPe {a : Addr} {oe : Obj} {cls : Value} {d : Option Addr} {pn : List (Addr × Obj)} {e : Expr} {te : TE} {pos : Pos} (T : PySem.PeX.PeTxt X.K X.mg C fI) (hz : Zc cls d oe) (hf : ∃ vs, oe.data = .fields vs) (he : PE (X.suite a ((a, oe) :: pn)) e te)
    (hb : attributeBase e "number" X.env (eval e X.env) = eval e X.env := by rfl) :
    PE (X.suite a ((a, oe) :: pn)) (.Attribute e "number" pos) (tByPe C a cls d te) := by
  refine ⟨fun pins s σ H Q I h => ?_⟩
  refine attr_of hb (thn (he.run pins s σ H _ I h) fun u s1 hh => ?_)
  obtain ⟨x, H1, I1, rx, ex, ec, dd, v, ed, ea, q⟩ := hh
  subst ex
  obtain rfl : u = Value.ref a := rx
  subst ec
  subst ed
  obtain ⟨ha, _⟩ := I1.pin (a, oe) (List.mem_append_left _ List.mem_cons_self)
  obtain ⟨vs, hd⟩ := hf
  have hx : ObjOk X.prog X.w H1 s1.heap dd (.xd [(("number" : Str), v)]) := I1.hok dd _ ea
  obtain ⟨mA, hns, hr⟩ := hx
  obtain ⟨od, ho, hl⟩ := lookIn_ns hns
  have l : List.lookup ("number" : Str) [(("number" : Str), v)] = some v := by simp [List.lookup]
  obtain ⟨u, hu, ru⟩ := RelO.some_of (v := v) (o := mA "number") (by rw [← l]; exact hr "number")
  have J : PySem.W.InstAt s1.heap a oe C (some od) := ⟨ha, hz.1, by unfold PySem.W.notCls; rw [hd] <;> rfl, by rw [hz.2]; exact ho⟩
  exact HandSPX.exc_get I1.kIn J T.ga T.gg T.exC (PySem.W.findObj_own T.hdC T.noN rfl (by rw [hl, hu])) (handed_of ru) ⟨v, H1, I1.tok _, ru, q⟩
end
end L2

namespace L2
open PySem PySem.Spec PyProof.Rows
/-- an if whose test is known -/
theorem if_true_of {c : Bool} {A B : Prop} (hc : c = true) (h : A) : if c = true then A else B := by
  rw [if_pos hc]
  exact h
theorem if_false_of {c : Bool} {A B : Prop} (hc : c = false) (h : B) : if c = true then A else B := by
  rw [hc, if_neg Bool.false_ne_true]
  exact h
end L2
/-! ### the dice: the law's own drawn numbers -/
namespace Pr
open PySem PySem.Spec PyProof.Rows L2
/-- all that was tracked, but the object at d, is as it was -/
def Kp (d : Addr) (H H' : Hp) : Prop := ∀ b o, b ≠ d → H b = some o → H' b = some o
theorem Kp.refl (d : Addr) (H : Hp) : Kp d H H := fun _ _ _ h => h
theorem Kp.trans {d : Addr} {H H1 H2 : Hp} (a : Kp d H H1) (b : Kp d H1 H2) : Kp d H H2 := fun c o n h => b c o n (a c o n h)
theorem Kp.upd {d : Addr} {H : Hp} {o : HO} : Kp d H (upd H d o) := fun b u n h => by rw [upd_ne n]; exact h
theorem Kp.new {d p : Addr} {H : Hp} {o : HO} (n : H p = none) : Kp d H (L2.upd H p o) := fun b u _ h => by rw [upd_ne (ne_of_none h n)]; exact h
theorem Kp.same {d : Addr} {H H' : Hp} (s : Same H H') : Kp d H H' := fun b o _ h => s b o h
theorem Same.new {p : Addr} {H : Hp} {o : HO} (n : H p = none) : Same H (L2.upd H p o) := fun b u h => by rw [upd_ne (ne_of_none h n)]; exact h
/-- d is new and then written -/
theorem Kp.over {d : Addr} {H H1 H2 : Hp} (n : H d = none) (s : Same H H1) (k : Kp d H1 H2) : Same H H2 := fun b o h => k b o (ne_of_none h n) (s b o h)
theorem Kp.seq {K : PySem.W.Frag} {d a : Addr} {H H' : Hp} {xs : List V} (k : Kp d H H') (n : a ≠ d) (h : SqL K H a xs) : SqL K H' a xs := by
  rcases h with (h | ⟨o, h⟩) | h
  · exact .inl (.inl (k _ _ n h))
  · exact .inl (.inr ⟨o, k _ _ n h⟩)
  · exact .inr h
/-- the dice that stand at d: what is left of the cell's number, the seed, the number of draws (at most n) -/
structure Dice (H : Hp) (d : Addr) (n : Nat) : Prop where
  at_ : ∃ x y c : Int, H d = some (.lst [.int x, .int y, .int c]) ∧ 0 ≤ x ∧ x < 2 ^ 400 ∧ 0 ≤ y ∧ y < 2 ^ 40 ∧ 0 ≤ c ∧ c ≤ n
  few : n ≤ 1000000
theorem Dice.kept {H H' : Hp} {d : Addr} {n : Nat} (D : Dice H d n) (s : ∀ o, H d = some o → H' d = some o) : Dice H' d n := by
  obtain ⟨⟨x, y, c, e, r⟩, f⟩ := D
  exact ⟨⟨x, y, c, s _ e, r⟩, f⟩
theorem Dice.same {H H' : Hp} {d : Addr} {n : Nat} (D : Dice H d n) (s : Same H H') : Dice H' d n := D.kept fun o e => s _ o e
theorem Dice.more {H : Hp} {d : Addr} {n m : Nat} (D : Dice H d n) (h : n ≤ m) (hm : m ≤ 1000000) : Dice H d m := by
  obtain ⟨⟨x, y, c, e, r1, r2, r3, r4, r5, r6⟩, f⟩ := D
  exact ⟨⟨x, y, c, e, r1, r2, r3, r4, r5, by omega⟩, hm⟩
theorem Dice.there {H : Hp} {d : Addr} {n : Nat} (D : Dice H d n) : ∃ xs, H d = some (.lst xs) := by
  obtain ⟨⟨x, y, c, e, _⟩, _⟩ := D
  exact ⟨_, e⟩
def spDice (K : PySem.W.Frag) : Sp := fun vs H Q _ => ∃ (a : Addr) (ns : List Int) (i : Nat), vs = [.ref a, .int i] ∧ SqL K H a (ns.map V.int) ∧ i < 64 ∧
  ∀ (d : Addr) (H' : Hp), H d = none → Same H H' → Dice H' d 0 → Q (.ref d) H'
def spRoll : Sp := fun vs H Q _ => ∃ (d : Addr) (t : Int) (n : Nat), vs = [.ref d, .int t] ∧ Dice H d n ∧ n < 1000000 ∧ 0 < t ∧ t < 2 ^ 400 ∧
  ∀ (r : Int) (o : HO), 0 ≤ r → r < t → Dice (upd H d o) d (n + 1) → Q (.int r) (upd H d o)
def spPick (K : PySem.W.Frag) : Sp := fun vs H Q _ => ∃ (d p : Addr) (n : Nat) (xs : List V), vs = [.ref d, .ref p] ∧ p ≠ d ∧ (SqL K H p xs ∨ SqT K H p xs) ∧ xs ≠ [] ∧ xs.length ≤ 1000 ∧ Dice H d n ∧ n < 1000000 ∧
  ∀ (v : V) (o : HO), v ∈ xs → Dice (upd H d o) d (n + 1) → Q v (upd H d o)
def spMixed (K : PySem.W.Frag) : Sp := fun vs H Q _ => ∃ (d p : Addr) (n : Nat) (xs : List V), vs = [.ref d, .ref p] ∧ p ≠ d ∧ SqL K H p xs ∧ xs.length ≤ 1000 ∧ Dice H d n ∧ n + xs.length < 1000000 ∧
  ∀ (q : Addr) (ys : List V) (H' : Hp), q ≠ d → H q = none → Kp d H H' → H' q = some (.lst ys) → ys.Perm xs → Dice H' d (n + xs.length) → Q (.ref q) H'
theorem fmod_pos {i j : Int} (h : 0 < j) : 0 ≤ i.fmod j ∧ i.fmod j < j := ⟨Int.fmod_nonneg_of_pos _ h, Int.fmod_lt_of_pos _ h⟩
theorem emod_pos {i j : Int} (h : 0 < j) : 0 ≤ i % j ∧ i % j < j := ⟨Int.emod_nonneg _ (by omega), Int.emod_lt_of_pos _ h⟩
theorem c10 {k : Nat} (h : k ≤ 1000000) : CPow 10 (k : Int) := ⟨by omega, by omega, by decide⟩
end Pr
namespace Pr
open PySem PySem.Spec PyProof.Rows L2
/-! ### the text by places -/
def topS (i : Nat) : Stmt := PySem.Challenge.pw_munchbehind_k07_operators_and_their_line.main.body.getD i (.Pass ⟨0, 0, 0, 0⟩)
abbrev sInteger : Stmt := topS 7
abbrev sName : Stmt := topS 8
abbrev sAre : Stmt := topS 11
abbrev sOper : Stmt := topS 12
abbrev sDice : Stmt := topS 15
abbrev sRoll : Stmt := topS 16
abbrev sPick : Stmt := topS 17
abbrev sMixed : Stmt := topS 18
abbrev sOdd : Stmt := topS 19
abbrev sArs : Stmt := topS 20
abbrev sNamed : Stmt := topS 21
abbrev sIsLine : Stmt := topS 22
abbrev sDue : Stmt := topS 23
abbrev sRead : Stmt := topS 24
abbrev sNear : Stmt := topS 25
abbrev sLines : Stmt := topS 26
abbrev sSorted : Stmt := topS 27
abbrev sMade : Stmt := topS 28
abbrev sDicts : Stmt := topS 29
abbrev sLaw : Stmt := topS 30
/-- the methods of the class -/
def inS (i : Nat) : Stmt := match topS 13 with
  | .ClassDef _ _ _ body _ _ _ _ _ _ _ => body.getD i (.Pass ⟨0, 0, 0, 0⟩)
  | _ => .Pass ⟨0, 0, 0, 0⟩
abbrev mInit : Stmt := inS 0
abbrev mFrom : Stmt := inS 1
abbrev mArities : Stmt := inS 2
abbrev mLines : Stmt := inS 5
abbrev mIter : Stmt := inS 22
abbrev mEq : Stmt := inS 23
/-- the built-in names that the module leaves alone -/
structure Free (mg : Str → Option Value) : Prop where
  len : mg "len" = none
  int : mg "int" = none
  abs : mg "abs" = none
  max : mg "max" = none
  min : mg "min" = none
  list : mg "list" = none
  range : mg "range" = none
  isi : mg "isinstance" = none
  bool : mg "bool" = none
  tuple : mg "tuple" = none
  str : mg "str" = none
  dict : mg "dict" = none
  sorted : mg "sorted" = none
  all : mg "all" = none
  sum : mg "sum" = none
  repr : mg "repr" = none
  enum : mg "enumerate" = none
  iter : mg "iter" = none
end Pr
namespace Pr
open PySem PySem.Spec PyProof.Rows L2
theorem dice_end (l g : Int) (b : Int) {i : Nat} (hi : i < 64) (hb : 0 ≤ b ∧ b ≤ 1) :
    0 ≤ l.fmod (10 ^ (60 : Int).toNat * 10 ^ (60 : Int).toNat) ∧ l.fmod (10 ^ (60 : Int).toNat * 10 ^ (60 : Int).toNat) < 2 ^ 400 ∧
    0 ≤ g % 2147483563 * 41 + 613 * (i : Int) + 17 * b + 7 ∧ g % 2147483563 * 41 + 613 * (i : Int) + 17 * b + 7 < 2 ^ 40 ∧ (0 : Int) ≤ 0 ∧ (0 : Int) ≤ (0 : Nat) := by
  have h1 := fmod_pos (i := l) (j := 10 ^ (60 : Int).toNat * 10 ^ (60 : Int).toNat) (by decide +kernel)
  have h2 : (10 ^ (60 : Int).toNat * 10 ^ (60 : Int).toNat : Int) < 2 ^ 400 := by decide +kernel
  have h3 := emod_pos (i := g) (j := 2147483563) (by decide)
  refine ⟨h1.1, Int.lt_trans h1.2 h2, by omega, by omega, by omega, by omega⟩
section
variable {P : Program} {w : World} {K : PySem.W.Frag} {mg : Str → Option Value} {base : Heap}
theorem scDice : FnScope ["script", "spot", "cell", "great", "left"] ["script", "spot"] (defScope sDice) := ⟨rfl, rfl, rfl, by decide +kernel, rfl, by decide +kernel, by decide +kernel⟩
theorem ok_dice {f : Addr} {fd : FuncData} (F : Fun K "_law_dice" "_law_dice" sDice f fd) (T : Free mg) : FnOk P w K mg base CX0 1 f fd ["script", "spot"] (spDice K) := by
  refine F.ok scDice (fun vs H Q E h => ?_) (fun cdv A outer s H vs Q E hr h => ?_)
  · obtain ⟨a, ns, i, rfl, _⟩ := h
    rfl
  · obtain ⟨a, ns, i, rfl, hS, hi, k⟩ := h
    refine ⟨_, pss_cons (ps_set (i := 2) scDice.nd rfl (.inl rfl) (pe_ifExp (pt_cmpR op_lt (pv 1) (pe_callB call_len_seq (by rfl) T.len PySem.boot_len (pa_cons (pv 0) pa_nil)) (nomark _))
        (pe_callTy call_int1 (by rfl) T.int (by decide +kernel) (pa_cons (pe_ix ix_list (pv 0) (pv 1) (fun _ _ => rfl)) pa_nil)) (pe_op op_add (pe_op op_mul pe_int (pv 1)) pe_int)))
      (pss_cons (ps_set (i := 3) scDice.nd rfl (.inl rfl) (pe_op op_modN (pe_callB call_abs (by rfl) T.abs (by decide +kernel) (pa_cons (pv 2) pa_nil)) (pe_op op_pow pe_int pe_int)))
      (pss_cons (ps_set (i := 4) scDice.nd rfl (.inl rfl) (pe_callB (call_max2 rfl) (by rfl) T.max (by decide +kernel) (pa_cons pe_int (pa_cons (pe_op op_sub (pe_callB call_abs (by rfl) T.abs (by decide +kernel) (pa_cons (pv 2) pa_nil)) (pe_op op_pow pe_int pe_int)) pa_nil))))
      (pss_one (ps_ret (pe_lst (pa_cons (pe_op op_modN (pv 4) (pe_op op_mulW (pe_op op_pow pe_int pe_int) (pe_op op_pow pe_int pe_int)))
        (pa_cons (pe_op op_add (pe_op op_add (pe_op op_add (pe_op op_mul (pe_op op_mod (pv 3) pe_int) pe_int) (pe_op op_mul pe_int (pv 1)))
          (pe_op op_mul pe_int (pe_callTy call_int1 (by rfl) T.int (by decide +kernel) (pa_cons (pe_cmpR op_lt (pv 2) pe_int (nomark _)) pa_nil)))) pe_int) (pa_cons pe_int pa_nil)))))))), ?_⟩
    refine ⟨_, rfl, _, rfl, a, _, rfl, .inl hS, _, _, rfl, rfl, _, rfl, ?_⟩
    refine ite2 (fun c => ?_) (fun c => ?_)
    · have hlt : i < ns.length := by
        have c' := of_decide_eq_true c
        rw [List.length_map] at c'
        omega
      have g : (ns.map V.int)[i]? = some (.int ns[i]) := by
        rw [List.getElem?_map, List.getElem?_eq_getElem hlt]
        rfl
      refine ⟨_, rfl, _, rfl, a, _, _, _, rfl, rfl, hS, atI_nat g, .inl ⟨_, rfl, ?_⟩⟩
      refine ⟨_, rfl, _, rfl, 10, 59, rfl, rfl, c10 (k := 59) (by decide), _, _, rfl, rfl, (by dsimp only; decide +kernel), ?_⟩
      refine ⟨_, rfl, _, rfl, 10, 17, rfl, rfl, c10 (k := 17) (by decide), _, _, rfl, rfl, _, _, rfl, ?_⟩
      refine ⟨_, rfl, 10, 60, rfl, rfl, c10 (k := 60) (by decide), 10, 60, rfl, rfl, c10 (k := 60) (by decide), _, _, rfl, rfl, wide_mul (a := 400) (b := 400) (by decide +kernel) (by decide +kernel) (by decide) (by decide) (by decide), _, _, rfl, rfl, (by dsimp only; decide +kernel), ?_⟩
      refine ⟨_, rfl, _, _, rfl, rfl, (by dsimp only; decide), _, _, rfl, rfl, .inr ⟨by decide, by decide⟩, _, rfl, _, _, rfl, rfl, .inl ⟨by decide, by decide⟩, _, _, rfl, rfl, _, rfl, _, _, rfl, rfl, .inr ⟨_, rfl, ?_⟩⟩
      refine ⟨_, _, rfl, rfl, .inl ⟨by decide, by decide⟩, _, _, rfl, rfl, _, _, rfl, rfl, (by show 3 ≤ sizeLine; decide), fun d hd => ?_⟩
      refine k d _ hd (Same.new hd) ⟨⟨_, _, 0, upd_same, ?_⟩, by decide⟩
      refine dice_end _ _ _ hi ?_
      split <;> omega
    · refine ⟨_, rfl, _, _, rfl, rfl, .inl ⟨by decide, by decide⟩, _, _, rfl, rfl, ?_⟩
      refine ⟨_, rfl, _, rfl, 10, 59, rfl, rfl, c10 (k := 59) (by decide), _, _, rfl, rfl, (by dsimp only; decide +kernel), ?_⟩
      refine ⟨_, rfl, _, rfl, 10, 17, rfl, rfl, c10 (k := 17) (by decide), _, _, rfl, rfl, _, _, rfl, ?_⟩
      refine ⟨_, rfl, 10, 60, rfl, rfl, c10 (k := 60) (by decide), 10, 60, rfl, rfl, c10 (k := 60) (by decide), _, _, rfl, rfl, wide_mul (a := 400) (b := 400) (by decide +kernel) (by decide +kernel) (by decide) (by decide) (by decide), _, _, rfl, rfl, (by dsimp only; decide +kernel), ?_⟩
      refine ⟨_, rfl, _, _, rfl, rfl, (by dsimp only; decide), _, _, rfl, rfl, .inr ⟨by decide, by decide⟩, _, rfl, _, _, rfl, rfl, .inl ⟨by decide, by decide⟩, _, _, rfl, rfl, _, rfl, _, _, rfl, rfl, .inr ⟨_, rfl, ?_⟩⟩
      refine ⟨_, _, rfl, rfl, .inl ⟨by decide, by decide⟩, _, _, rfl, rfl, _, _, rfl, rfl, (by show 3 ≤ sizeLine; decide), fun d hd => ?_⟩
      refine k d _ hd (Same.new hd) ⟨⟨_, _, 0, upd_same, ?_⟩, by decide⟩
      refine dice_end _ _ _ hi ?_
      split <;> omega
end
end Pr
namespace Pr
open PySem PySem.Spec PyProof.Rows L2
theorem div_le {x t : Int} (h0 : 0 ≤ x) (ht : 0 < t) : 0 ≤ x / t ∧ x / t ≤ x := ⟨Int.ediv_nonneg h0 (by omega), Int.ediv_le_self _ h0⟩
theorem mod2 {x y : Int} (h : 0 ≤ x) (a : 0 < y) : 0 ≤ x.fmod y ∧ x.fmod y < y := fmod_pos a
section
variable {P : Program} {w : World} {K : PySem.W.Frag} {mg : Str → Option Value} {base : Heap}
theorem scRoll : FnScope ["dice", "total", "found", "one", "two"] ["dice", "total"] (defScope sRoll) := ⟨rfl, rfl, rfl, by decide +kernel, rfl, by decide +kernel, by decide +kernel⟩
theorem ok_roll {f : Addr} {fd : FuncData} (F : Fun K "_law_roll" "_law_roll" sRoll f fd) (T : Free mg) : FnOk P w K mg base CX0 1 f fd ["dice", "total"] spRoll := by
  refine F.ok scRoll (fun vs H Q E h => ?_) (fun cdv A outer s H vs Q E hr h => ?_)
  · obtain ⟨d, t, n, rfl, _⟩ := h
    rfl
  · obtain ⟨d, t, n, rfl, ⟨⟨x, y, c, e, x0, x1, y0, y1, c0, c1⟩, fw⟩, hn, t0, t1, k⟩ := h
    have sq : SqL K H d [.int x, .int y, .int c] := SqL.of e
    refine ⟨_, pss_cons (ps_if (pt_cmpR op_gt (pe_ix ix_list (pv 0) pe_int (fun _ _ => rfl)) pe_int (nomark _))
        (pss_cons (ps_set (i := 2) scRoll.nd rfl (.inl rfl) (pe_op op_modN (pe_callTy call_int1 (by rfl) T.int (by decide +kernel) (pa_cons (pe_ix ix_list (pv 0) pe_int (fun _ _ => rfl)) pa_nil)) (pv 1)))
        (pss_cons (ps_asg (pe_op op_fdivW (pe_ix ix_list (pv 0) pe_int (fun _ _ => rfl)) (pv 1)) (pg_sub (pv 0) pe_int set_list))
        (pss_one (ps_ret (pv 2))))) pss_nil)
      (pss_cons (ps_asg (pe_op op_add (pe_ix ix_list (pv 0) pe_int (fun _ _ => rfl)) pe_int) (pg_sub (pv 0) pe_int set_list))
      (pss_cons (ps_set (i := 3) scRoll.nd rfl (.inl rfl) (pe_op op_mod (pe_callTy call_int1 (by rfl) T.int (by decide +kernel)
        (pa_cons (pe_op op_add (pe_ix ix_list (pv 0) pe_int (fun _ _ => rfl)) (pe_op op_mul pe_int (pe_ix ix_list (pv 0) pe_int (fun _ _ => rfl)))) pa_nil)) pe_int))
      (pss_cons (ps_set (i := 4) scRoll.nd rfl (.inl rfl) (pe_op op_add (pe_op op_mul (pe_op op_mod (pe_callTy call_int1 (by rfl) T.int (by decide +kernel)
        (pa_cons (pe_op op_add (pe_op op_mul (pv 3) (pv 3)) (pe_op op_mul pe_int (pe_ix ix_list (pv 0) pe_int (fun _ _ => rfl)))) pa_nil)) pe_int) pe_int) (pv 3)))
      (pss_one (ps_ret (pe_op op_modN (pe_callTy call_int1 (by rfl) T.int (by decide +kernel) (pa_cons (pe_op op_fdiv (pv 4) pe_int) pa_nil)) (pv 1))))))), ?_⟩
    refine ⟨_, rfl, d, _, 0, _, rfl, rfl, sq, rfl, _, _, rfl, rfl, _, rfl, ite2 (fun cx => ?_) (fun cx => ?_)⟩
    · -- what is left of the cell's number
      have r := fmod_pos (i := x) t0
      have q := div_le x0 t0
      refine ⟨_, rfl, d, _, 0, _, rfl, rfl, sq, rfl, .inl ⟨_, rfl, _, rfl, _, _, rfl, rfl, (by dsimp only; omega), ?_⟩⟩
      refine ⟨_, rfl, d, _, 0, _, rfl, rfl, sq, rfl, _, rfl, _, _, rfl, rfl, wide_div (b := 400) t0 (by omega) (by decide) (by decide), _, rfl, d, _, 0, 0, rfl, rfl, e, rfl, _, rfl, ?_⟩
      exact k _ _ r.1 r.2 ⟨⟨_, _, _, upd_same, q.1, by omega, y0, y1, c0, by omega⟩, by omega⟩
    · refine ⟨_, rfl, d, _, 2, _, rfl, rfl, sq, rfl, _, _, rfl, rfl, _, rfl, d, _, 2, 2, rfl, rfl, e, rfl, ?_⟩
      have sq2 : SqL K (upd H d (.lst [.int x, .int y, .int (c + 1)])) d [.int x, .int y, .int (c + 1)] := SqL.of upd_same
      have m1 := emod_pos (i := y + 7901 * (c + 1)) (j := 2305843009213693907) (by decide)
      refine ⟨_, rfl, d, _, 1, _, rfl, rfl, sq2, rfl, _, rfl, d, _, 2, _, rfl, rfl, sq2, rfl, _, _, rfl, rfl, .inl ⟨by decide, by decide⟩, _, _, rfl, rfl, .inl ⟨_, rfl, _, _, rfl, rfl, (by dsimp only; decide), ?_⟩⟩
      have m2 := emod_pos (i := (y + 7901 * (c + 1)) % 2305843009213693907 * ((y + 7901 * (c + 1)) % 2305843009213693907) + 71 * (c + 1)) (j := 2305843009213693921) (by decide)
      refine ⟨_, rfl, _, rfl, _, _, rfl, rfl, .inl ⟨by omega, by omega⟩, _, rfl, d, _, 2, _, rfl, rfl, sq2, rfl, _, _, rfl, rfl, .inl ⟨by decide, by decide⟩, _, _, rfl, rfl, .inl ⟨_, rfl, _, _, rfl, rfl, (by dsimp only; decide), ?_⟩⟩
      refine ⟨_, _, rfl, rfl, .inl ⟨by omega, by omega⟩, _, rfl, _, _, rfl, rfl, ?_⟩
      refine ⟨_, rfl, _, _, rfl, rfl, ⟨by decide, by decide⟩, .inl ⟨_, rfl, _, rfl, _, _, rfl, rfl, (by dsimp only; omega), ?_⟩⟩
      exact k _ _ (fmod_pos t0).1 (fmod_pos t0).2 ⟨⟨_, _, _, upd_same, x0, x1, y0, y1, by omega, by omega⟩, by omega⟩
end
end Pr
namespace Pr
open PySem PySem.Spec PyProof.Rows L2
/-- the law's drawing defs, as they stand behind the top -/
structure Draws (K : PySem.W.Frag) (mg : Str → Option Value) (fR fP fM : Addr) (dR dP dM : FuncData) : Prop where
  FR : Fun K "_law_roll" "_law_roll" sRoll fR dR
  bR : Binds K dR ["dice", "total"] []
  gR : mg "_law_roll" = some (.ref fR)
  FP : Fun K "_law_pick" "_law_pick" sPick fP dP
  bP : Binds K dP ["dice", "items"] []
  gP : mg "_law_pick" = some (.ref fP)
  FM : Fun K "_law_mixed" "_law_mixed" sMixed fM dM
  bM : Binds K dM ["dice", "items"] []
  gM : mg "_law_mixed" = some (.ref fM)
theorem erase_perm {α : Type} : ∀ (l : List α) (i : Nat) (h : i < l.length), (l[i] :: l.eraseIdx i).Perm l
  | [], _, h => absurd h (Nat.not_lt_zero _)
  | a :: l, 0, _ => List.Perm.refl _
  | a :: l, i + 1, h => (List.Perm.swap a (l[i]'(Nat.lt_of_succ_lt_succ h)) (l.eraseIdx i)).trans (List.Perm.cons a (erase_perm l i (Nat.lt_of_succ_lt_succ h)))
section
variable {P : Program} {w : World} {K : PySem.W.Frag} {mg : Str → Option Value} {base : Heap} {fR fP fM : Addr} {dR dP dM : FuncData}
theorem scPick : FnScope ["dice", "items"] ["dice", "items"] (defScope sPick) := ⟨rfl, rfl, rfl, by decide +kernel, rfl, by decide +kernel, by decide +kernel⟩
theorem ok_pick (D : Draws K mg fR fP fM dR dP dM) (T : Free mg) : FnOk P w K mg base CX0 2 fP dP ["dice", "items"] (spPick K) := by
  have GR : FnOk P w K mg base CX0 1 fR dR ["dice", "total"] spRoll := ok_roll D.FR T
  refine D.FP.ok scPick (fun vs H Q E h => ?_) (fun cdv A outer s H vs Q E hr h => ?_)
  · obtain ⟨d, p, n, xs, rfl, _⟩ := h
    rfl
  · obtain ⟨d, p, n, xs, rfl, npd, hS, ne, few, di, hn, k⟩ := h
    refine ⟨_, pss_one (ps_ret (pe_ix ix_seq (pv 1) (pe_call GR hr (by rfl) D.gR D.FR.kp D.bR .nil pass0 (pa_cons (pv 0) (pa_cons (pe_callB call_len_seq (by rfl) T.len PySem.boot_len (pa_cons (pv 1) pa_nil)) pa_nil))) (fun _ _ => rfl))), ?_⟩
    have pos : 0 < xs.length := List.length_pos_iff.mpr ne
    refine ⟨_, rfl, _, rfl, _, rfl, p, xs, rfl, hS, d, _, n, rfl, di, hn, by omega, by omega, fun r o r0 r1 di' => ?_⟩
    have hlt : r.toNat < xs.length := by omega
    have g : atI xs r = some xs[r.toNat] := at_of (j := r.toNat) (by omega) (List.getElem?_eq_getElem hlt)
    have kp : Kp d H (upd H d o) := Kp.upd
    rcases hS with hS | hS
    · exact .inl ⟨p, xs, r, _, rfl, rfl, kp.seq npd hS, g, k _ o (List.getElem_mem hlt) di'⟩
    · have hT : SqT K (upd H d o) p xs := by
        rcases hS with (h | ⟨u, h⟩) | h
        · exact .inl (.inl (kp _ _ npd h))
        · exact .inl (.inr ⟨u, kp _ _ npd h⟩)
        · exact .inr h
      exact .inr (.inl ⟨p, xs, r, _, rfl, rfl, hT, g, k _ o (List.getElem_mem hlt) di'⟩)
theorem scMixed : FnScope ["dice", "items", "left", "found", "turn"] ["dice", "items"] (defScope sMixed) := ⟨rfl, rfl, rfl, by decide +kernel, rfl, by decide +kernel, by decide +kernel⟩
theorem ok_mixed (D : Draws K mg fR fP fM dR dP dM) (T : Free mg) : FnOk P w K mg base CX0 2 fM dM ["dice", "items"] (spMixed K) := by
  have GR : FnOk P w K mg base CX0 1 fR dR ["dice", "total"] spRoll := ok_roll D.FR T
  refine D.FM.ok scMixed (fun vs H Q E h => ?_) (fun cdv A outer s H vs Q E hr h => ?_)
  · obtain ⟨d, p, n, xs, rfl, _⟩ := h
    rfl
  · obtain ⟨d, p, n, xs, rfl, npd, hS, few, di, hn, k⟩ := h
    refine ⟨_, pss_cons (ps_par (i := 2) (j := 3) (by rfl) scMixed.nd rfl rfl (by decide) rfl rfl (pa_cons (pe_callTy call_list_of (by rfl) T.list (by decide +kernel) (pa_cons (pv 1) pa_nil)) (pa_cons (pe_lst pa_nil) pa_nil)) (by rfl))
      (pss_cons (ps_for PassesOwn.never rfl (pi_range1 rfl T.range (pa_cons (pe_callB call_len_seq (by rfl) T.len PySem.boot_len (pa_cons (pv 1) pa_nil)) pa_nil)) (pg_name (i := 4) scMixed.nd rfl (.inl rfl))
        (pss_one (ps_expr (pe_bm PySem.F.plainAttrs_list PySem.F.slot_list_append PySem.F.type_list_append mt_append (pv 3)
          (pa_cons (pe_bm PySem.F.plainAttrs_list PySem.F.slot_list_pop PySem.F.type_list_pop mt_popAt (pv 2)
            (pa_cons (pe_call GR hr (by rfl) D.gR D.FR.kp D.bR .nil pass0 (pa_cons (pv 0) (pa_cons (pe_callB call_len_seq (by rfl) T.len PySem.boot_len (pa_cons (pv 2) pa_nil)) pa_nil))) pa_nil)) pa_nil)))))
      (pss_one (ps_ret (pv 3)))), ?_⟩
    obtain ⟨ds, hd⟩ := di.there
    -- left = list(items); found = []
    refine ⟨_, rfl, p, xs, rfl, .inl hS, fun l nl => ⟨Nat.zero_le _, fun q nq => ?_⟩⟩
    refine ⟨_, _, rfl, ?_⟩
    have ndl : d ≠ l := ne_of_none hd nl
    have nql : q ≠ l := fun e => by
      rw [e, upd_same] at nq
      cases nq
    have nHq : H q = none := by
      rw [upd_ne nql] at nq
      exact nq
    have ndq : d ≠ q := ne_of_none hd nHq
    have s1 : Same H (upd (upd H l (.lst xs)) q (.lst [])) := (Same.new nl).trans (Same.new nq)
    have hS1 := s1.seq hS
    -- the loop
    refine ⟨_, rfl, p, xs, rfl, .inl hS1, xs.length, rfl, by omega, by omega, ?_⟩
    refine for_range (lo := 0) (n := ((xs.length : Int)).toNat) (fun i σ H' => ∃ (v : Option V) (rem done : List V), σ = [some (.ref d), some (.ref p), some (.ref l), some (.ref q), v] ∧ Kp d H H' ∧
      H' l = some (.lst rem) ∧ H' q = some (.lst done) ∧ rem.length + i = xs.length ∧ (done ++ rem).Perm xs ∧ Dice H' d (n + i))
      ⟨none, xs, [], rfl, Kp.same s1, by rw [upd_ne nql.symm, upd_same], upd_same, by omega, List.Perm.refl _, di.same s1⟩ ?_ ?_
    · rintro i σ H' hi ⟨v, rem, done, rfl, kp, hl, hq, len, pm, di'⟩
      have hi' : i < xs.length := by omega
      have dl : done.length = i := by
        have := pm.length_eq
        rw [List.length_append] at this
        omega
      refine ⟨_, rfl, .inl ⟨rfl, _, SqL.of hq⟩, _, rfl, .inl ⟨rfl, _, SqL.of hl⟩, _, rfl, _, rfl, l, rem, rfl, .inl (SqL.of hl), d, _, n + i, rfl, di', by omega, by omega, by omega, fun r o r0 r1 di2 => ?_⟩
      have hlt : r.toNat < rem.length := by omega
      have k2 : Kp d H' (upd H' d o) := Kp.upd
      have hl2 := k2 _ _ ndl.symm hl
      have hq2 := k2 _ _ ndq.symm hq
      refine ⟨l, rem, r, r.toNat, rem[r.toNat], rfl, rfl, hl2, by omega, by omega, seqIndex_of r0 (by omega), List.getElem?_eq_getElem hlt, ?_⟩
      have hq3 : (upd (upd H' d o) l (.lst (rem.eraseIdx r.toNat))) q = some (.lst done) := by
        rw [upd_ne nql]
        exact hq2
      refine ⟨q, done, _, rfl, rfl, hq3, small1000 (by omega), ?_⟩
      refine ⟨_, rem.eraseIdx r.toNat, _, rfl, fun b u nb e => ?_, ?_, upd_same, ?_, ?_, ?_⟩
      · rw [upd_ne (ne_of_none e nHq), upd_ne (ne_of_none e nl)]
        exact k2 _ _ nb (kp _ _ nb e)
      · rw [upd_ne nql.symm, upd_same]
      · rw [List.length_eraseIdx_of_lt hlt]
        omega
      · have e1 := erase_perm rem r.toNat hlt
        rw [List.append_assoc]
        exact (List.Perm.append_left done e1).trans pm
      · refine (di2.kept fun u e => ?_).more (by omega) (by omega)
        rw [upd_ne ndq, upd_ne ndl]
        exact e
    · rintro σ H' ⟨v, rem, done, rfl, kp, hl, hq, len, pm, di'⟩
      have e0 : rem = [] := List.length_eq_zero_iff.mp (by omega)
      subst e0
      rw [List.append_nil] at pm
      refine ⟨_, rfl, k q done H' ndq.symm nHq kp hq pm (di'.more (by omega) (by omega))⟩
end
end Pr
namespace Pr
open PySem PySem.Spec PyProof.Rows L2 Gd
/-! ### values that can be judged and shown; all tuples are plain -/
/-- the heap without the dice -/
def Hm (d : Addr) (H : Hp) : Hp := fun b => if b = d then none else H b
theorem Hm.some_of {d b : Addr} {H : Hp} {o : HO} (h : Hm d H b = some o) : H b = some o ∧ b ≠ d := by
  unfold Hm at h
  by_cases e : b = d
  · rw [if_pos e] at h
    cases h
  · rw [if_neg e] at h
    exact ⟨h, e⟩
theorem Hm.of {d b : Addr} {H : Hp} {o : HO} (h : H b = some o) (e : b ≠ d) : Hm d H b = some o := by
  unfold Hm
  rw [if_neg e]
  exact h
theorem Kp.hm {d : Addr} {H H' : Hp} (k : Kp d H H') : Same (Hm d H) (Hm d H') := fun b o h => Hm.of (k b o (Hm.some_of h).2 (Hm.some_of h).1) (Hm.some_of h).2
theorem Same.hm {d : Addr} {H H' : Hp} (s : Same H H') : Same (Hm d H) (Hm d H') := (Kp.same (d := d) s).hm
theorem TX.hm {d a : Addr} {H : Hp} {xs : List V} (h : Tx.TX H a xs) (n : a ≠ d) : Tx.TX (Hm d H) a xs := let ⟨o, e, x⟩ := h; ⟨o, Hm.of e n, x⟩
theorem TX.un {a d : Addr} {H : Hp} {xs : List V} (h : Tx.TX (Hm d H) a xs) : Tx.TX H a xs ∧ a ≠ d := let ⟨o, e, x⟩ := h; ⟨⟨o, (Hm.some_of e).1, x⟩, (Hm.some_of e).2⟩
theorem TX.eq {a : Addr} {H : Hp} {xs ys : List V} (h : Tx.TX H a xs) (k : Tx.TX H a ys) : xs = ys := by
  obtain ⟨o, e, _⟩ := h
  obtain ⟨o2, e2, _⟩ := k
  rw [e] at e2
  cases e2
  rfl
/-- the type of a value that is no instance -/
inductive Kd (H : Hp) : V → String → Prop where
  | non : Kd H .non "NoneType"
  | bl (b : Bool) : Kd H (.bl b) "bool"
  | int (i : Int) : Kd H (.int i) "int"
  | str (z : Str) : Kd H (.str z) "str"
  | lst {a : Addr} {xs : List V} (e : H a = some (.lst xs)) : Kd H (.ref a) "list"
  | tup {a : Addr} {xs : List V} (e : Tx.TX H a xs) : Kd H (.ref a) "tuple"
  | dK {a : Addr} {kvs : List (Key × V)} (e : H a = some (.dK kvs)) : Kd H (.ref a) "dict"
theorem Kd.same {H H' : Hp} {v : V} {t : String} (k : Kd H v t) (s : Same H H') : Kd H' v t := by
  cases k with
  | non => exact .non
  | bl b => exact .bl b
  | int i => exact .int i
  | str z => exact .str z
  | lst e => exact .lst (s _ _ e)
  | tup e => exact .tup (Tx.TX.same e s)
  | dK e => exact .dK (s _ _ e)
theorem Sh.more {H : Hp} : ∀ (n : Nat) (v : V) (t : Str), Sh H n v t → Sh H (n + 1) v t
  | 0, _, _, h => .inl h
  | n + 1, _, _, h => by
    rcases h with h | ⟨a, xs, ts, rfl, e, p, rfl⟩ | ⟨a, xs, ts, rfl, e, p, rfl⟩ | ⟨a, xs, ts, rfl, e, p, rfl⟩
    · exact .inl h
    · exact Sh.lst e (L2.Paired.mapP p fun x t q => Sh.more n x t q)
    · exact Sh.tup e (L2.Paired.mapP p fun x t q => Sh.more n x t q)
    · exact Sh.dK e (L2.Paired.mapP p fun x t q => ⟨q.1, Sh.more n x.2 t q.2⟩)
theorem Sh.le {H : Hp} {n m : Nat} {v : V} {t : Str} (h : n ≤ m) (s : Sh H n v t) : Sh H m v t := by
  induction h with
  | refl => exact s
  | step _ ih => exact Sh.more _ _ _ ih
theorem Sc.kd {H : Hp} {v : V} {t : Str} (h : Sc v t) : ∃ ty, Kd H v ty := by
  cases h with
  | non => exact ⟨_, .non⟩
  | bl b => exact ⟨_, .bl b⟩
  | int i _ => exact ⟨_, .int i⟩
  | str z _ => exact ⟨_, .str z⟩
theorem Sh.kd {H : Hp} {n : Nat} {v : V} {t : Str} (h : Sh H n v t) : ∃ ty, Kd H v ty := by
  cases n with
  | zero => exact Sc.kd h
  | succ n =>
    rcases h with h | ⟨a, xs, ts, rfl, e, p, rfl⟩ | ⟨a, xs, ts, rfl, e, p, rfl⟩ | ⟨a, xs, ts, rfl, e, p, rfl⟩
    · exact Sc.kd h
    · exact ⟨_, .lst e⟩
    · exact ⟨_, .tup e⟩
    · exact ⟨_, .dK e⟩
theorem paired_all {α : Type} {F : α → Str → Prop} {xs : List α} {ts : List Str} (p : Paired F xs ts) : ∀ x ∈ xs, ∃ t, F x t := by
  induction p with
  | nil => intro x m; cases m
  | cons h r ih =>
    intro x m
    rcases List.mem_cons.mp m with e | m
    · rw [e]
      exact ⟨_, h⟩
    · exact ih x m
/-- what can stand in a tuple that is judged -/
def Ji (H : Hp) (v : V) : Prop := ∃ ty, Kd H v ty ∧ ty ≠ "dict"
theorem Ji.same {H H' : Hp} {v : V} (h : Ji H v) (s : Same H H') : Ji H' v := let ⟨ty, k, n⟩ := h; ⟨ty, k.same s, n⟩
theorem Ji.non {H : Hp} : Ji H .non := ⟨_, .non, by decide⟩
theorem Ji.int {H : Hp} (i : Int) : Ji H (.int i) := ⟨_, .int i, by decide⟩
theorem Ji.str {H : Hp} (z : Str) : Ji H (.str z) := ⟨_, .str z, by decide⟩
theorem Ji.lst {H : Hp} {a : Addr} {xs : List V} (e : H a = some (.lst xs)) : Ji H (.ref a) := ⟨_, .lst e, by decide⟩
theorem Ji.tup {H : Hp} {a : Addr} {xs : List V} (e : Tx.TX H a xs) : Ji H (.ref a) := ⟨_, .tup e, by decide⟩
/-- a value that can be shown: its text has at most m signs; what it holds, if it is a tuple, can be judged -/
structure Vd (H : Hp) (n m : Nat) (v : V) : Prop where
  sm : ∃ t, Sh H n v t ∧ t.length ≤ m
  items : ∀ a xs, v = .ref a → Tx.TX H a xs → xs.length ≤ 1000 ∧ ∀ x ∈ xs, Ji H x
theorem Vd.kd {H : Hp} {n m : Nat} {v : V} (h : Vd H n m v) : ∃ t, Kd H v t := let ⟨_, s, _⟩ := h.sm; Sh.kd s
theorem Vd.le {H : Hp} {n m n' m' : Nat} {v : V} (h : Vd H n m v) (a : n ≤ n') (b : m ≤ m') : Vd H n' m' v :=
  ⟨let ⟨t, s, l⟩ := h.sm; ⟨t, Sh.le a s, by omega⟩, h.items⟩
theorem Vd.same {H H' : Hp} {n m : Nat} {v : V} (h : Vd H n m v) (s : Same H H') : Vd H' n m v := by
  obtain ⟨ty, hk⟩ := h.kd
  refine ⟨let ⟨t, q, l⟩ := h.sm; ⟨t, Sh.keep s n v t q, l⟩, fun a xs e q => ?_⟩
  subst e
  obtain ⟨ob, e', od⟩ := id q
  cases hk with
  | lst e =>
    rw [s _ _ e] at e'
    cases e'
  | tup e =>
    rw [← TX.eq (Tx.TX.same e s) q]
    exact ⟨(h.items a _ rfl e).1, fun x m => ((h.items a _ rfl e).2 x m).same s⟩
  | dK e =>
    rw [s _ _ e] at e'
    cases e'
theorem Vd.plain {H : Hp} {m : Nat} {v : V} {t : Str} (h : Sc v t) (l : t.length ≤ m) (n : ∀ a, v ≠ .ref a) : Vd H 0 m v := ⟨⟨t, h, l⟩, fun a xs e => absurd e (n a)⟩
theorem Vd.non {H : Hp} : Vd H 0 100 .non := .plain Sc.non (by decide) (fun a e => (nomatch e))
theorem Vd.bl {H : Hp} (b : Bool) : Vd H 0 100 (.bl b) := .plain (Sc.bl b) (by cases b <;> decide) (fun a e => (nomatch e))
theorem Vd.int {H : Hp} (i : Int) (h : i.natAbs < 2 ^ 1900) : Vd H 0 2000 (.int i) := by
  have hl : i.natAbs.log2 < 1920 := Nat.lt_of_lt_of_le (PySem.Flt.log2_lt_of (by decide) h) (by decide)
  exact .plain (Sc.int i hl) (Nat.le_trans (PyProof.Rows.int_text_len_1921 hl) (by decide)) (fun a e => (nomatch e))
theorem Vd.zero {H : Hp} : Vd H 0 100 (.int 0) := .plain (Sc.int 0 (by decide)) (by decide +kernel) (fun a e => (nomatch e))
/-- a text of at most m signs -/
def SOk (m : Nat) (z : Str) : Prop := z.length ≤ m ∧ ∀ c ∈ z.cps.toList, c < 16 ^ 8
theorem SOk.le {m n : Nat} {z : Str} (h : SOk m z) (l : m ≤ n) : SOk n z := ⟨by have := h.1; omega, h.2⟩
theorem Vd.text {H : Hp} {k : Nat} {z : Str} (h : SOk k z) (hk : k ≤ 100000) : Vd H 0 (10 * k + 2) (.str z) := by
  have l := StrLaws.reprText_len z h.2
  have l2 := h.1
  exact .plain (Sc.str z (by rw [sizeLine_eq]; omega)) (by omega) (fun a e => (nomatch e))
theorem paired_of {H : Hp} {n m : Nat} : ∀ {xs : List V}, (∀ x ∈ xs, Vd H n m x) → ∃ ts, Paired (Sh H n) xs ts ∧ (ts.map (·.length)).sum ≤ xs.length * m ∧ ts.length = xs.length
  | [], _ => ⟨[], .nil, by simp, rfl⟩
  | x :: xs, h => by
    obtain ⟨ts, p, s, l⟩ := paired_of (xs := xs) fun y m => h y (List.mem_cons_of_mem _ m)
    obtain ⟨t, q, lt⟩ := (h x List.mem_cons_self).sm
    refine ⟨t :: ts, .cons q p, ?_, by simp [l]⟩
    rw [List.map_cons, List.sum_cons, List.length_cons, Nat.succ_mul]
    omega
theorem Vd.lst {H : Hp} {n m k : Nat} {a : Addr} {xs : List V} (e : H a = some (.lst xs)) (h : ∀ x ∈ xs, Vd H n m x) (hl : xs.length ≤ k) : Vd H (n + 1) (k * (m + 2) + 3) (.ref a) := by
  obtain ⟨ts, p, s, l⟩ := paired_of h
  refine ⟨⟨_, Sh.lst e p, ?_⟩, fun b ys eb q => ?_⟩
  case refine_2 =>
    cases eb
    obtain ⟨ob, e', od⟩ := q
    rw [e] at e'
    cases e'
  have := listText_len_le ts
  have h2 : xs.length * (m + 2) ≤ k * (m + 2) := Nat.mul_le_mul_right _ hl
  rw [Nat.mul_add] at h2
  omega
theorem Vd.tup {H : Hp} {n m k : Nat} {a : Addr} {xs : List V} (e : Tx.TX H a xs) (h : ∀ x ∈ xs, Vd H n m x) (hj : ∀ x ∈ xs, Ji H x) (hl : xs.length ≤ k) (hk : k ≤ 1000 := by decide) : Vd H (n + 1) (k * (m + 2) + 3) (.ref a) := by
  obtain ⟨ts, p, s, l⟩ := paired_of h
  refine ⟨⟨_, Sh.tup e p, ?_⟩, fun b ys eb q => ?_⟩
  case refine_2 =>
    cases eb
    rw [← TX.eq e q]
    exact ⟨Nat.le_trans hl hk, hj⟩
  have := tupleText_len_le ts
  have h2 : xs.length * (m + 2) ≤ k * (m + 2) := Nat.mul_le_mul_right _ hl
  rw [Nat.mul_add] at h2
  omega
theorem Vd.dK0 {H : Hp} {a : Addr} (e : H a = some (.dK [])) : Vd H 1 100 (.ref a) := ⟨⟨_, Sh.dK e .nil, by decide +kernel⟩, fun b ys eb q => by
  cases eb
  obtain ⟨ob, e', od⟩ := q
  rw [e] at e'
  cases e'⟩
theorem Vd.dK1 {H : Hp} {a : Addr} {x : Str} {i : Int} (e : H a = some (.dK [(.inr x, .int i)])) (hx : SOk 10 x) (hi : i.natAbs.log2 < 1920) : Vd H 1 3000 (.ref a) := by
  have l := StrLaws.reprText_len x hx.2
  have l2 := hx.1
  have l3 := PyProof.Rows.int_text_len_1921 hi
  refine ⟨⟨_, Sh.dK (n := 0) (ts := [((toString i : String) : Str)]) e (.cons ⟨by show (reprText x).length ≤ sizeLine; rw [sizeLine_eq]; omega, Sc.int i hi⟩ .nil), ?_⟩, fun b ys eb q => ?_⟩
  case refine_2 =>
    cases eb
    obtain ⟨ob, e', od⟩ := q
    rw [e] at e'
    cases e'
  have h := dictText_len_le (List.zipWith (fun (p : Key × V) t => keyText p.1 ++ ": " ++ t) [((.inr x : Key), V.int i)] [((toString i : String) : Str)])
  have e2 : ((keyText (.inr x) ++ ": " ++ ((toString i : String) : Str)) : Str).length = (reprText x).length + 2 + ((toString i : String) : Str).length := by
    rw [strLen_append, strLen_append]
    rfl
  have e3 : (List.zipWith (fun (p : Key × V) t => keyText p.1 ++ ": " ++ t) [((.inr x : Key), V.int i)] [((toString i : String) : Str)]) = [keyText (.inr x) ++ ": " ++ ((toString i : String) : Str)] := rfl
  rw [e3] at h ⊢
  rw [List.map_cons, List.map_nil, List.sum_cons, List.sum_nil, e2, List.length_singleton] at h
  omega
/-- a value as the judges see it: what stands in it, if it is a tuple -/
inductive Vw (H : Hp) : V → Option (List V) → Prop where
  | not {v : V} {ty : String} (k : Kd H v ty) (ne : ty ≠ "tuple") : Vw H v none
  | tup {a : Addr} {xs : List V} (t : Tx.TX H a xs) (j : ∀ x ∈ xs, Ji H x) : Vw H (.ref a) (some xs)
theorem Vw.same {H H' : Hp} {v : V} {o : Option (List V)} (h : Vw H v o) (s : Same H H') : Vw H' v o := by
  cases h with
  | not k ne => exact .not (k.same s) ne
  | tup t j => exact .tup (Tx.TX.same t s) fun x m => (j x m).same s
theorem Vd.vw {H : Hp} {n m : Nat} {v : V} (h : Vd H n m v) : ∃ o, Vw H v o ∧ ∀ xs, o = some xs → xs.length < 100000 := by
  obtain ⟨ty, k⟩ := h.kd
  cases k with
  | tup e => exact ⟨_, .tup e (h.items _ _ rfl e).2, fun xs q => by cases q; have := (h.items _ _ rfl e).1; omega⟩
  | non => exact ⟨_, .not .non (by decide), fun xs q => (nomatch q)⟩
  | bl b => exact ⟨_, .not (.bl b) (by decide), fun xs q => (nomatch q)⟩
  | int i => exact ⟨_, .not (.int i) (by decide), fun xs q => (nomatch q)⟩
  | str z => exact ⟨_, .not (.str z) (by decide), fun xs q => (nomatch q)⟩
  | lst e => exact ⟨_, .not (.lst e) (by decide), fun xs q => (nomatch q)⟩
  | dK e => exact ⟨_, .not (.dK e) (by decide), fun xs q => (nomatch q)⟩
end Pr
namespace Pr
open PySem PySem.Spec PyProof.Rows L2 Gd
/-! ### drawn operators -/
def pool : List Str := ["c", "v", "p", "s", "add", "operator", "aa", "z", "op", "goal"]
/-- names with arities, as a dict -/
def dkv (l : List (Str × Nat)) : List (Key × V) := l.map fun p => (.inr p.1, .int (p.2 : Int))
structure Ars (l : List (Str × Nat)) : Prop where
  few : 1 ≤ l.length ∧ l.length ≤ 4
  nd : (l.map (·.1)).Nodup
  pool : ∀ p ∈ l, p.1 ∈ pool
  two : ∀ p ∈ l, p.2 ≤ 2
  const : ∃ p ∈ l, p.2 = 0
theorem Ars.perm {l l' : List (Str × Nat)} (h : Ars l) (p : l'.Perm l) : Ars l' :=
  ⟨by rw [p.length_eq]; exact h.few, (p.map _).nodup_iff.mpr h.nd, fun x m => h.pool x (p.mem_iff.mp m), fun x m => h.two x (p.mem_iff.mp m), let ⟨x, m, e⟩ := h.const; ⟨x, p.mem_iff.mpr m, e⟩⟩
theorem val_none {z : Str} : ∀ {l : List (Str × Nat)}, z ∉ l.map (·.1) → valV (dkv l) (.inr z : Key) = none
  | [], _ => rfl
  | p :: l, h => by
    show valV ((.inr p.1, .int (p.2 : Int)) :: dkv l) (.inr z : Key) = none
    rw [valV_neg (fun e => h (by
      have e' : p.1 = z := Sum.inr.inj e
      rw [← e']
      exact List.mem_cons_self))]
    exact val_none fun m => h (List.mem_cons_of_mem _ m)
theorem put_end {l : List (Str × Nat)} {z : Str} {k : Nat} (h : z ∉ l.map (·.1)) : putK (dkv l) (.inr z) (.int (k : Int)) = dkv (l ++ [(z, k)]) := by
  rw [putK_new _ (val_none h)]
  unfold dkv
  rw [List.map_append]
  rfl
theorem merge_end : ∀ (l2 l : List (Str × Nat)), ((l ++ l2).map (·.1)).Nodup → mergeK (dkv l) (dkv l2) = dkv (l ++ l2)
  | [], l, _ => by rw [List.append_nil]; rfl
  | (z, k) :: l2, l, h => by
    have n : z ∉ l.map (·.1) := by
      rw [List.map_append, List.nodup_append] at h
      exact fun m => h.2.2 z m z (by simp) rfl
    show mergeK (putK (dkv l) (.inr z) (.int (k : Int))) (dkv l2) = _
    rw [put_end n, merge_end l2 (l ++ [(z, k)]) (by rw [List.append_assoc]; exact h), List.append_assoc]
    rfl
theorem merge_all {l : List (Str × Nat)} (h : (l.map (·.1)).Nodup) : mergeK [] (dkv l) = dkv l := merge_end l [] h
theorem paired_perm {α β : Type} {F : α → β → Prop} {xs ys : List α} (p : xs.Perm ys) : ∀ {bs : List β}, Paired F ys bs → ∃ cs, cs.Perm bs ∧ Paired F xs cs := by
  induction p with
  | nil => exact fun {bs} h => ⟨bs, .refl _, h⟩
  | cons a p ih =>
    intro bs h
    cases h with
    | cons h r =>
      obtain ⟨cs, q, k⟩ := ih r
      exact ⟨_, q.cons _, .cons h k⟩
  | swap a b l =>
    intro bs h
    cases h with
    | cons h r =>
      cases r with
      | cons k r => exact ⟨_, .swap _ _ _, .cons k (.cons h r)⟩
  | trans p q ih1 ih2 =>
    intro bs h
    obtain ⟨cs, q1, k1⟩ := ih2 h
    obtain ⟨ds, q2, k2⟩ := ih1 k1
    exact ⟨ds, q2.trans q1, k2⟩
theorem paired_of_map {α β : Type} (g : β → α) : ∀ l : List β, Paired (fun a b => a = g b) (l.map g) l
  | [] => .nil
  | _ :: l => .cons rfl (paired_of_map g l)
theorem map_of_paired {α β : Type} {g : β → α} : ∀ {xs : List α} {l : List β}, Paired (fun a b => a = g b) xs l → xs = l.map g
  | _, _, .nil => rfl
  | _, _, .cons h r => by rw [h, map_of_paired r]; rfl
theorem perm_map {α β : Type} {g : β → α} {xs : List α} {l : List β} (p : xs.Perm (l.map g)) : ∃ l' : List β, l'.Perm l ∧ xs = l'.map g := by
  obtain ⟨l', q, k⟩ := paired_perm p (paired_of_map g l)
  exact ⟨l', q, map_of_paired k⟩
theorem Kp.free {d b : Addr} {H H' : Hp} (k : Kp d H H') (n : b ≠ d) (h : H' b = none) : H b = none := by
  cases e : H b with
  | none => rfl
  | some o =>
    rw [k b o n e] at h
    cases h
theorem paired_and {α β : Type} {F : α → β → Prop} {P : α → Prop} : ∀ {xs : List α} {ys : List β}, (∀ a ∈ xs, P a) → Paired F xs ys → Paired (fun a b => P a ∧ F a b) xs ys
  | _, _, _, .nil => .nil
  | _, _, h, .cons k r => .cons ⟨h _ List.mem_cons_self, k⟩ (paired_and (fun a m => h a (List.mem_cons_of_mem _ m)) r)
theorem paired_map {α β : Type} {F G : α → β → Prop} (k : ∀ a b, F a b → G a b) : ∀ {xs : List α} {ys : List β}, Paired F xs ys → Paired G xs ys
  | _, _, .nil => .nil
  | _, _, .cons h r => .cons (k _ _ h) (paired_map k r)
theorem cut_one {x : V} {xs : List V} {r : Int} (h0 : 0 ≤ r) (h1 : r.toNat ≤ xs.length) : cutV (x :: xs) (some 1) (some (1 + r)) = xs.take r.toNat := by
  have a1 : HT.sIx (x :: xs).length 0 (some 1) = 1 := by
    simp [HT.sIx]
  have a2 : HT.sIx (x :: xs).length (x :: xs).length (some (1 + r)) = 1 + r.toNat := by
    show (if 1 + r < 0 then (1 + r + ((xs.length + 1 : Nat) : Int)).toNat else min (1 + r).toNat (xs.length + 1)) = 1 + r.toNat
    rw [if_neg (by omega)]
    omega
  unfold cutV
  rw [a1, a2, List.drop_one, List.tail_cons, Nat.add_sub_cancel_left]
def spArs : Sp := fun vs H Q _ => ∃ (d : Addr) (n : Nat), vs = [.ref d] ∧ Dice H d n ∧ n + 40 < 1000000 ∧
  ∀ (q : Addr) (l : List (Str × Nat)) (H' : Hp), q ≠ d → H q = none → Kp d H H' → H' q = some (.dK (dkv l)) → Ars l → Dice H' d (n + 40) → Q (.ref q) H'
section
variable {P : Program} {w : World} {K : PySem.W.Frag} {mg : Str → Option Value} {base : Heap} {fR fP fM : Addr} {dR dP dM : FuncData}
theorem scArs : FnScope ["dice", "names", "found", "name"] ["dice"] (defScope sArs) := ⟨rfl, rfl, rfl, by decide +kernel, rfl, by decide +kernel, by decide +kernel⟩
theorem ok_ars {f : Addr} {fd : FuncData} (F : Fun K "_law_arities" "_law_arities" sArs f fd) (D : Draws K mg fR fP fM dR dP dM) (T : Free mg) : FnOk P w K mg base CX0 3 f fd ["dice"] spArs := by
  have GR : FnOk P w K mg base CX0 1 fR dR ["dice", "total"] spRoll := ok_roll D.FR T
  have GM : FnOk P w K mg base CX0 2 fM dM ["dice", "items"] (spMixed K) := ok_mixed D T
  refine F.ok scArs (fun vs H Q E h => ?_) (fun cdv A outer s H vs Q E hr h => ?_)
  · obtain ⟨d, n, rfl, _⟩ := h
    rfl
  · obtain ⟨d, n, rfl, di, hn, q⟩ := h
    have r1 : Room 1 _ := hr.mono (by decide)
    have hu := hr.units
    refine ⟨_, pss_cons (ps_set (i := 1) scArs.nd rfl (.inl rfl) (pe_call GM hr (by rfl) D.gM D.FM.kp D.bM .nil pass0 (pa_cons (pv 0) (pa_cons (pe_lst (pa_cons pe_str (pa_cons pe_str (pa_cons pe_str (pa_cons pe_str (pa_cons pe_str (pa_cons pe_str (pa_cons pe_str (pa_cons pe_str (pa_cons pe_str (pa_cons pe_str pa_nil))))))))))) pa_nil)))) (pss_cons (ps_set (i := 2) scArs.nd rfl (.inl rfl) (pe_disp (pps_cons (pe_ix ix_list (pv 1) pe_int (fun _ _ => rfl)) pe_int pps_nil) (by rfl) (by rfl) (fun z => by cases z) (by decide))) (pss_cons (ps_for PassesOwn.never rfl (pi_list (pe_slice sl_list (pv 1) (po_some pe_int) (po_some (pe_op op_add pe_int (pe_call GR r1 (by rfl) D.gR D.FR.kp D.bR .nil pass0 (pa_cons (pv 0) (pa_cons pe_int pa_nil))))))) (pg_name (i := 3) scArs.nd rfl (.inl rfl)) (pss_one (ps_asg (pe_call GR r1 (by rfl) D.gR D.FR.kp D.bR .nil pass0 (pa_cons (pv 0) (pa_cons pe_int pa_nil))) (pg_sub (pv 2) (pv 3) (set_dict (Nat.lt_of_le_of_lt (Nat.add_le_add_left (by decide : 1 ≤ 64) _) hu)))))) (pss_one (ps_ret (pe_callTy (call_dictP rfl) (by rfl) T.dict (by decide +kernel) (pa_cons (pe_call GM hr (by rfl) D.gM D.FM.kp D.bM .nil pass0 (pa_cons (pv 0) (pa_cons (LiI.pe_listItems (by rfl) (pv 2) (by rfl) T.list (by decide +kernel)) pa_nil))) pa_nil)))))), ?_⟩
    obtain ⟨ds, hd⟩ := di.there
    -- names
    refine ⟨_, rfl, by show 10 ≤ sizeLine; decide, fun lp nlp => ?_⟩
    have dlp : d ≠ lp := ne_of_none hd nlp
    refine ⟨d, lp, n, pool.map V.str, rfl, dlp.symm, SqL.of upd_same, by show 10 ≤ 1000; decide, di.same (Same.new nlp), by show n + 10 < 1000000; omega, fun b ys H1 nbd nb kp hb pm di1 => ?_⟩
    obtain ⟨zs, pz, rfl⟩ := perm_map pm
    have lz : zs.length = 10 := pz.length_eq
    have ndz : zs.Nodup := pz.nodup_iff.mpr (by decide +kernel)
    have di1' : Dice H1 d (n + 10) := di1
    -- found
    refine fun f nf => ?_
    have bf : b ≠ f := ne_of_none hb nf
    obtain ⟨ds1, hd1⟩ := di1'.there
    have df : d ≠ f := ne_of_none hd1 nf
    cases zs with
    | nil => cases lz
    | cons z0 zr =>
    have lr : zr.length = 9 := Nat.succ.inj lz
    refine ⟨_, rfl, b, _, _, _, rfl, rfl, SqL.of (by rw [upd_ne bf]; exact hb), atI_nat (j := 0) (v := V.str z0) rfl, upd_same, [(.inr z0, .int 0)], rfl, Nat.le_of_ble_eq_true rfl, ?_⟩
    rw [upd_upd]
    have hf : (upd H1 f (.dK (dkv [(z0, 0)]))) f = some (.dK (dkv [(z0, 0)])) := upd_same
    have di2 : Dice (upd H1 f (.dK (dkv [(z0, 0)]))) d (n + 10) := di1'.same (Same.new nf)
    have kp2 : Kp d H (upd H1 f (.dK (dkv [(z0, 0)]))) := ((Kp.new nlp).trans kp).trans (Kp.new nf)
    have hb2 : (upd H1 f (.dK (dkv [(z0, 0)]))) b = some (.lst ((z0 :: zr).map V.str)) := by rw [upd_ne bf]; exact hb
    have nHf : H f = none := Kp.free ((Kp.new nlp).trans kp) df.symm nf
    have hpz : ∀ z ∈ z0 :: zr, z ∈ pool := fun z m => pz.mem_iff.mp m
    -- the names behind the first one
    refine ⟨_, rfl, 1, rfl, _, rfl, d, 4, n + 10, rfl, di2, by omega, by decide, by decide +kernel, fun r o r0 r1' di3 => ⟨_, _, rfl, rfl, _, rfl, b, _, rfl, SqL.of ((Kp.upd (d := d)) _ _ nbd hb2), fun p np => ?_⟩⟩
    have cut : cutV ((z0 :: zr).map V.str) (some 1) (some (1 + r)) = (zr.take r.toNat).map V.str := by
      rw [List.map_cons, cut_one (by omega) (by rw [List.length_map]; omega), List.map_take]
    rw [cut]
    refine ⟨p, rfl, ⟨_, SqL.of upd_same⟩, ?_⟩
    have hf3 : (upd (upd H1 f (.dK (dkv [(z0, 0)]))) d o) f = some (.dK (dkv [(z0, 0)])) := (Kp.upd (d := d)) _ _ df.symm hf
    obtain ⟨ds3, hd3⟩ := di3.there
    have dp : d ≠ p := ne_of_none hd3 np
    have fp : f ≠ p := ne_of_none hf3 np
    have k3 : Kp d H (upd (upd H1 f (.dK (dkv [(z0, 0)]))) d o) := kp2.trans Kp.upd
    refine for_list (K := K) (a := p) (xs := (zr.take r.toNat).map V.str) (fun i σ H' => ∃ (v3 : Option V) (l : List (Str × Nat)), σ = [some (.ref d), some (.ref b), some (.ref f), v3] ∧ Kp d H H' ∧ H' p = some (.lst ((zr.take r.toNat).map V.str)) ∧
        H' f = some (.dK (dkv l)) ∧ l.map (·.1) = z0 :: zr.take i ∧ (∀ x ∈ l, x.2 ≤ 2) ∧ (z0, 0) ∈ l ∧ Dice H' d (n + 11 + i))
      ⟨none, [(z0, 0)], rfl, k3.trans (Kp.new np), upd_same, (Same.new np) _ _ hf3, rfl, by simp, by simp, di3.same (Same.new np)⟩ (fun i σ H' _ ⟨_, _, _, _, hp, _⟩ => SqL.of hp) ?_ ?_
    · rintro i x σ H' hx ⟨v3, l, rfl, kp', hp, hf', keys, two, c0, di'⟩
      have hx2 := List.getElem?_eq_some_iff.mp hx
      obtain ⟨hi, ex⟩ := hx2
      rw [List.length_map, List.length_take] at hi
      have hi9 : i < zr.length := by omega
      have ex2 : x = V.str zr[i] := by
        rw [← ex]
        simp
      subst ex2
      refine ⟨_, rfl, d, 3, n + 11 + i, rfl, di', by omega, by decide, by decide +kernel, fun r2 o2 r20 r21 di4 => ⟨_, rfl, _, rfl, f, _, rfl, DPut.k (k := .inr zr[i]) ((Kp.upd (d := d)) _ _ df.symm hf') ?_, ?_⟩⟩
      · have : l.length = (l.map (·.1)).length := (List.length_map _).symm
        rw [keys, List.length_cons, List.length_take] at this
        have e : (dkv l).length = l.length := List.length_map _
        rw [e, sizeLine_eq]
        omega
      · have nz : zr[i] ∉ l.map (·.1) := by
          rw [keys]
          have nd2 := (List.nodup_cons.mp ndz)
          intro m
          rcases List.mem_cons.mp m with m | m
          · exact nd2.1 (m ▸ List.getElem_mem hi9)
          · obtain ⟨j, hj, e⟩ := List.mem_iff_getElem.mp m
            rw [List.length_take] at hj
            rw [List.getElem_take] at e
            have := (List.getElem_inj nd2.2).mp e
            omega
        have er : r2 = ((r2.toNat : Nat) : Int) := (Int.toNat_of_nonneg r20).symm
        rw [er, put_end nz]
        have fd : f ≠ d := df.symm
        refine ⟨_, l ++ [(zr[i], r2.toNat)], rfl, fun c u nc e => ?_, ?_, upd_same, ?_, fun x m => ?_, List.mem_append_left _ c0, (di4.kept fun u e => ?_).more (by omega) (by omega)⟩
        · rw [upd_ne (ne_of_none e nHf), upd_ne nc]
          exact kp' c u nc e
        · rw [upd_ne fp.symm, upd_ne dp.symm]
          exact hp
        · rw [List.map_append, keys, List.take_add_one, List.getElem?_eq_getElem hi9]
          rfl
        · rcases List.mem_append.mp m with m | m
          · exact two x m
          · rw [List.mem_singleton.mp m]
            show r2.toNat ≤ 2
            omega
        · rw [upd_ne df]
          exact e
    · rintro σ H' ⟨v3, l, rfl, kp', hp, hf', keys, two, c0, di'⟩
      rw [List.length_map, List.length_take] at keys di'
      have lm : Nat.min r.toNat zr.length = r.toNat := Nat.min_eq_left (by omega)
      have ll : l.length = r.toNat + 1 := by
        have := (List.length_map (as := l) (·.1))
        rw [keys, List.length_cons, List.length_take] at this
        omega
      have ars : Ars l := by
        refine ⟨by omega, ?_, fun x m => ?_, two, _, c0, rfl⟩
        · rw [keys]
          have nd2 := List.nodup_cons.mp ndz
          exact List.nodup_cons.mpr ⟨fun m => nd2.1 (List.mem_of_mem_take m), (List.take_sublist _ _).nodup nd2.2⟩
        · have : x.1 ∈ l.map (·.1) := List.mem_map_of_mem m
          rw [keys] at this
          rcases List.mem_cons.mp this with e | m2
          · rw [e]
            exact hpz z0 List.mem_cons_self
          · exact hpz _ (List.mem_cons_of_mem _ (List.mem_of_mem_take m2))
      refine ⟨_, rfl, _, rfl, f, dkv l, rfl, hf', fun H5 p2 ts sm np2 nts pts h2 pr => ?_⟩
      have lts : ts.length = l.length := by
        have e : (dkv l).length = l.length := List.length_map _
        rw [pr.length, e]
      obtain ⟨ds5, hd5⟩ := di'.there
      refine ⟨d, p2, n + 11 + min r.toNat zr.length, ts.map V.ref, rfl, (ne_of_none hd5 np2).symm, SqL.of h2, by rw [List.length_map]; omega, di'.same sm, by rw [List.length_map]; omega, fun q2 ys H6 nqd nq2 kp6 hq2 pm2 di6 => ?_⟩
      obtain ⟨ps, pps, rfl⟩ := perm_map pm2
      obtain ⟨kvs, pk, pr2⟩ := paired_perm pps (paired_and (P := fun t => t ≠ d) (fun t m => (ne_of_none hd5 (nts t m)).symm) pr)
      obtain ⟨l2, pl, rfl⟩ := perm_map pk
      refine ⟨q2, ps, dkv l2, rfl, SqL.of hq2, paired_map (fun t k h => SqT.of (kp6 _ _ h.1 h.2)) pr2, fun p9 np9 => ?_⟩
      have a2 := ars.perm pl
      rw [merge_all a2.nd]
      obtain ⟨ds6, hd6⟩ := di6.there
      have k9 : Kp d H (upd H6 p9 (.dK (dkv l2))) := ((kp'.trans (Kp.same sm)).trans kp6).trans (Kp.new np9)
      have p9d : p9 ≠ d := (ne_of_none hd6 np9).symm
      refine q p9 l2 _ p9d (Kp.free ((kp'.trans (Kp.same sm)).trans kp6) p9d np9) k9 upd_same a2 ((di6.same (Same.new np9)).more ?_ ?_)
      · rw [List.length_map]
        omega
      · omega
end
end Pr

namespace Pr
open PySem PySem.Spec PyProof.Rows L2 Gd
theorem if_true_of {c : Bool} {A B : Prop} (hc : c = true) (h : A) : if c = true then A else B := by rw [if_pos hc]; exact h
theorem if_false_of {c : Bool} {A B : Prop} (hc : c = false) (h : B) : if c = true then A else B := by rw [hc, if_neg Bool.false_ne_true]; exact h
theorem val_some {z : Str} {a : Nat} : ∀ {l : List (Str × Nat)}, (l.map (·.1)).Nodup → (z, a) ∈ l → valV (dkv l) (.inr z : Key) = some (.int (a : Int))
  | p :: l, nd, h => by
    show valV ((.inr p.1, .int (p.2 : Int)) :: dkv l) (.inr z : Key) = some (.int (a : Int))
    have nd' := List.nodup_cons.mp nd
    rcases List.mem_cons.mp h with e | h
    · subst e
      rw [valV_pos rfl]
    · rw [valV_neg (fun e => nd'.1 (by
        have e' : p.1 = z := Sum.inr.inj e
        have m : (z, a).1 ∈ l.map (·.1) := List.mem_map_of_mem h
        exact (show p.1 ∈ l.map (·.1) from e' ▸ m)))]
      exact val_some nd'.2 h
theorem pe_imp {X : Cx} {e : Expr} {t t' : TE} (h : PE X e t) (k : ∀ σ H Q, t' σ H Q → t σ H Q) : PE X e t' := ⟨fun pins s σ H Q I q => h.run pins s σ H Q I (k σ H Q q)⟩
end Pr
namespace Pr
open PySem PySem.Spec PyProof.Rows L2
/-! ### integers, counts, coprime pairs -/
theorem Kd.ty {K : PySem.W.Frag} {H : Hp} {v : V} {t : String} (k : Kd H v t) : TyX K H v (.type t) := by
  cases k with
  | non => exact .base .non
  | bl b => exact .base (.bl b)
  | int i => exact .base (.int i)
  | str z => exact .base (.str z)
  | lst e => exact .base (.lst e)
  | tup e => exact (let ⟨_, h, _⟩ := e; .fTuple h)
  | dK e => exact .base (.dK e)
/-- is it an int (a bool is one); is it a bool -/
def isI : V → Bool
  | .bl _ => true
  | .int _ => true
  | _ => false
def isB : V → Bool
  | .bl _ => true
  | _ => false
theorem kit_int {K : PySem.W.Frag} {H : Hp} {v : V} {t : String} (k : Kd H v t) : PySem.W.kitOne K (.type t) (.type "int") = some (isI v) := by
  cases k <;> first | exact kit_ty (r := true) (by decide +kernel) | exact kit_ty (r := false) (by decide +kernel)
theorem kit_bool {K : PySem.W.Frag} {H : Hp} {v : V} {t : String} (k : Kd H v t) : PySem.W.kitOne K (.type t) (.type "bool") = some (isB v) := by
  cases k <;> first | exact kit_ty (r := true) (by decide +kernel) | exact kit_ty (r := false) (by decide +kernel)
/-- an integer of at most sixty digits; a count -/
def isInt : V → Bool
  | .int i => decide ((if i < 0 then -i else i) < 10 ^ (60 : Int).toNat)
  | _ => false
def isCount : V → Bool
  | .int i => decide ((if i < 0 then -i else i) < 10 ^ (60 : Int).toNat) && decide (0 ≤ i)
  | _ => false
theorem count_nat {v : V} (h : isCount v = true) : ∃ n : Nat, v = .int n ∧ n < 10 ^ 60 := by
  cases v with
  | int i =>
    have h' : (decide ((if i < 0 then -i else i) < 10 ^ (60 : Int).toNat) && decide (0 ≤ i)) = true := h
    rw [Bool.and_eq_true] at h'
    have h1 := of_decide_eq_true h'.1
    have h2 := of_decide_eq_true h'.2
    rw [if_neg (by omega)] at h1
    have e : ((10 : Int) ^ (60 : Int).toNat) = ((10 ^ 60 : Nat) : Int) := by decide +kernel
    rw [e] at h1
    exact ⟨i.toNat, by rw [Int.toNat_of_nonneg h2], by omega⟩
  | _ => cases h
theorem nat_count {n : Nat} (h : n < 10 ^ 60) : isCount (.int n) = true := by
  show (decide ((if (n : Int) < 0 then -(n : Int) else n) < 10 ^ (60 : Int).toNat) && decide ((0 : Int) ≤ n)) = true
  have e : ((10 : Int) ^ (60 : Int).toNat) = ((10 ^ 60 : Nat) : Int) := by decide +kernel
  rw [if_neg (by omega), e, decide_eq_true (by omega), decide_eq_true (by omega)]
  rfl
def spInt : Sp := fun vs H Q _ => ∃ (v : V) (t : String), vs = [v] ∧ Kd H v t ∧ Q (.bl (isInt v)) H
def spCount : Sp := fun vs H Q _ => ∃ (v : V) (t : String), vs = [v] ∧ Kd H v t ∧ Q (.bl (isCount v)) H
section
variable {P : Program} {w : World} {K : PySem.W.Frag} {mg : Str → Option Value} {base : Heap}
theorem scInteger : FnScope ["value"] ["value"] (defScope sInteger) := ⟨rfl, rfl, rfl, by decide +kernel, rfl, by decide +kernel, by decide +kernel⟩
theorem ok_integer {f : Addr} {fd : FuncData} (F : Fun K "is_integer" "is_integer" sInteger f fd) (T : Free mg) : FnOk P w K mg base CX0 1 f fd ["value"] spInt := by
  refine F.ok scInteger (fun vs H Q E h => ?_) (fun cdv A outer s H vs Q E hr h => ?_)
  · obtain ⟨v, t, rfl, _⟩ := h
    rfl
  · obtain ⟨v, t, rfl, kd, q⟩ := h
    refine ⟨_, pss_one (ps_ret (pe_and (pe_callB call_isi (by rfl) T.isi (by decide +kernel) (pa_cons (pv 0) (pa_cons (pe_bltn (v := .ty "int") (by rfl) T.int (by decide +kernel) rfl) pa_nil)))
      (pe_and (pe_not (pe_callB call_isi (by rfl) T.isi (by decide +kernel) (pa_cons (pv 0) (pa_cons (pe_bltn (v := .ty "bool") (by rfl) T.bool (by decide +kernel) rfl) pa_nil))))
        (pe_one (pe_cmpR op_lt (pe_callB call_abs (by rfl) T.abs (by decide +kernel) (pa_cons (pv 0) pa_nil)) (pe_op op_pow pe_int pe_int) (nomark _)))))), ?_⟩
    refine ⟨_, rfl, v, _, _, _, _, rfl, .ty "int", kd.ty, kit_int kd, _, rfl, ?_⟩
    cases kd with
    | int i => exact iteT ⟨_, rfl, _, _, _, _, _, rfl, .ty "bool", (Kd.int i).ty, kit_bool (Kd.int (H := H) i), _, rfl, _, rfl, iteT ⟨_, rfl, i, rfl, 10, 60, rfl, rfl, c10 (k := 60) (by decide), _, _, rfl, rfl, q⟩⟩
    | bl b => exact iteT ⟨_, rfl, _, _, _, _, _, rfl, .ty "bool", (Kd.bl b).ty, kit_bool (Kd.bl (H := H) b), _, rfl, _, rfl, iteF q⟩
    | _ => exact iteF q
end
end Pr
namespace Pr
open PySem PySem.Spec PyProof.Rows L2
/-! ### the same judge, as a name that is never unfolded -/
theorem there_int : ∃ p : V → Bool, p = isInt := ⟨_, rfl⟩
noncomputable def isIntO : V → Bool := Classical.choose there_int
theorem isIntO_eq : isIntO = isInt := Classical.choose_spec there_int
def spIntO : Sp := fun vs H Q _ => ∃ (v : V) (t : String), vs = [v] ∧ Kd H v t ∧ Q (.bl (isIntO v)) H
theorem spIntO_eq : spIntO = spInt := by
  unfold spIntO spInt
  rw [isIntO_eq]
section
variable {P : Program} {w : World} {K : PySem.W.Frag} {mg : Str → Option Value} {base : Heap}
theorem ok_integerO {f : Addr} {fd : FuncData} (F : Fun K "is_integer" "is_integer" sInteger f fd) (T : Free mg) : FnOk P w K mg base CX0 1 f fd ["value"] spIntO := by
  rw [spIntO_eq]
  exact ok_integer F T
end
end Pr
namespace Pr
open PySem PySem.Spec PyProof.Rows L2 Gd
/-! ### names: by the text's methods, and sign by sign -/
def azC (c : Nat) : Bool := decide (97 ≤ c) && decide (c ≤ 122)
def azB (z : Str) : Bool := decide (1 ≤ z.length) && decide (z.length ≤ 8) && z.cps.toList.all azC
def nameB : V → Bool
  | .str z => azB z
  | _ => false
theorem az_table : ((List.range 128).all fun c => ((Unicode.isAlpha c && !(Unicode.isUpper c || Unicode.isTitle c)) == azC c) && (!azC c || Unicode.isLower c)) = true := by decide +kernel
theorem az_at {c : Nat} (h : c < 128) : (Unicode.isAlpha c && !(Unicode.isUpper c || Unicode.isTitle c)) = azC c ∧ (azC c = true → Unicode.isLower c = true) := by
  have q := List.all_eq_true.mp az_table c (List.mem_range.mpr h)
  rw [Bool.and_eq_true] at q
  refine ⟨eq_of_beq q.1, fun e => ?_⟩
  have q2 := q.2
  rw [e] at q2
  simpa using q2
theorem az_lt {c : Nat} (h : azC c = true) : c < 128 := by
  unfold azC at h
  rw [Bool.and_eq_true] at h
  have := of_decide_eq_true h.2
  omega
/-- the three methods say what the signs say -/
theorem by_methods {z : Str} (h8 : z.length ≤ 8) : (Txt.isascii z && (Txt.isalpha z && Txt.islower z)) = azB z := by
  obtain ⟨⟨l⟩⟩ := z
  have hl : l.length ≤ 8 := h8
  have e1 : Txt.isascii ⟨⟨l⟩⟩ = l.all (· < 128) := by simp [Txt.isascii]
  have e2 : Txt.isalpha ⟨⟨l⟩⟩ = (decide (0 < l.length) && l.all Unicode.isAlpha) := by
    unfold Txt.isalpha
    simp [Str.length]
  have e3 : Txt.islower ⟨⟨l⟩⟩ = (l.any Unicode.isLower && !l.any fun c => Unicode.isUpper c || Unicode.isTitle c) := by simp [Txt.islower]
  have e4 : azB ⟨⟨l⟩⟩ = (decide (1 ≤ l.length) && decide (l.length ≤ 8) && l.all azC) := rfl
  rw [e1, e2, e3, e4, decide_eq_true hl, Bool.and_true]
  apply Bool.eq_iff_iff.mpr
  simp only [Bool.and_eq_true, List.all_eq_true, decide_eq_true_eq, Bool.not_eq_true', List.any_eq_false, List.any_eq_true]
  constructor
  · rintro ⟨a, ⟨b, c⟩, d, e⟩
    refine ⟨b, fun x m => ?_⟩
    rw [← (az_at (a x m)).1, c x m, Bool.true_and]
    have := e x m
    simpa using this
  · rintro ⟨a, b⟩
    have lt : ∀ x ∈ l, x < 128 := fun x m => az_lt (b x m)
    have both : ∀ x ∈ l, Unicode.isAlpha x = true ∧ (Unicode.isUpper x || Unicode.isTitle x) = false := fun x m => by
      have q := (az_at (lt x m)).1
      rw [b x m, Bool.and_eq_true] at q
      exact ⟨q.1, by simpa using q.2⟩
    refine ⟨lt, ⟨a, fun x m => (both x m).1⟩, ?_, fun x m => by rw [(both x m).2]; simp⟩
    cases l with
    | nil => simp at a
    | cons x r => exact ⟨x, List.mem_cons_self, (az_at (lt x List.mem_cons_self)).2 (b x List.mem_cons_self)⟩
def spName : Sp := fun vs H Q _ => ∃ (v : V) (t : String), vs = [v] ∧ Kd H v t ∧ (∀ z, v = .str z → z.length ≤ 1000000) ∧ Q (.bl (nameB v)) H
theorem kit_str {K : PySem.W.Frag} {H : Hp} {v : V} {t : String} (k : Kd H v t) : PySem.W.kitOne K (.type t) (.type "str") = some (match v with | .str _ => true | _ => false) := by
  cases k <;> first | exact kit_ty (r := true) (by decide +kernel) | exact kit_ty (r := false) (by decide +kernel)
/-- a list's address (or any other's) is no text -/
theorem nameB_not {H : Hp} {v : V} {t : String} (k : Kd H v t) (h : ∀ z, v ≠ .str z) : nameB v = false := by
  cases k with
  | str z => exact absurd rfl (h z)
  | _ => rfl
section
variable {P : Program} {w : World} {K : PySem.W.Frag} {mg : Str → Option Value} {base : Heap}
theorem scName : FnScope ["value"] ["value"] (defScope sName) := ⟨rfl, rfl, rfl, by decide +kernel, rfl, by decide +kernel, by decide +kernel⟩
theorem ok_name {f : Addr} {fd : FuncData} {tk : Tok} (F : Fun K "is_name" "is_name" sName f fd) (T : Free mg) (gm : mg "MAX_LETTERS" = some (.int 8 tk)) : FnOk P w K mg base CX0 1 f fd ["value"] spName := by
  refine F.ok scName (fun vs H Q E h => ?_) (fun cdv A outer s H vs Q E hr h => ?_)
  · obtain ⟨v, t, rfl, _⟩ := h
    rfl
  · obtain ⟨v, t, rfl, kd, hz, q⟩ := h
    refine ⟨_, pss_cons (ps_if (PW.pt (pw_or (pt_not (pt_val (pe_callB call_isi (by rfl) T.isi (by decide +kernel) (pa_cons (pv 0) (pa_cons (pe_bltn (v := .ty "str") (by rfl) T.str (by decide +kernel) rfl) pa_nil)))))
        (pw_or1 (pt_cmpR op_gt (pe_callB call_len_str (by rfl) T.len PySem.boot_len (pa_cons (pv 0) pa_nil)) (pe_glob (v := .int 8) (by rfl) gm ⟨_, rfl⟩) (nomark _))))) (pss_one (ps_ret pe_bl)) pss_nil)
      (pss_one (ps_ret (pe_and (pe_bm0 PySem.F.plainAttrs_str PySem.F.slot_str_isascii PySem.F.type_str_isascii mt_isascii (pv 0))
        (pe_and (pe_bm0 PySem.F.plainAttrs_str PySem.F.slot_str_isalpha PySem.F.type_str_isalpha mt_isalpha (pv 0))
          (pe_one (pe_bm0 PySem.F.plainAttrs_str PySem.F.slot_str_islower PySem.F.type_str_islower mt_islower (pv 0))))))), ?_⟩
    refine ⟨_, rfl, v, _, _, _, _, rfl, .ty "str", kd.ty, kit_str kd, _, rfl, ?_⟩
    cases kd with
    | str z =>
      have l := hz z rfl
      refine iteF ⟨_, rfl, z, rfl, by rw [sizeLine_eq]; omega, _, _, rfl, rfl, _, rfl, ite2 (fun c => ?_) (fun c => ?_)⟩
      · have e : nameB (.str z) = false := by
          have c' := of_decide_eq_true c
          show (_ && _ && _) = false
          rw [decide_eq_false (show ¬ z.length ≤ 8 by omega), Bool.and_false, Bool.false_and]
        rw [e] at q
        exact q
      · have c' : ¬ (8 : Int) < z.length := fun h => c (decide_eq_true h)
        have e : nameB (.str z) = (Txt.isascii z && (Txt.isalpha z && Txt.islower z)) := (by_methods (by omega)).symm
        rw [e] at q
        refine ⟨_, rfl, rfl, z, rfl, rfl, trivial, _, rfl, ite2 (fun c1 => ?_) (fun c1 => ?_)⟩
        · rw [c1, Bool.true_and] at q
          refine ⟨_, rfl, rfl, z, rfl, rfl, trivial, _, rfl, ite2 (fun c2 => ?_) (fun c2 => ?_)⟩
          · rw [c2, Bool.true_and] at q
            exact ⟨_, rfl, rfl, z, rfl, rfl, trivial, q⟩
          · rw [Bool.eq_false_iff.mpr c2, Bool.false_and] at q
            exact q
        · rw [Bool.eq_false_iff.mpr c1, Bool.false_and] at q
          exact q
    | _ => exact iteT (iteT q)
end
/-! ### a list beside the empty one -/
def rEqE (K : PySem.W.Frag) : R2 := fun x y H Q => ∃ a b xs, x = .ref a ∧ y = .ref b ∧ SqL K H a xs ∧ SqL K H b [] ∧ Q (.bl xs.isEmpty) H
theorem op_eqE {X : Cx} (hu : X.A.units + 64 < cLine) : OpR X (compareOp .Eq) (rEqE X.K) := by
  intro pins s σ H x y v u Q I rx ry h
  obtain ⟨a, b, xs, rfl, rfl, ha, hb, q⟩ := h
  cases (show v = Value.ref a from rx)
  cases (show u = Value.ref b from ry)
  obtain ⟨us, r1, p1, _⟩ := I.list ha
  obtain ⟨ws, r2, p2, _⟩ := I.list hb
  have l2 : ws.length = 0 := r2.length.symm
  have l1 : us.length = xs.length := r1.length.symm
  cases xs with
  | nil =>
    have hsz : us.toArray.size = ws.toArray.size := by
      rw [List.size_toArray, List.size_toArray, l1, l2]
      rfl
    have z := SeqAt.RcAt.lists (e := fun _ => true) p1.isList p2.isList hsz (A := X.A) (s := s) (by omega) (fun j h1 h2 => by
      rw [List.size_toArray, l1] at h1
      exact absurd h1 (Nat.not_lt_zero _))
    rw [show ((List.range us.toArray.size).all fun _ => true) = true from List.all_eq_true.mpr fun _ _ => rfl] at z
    exact z X.prog X.w _ _ ⟨.bl true, H, I, rfl, q⟩
  | cons x r =>
    have hsz : (us.toArray.size != ws.toArray.size) = true := by
      rw [List.size_toArray, List.size_toArray, l1, l2]
      rfl
    exact SeqAt.RcAt.lists_lengths p1.isList p2.isList hsz (A := X.A) (s := s) (by omega) X.prog X.w _ _ ⟨.bl false, H, I, rfl, q⟩
/-- a comprehension over the signs of a text -/
theorem lc_signs {x : Str} {g : TG} {tt : TT} {te : TE} {vs : List Nat} {σ : L2.St} {H1 : Hp} {D : Addr} {Qd : Hp → Prop} (Pv : Nat → Hp → Prop) (h0 : Pv 0 (upd H1 D (.lst [])))
    (hs : ∀ i c H, x.cps[i]? = some c → Pv i H → g (.str ⟨#[c]⟩) (wipe σ vs) H fun σ2 H2 => wipe σ2 vs = wipe σ vs ∧ tt σ2 H2 fun b H3 =>
      if b = true then te σ2 H3 fun y H4 => ∃ acc, H4 D = some (.lst acc) ∧ acc.length < sizeLine ∧ Pv (i + 1) (upd H4 D (.lst (acc ++ [y]))) else Pv (i + 1) H3) (hd : ∀ H, Pv x.cps.size H → Qd H) :
    ∃ W : Nat → Nat → Hp → Prop, (∃ m, W 0 m (upd H1 D (.lst []))) ∧ ∀ i m H, W i m H →
      ((Its x).stop i H ∧ Qd H) ∨ ((Its x).go i H ∧ ∃ Nx : Hp → Prop, (∀ H', Nx H' → ∃ m', m' < m ∧ W (i + 1) m' H') ∧ ∀ y H', (Its x).yld i H y H' → g y (wipe σ vs) H' fun σ2 H2 => wipe σ2 vs = wipe σ vs ∧ tt σ2 H2 fun b H3 =>
        if b = true then te σ2 H3 fun y H4 => ∃ acc, H4 D = some (.lst acc) ∧ acc.length < sizeLine ∧ Nx (upd H4 D (.lst (acc ++ [y]))) else Nx H3) := by
  refine ⟨fun i m H => m = x.cps.size - i ∧ i ≤ x.cps.size ∧ Pv i H, ⟨x.cps.size, by simp, Nat.zero_le _, h0⟩, ?_⟩
  rintro i m H ⟨rfl, hi, p⟩
  rcases Nat.lt_or_ge i x.cps.size with lt | ge
  · refine .inr ⟨lt, Pv (i + 1), fun H' p' => ⟨x.cps.size - (i + 1), by omega, rfl, lt, p'⟩, fun y H' h => ?_⟩
    obtain ⟨rfl, c, hc, rfl⟩ := h
    exact hs i c _ hc p
  · obtain rfl : i = x.cps.size := Nat.le_antisymm hi ge
    exact .inl ⟨Nat.le_refl _, hd H p⟩
end Pr
namespace Pr
open PySem PySem.Spec PyProof.Rows L2 Gd
/-! ### a class's own maker called in a try; a try with two clauses, the first one with a name -/
section
variable {X : Cx} {CX : CXT} {k : Nat} {C p g : Addr} {mc : Value} {sp : Sp} {E : L2.St → XK} {o e : Expr} {es : List Expr} {m : Str} {pos apos : Pos} {ta : TE} {t : TA} {pl : Sem Bool}
theorem run_fnRS {pins : List (Addr × Obj)} {σ : L2.St} {H : Hp} {s : Shared} {f : Addr} {Q : VK} {us : List Value} {vs : List V} (F : FnR X.prog X.w X.K X.mg X.base CX k f sp) (hr : Room k X.A) (hx : PassesAt CX X σ (E σ)) (I : Inv X pins σ H s) (r : Vals vs us) (h : sp vs H Q (E σ)) :
    codeAny (model X.prog X.w) X.A (.call (.ref f) ⟨us, []⟩) (fun r s' => match r with | .ok (.ret v) => EP X pins σ Q v s' | .ok _ => False | .error e => X.xe e s') s := by
  refine codeAny_mono (F X.A X.stack s H us vs Q (E σ) hr I.env0 r h) fun r s' hq => ?_
  cases r with
  | error e => exact hx pins H s e s' I hq
  | ok fl =>
    cases fl with
    | ret u => exact I.after hq
    | next => exact False.elim hq
    | brk => exact False.elim hq
    | cont => exact False.elim hq
theorem run_cmS {pins : List (Addr × Obj)} {σ : L2.St} {H : Hp} {s : Shared} {q : Addr} {Q : VK} {us : List Value} {vs : List V} (F : FnR X.prog X.w X.K X.mg X.base CX k g sp) (hr : Room k X.A) (hx : PassesAt CX X σ (E σ)) (I : Inv X ((q, PySem.W.methodObj (.ref g) (.ref C)) :: pins) σ H s)
    (r : Vals vs us) (h : sp (.ref C :: vs) H Q (E σ)) : wpAny (model X.prog X.w) X.A (call (.ref q) us) (EP X pins σ Q) X.xe s := by
  have z : wpAny (model X.prog X.w) X.A (call (.ref q) us) (EP X ((q, PySem.W.methodObj (.ref g) (.ref C)) :: pins) σ Q) X.xe s :=
    wpAny_call (PySem.W.method_call (ClX.pin_at I) (run_fnRS (us := .ref C :: us) (vs := .ref C :: vs) F hr hx I (.cons rfl r) h))
  exact thn z fun _ _ y => ClX.unpinE y
def tCMethS (C : Addr) (sp : Sp) (E : L2.St → XK) (ta : TE) (t : TA) : TE := fun σ H Q => ta σ H fun x H1 => x = .ref C ∧ t σ H1 fun vs H2 => sp (.ref C :: vs) H2 Q (E σ)
theorem pe_cmethS (he : PE X o ta) (r : ClX.CRead X.K C mc) (c : ClX.CMet X.K C mc m p g) (F : FnR X.prog X.w X.K X.mg X.base CX k g sp) (hr : Room k X.A) (hx : ∀ σ, PassesAt CX X σ (E σ)) (ha : PA X (e :: es) t)
    (hst : starEach (e :: es) X.env = (false, eval e X.env) :: starEach es X.env := by rfl) (hpl : (backTo pos (starEach es X.env)).any (·.1) = false := by rfl)
    (ht : eval (.Call (.Attribute o m apos) (e :: es) [] pos) X.env = (do
      let ov ← eval o X.env
      standAt apos.atName
      let (f, first) ← holding [ov] (getMethod ov m pl)
      callWith pos f first (backTo pos (starEach (e :: es) X.env)) (backToKw pos (keywordEach [] X.env))) := by rfl) :
    PE X (.Call (.Attribute o m apos) (e :: es) [] pos) (tCMethS C sp E ta t) := by
  refine ⟨fun pins s σ H Q I h => ?_⟩
  refine PySem.W.methodCall_KW (pl := pl) (thn (he.run pins s σ H _ I h) fun u s1 ⟨x, H1, I1, rx, ex, q⟩ => ?_) ht
  subst ex
  obtain rfl : u = Value.ref C := rx
  refine ClX.getmethcm_ok I1 r c fun s2 I2 => ?_
  refine ClX.callwith_cm I2 (ClX.base_none I1 (Nat.le_refl _)) c.fi (thn (ha.run pos _ s2 σ H1 _ I2 q) fun us s3 ⟨vs, H2, I3, rv, q2⟩ => ⟨⟨ClX.pin_at I3, I3.kIn⟩, ?_⟩) hst hpl
  exact run_cmS F hr (hx σ) I3 rv q2
theorem pe_cmethS0 (he : PE X o ta) (r : ClX.CRead X.K C mc) (c : ClX.CMet X.K C mc m p g) (F : FnR X.prog X.w X.K X.mg X.base CX k g sp) (hr : Room k X.A) (hx : ∀ σ, PassesAt CX X σ (E σ))
    (ht : eval (.Call (.Attribute o m apos) [] [] pos) X.env = (do
      let ov ← eval o X.env
      standAt apos.atName
      let (f, first) ← holding [ov] (getMethod ov m pl)
      callWith pos f first (backTo pos (starEach [] X.env)) (backToKw pos (keywordEach [] X.env))) := by rfl) :
    PE X (.Call (.Attribute o m apos) [] [] pos) (tCMethS C sp E ta tNil) := by
  refine ⟨fun pins s σ H Q I h => ?_⟩
  refine PySem.W.methodCall_KW (pl := pl) (thn (he.run pins s σ H _ I h) fun u s1 ⟨x, H1, I1, rx, ex, q⟩ => ?_) ht
  subst ex
  obtain rfl : u = Value.ref C := rx
  refine ClX.getmethcm_ok I1 r c fun s2 I2 => ?_
  refine PySem.W.callWith_M0 ⟨ClX.pin_at I2, I2.kIn⟩ c.fi ?_
  exact run_cmS F hr (hx σ) I2 .nil q
end
/-- what 'except x as n', then 'except y', wish of an exception of the body -/
def wTwo (K : PySem.W.Frag) (c : Value) (i : Nat) (ts : Addr → Value → Option Addr → TS) (Wout : WX) (l : List (Value × (Addr → Value → Option Addr → TS))) (D : Ends) : WX := fun cls d σ H =>
  ∃ b, PySem.W.exmOne K cls c = some b ∧ (b = true → ∀ a, H a = none → ts a cls d { nx := fun σ' H' => D.nx (σ'.set i none) H', rt := D.rt, bk := fun σ' H' => D.bk (σ'.set i none) H', ct := fun σ' H' => D.ct (σ'.set i none) H' } (σ.set i (some (.ref a))) H) ∧
    (b = false → wMany K Wout D l cls d σ H)
section
variable {X : Cx} {x n : Str} {c : Value} {i : Nat} {body suite : List Stmt} {b₀ : Stmt} {np pos pos' : Pos} {tb : WX → TS} {ts : Addr → Value → Option Addr → TS} {Wout : WX} {hds : List ExceptHandler} {l : List (Value × (Addr → Value → Option Addr → TS))}
theorem names_ld {S : Cx} {sx : Shared} {pinsS : List (Addr × Obj)} {σS : L2.St} {HS : Hp} {y : Str} {cy : Value} {yp : Pos} {Q : Value → Shared → Prop} {E : Value → Shared → Prop} (S3 : Inv S pinsS σS HS sx) (hc : Names S y cy) (q : Q cy sx) : wpAny (model S.prog S.w) S.A (eval (.Name y yp) S.env) Q E sx := by
  obtain ⟨hg, hdbg, hm | ⟨hm, hv, hnn⟩⟩ := hc
  · exact ld_glob S3 hg hm q hdbg
  · exact ld_blt S3 hg hm hv q hnn hdbg
theorem ps_try_two (hs : X.stack = X.env :: X.outer) (hf : X.env.frame = some X.env.locals) (hN : X.N.Nodup) (hi : X.N[i]? = some n) (hln : X.env.kindOf n = some .local) (hc : Names X x c) (tk : Takes X Wout)
    (hb : ∀ (W : WX) (pn : List (Addr × Obj)) (xe : Value → Shared → Prop), Takes (X.tr pn xe) W → PassesOwn (model X.prog X.w) X.A X.env xe → PSs (X.tr pn xe) body (tb W))
    (hsu : ∀ (a : Addr) (oe : Obj) (cls : Value) (d : Option Addr) (pn : List (Addr × Obj)), Zc cls d oe → (∃ vs, oe.data = .fields vs) → PSs (X.suite a ((a, oe) :: pn)) (b₀ :: suite) (ts a cls d)) (hh : HdsOk X hds l) :
    PS X (.Try body (.ExceptHandler (some (.Name x np)) (some n) (b₀ :: suite) pos' :: hds) [] [] pos) (fun D σ H => tb (wTwo X.K c i ts Wout l D) D σ H) := by
  refine ⟨fun pins s σ H D I h => ?_⟩
  have ok := I.ok
  have hfr : X.A.frames = some (X.env :: X.outer) := by rw [ok.frames, hs]
  refine wpAny_Try_except ?_
  refine wpAny_mono ((hb (wTwo X.K c i ts Wout l D) (X.pn ++ pins) (fun e s₁ => wpAny (model X.prog X.w) X.A (noteFrame e X.env) (fun _ s₂ => wpAny (model X.prog X.w) X.A (setFlight e none) (fun _ s₃ =>
    wpAny (model X.prog X.w) X.A (handleBy e X.env (.ExceptHandler (some (.Name x np)) (some n) (b₀ :: suite) pos' :: hds)) (SP X pins D) X.xe s₃) X.xe s₂) X.xe s₁) (fun u s' xx => ?_) PassesOwn.looking).run [] s σ H D (I.toTry _) h) (fun f s1 hsp => ?_) (fun e s1 he => he)
  · obtain ⟨a, B, sI, pins', σ', H', cls, d, rfl, J', nb, up, sky, na, os, ag, ww⟩ := xx
    have J : Inv X pins σ' H' sI := J'.ofTry ok
    have sky' : Sky B (X.env :: X.outer) a (Zc cls d) X.env.locals s'.heap := by rw [← hs]; exact sky
    show wpAny (model X.prog X.w) X.A (noteFrame (.ref a) X.env) _ _ _
    refine Sky.land Zc.steady hfr hf sky' fun h3 fl3 up3 => ?_
    have J3 : Inv X pins σ' H' { s' with heap := h3 } := J.landed nb fl3.1 (up.trans up3) os ag
    obtain ⟨oe3, vs3, he3, hz3, hd3⟩ := fl3.there
    have nfr : a ∉ frs (X.env :: X.outer) := fun hm => by
      obtain ⟨_, o', e', hnf⟩ := fl3.2.2.1.mem hm
      rw [he3] at e'
      cases e'
      exact hnf _ hd3
    have nL : a ≠ X.env.locals := fun z => nfr (List.mem_filterMap.mpr ⟨X.env, List.mem_cons_self, by rw [hf, z]⟩)
    have nF : a ∉ X.fs := fun hm => by
      obtain ⟨e, he, q⟩ := List.mem_filterMap.mp hm
      exact nfr (List.mem_filterMap.mpr ⟨e, List.mem_cons_of_mem _ he, q⟩)
    have S3 := J3.suite he3 hd3 na nL nF
    have LT : PySem.W.Looks (model X.prog X.w) h3 (typeOf (.ref a)) cls := fun A Q E s k q => wpAny_typeOf_ref (k _ _ he3) (by rw [hz3.1]; exact q)
    -- the clauses without a name
    have go : ∀ {hds' : List ExceptHandler} {l' : List (Value × (Addr → Value → Option Addr → TS))}, HdsOk X hds' l' → wMany X.K Wout D l' cls d σ' H' →
        wpAny (model X.prog X.w) X.A (handleBy (.ref a) X.env hds') (SP X pins D) X.xe { s' with heap := h3 } := by
      intro hds' l' hk
      induction hk with
      | nil =>
        intro w
        refine wpAny_handleBy_nil ?_
        obtain ⟨k1, k2, k3, oe, vs, T, oT, ts', he, hz, hd, h1, hr⟩ := id fl3
        unfold PySem.passOn
        refine wpAny_bind (wpAny_field he hd h1 ?_)
        rw [if_neg (show ¬ ((Value.ref T == Value.none) = true) from by simp)]
        have fin : wpAny (model X.prog X.w) X.A (setFlight (.ref a) X.env.frame) (fun _ s4 => wpAny (model X.prog X.w) X.A (throw (.ref a) : Sem Flow) (SP X pins D) X.xe s4) X.xe { s' with heap := h3 } := by
          rw [hf]
          refine HandSPX.setFlight_upZ fl3 fun h4 hh4 up4 => wpAny_throw (tk _ _ ?_)
          exact ⟨a, B, sI, pins, σ', H', cls, d, rfl, J, nb, (up.trans up3).trans up4, .inr (.inr (by rw [hs]; exact hh4)), na, os, ag, w⟩
        first
          | exact wpAny_bind (wpAny_pure (wpAny_bind fin))
          | exact wpAny_bind fin
      | @cons x2 c2 ts2 b2 suite2 np2 pos2 hds2 l2 hc2 hsu2 r2 ih =>
        intro w
        obtain ⟨b, hb1, hyes, hno⟩ := w
        refine wpAny_handleBy_cons (codeAny_handlers_test ?_) (by intro q; cases q)
        have LM := PySem.W.exm_one (M := model X.prog X.w) (J3.kIn) LT hb1
        refine names_ld (S := X.suite a ((a, oe3) :: (X.pn ++ pins))) S3 hc2 (LM.here ?_)
        cases b with
        | true =>
          refine codeAny_handlers_suite ?_
          refine HandSPX.lands_againZ fl3 fun h4 fl4 up4 => ?_
          have J4 : Inv X pins σ' H' { s' with heap := h4 } := J.landed nb fl4.1 ((up.trans up3).trans up4) os ag
          obtain ⟨oe4, vs4, he4, hz4, hd4⟩ := fl4.there
          have S4 := J4.suite he4 hd4 na nL nF
          refine wpAny_mono ((hsu2 a oe4 cls d (X.pn ++ pins) hz4 ⟨_, hd4⟩).run [] _ _ H' _ S4 (hyes rfl a na)) (fun f s6 hsp => ?_) (fun _ _ z => False.elim z)
          cases f with
          | next => obtain ⟨σ6, H6, S6, q6⟩ := hsp; exact ⟨_, _, S6.unsuite ok, q6⟩
          | brk => obtain ⟨σ6, H6, S6, q6⟩ := hsp; exact ⟨_, _, S6.unsuite ok, q6⟩
          | cont => obtain ⟨σ6, H6, S6, q6⟩ := hsp; exact ⟨_, _, S6.unsuite ok, q6⟩
          | ret u => obtain ⟨v6, σ6, H6, S6, r6, q6⟩ := hsp; exact ⟨_, _, _, S6.unsuite ok, r6, q6⟩
        | false =>
          show wpAny _ X.A (handleBy (.ref a) X.env hds2) _ _ _
          exact ih (hno rfl)
    -- the clause with a name
    obtain ⟨b, hb1, hyes, hno⟩ := ww
    refine wpAny_handleBy_cons (codeAny_handlers_test ?_) (by intro q; cases q)
    have LM := PySem.W.exm_one (M := model X.prog X.w) (J3.kIn) LT hb1
    refine names_ld (S := X.suite a ((a, oe3) :: (X.pn ++ pins))) S3 hc (LM.here ?_)
    cases b with
    | true =>
      refine codeAny_handlers_suite_as ?_
      refine HandSPX.lands_againZ fl3 fun h4 fl4 up4 => ?_
      have J4 : Inv X pins σ' H' { s' with heap := h4 } := J.landed nb fl4.1 ((up.trans up3).trans up4) os ag
      obtain ⟨oe4, vs4, he4, hz4, hd4⟩ := fl4.there
      have S4 := J4.suite he4 hd4 na nL nF
      refine store_ok (X := X.suite a ((a, oe4) :: (X.pn ++ pins))) (v := .ref a) S4 hN hi (.inl hln) rfl (fun s5 S5 => ?_) (.inr hln)
      refine wpAny_mono ((hsu a oe4 cls d (X.pn ++ pins) hz4 ⟨_, hd4⟩).run [] s5 _ H' _ S5 (hyes rfl a na)) (fun f s6 hsp => ?_) (fun _ _ z => False.elim z)
      have end_ : ∀ {σ6 : L2.St} {H6 : Hp} {Q : Shared → Prop}, Inv (X.suite a ((a, oe4) :: (X.pn ++ pins))) [] σ6 H6 s6 → (∀ s7, Inv X pins (σ6.set i none) H6 s7 → Q s7) →
          wpAny (model X.prog X.w) X.A (do bindName X.env n .none; unbindBehindTheSuite X.env n pos') (fun _ s7 => Q s7) X.xe s6 := fun {σ6 H6 Q} S6 hq => gone_ok (S6.unsuite ok) hN hi hln hq
      cases f with
      | next => obtain ⟨σ6, H6, S6, q6⟩ := hsp; exact end_ S6 fun s7 J7 => ⟨_, _, J7, q6⟩
      | brk => obtain ⟨σ6, H6, S6, q6⟩ := hsp; exact end_ S6 fun s7 J7 => ⟨_, _, J7, q6⟩
      | cont => obtain ⟨σ6, H6, S6, q6⟩ := hsp; exact end_ S6 fun s7 J7 => ⟨_, _, J7, q6⟩
      | ret u => obtain ⟨v6, σ6, H6, S6, r6, q6⟩ := hsp; exact end_ S6 fun s7 J7 => ⟨_, _, _, J7, r6, q6⟩
    | false =>
      show wpAny _ X.A (handleBy (.ref a) X.env hds) _ _ _
      exact go hh (hno rfl)
  · cases f with
    | next => obtain ⟨σ', H', J', q⟩ := hsp; exact wpAny_execs_nil ⟨σ', H', J'.ofTry ok, q⟩
    | brk => obtain ⟨σ', H', J', q⟩ := hsp; exact ⟨σ', H', J'.ofTry ok, q⟩
    | cont => obtain ⟨σ', H', J', q⟩ := hsp; exact ⟨σ', H', J'.ofTry ok, q⟩
    | ret u => obtain ⟨v, σ', H', J', r, q⟩ := hsp; exact ⟨v, σ', H', J'.ofTry ok, r, q⟩
end
end Pr
namespace Pr
open PySem PySem.Spec PyProof.Rows L2 Gd
/-! ### are_arities of any value -/
/-- a value that is no reference -/
def Fl (v : V) : Prop := ∀ H : Hp, ∃ ty, Kd H v ty
theorem Fl.non : Fl .non := fun _ => ⟨_, .non⟩
theorem Fl.int (i : Int) : Fl (.int i) := fun _ => ⟨_, .int i⟩
theorem Fl.bl (b : Bool) : Fl (.bl b) := fun _ => ⟨_, .bl b⟩
theorem Fl.str (z : Str) : Fl (.str z) := fun _ => ⟨_, .str z⟩
def in02 : V → Bool
  | .int i => decide (0 ≤ i) && decide (i ≤ 2)
  | _ => false
noncomputable def goodP (p : Key × V) : Bool := nameB (kV p.1) && (isIntO p.2 && in02 p.2)
noncomputable def goodK (kvs : List (Key × V)) : Bool := decide (1 ≤ kvs.length) && (decide (kvs.length ≤ 8) && kvs.all goodP)
structure Nice (kvs : List (Key × V)) : Prop where
  nd : (kvs.map (·.1)).Nodup
  few : kvs.length ≤ 1000
  flat : ∀ p ∈ kvs, Fl p.2
  key : ∀ p ∈ kvs, ∀ z, p.1 = .inr z → z.length ≤ 1000000
inductive AreB (H : Hp) : V → Bool → Prop where
  | not {v : V} {ty : String} (k : Kd H v ty) (n : ty ≠ "dict") : AreB H v false
  | dict {a : Addr} {kvs : List (Key × V)} (e : H a = some (.dK kvs)) (n : Nice kvs) : AreB H (.ref a) (goodK kvs)
theorem AreB.same {H H' : Hp} {v : V} {b : Bool} (h : AreB H v b) (s : Same H H') : AreB H' v b := by
  cases h with
  | not k n => exact .not (k.same s) n
  | dict e n => exact .dict (s _ _ e) n
theorem val_mem : ∀ {kvs : List (Key × V)} {p : Key × V}, (kvs.map (·.1)).Nodup → p ∈ kvs → valV kvs p.1 = some p.2
  | q :: r, p, nd, m => by
    have nd' := List.nodup_cons.mp nd
    rcases List.mem_cons.mp m with e | m
    · subst e
      exact valV_pos rfl
    · have ne : q.1 ≠ p.1 := fun e => nd'.1 (by show q.1 ∈ _; rw [e]; exact List.mem_map_of_mem m)
      show valV ((q.1, q.2) :: r) p.1 = _
      rw [valV_neg ne]
      exact val_mem nd'.2 m
theorem isIntO_int {v : V} (h : isIntO v = true) : ∃ i, v = .int i := by
  rw [isIntO_eq] at h
  cases v with
  | int i => exact ⟨i, rfl⟩
  | _ => cases h
def spAre7 : Sp := fun vs H Q _ => ∃ (v : V) (b : Bool), vs = [v] ∧ AreB H v b ∧ ∀ H', Same H H' → Q (.bl b) H'
section
variable {P : Program} {w : World} {K : PySem.W.Frag} {mg : Str → Option Value} {base : Heap} {fI fN : Addr} {dI dN : FuncData} {tk tk2 : Tok}
theorem scAre : FnScope ["value", "name"] ["value"] (defScope sAre) := ⟨rfl, rfl, rfl, by decide +kernel, rfl, by decide +kernel, by decide +kernel⟩
theorem ok_are7 {f : Addr} {fd : FuncData} (F : Fun K "are_arities" "are_arities" sAre f fd) (T : Free mg) (gm : mg "MAX_LETTERS" = some (.int 8 tk)) (gm2 : mg "MAX_OPERATORS" = some (.int 8 tk2)) (FN : Fun K "is_name" "is_name" sName fN dN) (bN : Binds K dN ["value"] []) (gN : mg "is_name" = some (.ref fN))
    (FI : Fun K "is_integer" "is_integer" sInteger fI dI) (bI : Binds K dI ["value"] []) (gI : mg "is_integer" = some (.ref fI)) : FnOk P w K mg base CX0 2 f fd ["value"] spAre7 := by
  have GN : FnOk P w K mg base CX0 1 fN dN ["value"] spName := ok_name FN T gm
  have GI : FnOk P w K mg base CX0 1 fI dI ["value"] spIntO := ok_integerO FI T
  refine F.ok scAre (fun vs H Q E h => ?_) (fun cdv A outer s H vs Q E hr h => ?_)
  · obtain ⟨v, b, rfl, _⟩ := h
    rfl
  · obtain ⟨v, b, rfl, ab, q⟩ := h
    have hu := hr.units
    have hu1 : ∀ {u : Nat}, u + 64 < cLine → u + 1 < cLine := fun h => by omega
    refine ⟨_, pss_cons (ps_if (PW.pt (pw_or (pt_not (pt_val (pe_callB call_isi (by rfl) T.isi (by decide +kernel) (pa_cons (pv 0) (pa_cons (pe_bltn (v := .ty "dict") (by rfl) T.dict (by decide +kernel) rfl) pa_nil))))) (pw_or1 (pt_not (pt_chain op_le op_le pe_int (pe_callB call_lenD (by rfl) T.len PySem.boot_len (pa_cons (pv 0) pa_nil)) (pe_glob (v := .int 8) (by rfl) gm2 ⟨_, rfl⟩)))))) (pss_one (ps_ret pe_bl)) pss_nil) (pss_one (ps_ret (pe_callB (cr_all rfl) (by rfl) T.all (by decide +kernel) (pa_cons (pe_lock (pe_lc (own := [("name", 1)]) (g := gName 1) (by rfl) scAre.nd (pi_keys (pv 0)) (blkOk_by (own := [("name", 1)]) (N := ["value", "name"]) (sc := defScope sAre) (by decide +kernel)) (fun _ _ _ _ _ => pg_name (i := 1) scAre.nd rfl (Or.inl rfl)) (fun _ _ _ _ _ => pts_nil) (fun _ _ _ _ _ => pe_and (pe_call GN hr (by rfl) gN FN.kp bN .nil pass0 (pa_cons (pv 1) pa_nil)) (pe_and (pe_call GI hr (by rfl) gI FI.kp bI .nil pass0 (pa_cons (pe_dget (hu1 hu) (pv 0) (pv 1) (fun _ _ => rfl)) pa_nil)) (pe_one (pe_chain op_le op_le pe_int (pe_dget (hu1 hu) (pv 0) (pv 1) (fun _ _ => rfl)) pe_int)))))) pa_nil)))), ?_⟩
    cases ab with
    | @not v ty kd ne =>
      refine ⟨_, rfl, v, _, _, _, false, rfl, .ty "dict", kd.ty, ?_, _, rfl, iteT (q _ (Same.refl _))⟩
      cases kd <;> first | exact absurd rfl ne | exact kit_ty (r := false) (by decide +kernel)
    | @dict a kvs ha nice =>
      have few := nice.few
      refine ⟨_, rfl, .ref a, _, _, _, true, rfl, .ty "dict", (Kd.dK ha).ty, kit_ty (r := true) (by decide +kernel), _, rfl, iteF ⟨_, rfl, a, _, rfl, ha, _, _, rfl, rfl, _, rfl, ?_⟩⟩
      by_cases c1 : 1 ≤ kvs.length
      · refine if_true_of (decide_eq_true (by omega)) ⟨_, _, rfl, rfl, _, rfl, ?_⟩
        by_cases c8 : kvs.length ≤ 8
        · have e8 : decide ((kvs.length : Int) ≤ 8) = true := decide_eq_true (by omega)
          rw [e8]
          refine if_false_of rfl ?_
          have eg : goodK kvs = kvs.all goodP := by
            unfold goodK
            rw [decide_eq_true c1, decide_eq_true c8, Bool.true_and, Bool.true_and]
          rw [eg] at q
          refine ⟨a, _, ha, trivial, fun od => ⟨_, rfl, a, od, rfl, .inl ⟨kvs, upd_same, fun D nD => ?_⟩⟩⟩
          have aD : a ≠ D := ne_of_none upd_same nD
          have nHD : H D = none := by
            rw [upd_ne aD.symm] at nD
            exact nD
          refine lc_it walk_keys (fun i G => G D = some (.lst ((kvs.take i).map fun p => V.bl (goodP p))) ∧ G a = some (.frz od (.dK kvs)) ∧ ∀ b u, b ≠ a → H b = some u → G b = some u) ⟨upd_same, by rw [upd_ne aD, upd_same], fun b u nb e => by rw [upd_ne (ne_of_none e nHD), upd_ne nb]; exact e⟩
            (fun i G _ ⟨_, h, _⟩ => h) ?_ ?_
          · rintro i x G G' hi ⟨eD, eA, sm⟩ ⟨rfl, k, v, hk, rfl⟩
            have mp : (k, v) ∈ kvs := List.mem_of_getElem? hk
            have dg : DGet G' a (kV k) (some v) := val_mem nice.nd mp ▸ (.inl ⟨kvs, k, .inr ⟨od, eA⟩, rfl, rfl⟩)
            obtain ⟨tv, kv⟩ := nice.flat _ mp G'
            have fin : ∃ acc, G' D = some (.lst acc) ∧ acc.length < sizeLine ∧ ((upd G' D (.lst (acc ++ [V.bl (goodP (k, v))]))) D = some (.lst ((kvs.take (i + 1)).map fun p => V.bl (goodP p))) ∧ (upd G' D (.lst (acc ++ [V.bl (goodP (k, v))]))) a = some (.frz od (.dK kvs)) ∧ ∀ b u, b ≠ a → H b = some u → (upd G' D (.lst (acc ++ [V.bl (goodP (k, v))]))) b = some u) := by
              refine ⟨_, eD, ?_, ?_, by rw [upd_ne aD]; exact eA, fun b u nb e => by rw [upd_ne (ne_of_none e nHD)]; exact sm b u nb e⟩
              · have := (List.getElem?_eq_some_iff.mp hk).1
                rw [List.length_map, List.length_take, sizeLine_eq]
                omega
              · rw [upd_same, List.take_add_one, hk, List.map_append]
                rfl
            have kk : ∃ ty, Kd G' (kV k) ty := by
              cases k with
              | inl i => exact ⟨_, .int i⟩
              | inr z => exact ⟨_, .str z⟩
            obtain ⟨ty, kk⟩ := kk
            have hz : ∀ z, kV k = .str z → z.length ≤ 1000000 := fun z e => by
              cases k with
              | inl i => cases e
              | inr y =>
                cases e
                exact nice.key _ mp _ rfl
            refine ⟨rfl, _, rfl, kV k, ty, rfl, kk, hz, _, rfl, ite2 (fun n1 => ?_) (fun n1 => ?_)⟩
            · refine ⟨_, rfl, _, rfl, a, _, rfl, dg, v, tv, rfl, kv, _, rfl, ite2 (fun n2 => ?_) (fun n2 => ?_)⟩
              · obtain ⟨j, rfl⟩ := isIntO_int n2
                refine ⟨_, rfl, _, rfl, a, _, rfl, dg, _, _, rfl, rfl, _, rfl, ite2 (fun n3 => ?_) (fun n3 => ?_)⟩
                · refine ⟨_, _, rfl, rfl, ?_⟩
                  have e : goodP (k, V.int j) = decide (j ≤ 2) := by
                    unfold goodP
                    rw [n1, n2, Bool.true_and, Bool.true_and]
                    show (decide (0 ≤ j) && decide (j ≤ 2)) = _
                    rw [n3, Bool.true_and]
                  rw [e] at fin
                  exact fin
                · have e : goodP (k, V.int j) = false := by
                    unfold goodP
                    rw [n1, n2, Bool.true_and, Bool.true_and]
                    show (decide (0 ≤ j) && decide (j ≤ 2)) = _
                    rw [Bool.eq_false_iff.mpr n3, Bool.false_and]
                  rw [e] at fin
                  exact fin
              · have e : goodP (k, v) = false := by
                  unfold goodP
                  rw [Bool.eq_false_iff.mpr n2, Bool.false_and, Bool.and_false]
                rw [e] at fin
                exact fin
            · have e : goodP (k, v) = false := by
                unfold goodP
                rw [Bool.eq_false_iff.mpr n1, Bool.false_and]
              rw [e] at fin
              exact fin
          · rintro G ⟨eD, eA, sm⟩
            refine ⟨eA, D, kvs.map goodP, rfl, SqL.of ?_, ?_⟩
            · rw [upd_ne aD.symm, eD, List.take_of_length_le (Nat.le_refl _), List.map_map]
              rfl
            · have e : (kvs.map goodP).all id = kvs.all goodP := by
                rw [List.all_map]
                rfl
              rw [e]
              refine q _ fun b u hb => ?_
              by_cases c : b = a
              · rw [c] at hb ⊢
                rw [upd_same, ← ha, hb]
              · rw [upd_ne c]
                exact sm b u c hb
        · have e8 : decide ((kvs.length : Int) ≤ 8) = false := decide_eq_false (by omega)
          rw [e8]
          have eg : goodK kvs = false := by
            unfold goodK
            rw [decide_eq_false c8, Bool.false_and, Bool.and_false]
          rw [eg] at q
          exact if_true_of rfl (q _ (Same.refl _))
      · have eg : goodK kvs = false := by
          unfold goodK
          rw [decide_eq_false c1, Bool.false_and]
        rw [eg] at q
        refine if_false_of (decide_eq_false (by omega)) ⟨_, rfl, if_true_of rfl (q _ (Same.refl _))⟩
end
end Pr
/-! ### list(d.values()) -/
namespace Lv
open PySem PySem.Spec PyProof.Rows L2
def tListVals (te : TE) : TE := fun σ H Q => te σ H fun x H1 => ∃ (d : Addr) (kvs : List (Key × V)), x = .ref d ∧ H1 d = some (.dK kvs) ∧ ∀ p, H1 p = none → Q (.ref p) (upd H1 p (.lst (kvs.map (·.2))))
theorem vals_snd {kvs : List (Key × V)} {vs : List (Key × Value)} (r : KV kvs vs) : Vals (kvs.map (·.2)) (vs.map (·.2)) := by
  unfold KV at r
  induction r with
  | nil => exact .nil
  | cons r t ih => exact .cons r.2 ih
section
variable {X : Cx} {e : Expr} {te : TE} {p apos cpos pos : Pos}
theorem pe_listVals (hc : X.calm = true) (he : PE X e te) (hg : Gl X "list") (hm : X.mg "list" = none) (hv : bootBuiltins "list" = some (.type "list")) (hbase : attributeBase e "values" X.env (eval e X.env) = eval e X.env := by rfl) (hline : (apos.endLine == cpos.line) = true := by rfl)
    (hs : starEach [.Call (.Attribute e "values" apos) [] [] cpos] X.env = (false, eval (.Call (.Attribute e "values" apos) [] [] cpos) X.env) :: starEach [] X.env := by rfl) :
    PE X (.Call (.Name "list" p) [.Call (.Attribute e "values" apos) [] [] cpos] [] pos) (tListVals te) := by
  refine ⟨fun pins s σ H Q I hq => ?_⟩
  refine wpAny_Call_Name_kw (ld_blt I hg hm hv ?_)
  refine PyProof.Rows.callWith_type1 ?_ hs rfl
  rw [hs]
  show wpAny _ _ (spliced ((false, eval (.Call (.Attribute e "values" apos) [] [] cpos) X.env) :: backTo pos (starEach [] X.env))) _ _ s
  refine Calls.spliced_cons ?_
  refine wpAny_Call_method (T := "dict") (id := "dict.values") hbase rfl hline F.plainAttrs_dict F.slot_dict_values F.type_dict_values (thn (he.run pins s σ H _ I hq) fun u s1 ⟨x, H1, I1, rx, d, kvs, ex, hd, q⟩ => ?_)
  subst ex
  obtain rfl : u = Value.ref d := rx
  obtain ⟨hz, hs0, vs, kv, hdo⟩ := I1.hok d _ hd
  obtain ⟨ep, hat⟩ := hdo.dictAt
  have lk : kvs.length = vs.length := Paired.length kv
  have I2 : Inv X pins σ H1 { s1 with heap := s1.heap.push { cls := .type "dict_values", data := .fields #[.ref d] } } := I1.kept (t' := s1.toks) fun b ob q => Heap.get?_push_of_some _ q
  refine ⟨hdo.typeIs, hdo.mapOf.noDict, ?_⟩
  show wpAny _ _ (callWith cpos (.builtin "dict.values") [.ref d] [] []) _ X.xe s1
  refine method_meetsIn F.slot_dict_values F.entry_dict_values rfl (PySem.evalArgs_none ⟨rfl, hdo.typeIs, F.args_dict_values_1 _, _, meets_dict_values (mixKind X.prog X.w) d hs0, ⟨vs, hdo⟩, ?_⟩)
  refine Calls.spliced_nil ?_
  refine PySem.W.kdl_call (PySem.W.kdl_values (knd := mixKind X.prog X.w) (kvs := vs) (ep := ep)) (I1.ok.hd hc) ⟨⟨_, Heap.get?_push_size _ rfl, rfl, rfl⟩, hat.push _⟩ (by omega) fun h' tk acc c hk hS hacc => ?_
  have ev : acc.toList = vs.map (·.2) := PySem.W.kdl_vals_eq acc.toList (by rw [Array.length_toList]; exact hacc.1) fun j v e => hacc.2 j v (by rw [← Array.getElem?_toList]; exact e)
  refine ⟨.ref _, _, I2.laid (o := .lst (kvs.map (·.2))) (t' := tk) hk (Nat.le_refl _) ⟨by rw [List.length_map]; omega, vs.map (·.2), c, vals_snd kv, ?_⟩, rfl, q _ (I2.hok.fresh (Nat.le_refl _))⟩
  rw [← ev, Array.toArray_toList]
  exact hS
end
end Lv
namespace Pr
open PySem PySem.Spec PyProof.Rows L2 Gd
/-! ### Operators(arities) -/
/-- what is known of the class -/
structure OpF (K : PySem.W.Frag) (C : Addr) : Prop where
  cls : Cls K C
  n1 : NoAttr K C "_names"
  n2 : NoAttr K C "_arities"
  n3 : NoAttr K C "_lines"
  n4 : NoAttr K C "_many"
  n5 : NoAttr K C "_counts"
  n6 : NoAttr K C "_rows"
/-- the line of an operator -/
def lnS (p : Str × Nat) : Str := Str.empty ++ ("op " : Str) ++ p.1 ++ (" " : Str) ++ Str.ofString (toString (p.2 : Int))
def lnV (p : Str × Nat) : V := .str (lnS p)
/-- what is known of InvalidOperators -/
structure IopF (K : PySem.W.Frag) (mg : Str → Option Value) (CI : Addr) : Prop where
  x : PySem.W.excIn K CI [.type "ValueError", .type "Exception", .type "BaseException", .type "object"] "ValueError.__new__" = true
  g : mg "InvalidOperators" = some (.ref CI)
  k : PySem.W.keepIn K (.ref CI) = true
  b : PySem.W.subIn K (.ref CI) (.type "BaseException") = some true
  t : PySem.W.typeIn K (.ref CI) = some (.type "type")
/-- operators that are let -/
structure OpsOk (l : List (Str × Nat)) : Prop where
  few : 1 ≤ l.length ∧ l.length ≤ 8
  nd : (l.map (·.1)).Nodup
  name : ∀ p ∈ l, azB p.1 = true
  two : ∀ p ∈ l, p.2 ≤ 2
theorem Ars.ok {l : List (Str × Nat)} (h : Ars l) : OpsOk l := by
  refine ⟨by have := h.few; omega, h.nd, fun p m => ?_, h.two⟩
  have t : ∀ z ∈ Pr.pool, azB z = true := by decide +kernel
  exact t _ (h.pool p m)
theorem good_one {p : Key × V} (h : goodP p = true) : ∃ (z : Str) (n : Nat), p = (.inr z, .int (n : Int)) ∧ azB z = true ∧ n ≤ 2 := by
  obtain ⟨k, v⟩ := p
  unfold goodP at h
  rw [Bool.and_eq_true, Bool.and_eq_true] at h
  obtain ⟨h1, h2, h3⟩ := h
  obtain ⟨i, rfl⟩ := isIntO_int h2
  have h3' : (decide (0 ≤ i) && decide (i ≤ 2)) = true := h3
  rw [Bool.and_eq_true] at h3'
  have a := of_decide_eq_true h3'.1
  have b := of_decide_eq_true h3'.2
  cases k with
  | inl j => cases h1
  | inr z => exact ⟨z, i.toNat, by rw [Int.toNat_of_nonneg a], h1, by omega⟩
theorem good_list : ∀ {kvs : List (Key × V)}, kvs.all goodP = true → ∃ l : List (Str × Nat), kvs = dkv l ∧ (∀ p ∈ l, azB p.1 = true) ∧ ∀ p ∈ l, p.2 ≤ 2
  | [], _ => ⟨[], rfl, fun _ m => (nomatch m), fun _ m => (nomatch m)⟩
  | p :: r, h => by
    rw [List.all_cons, Bool.and_eq_true] at h
    obtain ⟨z, n, rfl, a, b⟩ := good_one h.1
    obtain ⟨l, rfl, x, y⟩ := good_list h.2
    refine ⟨(z, n) :: l, rfl, fun q m => ?_, fun q m => ?_⟩
    · rcases List.mem_cons.mp m with rfl | m
      · exact a
      · exact x q m
    · rcases List.mem_cons.mp m with rfl | m
      · exact b
      · exact y q m
theorem keys_dkv (l : List (Str × Nat)) : (dkv l).map (·.1) = (l.map (·.1)).map Sum.inr := by
  unfold dkv
  rw [List.map_map, List.map_map]
  rfl
theorem good_ok {kvs : List (Key × V)} (n : Nice kvs) (h : goodK kvs = true) : ∃ l : List (Str × Nat), kvs = dkv l ∧ OpsOk l := by
  unfold goodK at h
  rw [Bool.and_eq_true, Bool.and_eq_true] at h
  obtain ⟨h1, h8, h⟩ := h
  obtain ⟨l, rfl, x, y⟩ := good_list h
  have e : (dkv l).length = l.length := List.length_map _
  have h1 := of_decide_eq_true h1
  have h8 := of_decide_eq_true h8
  have nd := n.nd
  rw [keys_dkv] at nd
  exact ⟨l, rfl, ⟨by omega, List.Pairwise.of_map Sum.inr (fun a b h e => h (congrArg _ e)) nd, x, y⟩⟩
theorem good_of {l : List (Str × Nat)} (ok : OpsOk l) : Nice (dkv l) ∧ goodK (dkv l) = true := by
  have e : (dkv l).length = l.length := List.length_map _
  have few := ok.few
  have z8 : ∀ p ∈ l, p.1.length ≤ 8 := fun p m => by
    have h2 : (decide (1 ≤ p.1.length) && decide (p.1.length ≤ 8) && p.1.cps.toList.all azC) = true := ok.name p m
    simp only [Bool.and_eq_true, decide_eq_true_eq] at h2
    omega
  have at_ : ∀ p ∈ dkv l, ∃ q ∈ l, p = (.inr q.1, .int (q.2 : Int)) := fun p m => by
    obtain ⟨q, mq, e⟩ := List.mem_map.mp m
    exact ⟨q, mq, e.symm⟩
  refine ⟨⟨by rw [keys_dkv]; exact List.Pairwise.map Sum.inr (fun a b h e => h (Sum.inr.inj e)) ok.nd, by omega, fun p m => ?_, fun p m z ez => ?_⟩, ?_⟩
  · obtain ⟨q, mq, rfl⟩ := at_ p m
    exact Fl.int _
  · obtain ⟨q, mq, rfl⟩ := at_ p m
    cases ez
    have := z8 q mq
    omega
  · unfold goodK
    rw [decide_eq_true (by omega), decide_eq_true (by omega), Bool.true_and, Bool.true_and, List.all_eq_true]
    intro p m
    obtain ⟨q, mq, rfl⟩ := at_ p m
    unfold goodP
    have h1 : nameB (kV (.inr q.1 : Key)) = true := ok.name q mq
    have h2 := ok.two q mq
    have h3 : isIntO (.int (q.2 : Int)) = true := by
      rw [isIntO_eq]
      show decide ((if (q.2 : Int) < 0 then -(q.2 : Int) else q.2) < 10 ^ (60 : Int).toNat) = true
      have e : ((10 : Int) ^ (60 : Int).toNat) = ((10 ^ 60 : Nat) : Int) := by decide +kernel
      rw [if_neg (by omega), e, decide_eq_true (by omega)]
    have h4 : in02 (.int (q.2 : Int)) = true := by
      show (decide (0 ≤ (q.2 : Int)) && decide ((q.2 : Int) ≤ 2)) = true
      rw [decide_eq_true (by omega), decide_eq_true (by omega)]
      rfl
    rw [h1, h3, h4]
    rfl
/-- operators over l at o -/
structure OpsAt (H : Hp) (C o : Addr) (l : List (Str × Nat)) : Prop where
  ex : ∃ (dx tn ta : Addr) (tl : Addr × Addr × Addr × Addr), H o = some (.ins C dx [("_names", .ref tn), ("_arities", .ref ta), ("_lines", .ref tl.1), ("_many", .ref tl.2.1), ("_counts", .ref tl.2.2.1), ("_rows", .ref tl.2.2.2)]) ∧ H tn = some (.tup (l.map fun p => V.str p.1)) ∧ H ta = some (.dK (dkv l)) ∧ H tl.1 = some (.tup (l.map lnV))
theorem OpsAt.same {H H' : Hp} {C o : Addr} {l : List (Str × Nat)} (h : OpsAt H C o l) (s : Same H H') : OpsAt H' C o l :=
  let ⟨dx, tn, ta, tl, a, b, c, e⟩ := h.ex
  ⟨dx, tn, ta, tl, s _ _ a, s _ _ b, s _ _ c, s _ _ e⟩
abbrev t_line : TE := fun σ H Q => tJs [tC (V.str "op "), tFmt (tVar 2), tC (V.str " "), tFmt (tDGet (tVar 1) (tVar 2))] Str.empty σ H fun out H1 => Q (V.str out) H1
/-- a statement that isn't met -/
def tNever : TS := fun _ _ _ => False
theorem ps_never {X : Cx} {st : Stmt} : PS X st tNever := ⟨fun _ _ _ _ _ _ h => False.elim h⟩
def spInit (C CI : Addr) : Sp := fun vs H Q E => ∃ (x dx : Addr) (v : V) (b : Bool), vs = [.ref x, v] ∧ H x = some (.ins C dx []) ∧ AreB H v b ∧ (b = false → ∀ H', Same H H' → E (.ref CI) none H') ∧
  (∀ a l, b = true → v = .ref a → H a = some (.dK (dkv l)) → OpsOk l → ∀ (l' : List (Str × Nat)) (H' : Hp), l'.Perm l → sortedS (l'.map (·.1)) = true → Kp x H H' → OpsAt H' C x l' → Q .non H')
section
variable {P : Program} {w : World} {K : PySem.W.Frag} {mg : Str → Option Value} {base : Heap} {C CI fA : Addr} {dA : FuncData}
theorem scInit : FnScope ["self", "arities", "name", "told"] ["self", "arities"] (defScope mInit) := ⟨rfl, rfl, rfl, by decide +kernel, rfl, by decide +kernel, by decide +kernel⟩
theorem ok_init {f : Addr} {fd : FuncData} (F : Fun K "__init__" "Operators.__init__" mInit f fd) (T : Free mg) (CF : OpF K C) (IO : IopF K mg CI) (GA : FnOk P w K mg base CX0 2 fA dA ["value"] spAre7) (FA : Fun K "are_arities" "are_arities" sAre fA dA) (bA : Binds K dA ["value"] []) (gA : mg "are_arities" = some (.ref fA)) :
    FnOk P w K mg base (L2.CX P w) 3 f fd ["self", "arities"] (spInit C CI) := by
  refine F.okX scInit (fun vs H Q E h => ?_) (fun cdv A outer s H vs Q E hr h => ?_)
  · obtain ⟨x, dx, v, b, rfl, _⟩ := h
    rfl
  · obtain ⟨x, dx, v, b, rfl, hx, ab, qe, q0⟩ := h
    have hu := hr.units
    have hu1 : ∀ {u : Nat}, u + 64 < cLine → u + 1 < cLine := fun h => by omega
    refine ⟨_, pss_cons (ps_if (pt_not (pt_val (pe_call GA hr (by rfl) gA FA.kp bA .nil pass0 (pa_cons (pv 1) pa_nil)))) (pss_one (ps_raise rfl (takes_of rfl rfl rfl rfl) (pmk_own PySem.F.excBase_ValueError IO.x IO.g IO.k (raises_own IO.b IO.t) rfl))) pss_nil) (pss_cons (ps_fld (pv 0) (pe_callTy call_tuple_of (by rfl) T.tuple (by decide +kernel) (pa_cons (pe_callB (call_sortedD (by rfl)) (by rfl) T.sorted (by decide +kernel) (pa_cons (pv 1) pa_nil)) pa_nil)) rfl) (pss_cons (ps_fld (pv 0) (pe_dc (own := [("name", 2)]) (g := gName 2) (by rfl) scInit.nd (pi_tup (pe_fld (pv 0) rfl)) (blkOk_by (own := [("name", 2)]) (N := ["self", "arities", "name", "told"]) (sc := defScope mInit) (by decide +kernel)) (fun _ _ _ _ _ => pg_name (i := 2) scInit.nd rfl (Or.inl rfl)) (fun _ _ _ _ _ => pts_nil) (fun _ _ _ _ _ => pv 2) (fun _ _ _ _ _ => pe_dget (hu1 hu) (pv 1) (pv 2) (fun _ _ => rfl))) rfl) (pss_cons (ps_fld (pv 0) (pe_callTy call_tuple_of (by rfl) T.tuple (by decide +kernel) (pa_cons (pe_lc (own := [("name", 2)]) (g := gName 2) (by rfl) scInit.nd (pi_tup (pe_fld (pv 0) rfl)) (blkOk_by (own := [("name", 2)]) (N := ["self", "arities", "name", "told"]) (sc := defScope mInit) (by decide +kernel)) (fun _ _ _ _ _ => pg_name (i := 2) scInit.nd rfl (Or.inl rfl)) (fun _ _ _ _ _ => pts_nil) (fun _ _ _ _ _ => pe_joined (.cons pe_str (.cons (pe_fmt (pv 2)) (.cons pe_str (.cons (pe_fmt (pe_dget (hu1 hu) (pv 1) (pv 2) (fun _ _ => rfl))) .nil)))))) pa_nil)) rfl) (pss_cons (ps_set (i := 3) scInit.nd rfl (.inl rfl) (Lv.pe_listVals rfl (pv 1) (by rfl) T.list (by decide +kernel))) (pss_cons (ps_fld (pv 0) (pe_tup (pa_cons (pe_bm PySem.F.plainAttrs_list PySem.F.slot_list_count PySem.F.type_list_count mt_lcount (pv 3) (pa_cons pe_int pa_nil)) (pa_cons (pe_bm PySem.F.plainAttrs_list PySem.F.slot_list_count PySem.F.type_list_count mt_lcount (pv 3) (pa_cons pe_int pa_nil)) (pa_cons (pe_bm PySem.F.plainAttrs_list PySem.F.slot_list_count PySem.F.type_list_count mt_lcount (pv 3) (pa_cons pe_int pa_nil)) pa_nil)))) rfl) (pss_cons (ps_fld (pv 0) (pe_lst (pa_cons pe_int (pa_cons (pe_ix ix_tup (pe_fld (pv 0) rfl) pe_int (fun _ _ => rfl)) pa_nil))) rfl) (pss_one (ps_fld (pv 0) (pe_lst pa_nil) rfl)))))))), ?_⟩
    refine ⟨_, rfl, v, b, rfl, ab, fun H1 s1 => ⟨_, rfl, ?_⟩⟩
    cases b with
    | false => exact if_true_of rfl (qe rfl H1 s1)
    | true =>
    refine if_false_of rfl ?_
    obtain ⟨a, kvs, rfl, ha, eg, nice⟩ : ∃ a kvs, v = .ref a ∧ H a = some (.dK kvs) ∧ goodK kvs = true ∧ Nice kvs := by
      have go : ∀ {b : Bool}, AreB H v b → b = true → ∃ a kvs, v = .ref a ∧ H a = some (.dK kvs) ∧ goodK kvs = true ∧ Nice kvs := fun ab eb => by
        cases ab with
        | not _ _ => cases eb
        | dict e n => exact ⟨_, _, rfl, e, eb, n⟩
      exact go ab rfl
    obtain ⟨l, rfl, ok⟩ := good_ok nice eg
    have q0 := q0 a l rfl rfl ha ok
    have few := ok.few
    have xa : x ≠ a := fun e => by
      rw [e, ha] at hx
      cases hx
    refine ⟨_, rfl, a, dkv l, l.map (·.1), rfl, Rd.of (s1 _ _ ha), by unfold dkv; rw [List.map_map, List.map_map]; rfl, by rw [List.length_map]; omega, fun ks ns pk srt nns => ?_⟩
    obtain ⟨l', pl, rfl⟩ := perm_map pk
    refine ⟨ns, _, rfl, .inl ⟨SqL.of upd_same, fun t nt => ?_⟩⟩
    have s2 := (s1.trans (Same.new nns (o := .lst ((l'.map (·.1)).map V.str)))).trans (Same.new nt (o := .tup ((l'.map (·.1)).map V.str)))
    have ht2 : (upd (upd H1 ns (.lst ((l'.map (·.1)).map V.str))) t (.tup ((l'.map (·.1)).map V.str))) t = some (.tup ((l'.map (·.1)).map V.str)) := upd_same
    generalize upd (upd H1 ns (.lst ((l'.map (·.1)).map V.str))) t (.tup ((l'.map (·.1)).map V.str)) = H2 at s2 ht2 ⊢
    have hx2 := s2 _ _ hx
    have xt : x ≠ t := fun e => by
      rw [e, ht2] at hx2
      cases hx2
    refine ⟨_, rfl, x, C, dx, [], rfl, hx2, CF.cls, CF.n1, by decide, ?_⟩
    have k3 : Kp x H (upd H2 x (.ins C dx (putF "_names" (.ref t) []))) := (Kp.same s2).trans Kp.upd
    have hx3 : (upd H2 x (.ins C dx (putF "_names" (.ref t) []))) x = some (.ins C dx [("_names", .ref t)]) := upd_same
    have ht3 : (upd H2 x (.ins C dx (putF "_names" (.ref t) []))) t = some (.tup ((l'.map (·.1)).map V.str)) := by rw [upd_ne xt.symm]; exact ht2
    have ha3 := k3 a _ xa.symm ha
    have ndl : (l'.map (·.1)).Nodup := (pl.map _).nodup_iff.mpr ok.nd
    have mem : ∀ {i : Nat} {v : V}, ((l'.map (·.1)).map V.str)[i]? = some v → ∃ p, l'[i]? = some p ∧ v = .str p.1 ∧ valV (dkv l) (.inr p.1 : Key) = some (.int (p.2 : Int)) ∧ p.2 ≤ 2 ∧ azB p.1 = true := fun {i v} h => by
      rw [List.map_map, List.getElem?_map] at h
      cases e : l'[i]? with
      | none => rw [e] at h; cases h
      | some p =>
        rw [e] at h
        have mp : p ∈ l := pl.mem_iff.mp (List.mem_of_getElem? e)
        exact ⟨p, rfl, (Option.some.inj h).symm, val_some ok.nd mp, ok.two p mp, ok.name p mp⟩
    have ll : l'.length ≤ 8 := by
      rw [pl.length_eq]
      omega
    generalize upd H2 x (.ins C dx (putF "_names" (.ref t) [])) = H3 at k3 hx3 ht3 ha3 ⊢
    -- _arities
    refine ⟨_, rfl, x, C, dx, _, _, rfl, hx3, CF.cls, CF.n1, rfl, t, rfl, ⟨_, SqT.of ht3⟩, fun D nD => ?_⟩
    refine dc_tup (K := K) (a := t) (xs := (l'.map (·.1)).map V.str) (fun i G => G D = some (.dK (dkv (l'.take i))) ∧ Same H3 G) ⟨upd_same, Same.new nD⟩ (fun i G _ ⟨_, s⟩ => SqT.of (s _ _ ht3)) ?_ ?_
    · rintro i v G hv ⟨eD, s⟩
      obtain ⟨p, hp, rfl, vz, two, _⟩ := mem hv
      have nz : p.1 ∉ (l'.take i).map (·.1) := fun m => by
        obtain ⟨j, hj, e⟩ := List.mem_iff_getElem.mp m
        rw [List.length_map, List.length_take] at hj
        obtain ⟨hi, ep⟩ := List.getElem?_eq_some_iff.mp hp
        have e2 : (l'.map (·.1))[j]'(by rw [List.length_map]; omega) = (l'.map (·.1))[i]'(by rw [List.length_map]; omega) := by
          rw [List.getElem_map, List.getElem_map, ep, ← e, List.getElem_map, List.getElem_take]
        have := (List.getElem_inj ndl).mp e2
        omega
      refine ⟨rfl, _, rfl, _, rfl, _, rfl, a, _, rfl, vz ▸ DGet.k (k := .inr p.1) (s _ _ ha3), dkv (l'.take i), .inr p.1, rfl, eD, ?_, ?_, fun b o q => by rw [upd_ne (ne_of_none q nD)]; exact s b o q⟩
      · have e : (dkv (l'.take i)).length = (l'.take i).length := List.length_map _
        rw [e, List.length_take, sizeLine_eq]
        omega
      · rw [upd_same, put_end nz, List.take_add_one, hp]
        rfl
    rintro G ⟨eD, s3⟩
    have eD : G D = some (.dK (dkv l')) := by
      have t0 := List.take_of_length_le (l := l') (i := ((l'.map (·.1)).map V.str).length) (by rw [List.length_map, List.length_map]; exact Nat.le_refl _)
      rw [t0] at eD
      exact eD
    refine ⟨_, rfl, x, C, dx, _, rfl, s3 _ _ hx3, CF.cls, CF.n2, Nat.le_of_ble_eq_true rfl, ?_⟩
    have xD : x ≠ D := ne_of_none hx3 nD
    have k4 : Kp x H (upd G x (.ins C dx (putF "_arities" (.ref D) [("_names", .ref t)]))) := (k3.trans (Kp.same s3)).trans Kp.upd
    have hx4 : (upd G x (.ins C dx (putF "_arities" (.ref D) [("_names", .ref t)]))) x = some (.ins C dx [("_names", .ref t), ("_arities", .ref D)]) := upd_same
    have ht4 : (upd G x (.ins C dx (putF "_arities" (.ref D) [("_names", .ref t)]))) t = some (.tup ((l'.map (·.1)).map V.str)) := by rw [upd_ne xt.symm]; exact s3 _ _ ht3
    have hD4 : (upd G x (.ins C dx (putF "_arities" (.ref D) [("_names", .ref t)]))) D = some (.dK (dkv l')) := by rw [upd_ne xD.symm]; exact eD
    have ha4 := k4 a _ xa.symm ha
    generalize upd G x (.ins C dx (putF "_arities" (.ref D) [("_names", .ref t)])) = H4 at k4 hx4 ht4 hD4 ha4 ⊢
    -- _lines
    refine ⟨_, rfl, x, C, dx, _, _, rfl, hx4, CF.cls, CF.n1, rfl, t, rfl, ⟨_, SqT.of ht4⟩, fun D2 nD2 => ?_⟩
    refine lc_tup (K := K) (a := t) (xs := (l'.map (·.1)).map V.str) (tt := tYes) (g := gName 2) (te := t_line) (vs := [2]) (fun i G => G D2 = some (.lst ((l'.take i).map lnV)) ∧ Same H4 G) ⟨upd_same, Same.new nD2⟩ (fun i G _ ⟨_, s⟩ => SqT.of (s _ _ ht4)) ?_ ?_
    · rintro i v G2 hv ⟨e2, s⟩
      obtain ⟨p, hp, rfl, vz, two, az⟩ := mem hv
      have z8 : p.1.length ≤ 8 := by
        have h2 : (decide (1 ≤ p.1.length) && decide (p.1.length ≤ 8) && p.1.cps.toList.all azC) = true := az
        simp only [Bool.and_eq_true, decide_eq_true_eq] at h2
        omega
      have lg : ((p.2 : Int)).natAbs.log2 < 1920 := Nat.lt_of_le_of_lt (Nat.log2_le_self _) (by omega)
      have tl : (((toString (p.2 : Int) : String) : Str)).length ≤ 1921 := PyProof.Rows.int_text_len_1921 lg
      have il : i < 8 := by
        have := (List.getElem?_eq_some_iff.mp hp).1
        omega
      have n1 : (Str.empty ++ ("op " : Str)).length = 3 := rfl
      refine ⟨rfl, _, rfl, by rw [n1, sizeLine_eq]; decide, _, rfl, .inl ⟨p.1, rfl, by rw [sizeLine_eq]; omega, _, rfl, by rw [strLen_append, n1, sizeLine_eq]; omega, _, rfl, ?_, _, rfl, _, rfl, a, _, rfl, vz ▸ DGet.k (k := .inr p.1) (s _ _ ha4), .inr ⟨_, rfl, lg, _, rfl, ?_, _, e2, by rw [List.length_map, List.length_take, sizeLine_eq]; omega, by rw [upd_same, List.take_add_one, hp, List.map_append]; rfl, fun b o q => by rw [upd_ne (ne_of_none q nD2)]; exact s b o q⟩⟩⟩
      · rw [strLen_append, strLen_append, n1, sizeLine_eq, show (" " : Str).length = 1 from rfl]
        omega
      · rw [strLen_append, strLen_append, strLen_append, n1, sizeLine_eq, show (" " : Str).length = 1 from rfl]
        have tl' : ((Str.ofString (toString (p.2 : Int)))).length ≤ 1921 := tl
        omega
    · rintro G2 ⟨e2, s⟩
      have e2 : G2 D2 = some (.lst (l'.map lnV)) := by
        rw [List.take_of_length_le (by rw [List.length_map, List.length_map]; exact Nat.le_refl _)] at e2
        exact e2
      generalize hss : l'.map lnV = ss at e2
      refine ⟨D2, ss, rfl, .inl ⟨SqL.of e2, fun t2 nt2 => ⟨_, rfl, x, C, dx, _, rfl, (Same.new nt2) _ _ (s _ _ hx4), CF.cls, CF.n3, Nat.le_of_ble_eq_true rfl, ?_⟩⟩⟩
      have s5 := s.trans (Same.new nt2 (o := .tup ss))
      have xt2 : x ≠ t2 := ne_of_none (s _ _ hx4) nt2
      have xa4 : a ≠ x := xa.symm
      have k5 : Kp x H (upd (upd G2 t2 (.tup ss)) x (.ins C dx (putF "_lines" (.ref t2) [("_names", .ref t), ("_arities", .ref D)]))) := (k4.trans (Kp.same s5)).trans Kp.upd
      have hx5 : (upd (upd G2 t2 (.tup ss)) x (.ins C dx (putF "_lines" (.ref t2) [("_names", .ref t), ("_arities", .ref D)]))) x = some (.ins C dx [("_names", .ref t), ("_arities", .ref D), ("_lines", .ref t2)]) := upd_same
      have ht5 : (upd (upd G2 t2 (.tup ss)) x (.ins C dx (putF "_lines" (.ref t2) [("_names", .ref t), ("_arities", .ref D)]))) t = some (.tup (l'.map fun p => V.str p.1)) := by
        rw [upd_ne xt.symm]
        have := s5 _ _ ht4
        rw [List.map_map] at this
        exact this
      have hD5 : (upd (upd G2 t2 (.tup ss)) x (.ins C dx (putF "_lines" (.ref t2) [("_names", .ref t), ("_arities", .ref D)]))) D = some (.dK (dkv l')) := by
        rw [upd_ne xD.symm]
        exact s5 _ _ hD4
      have hl5 : (upd (upd G2 t2 (.tup ss)) x (.ins C dx (putF "_lines" (.ref t2) [("_names", .ref t), ("_arities", .ref D)]))) t2 = some (.tup ss) := by rw [upd_ne xt2.symm, upd_same]
      generalize upd (upd G2 t2 (.tup ss)) x (.ins C dx (putF "_lines" (.ref t2) [("_names", .ref t), ("_arities", .ref D)])) = H5 at k5 hx5 ht5 hD5 hl5 ⊢
      have ha5 := k5 a _ xa4 ha
      -- told
      refine ⟨_, rfl, a, dkv l, rfl, ha5, fun q nq => ?_⟩
      have s6 := Same.new nq (o := .lst ((dkv l).map (·.2)))
      have xq : x ≠ q := ne_of_none hx5 nq
      have hq6 : (upd H5 q (.lst ((dkv l).map (·.2)))) q = some (.lst ((l.map fun p => (p.2 : Int)).map V.int)) := by
        rw [upd_same]
        unfold dkv
        rw [List.map_map, List.map_map]
        rfl
      generalize upd H5 q (.lst ((dkv l).map (·.2))) = H6 at s6 hq6 ⊢
      have hx6 := s6 _ _ hx5
      have ht6 := s6 _ _ ht5
      have hD6 := s6 _ _ hD5
      have hl6 := s6 _ _ hl5
      have tyq : tyV K "list" (V.ref q) H6 := .inl ⟨rfl, _, SqL.of hq6⟩
      refine ⟨_, rfl, tyq, q, _, 0, rfl, rfl, SqL.of hq6, _, rfl, tyq, q, _, 1, rfl, rfl, SqL.of hq6, _, rfl, tyq, q, _, 2, rfl, rfl, SqL.of hq6, by show 3 ≤ sizeLine; decide, fun m nm => ?_⟩
      have s7 := Same.new nm (o := .tup [.int ((l.map fun p => (p.2 : Int)).count 0 : Nat), .int ((l.map fun p => (p.2 : Int)).count 1 : Nat), .int ((l.map fun p => (p.2 : Int)).count 2 : Nat)])
      have xm : x ≠ m := ne_of_none hx6 nm
      refine ⟨_, rfl, x, C, dx, _, rfl, s7 _ _ hx6, CF.cls, CF.n4, Nat.le_of_ble_eq_true rfl, ?_⟩
      have k7 : Kp x H (upd (upd H6 m (.tup [.int ((l.map fun p => (p.2 : Int)).count 0 : Nat), .int ((l.map fun p => (p.2 : Int)).count 1 : Nat), .int ((l.map fun p => (p.2 : Int)).count 2 : Nat)])) x (.ins C dx (putF "_many" (.ref m) [("_names", .ref t), ("_arities", .ref D), ("_lines", .ref t2)]))) := ((k5.trans (Kp.same s6)).trans (Kp.same s7)).trans Kp.upd
      have hx7 : (upd (upd H6 m (.tup [.int ((l.map fun p => (p.2 : Int)).count 0 : Nat), .int ((l.map fun p => (p.2 : Int)).count 1 : Nat), .int ((l.map fun p => (p.2 : Int)).count 2 : Nat)])) x (.ins C dx (putF "_many" (.ref m) [("_names", .ref t), ("_arities", .ref D), ("_lines", .ref t2)]))) x = some (.ins C dx [("_names", .ref t), ("_arities", .ref D), ("_lines", .ref t2), ("_many", .ref m)]) := upd_same
      have hm7 : (upd (upd H6 m (.tup [.int ((l.map fun p => (p.2 : Int)).count 0 : Nat), .int ((l.map fun p => (p.2 : Int)).count 1 : Nat), .int ((l.map fun p => (p.2 : Int)).count 2 : Nat)])) x (.ins C dx (putF "_many" (.ref m) [("_names", .ref t), ("_arities", .ref D), ("_lines", .ref t2)]))) m = some (.tup [.int ((l.map fun p => (p.2 : Int)).count 0 : Nat), .int ((l.map fun p => (p.2 : Int)).count 1 : Nat), .int ((l.map fun p => (p.2 : Int)).count 2 : Nat)]) := by rw [upd_ne xm.symm, upd_same]
      have ht7 : (upd (upd H6 m (.tup [.int ((l.map fun p => (p.2 : Int)).count 0 : Nat), .int ((l.map fun p => (p.2 : Int)).count 1 : Nat), .int ((l.map fun p => (p.2 : Int)).count 2 : Nat)])) x (.ins C dx (putF "_many" (.ref m) [("_names", .ref t), ("_arities", .ref D), ("_lines", .ref t2)]))) t = some (.tup (l'.map fun p => V.str p.1)) := by
        rw [upd_ne xt.symm]
        exact s7 _ _ ht6
      have hD7 : (upd (upd H6 m (.tup [.int ((l.map fun p => (p.2 : Int)).count 0 : Nat), .int ((l.map fun p => (p.2 : Int)).count 1 : Nat), .int ((l.map fun p => (p.2 : Int)).count 2 : Nat)])) x (.ins C dx (putF "_many" (.ref m) [("_names", .ref t), ("_arities", .ref D), ("_lines", .ref t2)]))) D = some (.dK (dkv l')) := by
        rw [upd_ne xD.symm]
        exact s7 _ _ hD6
      have hl7 : (upd (upd H6 m (.tup [.int ((l.map fun p => (p.2 : Int)).count 0 : Nat), .int ((l.map fun p => (p.2 : Int)).count 1 : Nat), .int ((l.map fun p => (p.2 : Int)).count 2 : Nat)])) x (.ins C dx (putF "_many" (.ref m) [("_names", .ref t), ("_arities", .ref D), ("_lines", .ref t2)]))) t2 = some (.tup ss) := by
        rw [upd_ne xt2.symm]
        exact s7 _ _ hl6
      generalize upd (upd H6 m (.tup [.int ((l.map fun p => (p.2 : Int)).count 0 : Nat), .int ((l.map fun p => (p.2 : Int)).count 1 : Nat), .int ((l.map fun p => (p.2 : Int)).count 2 : Nat)])) x (.ins C dx (putF "_many" (.ref m) [("_names", .ref t), ("_arities", .ref D), ("_lines", .ref t2)])) = H7 at k7 hx7 hm7 ht7 hD7 hl7 ⊢
      -- _counts
      refine ⟨_, rfl, x, C, dx, _, _, rfl, hx7, CF.cls, CF.n4, rfl, m, _, _, _, rfl, rfl, SqT.of hm7, rfl, by show 2 ≤ sizeLine; decide, fun c nc => ?_⟩
      have xc : x ≠ c := ne_of_none hx7 nc
      have s8 := Same.new nc (o := .lst [.int 0, .int ((l.map fun p => (p.2 : Int)).count 0 : Nat)])
      refine ⟨_, rfl, x, C, dx, _, rfl, s8 _ _ hx7, CF.cls, CF.n5, Nat.le_of_ble_eq_true rfl, ?_⟩
      have k8 : Kp x H (upd (upd H7 c (.lst [.int 0, .int ((l.map fun p => (p.2 : Int)).count 0 : Nat)])) x (.ins C dx (putF "_counts" (.ref c) [("_names", .ref t), ("_arities", .ref D), ("_lines", .ref t2), ("_many", .ref m)]))) := (k7.trans (Kp.same s8)).trans Kp.upd
      have hx8 : (upd (upd H7 c (.lst [.int 0, .int ((l.map fun p => (p.2 : Int)).count 0 : Nat)])) x (.ins C dx (putF "_counts" (.ref c) [("_names", .ref t), ("_arities", .ref D), ("_lines", .ref t2), ("_many", .ref m)]))) x = some (.ins C dx [("_names", .ref t), ("_arities", .ref D), ("_lines", .ref t2), ("_many", .ref m), ("_counts", .ref c)]) := upd_same
      have ht8 : (upd (upd H7 c (.lst [.int 0, .int ((l.map fun p => (p.2 : Int)).count 0 : Nat)])) x (.ins C dx (putF "_counts" (.ref c) [("_names", .ref t), ("_arities", .ref D), ("_lines", .ref t2), ("_many", .ref m)]))) t = some (.tup (l'.map fun p => V.str p.1)) := by
        rw [upd_ne xt.symm]
        exact s8 _ _ ht7
      have hD8 : (upd (upd H7 c (.lst [.int 0, .int ((l.map fun p => (p.2 : Int)).count 0 : Nat)])) x (.ins C dx (putF "_counts" (.ref c) [("_names", .ref t), ("_arities", .ref D), ("_lines", .ref t2), ("_many", .ref m)]))) D = some (.dK (dkv l')) := by
        rw [upd_ne xD.symm]
        exact s8 _ _ hD7
      have hl8 : (upd (upd H7 c (.lst [.int 0, .int ((l.map fun p => (p.2 : Int)).count 0 : Nat)])) x (.ins C dx (putF "_counts" (.ref c) [("_names", .ref t), ("_arities", .ref D), ("_lines", .ref t2), ("_many", .ref m)]))) t2 = some (.tup ss) := by
        rw [upd_ne xt2.symm]
        exact s8 _ _ hl7
      generalize upd (upd H7 c (.lst [.int 0, .int ((l.map fun p => (p.2 : Int)).count 0 : Nat)])) x (.ins C dx (putF "_counts" (.ref c) [("_names", .ref t), ("_arities", .ref D), ("_lines", .ref t2), ("_many", .ref m)])) = H8 at k8 hx8 ht8 hD8 hl8 ⊢
      -- _rows
      refine ⟨by show 0 ≤ sizeLine; decide, fun r nr => ?_⟩
      have s9 := Same.new nr (o := .lst [])
      refine ⟨_, rfl, x, C, dx, _, rfl, s9 _ _ hx8, CF.cls, CF.n6, Nat.le_of_ble_eq_true rfl, ?_⟩
      refine q0 l' _ pl srt ((k8.trans (Kp.same s9)).trans Kp.upd) ⟨dx, t, D, (t2, m, c, r), upd_same, ?_, ?_, ?_⟩
      · rw [upd_ne xt.symm]
        exact s9 _ _ ht8
      · rw [upd_ne xD.symm]
        exact s9 _ _ hD8
      · show (upd (upd H8 r (.lst [])) x _) t2 = _
        rw [upd_ne xt2.symm, hss]
        exact s9 _ _ hl8
end
end Pr

namespace Pr
open PySem PySem.Spec PyProof.Rows L2 Gd TL
/-! ### the words of a text -/
/-- a text of at most n signs, all of them below 128 -/
def Asc (n : Nat) (z : Str) : Prop := z.length ≤ n ∧ ∀ c ∈ z.cps.toList, c < 128
theorem Asc.le {n m : Nat} {z : Str} (h : Asc n z) (l : n ≤ m) : Asc m z := ⟨Nat.le_trans h.1 l, h.2⟩
theorem Asc.app {n m : Nat} {y z : Str} (h : Asc n y) (k : Asc m z) : Asc (n + m) (y ++ z) := by
  refine ⟨by rw [strLen_append]; have := h.1; have := k.1; omega, fun c mc => ?_⟩
  have e : (y ++ z).cps.toList = y.cps.toList ++ z.cps.toList := by
    show (y.cps ++ z.cps).toList = _
    rw [Array.toList_append]
  rw [e, List.mem_append] at mc
  rcases mc with mc | mc
  · exact h.2 c mc
  · exact k.2 c mc
theorem spl_of {S : List Nat} : ∀ (l : List Nat) (k : Nat) (acc : List Nat), ∀ p ∈ spl S k acc l, p.length ≤ acc.length + l.length ∧ ∀ c ∈ p, c ∈ acc ∨ c ∈ l
  | [], k, acc, p, m => by
    rw [spl_nil, List.mem_singleton] at m
    rw [m]
    exact ⟨by simp, fun c mc => .inl mc⟩
  | x :: r, 0, acc, p, m => by
    cases h : pre S (x :: r) with
    | true =>
      rw [spl_hit h] at m
      rcases List.mem_cons.mp m with rfl | m
      · exact ⟨by simp, fun c mc => .inl mc⟩
      · obtain ⟨a, b⟩ := spl_of r _ [] p m
        refine ⟨by rw [List.length_cons]; simp at a; omega, fun c mc => ?_⟩
        rcases b c mc with z | z
        · cases z
        · exact .inr (List.mem_cons_of_mem _ z)
    | false =>
      rw [spl_miss h] at m
      obtain ⟨a, b⟩ := spl_of r 0 (acc ++ [x]) p m
      refine ⟨by rw [List.length_append] at a; simp at a ⊢; omega, fun c mc => ?_⟩
      rcases b c mc with z | z
      · rcases List.mem_append.mp z with z | z
        · exact .inl z
        · rw [List.mem_singleton.mp z]
          exact .inr List.mem_cons_self
      · exact .inr (List.mem_cons_of_mem _ z)
  | x :: r, k + 1, acc, p, m => by
    have m' : p ∈ spl S k acc r := m
    obtain ⟨a, b⟩ := spl_of r k acc p m'
    refine ⟨by rw [List.length_cons]; omega, fun c mc => ?_⟩
    rcases b c mc with z | z
    · exact .inl z
    · exact .inr (List.mem_cons_of_mem _ z)
@[irreducible] def sp (z : Str) : List Str := Txt.split z " "
theorem sp_eq (z : Str) : Txt.split z " " = sp z := by
  unfold sp
  rfl
theorem sp_map (z : Str) : (sp z).map tl = spl (tl " ") 0 [] (tl z) := by
  rw [← sp_eq]
  exact split_spl z " " (by decide +kernel) (kind_ok (by decide +kernel))
theorem sp_of {z w : Str} (m : w ∈ sp z) : w.length ≤ z.length ∧ ∀ c ∈ w.cps.toList, c ∈ z.cps.toList := by
  have m2 : tl w ∈ spl (tl " ") 0 [] (tl z) := by
    rw [← sp_map]
    exact List.mem_map_of_mem m
  obtain ⟨a, b⟩ := spl_of _ _ _ _ m2
  rw [len_tl, len_tl]
  refine ⟨by simpa using a, fun c mc => ?_⟩
  rcases b c mc with q | q
  · cases q
  · exact q
theorem sp_asc {n : Nat} {z w : Str} (h : Asc n z) (m : w ∈ sp z) : Asc n w := ⟨Nat.le_trans (sp_of m).1 h.1, fun c mc => h.2 c ((sp_of m).2 c mc)⟩
theorem sp_few (z : Str) : (sp z).length ≤ z.length + 1 := by
  have e : (sp z).length = ((sp z).map tl).length := (List.length_map _).symm
  rw [e, sp_map]
  have go : ∀ (l : List Nat) (k : Nat) (acc : List Nat), (spl (tl " ") k acc l).length ≤ l.length + 1 := by
    intro l
    induction l with
    | nil => intro k acc; rw [spl_nil]; simp
    | cons x r ih =>
      intro k acc
      cases k with
      | zero =>
        cases h : pre (tl " ") (x :: r) with
        | true => rw [spl_hit h]; have := ih ((tl " ").length - 1) []; simp; omega
        | false => rw [spl_miss h]; have := ih 0 (acc ++ [x]); simp; omega
      | succ k =>
        show (spl (tl " ") k acc r).length ≤ _
        have := ih k acc
        simp
        omega
  have := go (tl z) 0 []
  rw [len_tl]
  exact this
/-- the figure of a word -/
def dig (c : Str) : Option Nat := if c = "0" then some 0 else if c = "1" then some 1 else if c = "2" then some 2 else none
def lineL : List Str → Option (Str × Nat)
  | [a, b, c] => if a = "op" then (if azB b = true then (dig c).map fun n => (b, n) else none) else none
  | _ => none
/-- the name and the arity of a line -/
def lineOf : V → Option (Str × Nat)
  | .str z => lineL (sp z)
  | _ => none
theorem dig_two {c : Str} {n : Nat} (h : dig c = some n) : n ≤ 2 ∧ c ∈ (["0", "1", "2"] : List Str) ∧ c = Str.ofString (toString (n : Int)) := by
  unfold dig at h
  split at h
  · rename_i e
    cases h
    rw [e]
    exact ⟨by decide, by decide +kernel, by decide +kernel⟩
  · split at h
    · rename_i e
      cases h
      rw [e]
      exact ⟨by decide, by decide +kernel, by decide +kernel⟩
    · split at h
      · rename_i e
        cases h
        rw [e]
        exact ⟨by decide, by decide +kernel, by decide +kernel⟩
      · cases h
theorem lineL_some {l : List Str} {p : Str × Nat} (h : lineL l = some p) : ∃ c : Str, l = [("op" : Str), p.1, c] ∧ azB p.1 = true ∧ dig c = some p.2 := by
  match l, h with
  | [a, b, c], h =>
    have h : (if a = "op" then (if azB b = true then (dig c).map fun n => (b, n) else none) else none) = some p := h
    by_cases e : a = "op"
    · rw [if_pos e] at h
      by_cases e2 : azB b = true
      · rw [if_pos e2] at h
        cases hd : dig c with
        | none => rw [hd] at h; cases h
        | some n =>
          rw [hd] at h
          cases h
          exact ⟨c, by rw [e], e2, hd⟩
      · rw [if_neg e2] at h
        cases h
    · rw [if_neg e] at h
      cases h
end Pr
namespace Pr
open PySem PySem.Spec PyProof.Rows L2 Gd
/-! ### operator_of -/
def spOper : Sp := fun vs H Q _ => ∃ (v : V) (ty : String), vs = [v] ∧ Kd H v ty ∧ (∀ z, v = .str z → z.length ≤ 100000) ∧ (lineOf v = none → ∀ H', Same H H' → Q .non H') ∧
  (∀ z n, lineOf v = some (z, n) → ∀ (H' : Hp) (t : Addr), Same H H' → H t = none → H' t = some (.tup [.str z, .int (n : Int)]) → Q (.ref t) H')
theorem lineL_three {l : List Str} (h : l.length ≠ 3) : lineL l = none := by
  cases e : lineL l with
  | none => rfl
  | some p =>
    obtain ⟨c, rfl, _⟩ := lineL_some e
    exact absurd rfl h
theorem dig_none {c : Str} (h : inV (.str c) [V.str "0", V.str "1", V.str "2"] = false) : dig c = none := by
  cases e : dig c with
  | none => rfl
  | some n =>
    have m := (dig_two e).2.1
    rcases List.mem_cons.mp m with rfl | m
    · exact absurd h (by decide +kernel)
    · rcases List.mem_cons.mp m with rfl | m
      · exact absurd h (by decide +kernel)
      · rw [List.mem_singleton.mp m] at h
        exact absurd h (by decide +kernel)
theorem dig_some {c : Str} (h : inV (.str c) [V.str "0", V.str "1", V.str "2"] = true) : ∃ n, dig c = some n ∧ intText? c = some (n : Int) ∧ c.length ≤ 640 := by
  unfold inV at h
  rw [List.any_eq_true] at h
  obtain ⟨x, m, e⟩ := h
  have key : ∀ z : Str, eqV (.str z) (.str c) = true → c = z := fun z q => by
    have q' : (z == c) = true := q
    exact (eq_of_beq q').symm
  rcases List.mem_cons.mp m with rfl | m
  · rw [key _ e]
    exact ⟨0, by decide +kernel, by decide +kernel, by decide +kernel⟩
  · rcases List.mem_cons.mp m with rfl | m
    · rw [key _ e]
      exact ⟨1, by decide +kernel, by decide +kernel, by decide +kernel⟩
    · rw [List.mem_singleton.mp m] at e
      rw [key _ e]
      exact ⟨2, by decide +kernel, by decide +kernel, by decide +kernel⟩
section
variable {P : Program} {w : World} {K : PySem.W.Frag} {mg : Str → Option Value} {base : Heap} {fN : Addr} {dN : FuncData} {tk : Tok}
theorem scOper : FnScope ["line", "words"] ["line"] (defScope sOper) := ⟨rfl, rfl, rfl, by decide +kernel, rfl, by decide +kernel, by decide +kernel⟩
theorem ok_oper {f : Addr} {fd : FuncData} (F : Fun K "operator_of" "operator_of" sOper f fd) (T : Free mg) (gm : mg "MAX_LETTERS" = some (.int 8 tk)) (FN : Fun K "is_name" "is_name" sName fN dN) (bN : Binds K dN ["value"] []) (gN : mg "is_name" = some (.ref fN)) : FnOk P w K mg base CX0 2 f fd ["line"] spOper := by
  have GN : FnOk P w K mg base CX0 1 fN dN ["value"] spName := ok_name FN T gm
  refine F.ok scOper (fun vs H Q E h => ?_) (fun cdv A outer s H vs Q E hr h => ?_)
  · obtain ⟨v, t, rfl, _⟩ := h
    rfl
  · obtain ⟨v, t, rfl, kd, hz, q0, q1⟩ := h
    refine ⟨_, pss_cons (ps_if (pt_not (pt_val (pe_callB call_isi (by rfl) T.isi (by decide +kernel) (pa_cons (pv 0) (pa_cons (pe_bltn (v := .ty "str") (by rfl) T.str (by decide +kernel) rfl) pa_nil))))) (pss_one (ps_ret pe_non)) pss_nil)
      (pss_cons (ps_set (i := 1) scOper.nd rfl (.inl rfl) (pe_split (pv 0) pe_str))
      (pss_cons (ps_if (PW.pt (pw_or (pt_cmpR op_ne (pe_callB call_len_seq (by rfl) T.len PySem.boot_len (pa_cons (pv 1) pa_nil)) pe_int (nomark _))
          (pw_or (pt_cmpR op_ne (pe_ix ix_list (pv 1) pe_int (fun _ _ => rfl)) pe_str (nomark _))
          (pw_or (pt_not (pt_val (pe_call GN hr (by rfl) gN FN.kp bN .nil pass0 (pa_cons (pe_ix ix_list (pv 1) pe_int (fun _ _ => rfl)) pa_nil))))
          (pw_or1 (pt_cmpR op_notIn_seq (pe_ix ix_list (pv 1) pe_int (fun _ _ => rfl)) (pe_tup (pa_cons pe_str (pa_cons pe_str (pa_cons pe_str pa_nil)))) (by rfl))))))) (pss_one (ps_ret pe_non)) pss_nil)
      (pss_one (ps_ret (pe_tup (pa_cons (pe_ix ix_list (pv 1) pe_int (fun _ _ => rfl)) (pa_cons (pe_callTy call_int_str (by rfl) T.int (by decide +kernel) (pa_cons (pe_ix ix_list (pv 1) pe_int (fun _ _ => rfl)) pa_nil)) pa_nil))))))), ?_⟩
    refine ⟨_, rfl, v, _, _, _, _, rfl, .ty "str", kd.ty, kit_str kd, _, rfl, ?_⟩
    cases kd with
    | str z =>
      have l := hz z rfl
      have e0 : lineOf (.str z) = lineL (sp z) := rfl
      rw [e0] at q0 q1
      refine iteF ⟨_, rfl, ⟨_, rfl⟩, z, " ", rfl, rfl, rfl, by rw [sizeLine_eq]; omega, fun p np => ?_⟩
      have sN : Same H (upd H p (.lst ((Txt.split z " ").map V.str))) := Same.new np
      have hp : (upd H p (.lst ((Txt.split z " ").map V.str))) p = some (.lst ((sp z).map V.str)) := by rw [upd_same, sp_eq]
      have fewz := sp_few z
      have ofz : ∀ w ∈ sp z, w.length ≤ z.length := fun w m => (sp_of m).1
      generalize upd H p (.lst ((Txt.split z " ").map V.str)) = H1 at sN hp ⊢
      generalize sp z = ws at q0 q1 hp fewz ofz ⊢
      refine ⟨_, rfl, p, _, rfl, .inl (SqL.of hp), rfl, _, rfl, ?_⟩
      match ws, hp, fewz, ofz, q0, q1 with
      | [a, b, c], hp, fewz, ofz, q0, q1 =>
        refine if_false_of (by rfl) ⟨_, rfl, p, _, 0, _, rfl, rfl, SqL.of hp, rfl, rfl, _, rfl, ?_⟩
        have op_ : a ≠ "op" → lineL [a, b, c] = none := fun ne => by
          show (if a = "op" then _ else none) = none
          rw [if_neg ne]
        refine ite2 (fun k => ?_) (fun k => ?_)
        · have ne : a ≠ "op" := fun e => by
            rw [e] at k
            exact absurd k (by decide +kernel)
          exact if_true_of rfl (q0 (op_ ne) H1 sN)
        · have ea : a = "op" := by
            by_cases c0 : a = "op"
            · exact c0
            · exact absurd (by rw [decide_eq_false (fun q => c0 (V.str.inj q))]; rfl) k
          subst ea
          have lb : b.length ≤ 1000000 := by
            have := ofz b (by simp)
            omega
          have em : lineL [("op" : Str), b, c] = if azB b = true then (dig c).map fun n => (b, n) else none := by
            show (if ("op" : Str) = "op" then (if azB b = true then (dig c).map fun n => (b, n) else none) else none) = _
            rw [if_pos rfl]
          refine ⟨_, rfl, p, _, 1, _, rfl, rfl, SqL.of hp, rfl, .str b, "str", rfl, .str b, fun y e => by cases e; exact lb, _, rfl, ite2 (fun k2 => ?_) (fun k2 => ?_)⟩
          · have nz : ¬ azB b = true := fun e => by
              have k2 : (!azB b) = true := k2
              rw [e] at k2
              cases k2
            rw [if_neg nz] at em
            exact if_true_of rfl (q0 em H1 sN)
          · have nz : azB b = true := by
              have k2 : ¬ (!azB b) = true := k2
              cases e : azB b
              · rw [e] at k2
                exact absurd rfl k2
              · rfl
            rw [if_pos nz] at em
            refine ⟨_, rfl, p, _, 2, _, rfl, rfl, SqL.of hp, rfl, by show 3 ≤ sizeLine; decide, fun t1 n1 => ⟨t1, _, rfl, .inr (SqT.of upd_same), rfl, rfl, _, rfl, ?_⟩⟩
            have s2 := sN.trans (Same.new n1 (o := .tup [V.str "0", .str "1", .str "2"]))
            have hp2 := (Same.new n1 (o := .tup [V.str "0", .str "1", .str "2"])) _ _ hp
            generalize upd H1 t1 (.tup [V.str "0", .str "1", .str "2"]) = H2 at s2 hp2 ⊢
            cases ei : inV (.str c) [V.str "0", .str "1", .str "2"] with
            | false =>
              rw [dig_none ei] at em
              exact if_true_of (by rw [if_pos rfl]; rfl) (q0 em H2 s2)
            | true =>
              obtain ⟨n, dn, it, lc⟩ := dig_some ei
              rw [dn] at em
              refine if_false_of (by rw [if_pos rfl]; rfl) ?_
              refine ⟨_, rfl, p, _, 1, _, rfl, rfl, SqL.of hp2, rfl, _, rfl, p, _, 2, _, rfl, rfl, SqL.of hp2, rfl, c, n, rfl, it, lc, by show 2 ≤ sizeLine; decide, fun t2 n2 => ?_⟩
              exact q1 b n em _ t2 (s2.trans (Same.new n2)) (s2.free n2) upd_same
      | [], hp, fewz, ofz, q0, q1 => exact if_true_of (by rfl) (if_true_of rfl (q0 rfl H1 sN))
      | [_], hp, fewz, ofz, q0, q1 => exact if_true_of (by rfl) (if_true_of rfl (q0 rfl H1 sN))
      | [_, _], hp, fewz, ofz, q0, q1 => exact if_true_of (by rfl) (if_true_of rfl (q0 rfl H1 sN))
      | x0 :: x1 :: x2 :: x3 :: r, hp, fewz, ofz, q0, q1 =>
        have e : (!decide (V.int ((List.map V.str (x0 :: x1 :: x2 :: x3 :: r)).length : Int) = V.int 3)) = true := by
          rw [decide_eq_false]
          · rfl
          · intro q
            have q := V.int.inj q
            rw [List.length_map] at q
            simp at q
            omega
        exact if_true_of e (if_true_of rfl (q0 (lineL_three (by simp)) H1 sN))
    | _ => exact iteT (q0 rfl H (Same.refl _))
end
end Pr
/-! ### enumerate over a tuple -/
namespace PySem
namespace EnT
open PySem.W PySem.Calls PyProof.Rows AutoSeq1
section
variable {prog : Program} {w : World} {A : Around} {E : Value → Shared → Prop} {s : Shared} {it t : Addr} {i : Nat} {ys : Array Value}
theorem nextT {x : Value} {Q : Value → Shared → Prop} (hit : s.heap.IsTupleIter it t i) (ht : s.heap.IsTuple t ys) (hx : ys[i]? = some x) (hQ : ∀ h', h'.IsTupleIter it t (i + 1) → Heap.SameBut it s.heap h' → Q x { s with heap := h' }) : wpAny (model prog w) A (Builtin.SmallTypes.nextOf (.ref it)) Q E s := by
  obtain ⟨⟨o, ho, hc, hd⟩, ⟨ot, hot, _, nt, hdt⟩⟩ := And.intro (id hit) ht
  refine (show wpAny _ _ _ _ _ _ from wpAny_bind (wpAny_callSpecial?_slot (name := Str.ofString "__next__") hit.typeIs F.slot_tuple_iterator_next (wpAny_call_entry F.slot_tuple_iterator_next hit.typeIs F.entry_tuple_iterator_next ?_ (F.args_tuple_iterator_next_1 _))))
  refine (show wpAny _ _ (field (.ref it) 0 >>= _) _ _ s from wpAny_bind (wpAny_field ho hd (x := .ref t) rfl ?_))
  refine (show wpAny _ _ (if (Value.ref t == Value.none) = true then _ else _) _ _ s from ?_); rw [if_neg (show ¬ ((Value.ref t == Value.none) = true) from Bool.false_ne_true)]
  refine (show wpAny _ _ (field (.ref it) 1 >>= _) _ _ s from wpAny_bind (wpAny_field ho hd (x := .int i 0) rfl ?_))
  refine (show wpAny _ _ (seqItems? (.ref t) >>= _) _ _ s from wpAny_bind (wpAny_seqItems hot hdt ?_)); simp only [Int.toNat_natCast, hx]
  exact wpAny_bind (wpAny_setField ho hd (by simp) (wpAny_pure ⟨x, rfl, wpAny_pure (hQ _ ⟨_, Heap.get?_update_self _ ho (Obj.isFreed_of_fields (Obj.data_mapFields hd _)), (Obj.cls_mapFields ..).trans hc, by rw [Obj.data_mapFields hd]; simp [rawInt]⟩ (Heap.SameBut.update ..))⟩))
theorem lastT {Q : Value → Shared → Prop} (hh : A.handled = none) (hit : s.heap.IsTupleIter it t i) (ht : s.heap.IsTuple t ys) (hx : ys[i]? = none) (hE : ∀ h' e, Heap.ExtBut it s.heap h' → (∃ o, h'.get? e = some o ∧ o.cls = .type "StopIteration") → E (.ref e) { s with heap := h' }) : wpAny (model prog w) A (Builtin.SmallTypes.nextOf (.ref it)) Q E s := by
  obtain ⟨⟨o, ho, hc, hd⟩, ⟨ot, hot, _, nt, hdt⟩⟩ := And.intro (id hit) ht
  refine (show wpAny _ _ _ _ _ _ from wpAny_bind (wpAny_callSpecial?_slot (name := Str.ofString "__next__") hit.typeIs F.slot_tuple_iterator_next (wpAny_call_entry F.slot_tuple_iterator_next hit.typeIs F.entry_tuple_iterator_next ?_ (F.args_tuple_iterator_next_1 _))))
  refine (show wpAny _ _ (field (.ref it) 0 >>= _) _ _ s from wpAny_bind (wpAny_field ho hd (x := .ref t) rfl ?_))
  refine (show wpAny _ _ (if (Value.ref t == Value.none) = true then _ else _) _ _ s from ?_); rw [if_neg (show ¬ ((Value.ref t == Value.none) = true) from Bool.false_ne_true)]
  refine (show wpAny _ _ (field (.ref it) 1 >>= _) _ _ s from wpAny_bind (wpAny_field ho hd (x := .int i 0) rfl ?_))
  refine (show wpAny _ _ (seqItems? (.ref t) >>= _) _ _ s from wpAny_bind (wpAny_seqItems hot hdt ?_)); simp only [Int.toNat_natCast, hx]
  refine wpAny_bind (wpAny_rule (wpAny_bind (wpAny_setField ho hd (by simp) (show wpAny _ _ (newExc (.type "StopIteration") [] >>= _) _ _ _ from wpAny_bind ?_)))); simp only [newExc, newTuple]
  refine wpAny_bind (wpAny_newObj_type (wpAny_bind (m := firstArgMember _ _) (wpAny_of_eq (a := Value.none) (by first | rfl | (simp only [firstArgMember]; rfl)) (wpAny_newObj_type ?_ (by size_fits)))) (by size_fits)); simp only [raiseNew]
  refine wpAny_bind (wpAny_handled ?_); first | rw [show A.in1.handled = none from hh] | rw [hh]
  exact wpAny_bind (wpAny_pure (wpAny_throw (hE _ _ (((Heap.SameBut.update ..).extBut.push _).push _) ⟨_, Heap.get?_push_size _ rfl, rfl⟩)))
end
theorem drawsT {prog : Program} {w : World} {A : Around} (hh : A.handled = none) (it t : Addr) (hne : t ≠ it) (ys : Array Value) : Draws prog w A it [it, t] ys.size (fun i v => ys[i]? = some v) (fun i h => h.IsTupleIter it t i ∧ h.IsTuple t ys) where
  live := fun _ _ st => let ⟨o, ho, _⟩ := st.1; ⟨o, ho⟩
  frame := fun _ _ _ st hk => ⟨st.1.at fun o e => hk it (by simp) o e, let ⟨o, ho, r⟩ := st.2; ⟨o, hk t (by simp) o ho, r⟩⟩
  item := fun i s Q E hi st hQ => nextT st.1 st.2 (x := ys[i]) (by simp [hi]) fun h' a b => hQ _ h' s.toks (by simp [hi]) ⟨a, st.2.extBut b.extBut hne⟩ b
  done := fun s Q E st hE => lastT hh st.1 st.2 (by simp) hE
end EnT
end PySem
namespace PySem
namespace EnT
open PySem.W PySem.Calls PyProof.Rows AutoSeq1
theorem newT (l : Addr) (ys : Array Value) (n : Nat) (dct : Option Addr) (sl : Array (Option Value)) :
    Meets (Builtin.«enumerate.__new__» ⟨[.type "enumerate", .ref l], []⟩) (fun _ R s => s.heap.get? l = some { cls := .type "tuple", dict := dct, data := .seq ys n, slots := sl } ∧
      R (.ok (.ret (.ref (s.heap.push { cls := .type "tuple_iterator", data := .fields #[.ref l, .int 0 0] }).objs.size)))
        { s with heap := (s.heap.push { cls := .type "tuple_iterator", data := .fields #[.ref l, .int 0 0] }).push { cls := .type "enumerate", data := .fields #[.none, .bool false, .ref s.heap.objs.size, rawInt 0, .none, .none] } }) :=
  .of_wp fun prog w A R s h => by
    obtain ⟨hp, g, d, tk, os⟩ := s; obtain ⟨hl, h⟩ := h
    have c1 := sub_enumerate
    have c2 : Heap.IsTuple (Shared.heap ⟨hp, g, d, tk, os⟩) l ys := ⟨_, hl, rfl, n, rfl⟩
    wp_walk using wpAny_loadPart' hl
    refine wpAny_stack_any fun _ => wpAny_pure (show _ from ?_); split
    · rename_i c _ _ _ _ _
      cases (c == Value.type "enumerate") <;> (wp_walk using wpAny_loadPart' hl, wpAny_pyIter_tuple c2; exact ⟨_, rfl, h⟩)
    · wp_walk using wpAny_loadPart' hl, wpAny_pyIter_tuple c2
      exact ⟨_, rfl, h⟩
theorem callT {prog : Program} {w : World} {A : Around} {E : Value → Shared → Prop} {s : Shared} {l : Addr} {ys : Array Value} {Q : Value → Shared → Prop} (hL : s.heap.IsTuple l ys)
    (h : ∀ h', IsEnum h' (s.heap.objs.size + 1) s.heap.objs.size 0 .none → h'.IsTupleIter s.heap.objs.size l 0 → h'.objs.size = s.heap.objs.size + 2 → (∀ b o, s.heap.get? b = some o → h'.get? b = some o) → Q (.ref (s.heap.objs.size + 1)) { s with heap := h' }) :
    wpAny (model prog w) A (call (.type "enumerate") [.ref l]) Q E s := by
  obtain ⟨⟨c, dct, dt, sl⟩, hl, hc, n, hd⟩ := hL
  cases (show c = .type "tuple" from hc)
  cases (show dt = .seq ys n from hd)
  refine callType_new F.called_enumerate (by decide) (F.typeCall_enumerate_1 _) (F.newCall_enumerate_1 _) (fun o => F.args_object_init_2 o _) F.entry_enumerate_new (newT l ys n dct sl) ⟨hl, ?_⟩
  have z : (s.heap.push { cls := .type "tuple_iterator", data := .fields #[.ref l, .int 0 0] }).objs.size = s.heap.objs.size + 1 := Heap.size_push ..
  refine (show _ ∧ _ from ?_)
  rw [z]
  have e1 : IsEnum ((s.heap.push { cls := .type "tuple_iterator", data := .fields #[.ref l, .int 0 0] }).push { cls := .type "enumerate", data := .fields #[.none, .bool false, .ref s.heap.objs.size, rawInt 0, .none, .none] }) (s.heap.objs.size + 1) s.heap.objs.size 0 .none := by
    have q := Heap.get?_push_size (s.heap.push { cls := .type "tuple_iterator", data := .fields #[.ref l, .int 0 0] }) (o := { cls := .type "enumerate", data := .fields #[.none, .bool false, .ref s.heap.objs.size, rawInt 0, .none, .none] }) rfl
    rw [z] at q
    exact q
  exact ⟨⟨_, e1, rfl⟩, h _ e1 ⟨_, Heap.get?_push_of_some _ (Heap.get?_push_size _ rfl), rfl, rfl⟩ (by rw [Heap.size_push, z]) fun b o x => Heap.get?_push_of_some _ (Heap.get?_push_of_some _ x)⟩
theorem endT {prog : Program} {w : World} {A : Around} {E : Value → Shared → Prop} {s : Shared} {e it t : Addr} {j : Nat} {i : Int} {old : Value} {ys : Array Value} {Q : Option Value → Shared → Prop} (hh : A.handled = none) (he : IsEnum s.heap e it i old) (hit : s.heap.IsTupleIter it t j) (ht : s.heap.IsTuple t ys) (hx : ys[j]? = none)
    (hQ : ∀ h', Heap.ExtBut it s.heap h' → Q none { s with heap := h' }) : wpAny (model prog w) A (pyNext (.ref e)) Q E s := by
  have ty : s.TypeIs (.ref e) "enumerate" := ⟨_, he, rfl⟩
  unfold pyNext
  refine (show wpAny _ _ _ _ _ _ from wpAny_bind (wpAny_attempt (wpAny_callSpecial?_slot (name := Str.ofString "__next__") ty F.slot_enumerate_next (wpAny_call_entry F.slot_enumerate_next ty F.entry_enumerate_next ?_ (F.args_enumerate_next_1 _)))))
  refine (show wpAny _ _ (field (.ref e) 2 >>= _) _ _ _ from wpAny_bind (wpAny_field he rfl (x := .ref it) rfl ?_))
  refine wpAny_bind (lastT (show A.in1.handled = none from hh) hit ht hx fun h' x eb ⟨o, ho, hc⟩ => ?_)
  exact wpAny_bind (wpAny_isInstance (T := "StopIteration") (b := true) ⟨o, ho, hc⟩ isSubtype_stop (wpAny_pure (hQ _ eb)))
end EnT
end PySem
namespace L2
open PySem PySem.Spec PyProof.Rows
/-- the tuple at a, each item in a new pair -/
def Iet (K : PySem.W.Frag) (a : Addr) : It :=
  ⟨fun i H => ∃ (xs : List V) (x : V), SqT K H a xs ∧ xs[i]? = some x, fun i H v H' => ∃ U x, v = .ref U ∧ H U = none ∧ H' = upd H U (.tup [.int (i : Nat), x]) ∧ ∀ xs, SqT K H a xs → xs[i]? = some x, fun i H => ∃ xs : List V, SqT K H a xs ∧ xs.length ≤ i⟩
theorem turn_enT {P : Program} {w : World} {K : PySem.W.Frag} {elts : List Expr} {kk : Nat} {tpos : Pos} (a e it : Addr) (ne2 : a ≠ it) (ne3 : a ≠ e) :
    Turn P w K (.Tuple elts kk tpos) (Iet K a) [e, it] e (fun i h => (∃ old, IsEnum h e it ((i : Nat) : Int) old) ∧ h.IsTupleIter it a i ∧ e ≠ it) where
  mem := by simp
  obj := fun i h ⟨⟨old, he⟩, ⟨o, ho, hc, hd⟩, _⟩ b hb => by
    rcases (show b = e ∨ b = it by simpa using hb) with z | z
    · rw [z]; exact ⟨_, he, fun v q => nomatch q⟩
    · rw [z]; exact ⟨o, ho, fun v q => by rw [hd] at q; cases q⟩
  keep := fun i h h' ⟨⟨old, he⟩, hi, hne⟩ k => ⟨⟨old, k e (by simp) _ he⟩, hi.at fun o q => k it (by simp) o q, hne⟩
  item := by
    intro X hP hw hK hc i pins s σ H E I hf ⟨⟨old, he⟩, hit, hne⟩ ⟨xs, x, hq, hx⟩
    subst hP hw hK
    obtain ⟨its, rv, p, hz⟩ := I.tuple hq
    obtain ⟨u, hu, ru⟩ := rv.get hx
    have l1 : e < s.heap.objs.size := Heap.lt_size he
    have l2 : it < s.heap.objs.size := by obtain ⟨_, q, _⟩ := hit; exact Heap.lt_size q
    have hi : i < its.toArray.size := by
      have := (List.getElem?_eq_some_iff.mp hu).1
      simpa using this
    have D := PySem.EnT.drawsT (prog := X.prog) (w := X.w) (A := X.A.in1) (show X.A.in1.handled = none from I.ok.hd hc) it a ne2 its.toArray
    refine wpAny_pyNext_enum_itemD D he ⟨hit, (show s.heap.IsTuple a its.toArray from p)⟩ hi hne (by simp [hne, Ne.symm ne3]) fun x' h' tk hP ho hit' hT hsz hk => ?_
    have ex : x' = u := by
      have q : its.toArray[i]? = some x' := hP
      rw [List.getElem?_toArray, hu] at q
      exact (Option.some.inj q).symm
    subst ex
    refine ⟨_, rfl, wpAny_letOwnedTupleGo_enum (s := { s with heap := h', toks := tk + 1 }) ho fun h'' he' sb => ?_⟩
    have t2 : h''.get? s.heap.objs.size = some { cls := .type "tuple", data := .seq #[.int i tk, x'] } := (sb.2 _ (Nat.ne_of_gt l1)).trans hT
    have fresh : ObjOk X.prog X.w (upd H s.heap.objs.size (.tup [.int (i : Nat), x])) h'' s.heap.objs.size (.tup [.int (i : Nat), x]) := ⟨by show 2 ≤ sizeLine; decide, [.int i tk, x'], .cons ⟨_, rfl⟩ (.cons ru .nil), ⟨_, t2, rfl, _, rfl⟩⟩
    have J : Inv X pins σ (upd H s.heap.objs.size (.tup [.int (i : Nat), x])) { s with heap := h'', toks := tk + 1 } := I.turnedNew (ch := [e, it]) (fun b ob hb q => (sb.2 b (fun z => hb (by simp [z]))).trans (hk b ob (fun z => hb (by simp [z])) (fun z => hb (by simp [z])) q)) hf (Nat.le_refl _) fresh
    refine ⟨.ref s.heap.objs.size, _, J, rfl, ⟨_, x, rfl, I.hok.fresh (Nat.le_refl _), rfl, fun zs hy => by rw [I.tuple_inj hy hq]; exact hx⟩, ⟨⟨x', ?_⟩, hit'.1.at fun o q => (sb.2 it (Ne.symm hne)).trans q, hne⟩, fun b hb => ?_⟩
    · rw [show ((i + 1 : Nat) : Int) = (i : Int) + 1 by omega]
      exact he'
    · have lb : b < s.heap.objs.size := by
        rcases (show b = e ∨ b = it by simpa using hb) with z | z <;> rw [z] <;> assumption
      rw [upd_ne (Nat.ne_of_lt lb)]
      exact (hf b hb).1
  done := by
    intro X hP hw hK hc i pins s σ H E I hf ⟨⟨old, he⟩, hit, hne⟩ ⟨xs, hq, hx⟩
    subst hP hw hK
    obtain ⟨its, rv, p, hz⟩ := I.tuple hq
    obtain ⟨f0, f1, f2, f3, f4, f5⟩ := hf it (by simp)
    have hl := rv.length
    exact PySem.EnT.endT (I.ok.hd hc) he hit (show s.heap.IsTuple a its.toArray from p) (by simp; omega) fun h' eb => ⟨rfl, I.turned (t' := s.toks) (fun b o hb q => eb b o hb q) f0 f1 f3 f4 f5⟩
  self := fun A i s Q E ⟨⟨_, he⟩, _⟩ h => wpAny_pyIter_enum he h
def iEnumT (K : PySem.W.Frag) (ta : TA) : TI := fun σ H R => ta σ H fun vs H1 => ∃ a xs, vs = [.ref a] ∧ SqT K H1 a xs ∧ R (Iet K a) H1
/-- enumerate(a tuple) -/
theorem pi_enumT {X : Cx} {e : Expr} {ta : TA} {p pos tpos : Pos} {elts : List Expr} {kk : Nat} (hg : Gl X "enumerate") (hm : X.mg "enumerate" = none) (ha : PA X [e] ta) (hs : starEach [e] X.env = [(false, eval e X.env)] := by rfl) : PI X (.Tuple elts kk tpos) (.Call (.Name "enumerate" p) [e] [] pos) (iEnumT X.K ta) := by
  refine ⟨fun pins s σ H R I h => ?_⟩
  refine Call_ (ld_blt I hg hm boot_enumerate (PyProof.Rows.callWith_type1 (thn (ha.run pos pins s σ H _ I h) fun us s1 ⟨vs, H1, I1, r1, a, xs, ex, hq, q⟩ => ?_) hs rfl))
  subst ex
  rw [Vals.ref1 r1]
  obtain ⟨its, rv, pt, hz⟩ := I1.tuple hq
  have old : a < s1.heap.objs.size := by
    obtain ⟨o, ho, _⟩ := (show s1.heap.IsTuple a its.toArray from pt)
    exact Heap.lt_size ho
  refine PySem.EnT.callT (show s1.heap.IsTuple a its.toArray from pt) fun h' he hit hsz hk => wpAny_pyIter_enum he ?_
  have I2 : Inv X pins σ H1 { s1 with heap := h' } := I1.kept (t' := s1.toks) hk
  refine ⟨s1.heap.objs.size + 1, [s1.heap.objs.size + 1, s1.heap.objs.size], _, _, H1, rfl, I2, turn_enT a (s1.heap.objs.size + 1) s1.heap.objs.size (Nat.ne_of_lt old) (Nat.ne_of_lt (Nat.lt_succ_of_lt old)), ⟨⟨.none, he⟩, hit, Nat.succ_ne_self _⟩, fun b hb => ?_, q⟩
  have hle : s1.heap.objs.size ≤ b := by
    rcases (show b = s1.heap.objs.size + 1 ∨ b = s1.heap.objs.size by simpa using hb) with z | z
    · rw [z]; exact Nat.le_succ _
    · rw [z]; exact Nat.le_refl _
  exact I1.fpOk hle (I1.hok.fresh hle)
theorem walk_enumT {K : PySem.W.Frag} {a : Addr} {xs : List V} : Walk (Iet K a) xs.length (fun H => SqT K H a xs) (YPair (fun i => some (.int (i : Nat))) (fun i => xs[i]?)) := by
  refine ⟨fun i _ hi q => ⟨xs, xs[i], q, by simp [hi]⟩, fun _ q => ⟨xs, q, Nat.le_refl _⟩, fun i H v H' _ q y => ?_⟩
  obtain ⟨U, x, h1, h2, h3, h4⟩ := y
  exact ⟨U, .int (i : Nat), x, h1, h2, h3, rfl, h4 xs q⟩
end L2
namespace Pr
open PySem PySem.Spec PyProof.Rows L2 Gd
/-! ### from_lines -/
/-- Gd C(..), C the class that the i-th slot holds -/
def tMakeL (i : Nat) (C : Addr) (sp : Sp) (E : XK) (t : TA) : TE := fun σ H Q => σ[i]? = some (some (.ref C)) ∧ t σ H fun vs H1 => ∀ x dx, H1 x = none → H1 dx = none → dx ≠ x → sp (.ref x :: (vs ++ [])) (upd (upd H1 dx (.own x)) x (.ins C dx [])) (fun v H2 => v = .non ∧ Q (.ref x) H2) E
theorem pe_makeL {X : Cx} {CX : CXT} {k i : Nat} {C f : Addr} {fd : FuncData} {ps : List Str} {sp : Sp} {E : XK} {x : Str} {p pos : Pos} {e : Expr} {es : List Expr} {t : TA} (M : Mk X.K C f) (F : FnOk X.prog X.w X.K X.mg X.base CX k f fd ps sp) (hr : Room (k + 1) X.A) (hN : X.N[i]? = some x) (hv : Vis X.env.scope x)
    (hb : Binds X.K fd ps []) (hx : Passes CX X E) (ha : PA X (e :: es) t) (hdb : (x == ("__debug__" : Str)) = false := by decide) (hcd : (x == ("__classdict__" : Str)) = false := by decide)
    (he : starEach (e :: es) X.env = (false, eval e X.env) :: starEach es X.env := by rfl) (hpl : (backTo pos (starEach es X.env)).any (·.1) = false := by rfl) : PE X (.Call (.Name x p) (e :: es) [] pos) (tMakeL i C sp E t) := by
  refine ⟨fun pins s σ H Q I h => ?_⟩
  obtain ⟨hs, ht⟩ := h
  refine wpAny_Call_Name_kw (thn ((pe_var (pos := p) hN hv hdb hcd).run pins s σ H (fun v H1 => v = .ref C ∧ H1 = H) I ⟨.ref C, hs, rfl, rfl⟩) fun u s1 ⟨v, H1, I1, r1, q1⟩ => ?_)
  obtain ⟨rfl, rfl⟩ := q1
  cases r1
  refine PySem.W.callWith_K (h₀ := X.base) I.ok.mod.kin M.kp (thn (ha.run pos pins s1 σ _ _ I1 ht) fun us s2 ⟨vs, H2, I2, r, q⟩ => ⟨I2.kIn, ?_⟩) he hpl
  exact run_make M F hr hb .nil hx I2 r q
/-- what lines make: the names with their arities, or the first index that is refused -/
def rd : Nat → List (Str × Nat) → List V → Nat ⊕ List (Str × Nat)
  | _, l, [] => .inr l
  | i, l, v :: vs => match lineOf v with
    | none => .inl i
    | some p => if p.1 ∈ l.map (·.1) then .inl i else rd (i + 1) (l ++ [p]) vs
theorem rd_none {i : Nat} {l : List (Str × Nat)} {v : V} {vs : List V} (h : lineOf v = none) : rd i l (v :: vs) = .inl i := by
  unfold rd
  rw [h]
theorem rd_again {i : Nat} {l : List (Str × Nat)} {v : V} {vs : List V} {p : Str × Nat} (h : lineOf v = some p) (c : p.1 ∈ l.map (·.1)) : rd i l (v :: vs) = .inl i := by
  unfold rd
  rw [h]
  exact if_pos c
theorem rd_more {i : Nat} {l : List (Str × Nat)} {v : V} {vs : List V} {p : Str × Nat} (h : lineOf v = some p) (c : p.1 ∉ l.map (·.1)) : rd i l (v :: vs) = rd (i + 1) (l ++ [p]) vs := by
  conv => lhs; unfold rd
  rw [h]
  exact if_neg c
/-- names with arities, each name once -/
structure Got (l : List (Str × Nat)) : Prop where
  nd : (l.map (·.1)).Nodup
  name : ∀ p ∈ l, azB p.1 = true
  two : ∀ p ∈ l, p.2 ≤ 2
theorem Got.nil : Got [] := ⟨.nil, fun _ m => (nomatch m), fun _ m => (nomatch m)⟩
theorem line_of {v : V} {p : Str × Nat} (h : lineOf v = some p) : azB p.1 = true ∧ p.2 ≤ 2 := by
  cases v with
  | str z =>
    obtain ⟨c, _, a, b⟩ := lineL_some (show lineL (sp z) = some p from h)
    exact ⟨a, (dig_two b).1⟩
  | _ => cases h
theorem Got.more {l : List (Str × Nat)} {v : V} {p : Str × Nat} (g : Got l) (h : lineOf v = some p) (n : p.1 ∉ l.map (·.1)) : Got (l ++ [p]) := by
  obtain ⟨a, b⟩ := line_of h
  refine ⟨?_, fun q m => ?_, fun q m => ?_⟩
  · rw [List.map_append, List.nodup_append]
    refine ⟨g.nd, by simp, fun x m y m2 e => n ?_⟩
    have e2 : y = p.1 := by simpa using m2
    rw [← e2, ← e]
    exact m
  · rcases List.mem_append.mp m with m | m
    · exact g.name q m
    · rw [List.mem_singleton.mp m]
      exact a
  · rcases List.mem_append.mp m with m | m
    · exact g.two q m
    · rw [List.mem_singleton.mp m]
      exact b
theorem Got.nice {l : List (Str × Nat)} (g : Got l) (h : l.length ≤ 1000) : Nice (dkv l) := by
  have e : (dkv l).length = l.length := List.length_map _
  have at_ : ∀ p ∈ dkv l, ∃ q ∈ l, p = (.inr q.1, .int (q.2 : Int)) := fun p m => by
    obtain ⟨q, mq, e⟩ := List.mem_map.mp m
    exact ⟨q, mq, e.symm⟩
  refine ⟨by rw [keys_dkv]; exact List.Pairwise.map Sum.inr (fun a b h e => h (Sum.inr.inj e)) g.nd, by omega, fun p m => ?_, fun p m z ez => ?_⟩
  · obtain ⟨q, mq, rfl⟩ := at_ p m
    exact Fl.int _
  · obtain ⟨q, mq, rfl⟩ := at_ p m
    cases ez
    have h2 : (decide (1 ≤ q.1.length) && decide (q.1.length ≤ 8) && q.1.cps.toList.all azC) = true := g.name q mq
    simp only [Bool.and_eq_true, decide_eq_true_eq] at h2
    omega
theorem Got.ok {l : List (Str × Nat)} (g : Got l) (h : 1 ≤ l.length ∧ l.length ≤ 8) : OpsOk l := ⟨h, g.nd, g.name, g.two⟩
theorem Got.bad {l : List (Str × Nat)} (h : ¬ (1 ≤ l.length ∧ l.length ≤ 8)) : goodK (dkv l) = false := by
  have e : (dkv l).length = l.length := List.length_map _
  unfold goodK
  by_cases a : 1 ≤ l.length
  · rw [decide_eq_false (show ¬ (dkv l).length ≤ 8 by omega), Bool.false_and, Bool.and_false]
  · rw [decide_eq_false (show ¬ 1 ≤ (dkv l).length by omega), Bool.false_and]
theorem rd_got : ∀ {vs : List V} {i : Nat} {l k : List (Str × Nat)}, Got l → rd i l vs = .inr k → Got k ∧ k.length = l.length + vs.length
  | [], i, l, k, g, h => by
    cases h
    exact ⟨g, rfl⟩
  | v :: vs, i, l, k, g, h => by
    unfold rd at h
    cases e : lineOf v with
    | none => rw [e] at h; cases h
    | some p =>
      rw [e] at h
      by_cases c : p.1 ∈ l.map (·.1)
      · have h : (if p.1 ∈ l.map (·.1) then Sum.inl i else rd (i + 1) (l ++ [p]) vs) = .inr k := h
        rw [if_pos c] at h
        cases h
      · have h : (if p.1 ∈ l.map (·.1) then Sum.inl i else rd (i + 1) (l ++ [p]) vs) = .inr k := h
        rw [if_neg c] at h
        obtain ⟨a, b⟩ := rd_got (g.more e c) h
        refine ⟨a, ?_⟩
        rw [List.length_append] at b
        simp at b ⊢
        omega
theorem dkv_inj : ∀ {l k : List (Str × Nat)}, dkv l = dkv k → l = k
  | [], [], _ => rfl
  | [], q :: k, h => by cases h
  | p :: l, [], h => by cases h
  | p :: l, q :: k, h => by
    have h : (((.inr p.1 : Key), V.int (p.2 : Int)) :: dkv l) = ((.inr q.1 : Key), V.int (q.2 : Int)) :: dkv k := h
    injection h with h1 h2
    injection h1 with h3 h4
    injection h3 with h5
    injection h4 with h6
    rw [dkv_inj h2]
    congr 1
    exact Prod.ext h5 (by omega)
/-- a value that can be a line -/
def Ln (H : Hp) (v : V) : Prop := (∃ ty, Kd H v ty) ∧ ∀ z, v = .str z → z.length ≤ 100000
theorem Ln.same {H H' : Hp} {v : V} (h : Ln H v) (s : Same H H') : Ln H' v := ⟨let ⟨ty, k⟩ := h.1; ⟨ty, k.same s⟩, h.2⟩
def numD (i : Nat) : HO := .xd [("number", .int (i : Int))]
/-- what from_lines does with these lines -/
structure FromQ (C CP CI : Addr) (rest : List V) (H : Hp) (Q : VK) (E : XK) : Prop where
  all : ∀ v ∈ rest, Ln H v
  few : rest.length ≤ 1000
  parse : ∀ i, rd 0 [] rest = .inl i → ∀ H' d, Same H H' → H' d = none → E (.ref CP) (some d) (upd H' d (numD i))
  bad : ∀ l, rd 0 [] rest = .inr l → ¬ (1 ≤ l.length ∧ l.length ≤ 8) → ∀ H', Same H H' → E (.ref CI) none H'
  good : ∀ l, rd 0 [] rest = .inr l → OpsOk l → ∀ (l' : List (Str × Nat)) (x : Addr) (H' : Hp), l'.Perm l → sortedS (l'.map (·.1)) = true → Same H H' → OpsAt H' C x l' → Q (.ref x) H'
theorem FromQ.up {C CP CI : Addr} {rest : List V} {H H1 : Hp} {Q : VK} {E : XK} (h : FromQ C CP CI rest H Q E) (s : Same H H1) : FromQ C CP CI rest H1 Q E :=
  ⟨fun v m => (h.all v m).same s, h.few, fun i e H' d s2 => h.parse i e H' d (s.trans s2), fun l e n H' s2 => h.bad l e n H' (s.trans s2), fun l e ok l' x H' p t s2 => h.good l e ok l' x H' p t (s.trans s2)⟩
def spFromB (C CP CI : Addr) : Sp := fun vs H Q E => ∃ (p : Addr) (rest : List V), vs = [.ref C, .ref p] ∧ H p = some (.tup rest) ∧ FromQ C CP CI rest H Q E
def spFrom (C CP CI : Addr) : Sp := fun vs H Q E => ∃ rest, vs = .ref C :: rest ∧ FromQ C CP CI rest H Q E
section
variable {P : Program} {w : World} {K : PySem.W.Frag} {mg : Str → Option Value} {base : Heap} {C CP CI fI fO fN : Addr} {dI dO : FuncData}
theorem scFrom : FnScope ["cls", "lines", "arities", "index", "line", "operator"] ["cls", "lines"] (defScope mFrom) := ⟨rfl, rfl, rfl, by decide +kernel, rfl, by decide +kernel, by decide +kernel⟩
theorem ok_fromB {cdv : Value} {f : Addr} {A : Around} {outer : List Env} {s : Shared} {H : Hp} {vs : List V} {Q : VK} {E : XK} (T : Free mg) (M : Mk K C fI) (GI : FnOk P w K mg base (L2.CX P w) 3 fI dI ["self", "arities"] (spInit C CI)) (bI : Binds K dI ["self", "arities"] [])
    (L : PySem.PeX.PeTxt K mg CP fN) (GO : FnOk P w K mg base CX0 2 fO dO ["line"] spOper) (FO : Fun K "operator_of" "operator_of" sOper fO dO) (bO : Binds K dO ["line"] []) (gO : mg "operator_of" = some (.ref fO))
    (hr : Room 4 (A.deeper (envOfC "Operators.from_lines" (defScope mFrom) s.heap.objs.size f cdv))) (h : spFromB C CP CI vs H Q E) :
    ∃ t, PSs (cxOf (L2.CX P w) P w K mg base ["cls", "lines", "arities", "index", "line", "operator"] "Operators.from_lines" (defScope mFrom) f cdv A outer s H E) (defBody mFrom) t ∧ t { nx := fun _ H' => Q .non H', rt := Q } (start ["cls", "lines", "arities", "index", "line", "operator"] vs) H := by
  obtain ⟨p, rest, rfl, hp, fq⟩ := h
  have hu := hr.units
  have hu1 : ∀ {u : Nat}, u + 64 < cLine → u + 1 < cLine := fun h => by omega
  have r2 : Room 2 _ := hr.mono (by decide)
  refine ⟨_, pss_cons (ps_set (i := 2) scFrom.nd rfl (.inl rfl) pe_dnewK)
    (pss_cons (ps_for (passes_of rfl) rfl (pi_enumT (by rfl) T.enum (pa_cons (pv 1) pa_nil)) (pg_tup rfl (pgs_cons (pg_name (i := 3) scFrom.nd rfl (.inl rfl)) (pgs_cons (pg_name (i := 4) scFrom.nd rfl (.inl rfl)) pgs_nil)))
      (pss_cons (ps_set (i := 5) scFrom.nd rfl (.inl rfl) (pe_call GO r2 (by rfl) gO FO.kp bO .nil pass0 (pa_cons (pv 4) pa_nil)))
      (pss_cons (ps_if (PW.pt (pw_or (pt_cmpR op_isN (pv 5) pe_non (nomark _)) (pw_or1 (pt_cmp (pc_din (hu1 hu) (pe_ix ix_tup (pv 5) pe_int (fun _ _ => rfl)) (pv 2)))))) (pss_one (ps_raisePe rfl L hr (takes_of rfl rfl rfl rfl) (by exact (pa_cons (pv 3) pa_nil)))) pss_nil)
      (pss_one (ps_asg (pe_ix ix_tup (pv 5) pe_int (fun _ _ => rfl)) (pg_sub (pv 2) (pe_ix ix_tup (pv 5) pe_int (fun _ _ => rfl)) (set_dict (Nat.lt_of_le_of_lt (Nat.add_le_add_left (by decide : 1 ≤ 64) _) hu))))))))
    (pss_one (ps_ret (pe_makeL (i := 0) M GI hr rfl (.inl (by rfl)) bI (passes_call (takes_of rfl rfl rfl rfl) (fun _ _ _ _ h => h)) (pa_cons (pv 2) pa_nil))))), ?_⟩
  refine fun D nD => ?_
  have pD : p ≠ D := ne_of_none hp nD
  have s1 : Same H (upd H D (.dK [])) := Same.new nD
  refine ⟨_, rfl, p, rest, rfl, SqT.of (s1 _ _ hp), ?_⟩
  refine for_it (walk_enumT (xs := rest)) (fun i σ G => ∃ (v3 v4 v5 : Option V) (l : List (Str × Nat)), σ = [some (.ref C), some (.ref p), some (.ref D), v3, v4, v5] ∧ Same H G ∧ G D = some (.dK (dkv l)) ∧ Got l ∧ l.length = i ∧ rd 0 [] rest = rd i l (rest.drop i))
    ⟨none, none, none, [], rfl, s1, upd_same, Got.nil, rfl, rfl⟩ (fun i σ G _ ⟨_, _, _, _, _, s, _⟩ => SqT.of (s _ _ hp)) ?_ ?_
  · rintro i x σ G G1 hi ⟨v3, v4, v5, l, rfl, sm, hD, got, ll, er⟩ ⟨U, x1, x2, rfl, nU, rfl, e1, e2⟩
    cases e1
    have hd : rest.drop i = rest[i] :: rest.drop (i + 1) := List.drop_eq_getElem_cons hi
    have e3 : rest[i]? = some x2 := e2
    rw [List.getElem?_eq_getElem hi] at e3
    cases e3
    rw [hd] at er
    have lny := (fq.all rest[i] (List.getElem_mem hi)).same sm
    have few := fq.few
    generalize rest[i] = y at er lny
    refine ⟨U, _, rfl, SqT.of upd_same, rfl, ?_⟩
    have s2 := sm.trans (Same.new nU (o := .tup [.int (i : Nat), y]))
    have lny2 := lny.same (Same.new nU (o := .tup [.int (i : Nat), y]))
    have hD2 := (Same.new nU (o := .tup [.int (i : Nat), y])) _ _ hD
    generalize upd G U (.tup [.int (i : Nat), y]) = G2 at s2 lny2 hD2 ⊢
    obtain ⟨⟨ty, ky⟩, hz⟩ := lny2
    refine ⟨_, _, rfl, _, _, rfl, rfl, ?_⟩
    refine ⟨_, rfl, y, ty, rfl, ky, hz, fun en G3 s3 => ?_, fun z n es G3 t s3 nt ht => ?_⟩
    · rw [rd_none en] at er
      refine ⟨_, rfl, rfl, _, rfl, if_true_of rfl (if_true_of rfl ⟨_, rfl, .int (i : Nat), rfl, fun d nd => fq.parse i er _ d (s2.trans s3) nd⟩)⟩
    · have s23 := s2.trans s3
      have hD3 := s3 _ _ hD2
      by_cases c : z ∈ l.map (·.1)
      · obtain ⟨pz, mz, ez⟩ := List.mem_map.mp c
        have vz := val_mem (kvs := dkv l) (p := (.inr z, .int (pz.2 : Int))) (by rw [keys_dkv]; exact List.Pairwise.map Sum.inr (fun a b h e => h (Sum.inr.inj e)) got.nd) (List.mem_map.mpr ⟨pz, mz, by rw [← ez]⟩)
        rw [rd_again es c] at er
        refine ⟨_, rfl, rfl, _, rfl, if_false_of rfl ⟨_, rfl, t, _, 0, _, rfl, rfl, SqT.of ht, rfl, _, rfl, D, _, rfl, vz ▸ DGet.k (k := .inr z) hD3, _, rfl, if_true_of rfl ⟨_, rfl, .int (i : Nat), rfl, fun d nd => fq.parse i er _ d s23 nd⟩⟩⟩
      · have vz := val_none c
        rw [rd_more es c] at er
        refine ⟨_, rfl, rfl, _, rfl, if_false_of rfl ⟨_, rfl, t, _, 0, _, rfl, rfl, SqT.of ht, rfl, _, rfl, D, _, rfl, vz ▸ DGet.k (k := .inr z) hD3, _, rfl, if_false_of rfl ?_⟩⟩
        have el : (dkv l).length = l.length := List.length_map _
        refine ⟨_, rfl, t, _, 1, _, rfl, rfl, SqT.of ht, rfl, _, rfl, _, rfl, t, _, 0, _, rfl, rfl, SqT.of ht, rfl, D, _, rfl, DPut.k (k := .inr z) hD3 ?_, ?_⟩
        · rw [el, sizeLine_eq]
          omega
        · refine ⟨some (.int (i : Nat)), some y, some (.ref t), l ++ [(z, n)], rfl, fun b u e => ?_, ?_, got.more es c, by rw [List.length_append, ll]; rfl, er⟩
          · rw [upd_ne (ne_of_none e nD)]
            exact s23 b u e
          · rw [upd_same, put_end c]
  · rintro σ G ⟨v3, v4, v5, l, rfl, sm, hD, got, ll, er⟩
    have few := fq.few
    have er : rd 0 [] rest = .inr l := by
      rw [er, List.drop_length]
      rfl
    have nice := got.nice (by omega)
    refine ⟨rfl, _, rfl, fun x dx nx ndx ne => ?_⟩
    have s0 : Same G (upd (upd G dx (.own x)) x (.ins C dx [])) := (Same.new ndx).trans (Same.new (by rw [upd_ne ne.symm]; exact nx))
    have kx : ∀ {H' : Hp}, Kp x (upd (upd G dx (.own x)) x (.ins C dx [])) H' → Same H H' := fun {H'} k b u e => by
      have nb : b ≠ x := ne_of_none (sm b u e) nx
      exact k b u nb (s0 b u (sm b u e))
    refine ⟨x, dx, .ref D, _, rfl, upd_same, .dict (s0 _ _ hD) nice, fun bf H' s' => ?_, fun a l0 bt ea ha ok l' H' pl srt kp op => ⟨rfl, ?_⟩⟩
    · refine fq.bad l er (fun h => ?_) _ ((sm.trans s0).trans s')
      rw [(good_of (got.ok h)).2] at bf
      cases bf
    · cases ea
      rw [s0 _ _ hD] at ha
      have el : dkv l = dkv l0 := by
        injection ha with h
        injection h
      have e0 : l = l0 := dkv_inj el
      subst e0
      exact fq.good l er ok l' x H' pl srt (kx kp) op
theorem fn_from {f : Addr} {fd : FuncData} (F : Fun K "from_lines" "Operators.from_lines" mFrom f fd) (T : Free mg) (M : Mk K C fI) (GI : FnOk P w K mg base (L2.CX P w) 3 fI dI ["self", "arities"] (spInit C CI)) (bI : Binds K dI ["self", "arities"] [])
    (L : PySem.PeX.PeTxt K mg CP fN) (GO : FnOk P w K mg base CX0 2 fO dO ["line"] spOper) (FO : Fun K "operator_of" "operator_of" sOper fO dO) (bO : Binds K dO ["line"] []) (gO : mg "operator_of" = some (.ref fO)) : FnR P w K mg base (L2.CX P w) 5 f (spFrom C CP CI) := by
  obtain ⟨oc, od, kV, doc, pm, an, cdv, ct, osl, rfl, lk, hcd⟩ := F.ex
  have z := StX.fn_star (k := 4) (sp := spFromB C CP CI) (ps := ["cls"]) (pv := "lines") (P := P) (w := w) (mg := mg) (base := base) lk hcd scFrom StX.cxUp (fun us rest hl => match us, rest, hl with | [_], [], _ => rfl | [_], _ :: _, _ => rfl) (fun A outer s H vs Q E hr h => ok_fromB T M GI bI L GO FO bO gO hr h)
  intro A outer s H us vs Q E hr e0 r h
  obtain ⟨rest, rfl, fq⟩ := h
  refine z A outer s H us _ Q E hr e0 r ⟨[.ref C], rest, rfl, rfl, by have := fq.few; rw [sizeLine_eq]; omega, fun p np => ?_⟩
  exact ⟨p, rest, rfl, upd_same, fq.up (Same.new np)⟩
end
end Pr
namespace Pr
open PySem PySem.Spec PyProof.Rows L2 Gd
/-! ### names in their one order -/
theorem not_lt_trans {a b c : List Nat} (h : ¬ b < a) (k : ¬ c < b) : ¬ c < a := List.not_lt.mpr (List.le_trans (List.not_lt.mp h) (List.not_lt.mp k))
theorem rising_all : ∀ (p : Str) (l : List Str), risingS p l = true → ∀ x ∈ l, ¬ x.cps.toList < p.cps.toList
  | _, [], _, x, m => nomatch m
  | p, y :: r, h, x, m => by
    have h' : (!ltCps y.cps.toList p.cps.toList && risingS y r) = true := h
    rw [Bool.and_eq_true, ltCps_eq] at h'
    have h1 : ¬ y.cps.toList < p.cps.toList := by simpa using h'.1
    rcases List.mem_cons.mp m with rfl | m
    · exact h1
    · exact not_lt_trans h1 (rising_all y r h'.2 x m)
theorem rising_pair : ∀ (p : Str) (l : List Str), risingS p l = true → (p :: l).Pairwise fun a b => ¬ b.cps.toList < a.cps.toList
  | p, [], _ => by simp
  | p, y :: r, h => by
    have h' : (!ltCps y.cps.toList p.cps.toList && risingS y r) = true := h
    rw [Bool.and_eq_true] at h'
    exact List.pairwise_cons.mpr ⟨rising_all p (y :: r) h, rising_pair y r h'.2⟩
theorem sorted_pair : ∀ (l : List Str), sortedS l = true → l.Pairwise fun a b => ¬ b.cps.toList < a.cps.toList
  | [], _ => .nil
  | p :: r, h => rising_pair p r h
theorem str_ext {a b : Str} (h : a.cps.toList = b.cps.toList) : a = b := by
  cases a
  cases b
  congr 1
  exact Array.toList_inj.mp h
theorem sorted_one {xs ys : List Str} (hx : sortedS xs = true) (hy : sortedS ys = true) (p : xs.Perm ys) : xs = ys :=
  List.Perm.eq_of_pairwise (fun a b _ _ h k => str_ext (List.le_antisymm (List.not_lt.mp h) (List.not_lt.mp k))) (sorted_pair xs hx) (sorted_pair ys hy) p
/-! ### what operators tell -/
def spPA (C : Addr) : Sp := fun vs H Q _ => ∃ (o : Addr) (l : List (Str × Nat)), vs = [.ref o] ∧ OpsAt H C o l ∧ ∀ p, H p = none → Q (.ref p) (upd H p (.dK (dkv l)))
def spPL (C : Addr) : Sp := fun vs H Q _ => ∃ (o : Addr) (l : List (Str × Nat)), vs = [.ref o] ∧ OpsAt H C o l ∧ ∀ tn, H tn = some (.tup (l.map lnV)) → Q (.ref tn) H
section
variable {P : Program} {w : World} {K : PySem.W.Frag} {mg : Str → Option Value} {base : Heap} {C : Addr}
theorem scPL : FnScope ["self"] ["self"] (defScope mLines) := ⟨rfl, rfl, rfl, by decide +kernel, rfl, by decide +kernel, by decide +kernel⟩
theorem ok_pl {f : Addr} {fd : FuncData} (F : Fun K "lines" "Operators.lines" mLines f fd) (cf : OpF K C) (T : Free mg) : FnOk P w K mg base CX0 1 f fd ["self"] (spPL C) := by
  refine F.ok scPL (fun vs H Q E h => ?_) (fun cdv A outer s H vs Q E hr h => ?_)
  · obtain ⟨o, l, rfl, _⟩ := h
    rfl
  · obtain ⟨o, l, rfl, op, q⟩ := h
    refine ⟨_, pss_one (ps_ret (pe_fld (pv 0) rfl)), ?_⟩
    obtain ⟨dx, tn, ta, tl, ho, hn, ha, hl⟩ := op.ex
    exact ⟨_, rfl, o, C, dx, _, _, rfl, ho, cf.cls, cf.n3, rfl, q tl.1 hl⟩
theorem scPA : FnScope ["self"] ["self"] (defScope mArities) := ⟨rfl, rfl, rfl, by decide +kernel, rfl, by decide +kernel, by decide +kernel⟩
theorem ok_pa {f : Addr} {fd : FuncData} (F : Fun K "arities" "Operators.arities" mArities f fd) (cf : OpF K C) (T : Free mg) : FnOk P w K mg base CX0 1 f fd ["self"] (spPA C) := by
  refine F.ok scPA (fun vs H Q E h => ?_) (fun cdv A outer s H vs Q E hr h => ?_)
  · obtain ⟨o, l, rfl, _⟩ := h
    rfl
  · obtain ⟨o, l, rfl, op, q⟩ := h
    refine ⟨_, pss_one (ps_ret (pe_callTy call_dictD (by rfl) T.dict (by decide +kernel) (pa_cons (pe_fld (pv 0) rfl) pa_nil))), ?_⟩
    obtain ⟨dx, tn, ta, tl, ho, hn, ha, hl⟩ := op.ex
    exact ⟨_, rfl, o, C, dx, _, _, rfl, ho, cf.cls, cf.n2, rfl, ta, _, rfl, .inl ha, q⟩
end
end Pr
namespace Pr
open PySem PySem.Spec PyProof.Rows L2 Gd
/-! ### _law_made_of -/
/-- a new object, made in a try -/
def tMakeS (C : Addr) (sp : Sp) (E : L2.St → XK) (t : TA) : TE := fun σ H Q => t σ H fun vs H1 => ∀ x dx, H1 x = none → H1 dx = none → dx ≠ x → sp (.ref x :: (vs ++ [])) (upd (upd H1 dx (.own x)) x (.ins C dx [])) (fun v H2 => v = .non ∧ Q (.ref x) H2) (E σ)
section
variable {X : Cx} {CX : CXT} {k : Nat} {C f : Addr} {fd : FuncData} {ps : List Str} {sp : Sp} {x : Str} {p pos : Pos} {e : Expr} {es : List Expr} {t : TA}
theorem run_makeS {pins : List (Addr × Obj)} {σ : L2.St} {H : Hp} {s : Shared} {Q : VK} {E : XK} {us ds : List Value} {vs dvs : List V} (M : Mk X.K C f) (F : FnOk X.prog X.w X.K X.mg X.base CX k f fd ps sp) (hr : Room (k + 1) X.A) (hb : Binds X.K fd ps ds) (hd : Vals dvs ds)
    (hx : PassesAt CX X σ E) (I : Inv X pins σ H s) (r : Vals vs us)
    (h : ∀ x dx, H x = none → H dx = none → dx ≠ x → sp (.ref x :: (vs ++ dvs)) (upd (upd H dx (.own x)) x (.ins C dx [])) (fun v H2 => v = .non ∧ Q (.ref x) H2) E) : wpAny (model X.prog X.w) X.A (call (.ref C) us) (EP X pins σ Q) X.xe s := by
  have hq := h (s.heap.objs.size + 1) s.heap.objs.size (I.hok.fresh (Nat.le_succ _)) (I.hok.fresh (Nat.le_refl _)) (Nat.ne_of_lt (Nat.lt_succ_self _))
  have I2 := Inv.made (C := C) I
  have r2 : Vals (V.ref (s.heap.objs.size + 1) :: (vs ++ dvs)) (Value.ref (s.heap.objs.size + 1) :: (us ++ ds)) := .cons rfl (r.append hd)
  have hl : (Value.ref (s.heap.objs.size + 1) :: us ++ ds).length = ps.length := by
    have e := r2.length
    rw [F.len _ _ _ _ hq] at e
    exact e.symm
  refine wpAny_call (make_map (f := f) I.kIn M.makes M.init (beq_iff_eq.mp M.fn) (codeAny_mono (F.run _ X.stack _ _ ⟨Value.ref (s.heap.objs.size + 1) :: us, []⟩ (Value.ref (s.heap.objs.size + 1) :: (us ++ ds)) _ _ E (hr.make C us [])
    (I2.env0.make C us []) (hb _ (Value.ref (s.heap.objs.size + 1) :: us) I2.kIn hl) r2 hq) fun r s' hq' => ?_))
  cases r with
  | error e => exact hx pins _ _ e s' I2 hq'
  | ok fl =>
    cases fl with
    | ret u =>
      obtain ⟨v, H', I3, rv, ev, q3⟩ := I2.after hq'
      subst ev
      exact ⟨rv, ⟨V.ref (s.heap.objs.size + 1), H', I3, rfl, q3⟩⟩
    | next => exact False.elim hq'
    | brk => exact False.elim hq'
    | cont => exact False.elim hq'
theorem pe_makeS {E : L2.St → XK} (M : Mk X.K C f) (F : FnOk X.prog X.w X.K X.mg X.base CX k f fd ps sp) (hr : Room (k + 1) X.A) (hg : Gl X x) (hm : X.mg x = some (.ref C)) (hb : Binds X.K fd ps []) (hx : ∀ σ, PassesAt CX X σ (E σ))
    (ha : PA X (e :: es) t) (hdb : (x == ("__debug__" : Str)) = false := by decide) (he : starEach (e :: es) X.env = (false, eval e X.env) :: starEach es X.env := by rfl) (hpl : (backTo pos (starEach es X.env)).any (·.1) = false := by rfl) :
    PE X (.Call (.Name x p) (e :: es) [] pos) (tMakeS C sp E t) := by
  refine ⟨fun pins s σ H Q I h => ?_⟩
  refine wpAny_Call_Name_kw (ld_glob I hg hm ?_ hdb)
  refine PySem.W.callWith_K (h₀ := X.base) I.ok.mod.kin M.kp (thn (ha.run pos pins s σ H _ I h) fun us s1 ⟨vs, H1, I1, r, q⟩ => ⟨I1.kIn, ?_⟩) he hpl
  exact run_makeS M F hr hb .nil (hx σ) I1 r q
end
/-- the class, its maker and its arities -/
structure OpsC (P : Program) (w : World) (K : PySem.W.Frag) (mg : Str → Option Value) (base : Heap) (C CI fI pA gA : Addr) (dI dA : FuncData) : Prop where
  cf : OpF K C
  io : IopF K mg CI
  g : mg "Operators" = some (.ref C)
  M : Mk K C fI
  GI : FnOk P w K mg base (L2.CX P w) 3 fI dI ["self", "arities"] (spInit C CI)
  bI : Binds K dI ["self", "arities"] []
  prA : PropOf K C "arities" pA gA
  GA : FnOk P w K mg base CX0 1 gA dA ["self"] (spPA C)
  bA : Binds K dA ["self"] []
  te : PySem.W.exmOne K (.ref CI) (.ref CI) = some true
/-- what stands at o is just the operators over l -/
def spMade : Sp := fun vs H Q _ => ∃ (v : V) (b : Bool), vs = [v] ∧ AreB H v b ∧ (b = false → ∀ H', Same H H' → Q (.str "operators") H') ∧
  (∀ a l, b = true → v = .ref a → H a = some (.dK (dkv l)) → OpsOk l → ∀ (l' : List (Str × Nat)) (q : Addr) (H' : Hp), l'.Perm l → sortedS (l'.map (·.1)) = true → Same H H' → H q = none → H' q = some (.dK (dkv l')) → Q (.ref q) H')
section
variable {P : Program} {w : World} {K : PySem.W.Frag} {mg : Str → Option Value} {base : Heap} {C CI fI pA gA : Addr} {dI dA : FuncData}
theorem scMade : FnScope ["value"] ["value"] (defScope sMade) := ⟨rfl, rfl, rfl, by decide +kernel, rfl, by decide +kernel, by decide +kernel⟩
theorem ok_made {f : Addr} {fd : FuncData} (F : Fun K "_law_made_of" "_law_made_of" sMade f fd) (O : OpsC P w K mg base C CI fI pA gA dI dA) : FnOk P w K mg base CX0 5 f fd ["value"] spMade := by
  refine F.ok scMade (fun vs H Q E h => ?_) (fun cdv A outer s H vs Q E hr h => ?_)
  · obtain ⟨v, b, rfl, _⟩ := h
    rfl
  · obtain ⟨v, b, rfl, ab, q0, q1⟩ := h
    have r2 : Room 2 _ := hr.mono (by decide)
    refine ⟨_, pss_one (ps_try_many (tb := fun W => tRet (tProp C (spPA C) [] E0 (tMakeS C (spInit C CI) (WE W) (tCons (tVar 0) tNil)))) (Wout := fun _ _ _ _ => False) rfl rfl takes0
      (fun W pn xe tk _ => pss_one (ps_ret (by exact (pe_prop (pe_makeS O.M O.GI hr rfl O.g O.bI (fun σ => passAt tk σ) (by exact (pa_cons (pv 0) pa_nil))) O.cf.cls O.prA O.GA r2 O.bA .nil pass0 rfl))))
      (.cons (c := .ref CI) ⟨rfl, by decide, Or.inl O.io.g⟩ (fun a oe cls d pn hz hf => pss_one (ps_ret pe_str)) .nil)), ?_⟩
    refine ⟨_, rfl, fun x dx nx ndx ne => ?_⟩
    have s0 : Same H (upd (upd H dx (.own x)) x (.ins C dx [])) := (Same.new ndx).trans (Same.new (by rw [upd_ne ne.symm]; exact nx))
    have kx : ∀ {H' : Hp}, Kp x (upd (upd H dx (.own x)) x (.ins C dx [])) H' → Same H H' := fun {H'} k b u e => by
      have nb : b ≠ x := ne_of_none e nx
      exact k b u nb (s0 b u e)
    refine ⟨x, dx, v, b, rfl, upd_same, ab.same s0, fun bf H' s' => ?_, fun a l bt ea ha ok l' H' pl srt kp op => ⟨rfl, ?_⟩⟩
    · exact ⟨true, O.te, fun _ a _ => q0 bf H' (s0.trans s'), fun z => Bool.noConfusion z⟩
    · obtain ⟨dx2, tn, ta, tl, ho, hn, hta, hl⟩ := op.ex
      refine ⟨x, dx2, _, rfl, ho, x, l', rfl, op, fun p np => ?_⟩
      have ha0 : H a = some (.dK (dkv l)) := by
        by_cases c : a = x
        · rw [c, upd_same] at ha
          cases ha
        · rw [upd_ne c] at ha
          by_cases c2 : a = dx
          · rw [c2, upd_same] at ha
            cases ha
          · rw [upd_ne c2] at ha
            exact ha
      exact q1 a l bt ea ha0 ok l' p _ pl srt ((kx kp).trans (Same.new np)) ((kx kp).free np) upd_same
end
end Pr
namespace Pr
open PySem PySem.Spec PyProof.Rows L2 Gd
theorem azC_le (c : Nat) : (!decide (([c] : List Nat) < [97]) && !decide (([122] : List Nat) < [c])) = azC c := by
  have e1 : (([c] : List Nat) < [97]) ↔ c < 97 := by simp [List.cons_lt_cons_iff]
  have e2 : (([122] : List Nat) < [c]) ↔ 122 < c := by simp [List.cons_lt_cons_iff]
  unfold azC
  by_cases h1 : c < 97
  · rw [decide_eq_true (e1.mpr h1), decide_eq_false (show ¬ 97 ≤ c by omega)]
    rfl
  · rw [decide_eq_false (fun h => h1 (e1.mp h)), decide_eq_true (show 97 ≤ c by omega)]
    by_cases h2 : 122 < c
    · rw [decide_eq_true (e2.mpr h2), decide_eq_false (show ¬ c ≤ 122 by omega)]
      rfl
    · rw [decide_eq_false (fun h => h2 (e2.mp h)), decide_eq_true (show c ≤ 122 by omega)]
      rfl
theorem take_all {l : List Nat} {p : Nat → Bool} {i c : Nat} (h : l[i]? = some c) : (l.take (i + 1)).all p = ((l.take i).all p && p c) := by
  rw [List.take_add_one, h, List.all_append]
  simp
/-- the signs that are no small letters -/
def offs (l : List Nat) : List V := (l.filter fun c => !azC c).map fun c => .str ⟨#[c]⟩
theorem offs_len (l : List Nat) : (offs l).length ≤ l.length := by
  unfold offs
  rw [List.length_map]
  exact List.length_filter_le _ _
theorem offs_more {l : List Nat} {i c : Nat} (h : l[i]? = some c) : offs (l.take (i + 1)) = offs (l.take i) ++ (if azC c then [] else [.str ⟨#[c]⟩]) := by
  unfold offs
  rw [List.take_add_one, h, List.filter_append, List.map_append]
  cases e : azC c <;> simp [e]
theorem offs_empty (l : List Nat) : l.all azC = (offs l).isEmpty := by
  unfold offs
  induction l with
  | nil => rfl
  | cons c r ih =>
    cases e : azC c
    · simp [e]
    · simp only [List.all_cons, e, Bool.true_and, ih]
      simp [e]
/-- is_named, and each one of several values: the same promise as is_name's, for each state of the heap -/
def spNamed : Sp := fun vs H Q _ => ∃ (v : V) (t : String), vs = [v] ∧ Kd H v t ∧ (∀ z, v = .str z → z.length ≤ 1000000) ∧ ∀ H', Same H H' → Q (.bl (nameB v)) H'
section
variable {P : Program} {w : World} {K : PySem.W.Frag} {mg : Str → Option Value} {base : Heap}
theorem scNamed : FnScope ["value", "letter"] ["value"] (defScope sNamed) := ⟨rfl, rfl, rfl, by decide +kernel, rfl, by decide +kernel, by decide +kernel⟩
theorem ok_named {f : Addr} {fd : FuncData} (F : Fun K "_law_is_named" "_law_is_named" sNamed f fd) (T : Free mg) : FnOk P w K mg base CX0 1 f fd ["value"] spNamed := by
  refine F.ok scNamed (fun vs H Q E h => ?_) (fun cdv A outer s H vs Q E hr h => ?_)
  · obtain ⟨v, t, rfl, _⟩ := h
    rfl
  · obtain ⟨v, t, rfl, kd, hz, q⟩ := h
    have hu := hr.units
    refine ⟨_, pss_cons (ps_if (PW.pt (pw_or (pt_not (pt_val (pe_callB call_isi (by rfl) T.isi (by decide +kernel) (pa_cons (pv 0) (pa_cons (pe_bltn (v := .ty "str") (by rfl) T.str (by decide +kernel) rfl) pa_nil)))))
        (pw_or1 (pt_not (pt_chain op_le op_le pe_int (pe_callB call_len_str (by rfl) T.len PySem.boot_len (pa_cons (pv 0) pa_nil)) pe_int))))) (pss_one (ps_ret pe_bl)) pss_nil)
      (pss_one (ps_ret (pe_cmpR (op_eqE hu) (pe_lc (own := [("letter", 1)]) (g := gName 1) (by rfl) scNamed.nd (pi_str (pv 0)) (blkOk_by (own := [("letter", 1)]) (N := ["value", "letter"]) (sc := defScope sNamed) (by decide +kernel))
          (fun _ _ _ _ _ => pg_name (i := 1) scNamed.nd rfl (Or.inl rfl)) (fun _ _ _ _ _ => pts_one (pt_not (pt_chain op_le_str op_le_str pe_str (pv 1) pe_str))) (fun _ _ _ _ _ => pv 1)) (pe_lst pa_nil) (nomark _)))), ?_⟩
    refine ⟨_, rfl, v, _, _, _, _, rfl, .ty "str", kd.ty, kit_str kd, _, rfl, ?_⟩
    cases kd with
    | str z =>
      have l := hz z rfl
      refine iteF ⟨_, rfl, z, rfl, by rw [sizeLine_eq]; omega, _, _, rfl, rfl, _, rfl, ite2 (fun c1 => ?_) (fun c1 => ?_)⟩
      · have l1 : 1 ≤ z.length := by
          have := of_decide_eq_true c1
          omega
        refine ⟨_, _, rfl, rfl, _, rfl, ite2 (fun c2 => ?_) (fun c2 => ?_)⟩
        · have l8 : ¬ z.length ≤ 8 := fun h => by
            rw [decide_eq_true (show (z.length : Int) ≤ 8 by omega)] at c2
            cases c2
          have e : nameB (.str z) = false := by
            show (_ && _ && _) = false
            rw [decide_eq_false l8, Bool.and_false, Bool.false_and]
          rw [e] at q
          exact q _ (Same.refl _)
        · have l8 : z.length ≤ 8 := by
            rcases Nat.lt_or_ge 8 z.length with h | h
            · exact absurd (by rw [decide_eq_false (show ¬ (z.length : Int) ≤ 8 by omega)]; rfl) c2
            · exact h
          -- the signs that are none
          refine ⟨_, rfl, z, rfl, fun D nD => lc_signs (x := z) (fun i H' => H' D = some (.lst (offs (z.cps.toList.take i))) ∧ Same H H') ⟨upd_same, Same.new nD⟩ ?_ ?_⟩
          · rintro i c H' hc ⟨e, s'⟩
            have hc' : z.cps.toList[i]? = some c := by simpa using hc
            have il : i < z.length := (Array.getElem?_eq_some_iff.mp hc).1
            have az := azC_le c
            have keep : azC c = false → ∃ acc, H' D = some (.lst acc) ∧ acc.length < sizeLine ∧ (upd H' D (.lst (acc ++ [.str ⟨#[c]⟩]))) D = some (.lst (offs (z.cps.toList.take (i + 1)))) ∧ Same H (upd H' D (.lst (acc ++ [.str ⟨#[c]⟩]))) := fun ea => by
              refine ⟨_, e, ?_, ?_, fun b u h => ?_⟩
              · exact Nat.lt_of_le_of_lt (offs_len _) (small1000 (by rw [List.length_take]; omega))
              · rw [upd_same, offs_more hc', ea]
                rfl
              · rw [upd_ne (ne_of_none h nD)]
                exact s' b u h
            have skip : azC c = true → H' D = some (.lst (offs (z.cps.toList.take (i + 1)))) ∧ Same H H' := fun ea => by
              rw [offs_more hc', ea]
              exact ⟨by simpa using e, s'⟩
            refine ⟨rfl, _, rfl, _, _, rfl, rfl, _, rfl, ite2 (fun k1 => ?_) (fun k1 => ?_)⟩
            · have k1' : (!decide (([c] : List Nat) < [97])) = true := k1
              rw [k1', Bool.true_and] at az
              refine ⟨_, _, rfl, rfl, _, rfl, ite2 (fun k2 => ?_) (fun k2 => ?_)⟩
              · have k2' : (!(!decide (([122] : List Nat) < [c]))) = true := k2
                obtain ⟨acc, a1, a2, a3, a4⟩ := keep (by rw [← az]; simpa using k2')
                exact ⟨_, rfl, acc, a1, a2, a3, a4⟩
              · have k2' : ¬ (!(!decide (([122] : List Nat) < [c]))) = true := k2
                exact skip (by rw [← az]; simpa using k2')
            · have k1' : ¬ (!decide (([c] : List Nat) < [97])) = true := k1
              rw [Bool.eq_false_iff.mpr k1', Bool.false_and] at az
              obtain ⟨acc, a1, a2, a3, a4⟩ := keep az.symm
              exact ⟨_, rfl, iteT ⟨_, rfl, acc, a1, a2, a3, a4⟩⟩
          · rintro H' ⟨e, s'⟩
            have et : z.cps.toList.take z.cps.size = z.cps.toList := List.take_of_length_le (by simp)
            rw [et] at e
            refine ⟨by decide, fun p np => ⟨D, p, _, rfl, rfl, SqL.of ((Same.new np) _ _ e), SqL.of upd_same, ?_⟩⟩
            have e2 : nameB (.str z) = (offs z.cps.toList).isEmpty := by
              show (_ && _ && _) = _
              rw [decide_eq_true l1, decide_eq_true l8, Bool.true_and, Bool.true_and, offs_empty]
            rw [← e2]
            exact q _ (s'.trans (Same.new np))
      · have e : nameB (.str z) = false := by
          show (_ && _ && _) = false
          rw [decide_eq_false (show ¬ 1 ≤ z.length from fun h => c1 (decide_eq_true (by omega))), Bool.false_and, Bool.false_and]
        rw [e] at q
        exact ⟨_, rfl, iteT (q _ (Same.refl _))⟩
    | _ => exact iteT (iteT (q _ (Same.refl _)))
end
end Pr
namespace Pr
open PySem PySem.Spec PyProof.Rows L2 Gd
/-! ### _law_is_line -/
def spIsLine : Sp := fun vs H Q _ => ∃ (v : V), vs = [v] ∧ Ln H v ∧ ∀ H', Same H H' → Q (.bl (lineOf v).isSome) H'
section
variable {P : Program} {w : World} {K : PySem.W.Frag} {mg : Str → Option Value} {base : Heap} {fN : Addr} {dN : FuncData}
theorem scIsLine : FnScope ["value", "words"] ["value"] (defScope sIsLine) := ⟨rfl, rfl, rfl, by decide +kernel, rfl, by decide +kernel, by decide +kernel⟩
theorem ok_isline {f : Addr} {fd : FuncData} (F : Fun K "_law_is_line" "_law_is_line" sIsLine f fd) (T : Free mg) (FN : Fun K "_law_is_named" "_law_is_named" sNamed fN dN) (bN : Binds K dN ["value"] []) (gN : mg "_law_is_named" = some (.ref fN)) : FnOk P w K mg base CX0 2 f fd ["value"] spIsLine := by
  have GN : FnOk P w K mg base CX0 1 fN dN ["value"] spNamed := ok_named FN T
  refine F.ok scIsLine (fun vs H Q E h => ?_) (fun cdv A outer s H vs Q E hr h => ?_)
  · obtain ⟨v, rfl, _⟩ := h
    rfl
  · obtain ⟨v, rfl, ⟨⟨ty, kd⟩, hz⟩, q⟩ := h
    refine ⟨_, pss_cons (ps_set (i := 1) scIsLine.nd rfl (.inl rfl) (pe_ifExp (pt_val (pe_callB call_isi (by rfl) T.isi (by decide +kernel) (pa_cons (pv 0) (pa_cons (pe_bltn (v := .ty "str") (by rfl) T.str (by decide +kernel) rfl) pa_nil)))) (pe_split (pv 0) pe_str) (pe_lst pa_nil)))
      (pss_one (ps_ret (pe_and (pe_cmpR op_eq (pe_callB call_len_seq (by rfl) T.len PySem.boot_len (pa_cons (pv 1) pa_nil)) pe_int (nomark _))
        (pe_and (pe_cmpR op_eq (pe_ix ix_list (pv 1) pe_int (fun _ _ => rfl)) pe_str (nomark _))
        (pe_and (pe_call GN hr (by rfl) gN FN.kp bN .nil pass0 (pa_cons (pe_ix ix_list (pv 1) pe_int (fun _ _ => rfl)) pa_nil))
        (pe_one (pe_cmpR op_in_seq (pe_ix ix_list (pv 1) pe_int (fun _ _ => rfl)) (pe_lst (pa_cons pe_str (pa_cons pe_str (pa_cons pe_str pa_nil)))) (by rfl)))))))), ?_⟩
    refine ⟨_, rfl, v, _, _, _, _, rfl, .ty "str", kd.ty, kit_str kd, _, rfl, ?_⟩
    cases kd with
    | str z =>
      have l := hz z rfl
      have e0 : lineOf (.str z) = lineL (sp z) := rfl
      rw [e0] at q
      refine iteT ⟨_, rfl, ⟨_, rfl⟩, z, " ", rfl, rfl, rfl, by rw [sizeLine_eq]; omega, fun p np => ?_⟩
      have sN : Same H (upd H p (.lst ((Txt.split z " ").map V.str))) := Same.new np
      have hp : (upd H p (.lst ((Txt.split z " ").map V.str))) p = some (.lst ((sp z).map V.str)) := by rw [upd_same, sp_eq]
      have ofz : ∀ w ∈ sp z, w.length ≤ z.length := fun w m => (sp_of m).1
      generalize upd H p (.lst ((Txt.split z " ").map V.str)) = H1 at sN hp ⊢
      generalize sp z = ws at q hp ofz ⊢
      refine ⟨_, rfl, p, _, rfl, .inl (SqL.of hp), rfl, _, rfl, ?_⟩
      match ws, hp, ofz, q with
      | [a, b, c], hp, ofz, q =>
        refine if_true_of (by rfl) ⟨_, rfl, p, _, 0, _, rfl, rfl, SqL.of hp, rfl, rfl, _, rfl, ?_⟩
        by_cases ea : a = "op"
        · subst ea
          have lb : b.length ≤ 1000000 := by
            have := ofz b (by simp)
            omega
          have em : lineL [("op" : Str), b, c] = if azB b = true then (dig c).map fun n => (b, n) else none := by
            show (if ("op" : Str) = "op" then (if azB b = true then (dig c).map fun n => (b, n) else none) else none) = _
            rw [if_pos rfl]
          refine if_true_of (decide_eq_true rfl) ⟨_, rfl, p, _, 1, _, rfl, rfl, SqL.of hp, rfl, .str b, "str", rfl, .str b, fun y e => by cases e; exact lb, fun H2 s2 => ⟨_, rfl, ite2 (fun k2 => ?_) (fun k2 => ?_)⟩⟩
          · have nz : azB b = true := k2
            rw [if_pos nz] at em
            refine ⟨_, rfl, p, _, 2, _, rfl, rfl, SqL.of (s2 _ _ hp), rfl, by show 3 ≤ sizeLine; decide, fun t1 n1 => ⟨t1, _, rfl, .inl (SqL.of upd_same), rfl, rfl, ?_⟩⟩
            have s3 := (sN.trans s2).trans (Same.new n1 (o := .lst [V.str "0", .str "1", .str "2"]))
            have eq2 : (lineL [("op" : Str), b, c]).isSome = (if false = true then !inV (.str c) [V.str "0", .str "1", .str "2"] else inV (.str c) [V.str "0", .str "1", .str "2"]) := by
              rw [if_neg Bool.false_ne_true]
              cases ei : inV (.str c) [V.str "0", .str "1", .str "2"] with
              | false =>
                rw [em, dig_none ei]
                rfl
              | true =>
                obtain ⟨n, dn, _, _⟩ := dig_some ei
                rw [em, dn]
                rfl
            rw [eq2] at q
            exact q _ s3
          · have nz : ¬ azB b = true := k2
            rw [if_neg nz] at em
            rw [em] at q
            exact q _ (sN.trans s2)
        · have em : lineL [a, b, c] = none := by
            show (if a = "op" then (if azB b = true then (dig c).map fun n => (b, n) else none) else none) = none
            rw [if_neg ea]
          rw [em] at q
          have e3 : decide (V.str a = V.str "op") = false := decide_eq_false fun e => ea (V.str.inj e)
          exact if_false_of e3 (q _ sN)
      | [], hp, ofz, q => exact if_false_of (by rfl) (q _ sN)
      | [_], hp, ofz, q => exact if_false_of (by rfl) (q _ sN)
      | [_, _], hp, ofz, q => exact if_false_of (by rfl) (q _ sN)
      | x0 :: x1 :: x2 :: x3 :: r, hp, ofz, q =>
        have e : decide (V.int ((List.map V.str (x0 :: x1 :: x2 :: x3 :: r)).length : Int) = V.int 3) = false := by
          rw [decide_eq_false]
          intro q
          have q := V.int.inj q
          rw [List.length_map] at q
          simp at q
          omega
        rw [lineL_three (by simp)] at q
        exact if_false_of e (q _ sN)
    | _ =>
      refine iteF ⟨by show 0 ≤ sizeLine; decide, fun p np => ⟨_, rfl, p, _, rfl, .inl (SqL.of upd_same), rfl, _, rfl, if_false_of (by rfl) (q _ (Same.new np))⟩⟩
end
end Pr
namespace Pr
open PySem PySem.Spec PyProof.Rows L2 Gd
/-! ### _law_due -/
/-- the word for a line that is refused -/
def pw (i : Nat) : Str := ("parse " : Str) ++ Str.ofString (toString (i : Int))
def spDue : Sp := fun vs H Q _ => ∃ (p : Addr) (rest : List V), vs = [.ref p] ∧ H p = some (.lst rest) ∧ (∀ v ∈ rest, Ln H v) ∧ rest.length ≤ 1000 ∧
  (∀ i, rd 0 [] rest = .inl i → ∀ H', Same H H' → Q (.str (pw i)) H') ∧ (∀ l, rd 0 [] rest = .inr l → ¬ (1 ≤ l.length ∧ l.length ≤ 8) → ∀ H', Same H H' → Q (.str "operators") H') ∧
  (∀ l, rd 0 [] rest = .inr l → OpsOk l → ∀ (q : Addr) (H' : Hp), Same H H' → H q = none → H' q = some (.dK (dkv l)) → Q (.ref q) H')
theorem Same.new2 {H : Hp} {p : Addr} {o : HO} (n : H p = none) : Same H (L2.upd H p o) := Same.new n
section
variable {P : Program} {w : World} {K : PySem.W.Frag} {mg : Str → Option Value} {base : Heap} {fL : Addr} {dL : FuncData}
theorem scDue : FnScope ["lines", "found", "index", "line"] ["lines"] (defScope sDue) := ⟨rfl, rfl, rfl, by decide +kernel, rfl, by decide +kernel, by decide +kernel⟩
theorem ok_due {f : Addr} {fd : FuncData} (F : Fun K "_law_due" "_law_due" sDue f fd) (T : Free mg) (GL : FnOk P w K mg base CX0 2 fL dL ["value"] spIsLine) (FL : Fun K "_law_is_line" "_law_is_line" sIsLine fL dL) (bL : Binds K dL ["value"] []) (gL : mg "_law_is_line" = some (.ref fL)) : FnOk P w K mg base CX0 3 f fd ["lines"] spDue := by
  refine F.ok scDue (fun vs H Q E h => ?_) (fun cdv A outer s H vs Q E hr h => ?_)
  · obtain ⟨p, rest, rfl, _⟩ := h
    rfl
  · obtain ⟨p, rest, rfl, hp, lns, few, q0, q1, q2⟩ := h
    have hu := hr.units
    have hu1 : ∀ {u : Nat}, u + 64 < cLine → u + 1 < cLine := fun h => by omega
    refine ⟨_, pss_cons (ps_set (i := 1) scDue.nd rfl (.inl rfl) pe_dnewK)
      (pss_cons (ps_for PassesOwn.never rfl (pi_enum (by rfl) T.enum (pa_cons (pv 0) pa_nil)) (pg_tup rfl (pgs_cons (pg_name (i := 2) scDue.nd rfl (.inl rfl)) (pgs_cons (pg_name (i := 3) scDue.nd rfl (.inl rfl)) pgs_nil)))
        (pss_cons (ps_if (PW.pt (pw_or (pt_not (pt_val (pe_call GL hr (by rfl) gL FL.kp bL .nil pass0 (pa_cons (pv 3) pa_nil)))) (pw_or1 (pt_cmp (pc_din (hu1 hu) (pe_ix ix_list (pe_split (pv 3) pe_str) pe_int (fun _ _ => rfl)) (pv 1))))))
          (pss_one (ps_ret (pe_op op_add_str pe_str (pe_callTy call_str_int (by rfl) T.str (by decide +kernel) (pa_cons (pv 2) pa_nil))))) pss_nil)
        (pss_one (ps_asg (pe_callTy call_int_str (by rfl) T.int (by decide +kernel) (pa_cons (pe_ix ix_list (pe_split (pv 3) pe_str) pe_int (fun _ _ => rfl)) pa_nil)) (pg_sub (pv 1) (pe_ix ix_list (pe_split (pv 3) pe_str) pe_int (fun _ _ => rfl)) (set_dict (Nat.lt_of_le_of_lt (Nat.add_le_add_left (by decide : 1 ≤ 64) _) hu)))))))
      (pss_one (ps_ret (pe_ifExp (pt_chain op_le op_le pe_int (pe_callB call_lenD (by rfl) T.len PySem.boot_len (pa_cons (pv 1) pa_nil)) pe_int) (pv 1) pe_str)))), ?_⟩
    refine fun D nD => ?_
    have pD : p ≠ D := ne_of_none hp nD
    have s1 : Same H (upd H D (.dK [])) := Same.new nD
    refine ⟨_, rfl, p, rest, rfl, SqL.of (s1 _ _ hp), ?_⟩
    refine for_it (walk_enum (xs := rest)) (fun i σ G => ∃ (v2 v3 : Option V) (l : List (Str × Nat)), σ = [some (.ref p), some (.ref D), v2, v3] ∧ Same H G ∧ G D = some (.dK (dkv l)) ∧ Got l ∧ l.length = i ∧ rd 0 [] rest = rd i l (rest.drop i))
      ⟨none, none, [], rfl, s1, upd_same, Got.nil, rfl, rfl⟩ (fun i σ G _ ⟨_, _, _, _, s, _⟩ => SqL.of (s _ _ hp)) ?_ ?_
    · rintro i x σ G G1 hi ⟨v2, v3, l, rfl, sm, hD, got, ll, er⟩ ⟨U, x1, x2, rfl, nU, rfl, e1, e2⟩
      cases e1
      have hd : rest.drop i = rest[i] :: rest.drop (i + 1) := List.drop_eq_getElem_cons hi
      have e3 : rest[i]? = some x2 := e2
      rw [List.getElem?_eq_getElem hi] at e3
      cases e3
      rw [hd] at er
      have lny := (lns rest[i] (List.getElem_mem hi)).same sm
      generalize rest[i] = y at er lny
      refine ⟨U, _, rfl, SqT.of upd_same, rfl, ?_⟩
      have s2 := sm.trans (Same.new nU (o := .tup [.int (i : Nat), y]))
      have lny2 := lny.same (Same.new nU (o := .tup [.int (i : Nat), y]))
      have hD2 := (Same.new nU (o := .tup [.int (i : Nat), y])) _ _ hD
      generalize upd G U (.tup [.int (i : Nat), y]) = G2 at s2 lny2 hD2 ⊢
      have lg : ((i : Int)).natAbs.log2 < 1920 := Nat.lt_of_le_of_lt (Nat.log2_le_self _) (by omega)
      have tl : ((Str.ofString (toString (i : Int)))).length ≤ 1921 := PyProof.Rows.int_text_len_1921 lg
      have lp : (("parse " : Str)).length = 6 := rfl
      refine ⟨_, _, rfl, _, _, rfl, rfl, ?_⟩
      refine ⟨_, rfl, y, rfl, lny2, fun G3 s3 => ?_⟩
      have s23 := s2.trans s3
      have hD3 := s3 _ _ hD2
      cases e : lineOf y with
      | none =>
        rw [rd_none e] at er
        refine ⟨_, rfl, if_true_of rfl (if_true_of rfl ⟨_, rfl, i, rfl, lg, _, _, rfl, rfl, ?_, q0 i er _ s23⟩)⟩
        rw [lp, sizeLine_eq]
        omega
      | some pr =>
        obtain ⟨z, rfl, c, ez, az, dz⟩ : ∃ z, y = .str z ∧ ∃ c : Str, sp z = [("op" : Str), pr.1, c] ∧ azB pr.1 = true ∧ dig c = some pr.2 := by
          cases y with
          | str z => exact ⟨z, rfl, lineL_some e⟩
          | _ => cases e
        have lz := lny2.2 z rfl
        obtain ⟨two, memc, _⟩ := dig_two dz
        have inc : inV (.str c) [V.str "0", .str "1", .str "2"] = true := by
          rcases List.mem_cons.mp memc with rfl | m
          · decide +kernel
          · rcases List.mem_cons.mp m with rfl | m
            · decide +kernel
            · rw [List.mem_singleton.mp m]
              decide +kernel
        obtain ⟨n, dn, it, lc⟩ := dig_some inc
        rw [dz] at dn
        cases dn
        have hs : (Txt.split z " ").map V.str = [V.str "op", .str pr.1, .str c] := by
          rw [sp_eq, ez]
          rfl
        have sz : z.length + 2 ≤ sizeLine := by
          rw [sizeLine_eq]
          omega
        refine ⟨_, rfl, if_false_of rfl ⟨_, rfl, ⟨_, rfl⟩, z, " ", rfl, rfl, rfl, sz, fun p1 n1 => ?_⟩⟩
        rw [hs]
        have s4 := s23.trans (Same.new n1 (o := .lst [V.str "op", .str pr.1, .str c]))
        have hD4 := (Same.new n1 (o := .lst [V.str "op", .str pr.1, .str c])) _ _ hD3
        have h1 : (upd G3 p1 (.lst [V.str "op", .str pr.1, .str c])) p1 = some (.lst [V.str "op", .str pr.1, .str c]) := upd_same
        generalize upd G3 p1 (.lst [V.str "op", .str pr.1, .str c]) = G4 at s4 hD4 h1 ⊢
        by_cases cin : pr.1 ∈ l.map (·.1)
        · obtain ⟨pz, mz, ezz⟩ := List.mem_map.mp cin
          have vz := val_mem (kvs := dkv l) (p := (.inr pr.1, .int (pz.2 : Int))) (by rw [keys_dkv]; exact List.Pairwise.map Sum.inr (fun a b h e => h (Sum.inr.inj e)) got.nd) (List.mem_map.mpr ⟨pz, mz, by rw [← ezz]⟩)
          rw [rd_again e cin] at er
          refine ⟨p1, _, 1, _, rfl, rfl, SqL.of h1, rfl, _, rfl, D, _, rfl, vz ▸ DGet.k (k := .inr pr.1) hD4, _, rfl, if_true_of rfl ⟨_, rfl, i, rfl, lg, _, _, rfl, rfl, ?_, q0 i er _ s4⟩⟩
          rw [lp, sizeLine_eq]
          omega
        · have vz := val_none cin
          rw [rd_more e cin] at er
          refine ⟨p1, _, 1, _, rfl, rfl, SqL.of h1, rfl, _, rfl, D, _, rfl, vz ▸ DGet.k (k := .inr pr.1) hD4, _, rfl, if_false_of rfl ?_⟩
          refine ⟨_, rfl, ⟨_, rfl⟩, z, " ", rfl, rfl, rfl, sz, fun p2 n2 => ?_⟩
          rw [hs]
          have s5 := s4.trans (Same.new n2 (o := .lst [V.str "op", .str pr.1, .str c]))
          have hD5 := (Same.new n2 (o := .lst [V.str "op", .str pr.1, .str c])) _ _ hD4
          have h2 : (upd G4 p2 (.lst [V.str "op", .str pr.1, .str c])) p2 = some (.lst [V.str "op", .str pr.1, .str c]) := upd_same
          generalize upd G4 p2 (.lst [V.str "op", .str pr.1, .str c]) = G5 at s5 hD5 h2 ⊢
          refine ⟨p2, _, 2, _, rfl, rfl, SqL.of h2, rfl, c, pr.2, rfl, it, lc, ?_⟩
          refine ⟨_, rfl, _, rfl, ⟨_, rfl⟩, z, " ", rfl, rfl, rfl, sz, fun p3 n3 => ?_⟩
          rw [hs]
          have s6 := s5.trans (Same.new n3 (o := .lst [V.str "op", .str pr.1, .str c]))
          have hD6 := (Same.new n3 (o := .lst [V.str "op", .str pr.1, .str c])) _ _ hD5
          have h3 : (upd G5 p3 (.lst [V.str "op", .str pr.1, .str c])) p3 = some (.lst [V.str "op", .str pr.1, .str c]) := upd_same
          generalize upd G5 p3 (.lst [V.str "op", .str pr.1, .str c]) = G6 at s6 hD6 h3 ⊢
          have el : (dkv l).length = l.length := List.length_map _
          refine ⟨p3, _, 1, _, rfl, rfl, SqL.of h3, rfl, D, _, rfl, DPut.k (k := .inr pr.1) hD6 ?_, ?_⟩
          · rw [el, sizeLine_eq]
            omega
          · refine ⟨some (.int (i : Nat)), some (.str z), l ++ [pr], rfl, fun b u e => ?_, ?_, got.more e cin, by rw [List.length_append, ll]; rfl, er⟩
            · rw [upd_ne (ne_of_none e nD)]
              exact s6 b u e
            · rw [upd_same, put_end cin]
    · rintro σ G ⟨v2, v3, l, rfl, sm, hD, got, ll, er⟩
      have er : rd 0 [] rest = .inr l := by
        rw [er, List.drop_length]
        rfl
      have el : (dkv l).length = l.length := List.length_map _
      refine ⟨_, rfl, D, _, rfl, hD, _, _, rfl, rfl, _, rfl, ?_⟩
      by_cases c1 : 1 ≤ l.length
      · refine if_true_of (decide_eq_true (by omega)) ⟨_, _, rfl, rfl, _, rfl, ?_⟩
        by_cases c8 : l.length ≤ 8
        · exact if_true_of (decide_eq_true (by omega)) ⟨_, rfl, q2 l er (got.ok ⟨c1, c8⟩) D G sm nD hD⟩
        · exact if_false_of (decide_eq_false (by omega)) (q1 l er (fun h => c8 h.2) G sm)
      · exact if_false_of (decide_eq_false (by omega)) ⟨_, rfl, if_false_of rfl (q1 l er (fun h => c1 h.1) G sm)⟩
end
end Pr
namespace Pr
open PySem PySem.Spec PyProof.Rows L2 Gd
/-! ### _law_sorted -/
theorem paired_snoc {α β : Type} {F : α → β → Prop} {xs : List α} {ys : List β} {x : α} {y : β} (p : Paired F xs ys) (h : F x y) : Paired F (xs ++ [x]) (ys ++ [y]) := by
  induction p with
  | nil => exact .cons h .nil
  | cons a r ih => exact .cons a ih
def spSorted : Sp := fun vs H Q _ => ∃ (v : V), vs = [v] ∧ ((∃ z, v = .str z ∧ ∀ H', Same H H' → Q (.str z) H') ∨ (∃ a l, v = .ref a ∧ H a = some (.dK (dkv l)) ∧ OpsOk l ∧
  ∀ (l' : List (Str × Nat)) (q : Addr) (H' : Hp), l'.Perm l → sortedS (l'.map (·.1)) = true → Same H H' → H q = none → H' q = some (.dK (dkv l')) → Q (.ref q) H'))
section
variable {P : Program} {w : World} {K : PySem.W.Frag} {mg : Str → Option Value} {base : Heap}
theorem scSorted : FnScope ["value", "name"] ["value"] (defScope sSorted) := ⟨rfl, rfl, rfl, by decide +kernel, rfl, by decide +kernel, by decide +kernel⟩
theorem ok_sorted {f : Addr} {fd : FuncData} (F : Fun K "_law_sorted" "_law_sorted" sSorted f fd) (T : Free mg) : FnOk P w K mg base CX0 1 f fd ["value"] spSorted := by
  refine F.ok scSorted (fun vs H Q E h => ?_) (fun cdv A outer s H vs Q E hr h => ?_)
  · obtain ⟨v, rfl, _⟩ := h
    rfl
  · obtain ⟨v, rfl, h⟩ := h
    have hu := hr.units
    have hu1 : ∀ {u : Nat}, u + 64 < cLine → u + 1 < cLine := fun h => by omega
    refine ⟨_, pss_one (ps_ret (pe_ifExp (pt_val (pe_callB call_isi (by rfl) T.isi (by decide +kernel) (pa_cons (pv 0) (pa_cons (pe_bltn (v := .ty "dict") (by rfl) T.dict (by decide +kernel) rfl) pa_nil))))
      (pe_callTy (call_dictP rfl) (by rfl) T.dict (by decide +kernel) (pa_cons (pe_lc (own := [("name", 1)]) (g := gName 1) (by rfl) scSorted.nd (pi_list (pe_callB (call_sortedD (by rfl)) (by rfl) T.sorted (by decide +kernel) (pa_cons (pv 0) pa_nil))) (blkOk_by (own := [("name", 1)]) (N := ["value", "name"]) (sc := defScope sSorted) (by decide +kernel))
        (fun _ _ _ _ _ => pg_name (i := 1) scSorted.nd rfl (Or.inl rfl)) (fun _ _ _ _ _ => pts_nil) (fun _ _ _ _ _ => pe_tup (pa_cons (pv 1) (pa_cons (pe_dget (hu1 hu) (pv 0) (pv 1) (fun _ _ => rfl)) pa_nil)))) pa_nil)) (pv 0))), ?_⟩
    rcases h with ⟨z, rfl, q⟩ | ⟨a, l, rfl, ha, ok, q⟩
    · exact ⟨_, rfl, .str z, _, _, _, false, rfl, .ty "dict", (Kd.str (H := H) z).ty, kit_ty (r := false) (by decide +kernel), _, rfl, if_false_of rfl ⟨_, rfl, q H (Same.refl H)⟩⟩
    · have few := ok.few
      refine ⟨_, rfl, .ref a, _, _, _, true, rfl, .ty "dict", (Kd.dK ha).ty, kit_ty (r := true) (by decide +kernel), _, rfl, if_true_of rfl ?_⟩
      refine ⟨_, rfl, a, dkv l, l.map (·.1), rfl, Rd.of ha, by unfold dkv; rw [List.map_map, List.map_map]; rfl, by rw [List.length_map]; omega, fun ks ns pk srt nns => ?_⟩
      obtain ⟨l', pl, rfl⟩ := perm_map pk
      have s1 := Same.new nns (o := .lst ((l'.map (·.1)).map V.str))
      have hns : (upd H ns (.lst ((l'.map (·.1)).map V.str))) ns = some (.lst ((l'.map (·.1)).map V.str)) := upd_same
      generalize upd H ns (.lst ((l'.map (·.1)).map V.str)) = H1 at s1 hns ⊢
      have ll : l'.length ≤ 8 := by
        rw [pl.length_eq]
        omega
      have ndl : (l'.map (·.1)).Nodup := (pl.map _).nodup_iff.mpr ok.nd
      have lm : ((l'.map (·.1)).map V.str).length = l'.length := by rw [List.length_map, List.length_map]
      refine ⟨ns, rfl, ⟨_, SqL.of hns⟩, fun D nD => ?_⟩
      refine lc_list (K := K) (a := ns) (xs := (l'.map (·.1)).map V.str) (fun i G => ∃ ps : List Addr, G D = some (.lst (ps.map V.ref)) ∧ Paired (fun p kv => G p = some (.tup [kV kv.1, kv.2])) ps (dkv (l'.take i)) ∧ ps.length = i ∧ Same H1 G) ⟨[], upd_same, .nil, rfl, Same.new nD⟩ (fun i G _ ⟨_, _, _, _, s⟩ => SqL.of (s _ _ hns)) ?_ ?_
      · rintro i v G hv ⟨ps, eD, pr, lp, s⟩
        obtain ⟨p, hp, rfl⟩ : ∃ p, l'[i]? = some p ∧ v = .str p.1 := by
          rw [List.map_map, List.getElem?_map] at hv
          cases e : l'[i]? with
          | none => rw [e] at hv; cases hv
          | some p =>
            rw [e] at hv
            exact ⟨p, rfl, (Option.some.inj hv).symm⟩
        have il := (List.getElem?_eq_some_iff.mp hp).1
        have vz := val_some ok.nd (show (p.1, p.2) ∈ l from pl.mem_iff.mp (List.mem_of_getElem? hp))
        refine ⟨rfl, _, rfl, _, rfl, _, rfl, a, _, rfl, vz ▸ DGet.k (k := .inr p.1) (s _ _ (s1 _ _ ha)), by show 2 ≤ sizeLine; decide, fun t nt => ?_⟩
        have st := Same.new nt (o := .tup [.str p.1, .int (p.2 : Int)])
        have tD : D ≠ t := ne_of_none eD nt
        refine ⟨ps.map V.ref, st _ _ eD, by rw [List.length_map, lp, sizeLine_eq]; omega, ps ++ [t], by rw [upd_same, List.map_append]; rfl, ?_, by rw [List.length_append, lp]; rfl, fun b u e => by rw [upd_ne (ne_of_none e nD)]; exact st b u (s b u e)⟩
        have nDt : ∀ b u, b ≠ D → G b = some u → (upd (upd G t (.tup [.str p.1, .int (p.2 : Int)])) D (.lst (ps.map V.ref ++ [V.ref t]))) b = some u := fun b u nb e => by
          rw [upd_ne nb]
          exact st b u e
        have e : dkv (l'.take (i + 1)) = dkv (l'.take i) ++ [((.inr p.1 : Key), V.int (p.2 : Int))] := by
          rw [List.take_add_one, hp]
          unfold dkv
          rw [List.map_append]
          rfl
        rw [e]
        refine paired_snoc (paired_map (fun x y h => nDt x _ (fun c => by rw [c, eD] at h; cases h) h) pr) ?_
        · show (upd (upd G t (.tup [.str p.1, .int (p.2 : Int)])) D _) t = _
          rw [upd_ne tD.symm, upd_same]
          rfl
      · rintro G ⟨ps, eD, pr, lp, s⟩
        rw [lm] at pr
        rw [List.take_of_length_le (Nat.le_refl _)] at pr
        refine ⟨D, ps, dkv l', rfl, SqL.of eD, paired_map (fun x y h => SqT.of h) pr, fun q9 n9 => ?_⟩
        rw [merge_all ndl]
        have sG := (s1.trans s)
        exact q l' q9 _ pl srt (sG.trans (Same.new n9)) (sG.free n9) upd_same
end
end Pr
namespace Pr
open PySem PySem.Spec PyProof.Rows L2 Gd
/-! ### _law_read -/
abbrev tIx (K : PySem.W.Frag) (j : Int) : TE := tOp (rIxL K) (tVar 1) (tC (.int j))
abbrev tFrom (C CP CI : Addr) (W : WX) (t : TA) : TS := tRet (tProp C (spPA C) [] E0 (tCMethS C (spFrom C CP CI) (WE W) (tC (.ref C)) t))
abbrev tLenIs (K : PySem.W.Frag) (n : Int) (a b : TS) : TS := tSeq (tIfS (tTest (tOp rEq (tCB (fun xs H Q => ∃ p ys, xs = [V.ref p] ∧ (SqL K H p ys ∨ SqT K H p ys) ∧ Q (V.int (ys.length : Int)) H) (tCons (tVar 0) tNil)) (tC (.int n)))) a tNext) b
abbrev t_read (K : PySem.W.Frag) (C CP CI : Addr) (W : WX) : TS :=
  tLenIs K 0 (tFrom C CP CI W tNil) (tLenIs K 1 (tFrom C CP CI W (tCons (tIx K 0) tNil)) (tLenIs K 2 (tFrom C CP CI W (tCons (tIx K 0) (tCons (tIx K 1) tNil)))
    (tLenIs K 3 (tFrom C CP CI W (tCons (tIx K 0) (tCons (tIx K 1) (tCons (tIx K 2) tNil)))) (tLenIs K 4 (tFrom C CP CI W (tCons (tIx K 0) (tCons (tIx K 1) (tCons (tIx K 2) (tCons (tIx K 3) tNil)))))
    (tLenIs K 5 (tFrom C CP CI W (tCons (tIx K 0) (tCons (tIx K 1) (tCons (tIx K 2) (tCons (tIx K 3) (tCons (tIx K 4) tNil))))))
    (tFrom C CP CI W (tCons (tIx K 0) (tCons (tIx K 1) (tCons (tIx K 2) (tCons (tIx K 3) (tCons (tIx K 4) (tCons (tIx K 5) (tCons (tIx K 6) (tCons (tIx K 7) (tCons (tIx K 8) tNil)))))))))))))))
/-- what the reading of lines tells -/
structure ReadQ (rest : List V) (H : Hp) (Q : VK) : Prop where
  parse : ∀ i, rd 0 [] rest = .inl i → ∀ H', Same H H' → Q (.str (pw i)) H'
  bad : ∀ l, rd 0 [] rest = .inr l → ¬ (1 ≤ l.length ∧ l.length ≤ 8) → ∀ H', Same H H' → Q (.str "operators") H'
  good : ∀ l, rd 0 [] rest = .inr l → OpsOk l → ∀ (l' : List (Str × Nat)) (q : Addr) (H' : Hp), l'.Perm l → sortedS (l'.map (·.1)) = true → Same H H' → H q = none → H' q = some (.dK (dkv l')) → Q (.ref q) H'
theorem ReadQ.up {rest : List V} {H H1 : Hp} {Q : VK} (h : ReadQ rest H Q) (s : Same H H1) : ReadQ rest H1 Q :=
  ⟨fun i e H' s2 => h.parse i e H' (s.trans s2), fun l e n H' s2 => h.bad l e n H' (s.trans s2), fun l e ok l' q H' p t s2 n => h.good l e ok l' q H' p t (s.trans s2) (s.free n)⟩
def spRead : Sp := fun vs H Q _ => ∃ (p : Addr) (rest : List V), vs = [.ref p] ∧ H p = some (.lst rest) ∧ (∀ v ∈ rest, Ln H v) ∧ (rest.length ≤ 5 ∨ rest.length = 9) ∧ ReadQ rest H Q
theorem call_len_seqK {X : Cx} {K : PySem.W.Frag} (h : X.K = K) : CallR X (.builtin "len") (fun xs H Q => ∃ p ys, xs = [V.ref p] ∧ (SqL K H p ys ∨ SqT K H p ys) ∧ Q (V.int (ys.length : Int)) H) := by
  subst h
  exact call_len_seq
theorem few_cases : ∀ {rest : List V}, (rest.length ≤ 5 ∨ rest.length = 9) → rest = [] ∨ (∃ x0, rest = [x0]) ∨ (∃ x0 x1, rest = [x0, x1]) ∨ (∃ x0 x1 x2, rest = [x0, x1, x2]) ∨ (∃ x0 x1 x2 x3, rest = [x0, x1, x2, x3]) ∨ (∃ x0 x1 x2 x3 x4, rest = [x0, x1, x2, x3, x4]) ∨ (∃ x0 x1 x2 x3 x4 x5 x6 x7 x8, rest = [x0, x1, x2, x3, x4, x5, x6, x7, x8])
  | [], _ => .inl rfl
  | [x0], _ => .inr (.inl ⟨x0, rfl⟩)
  | [x0, x1], _ => .inr (.inr (.inl ⟨x0, x1, rfl⟩))
  | [x0, x1, x2], _ => .inr (.inr (.inr (.inl ⟨x0, x1, x2, rfl⟩)))
  | [x0, x1, x2, x3], _ => .inr (.inr (.inr (.inr (.inl ⟨x0, x1, x2, x3, rfl⟩))))
  | [x0, x1, x2, x3, x4], _ => .inr (.inr (.inr (.inr (.inr (.inl ⟨x0, x1, x2, x3, x4, rfl⟩)))))
  | [x0, x1, x2, x3, x4, x5, x6, x7, x8], _ => .inr (.inr (.inr (.inr (.inr (.inr (⟨x0, x1, x2, x3, x4, x5, x6, x7, x8, rfl⟩))))))
  | [_, _, _, _, _, _], h => absurd h (by simp)
  | [_, _, _, _, _, _, _], h => absurd h (by simp)
  | [_, _, _, _, _, _, _, _], h => absurd h (by simp)
  | _ :: _ :: _ :: _ :: _ :: _ :: _ :: _ :: _ :: _ :: _, h => absurd h (by simp)
theorem rd_lt : ∀ {vs : List V} {i j : Nat} {l : List (Str × Nat)}, rd i l vs = .inl j → j < i + vs.length
  | [], i, j, l, h => by cases h
  | v :: vs, i, j, l, h => by
    cases e : lineOf v with
    | none =>
      rw [rd_none e] at h
      cases h
      simp
    | some p =>
      by_cases c : p.1 ∈ l.map (·.1)
      · rw [rd_again e c] at h
        cases h
        simp
      · rw [rd_more e c] at h
        have := rd_lt h
        simp
        omega
/-- what is known of from_lines -/
structure FromF (P : Program) (w : World) (K : PySem.W.Frag) (mg : Str → Option Value) (base : Heap) (C CP CI pF gF fN : Addr) (mc : Value) : Prop where
  R : ClX.CRead K C mc
  M : ClX.CMet K C mc "from_lines" pF gF
  G : FnR P w K mg base (L2.CX P w) 5 gF (spFrom C CP CI)
  L : PySem.PeX.PeTxt K mg CP fN
  e1 : PySem.W.exmOne K (.ref CP) (.ref CP) = some true
  e2 : PySem.W.exmOne K (.ref CI) (.ref CP) = some false
  e3 : PySem.W.exmOne K (.ref CI) (.ref CI) = some true
section
variable {P : Program} {w : World} {K : PySem.W.Frag} {mg : Str → Option Value} {base : Heap} {C CP CI fI pA gA pF gF fN : Addr} {dI dA : FuncData} {mc : Value}
theorem scRead : FnScope ["lines", "row", "error"] ["lines"] (defScope sRead) := ⟨rfl, rfl, rfl, by decide +kernel, rfl, by decide +kernel, by decide +kernel⟩
theorem ok_read {f : Addr} {fd : FuncData} (F : Fun K "_law_read" "_law_read" sRead f fd) (T : Free mg) (O : OpsC P w K mg base C CI fI pA gA dI dA) (Z : FromF P w K mg base C CP CI pF gF fN mc) : FnOk P w K mg base CX0 6 f fd ["lines"] spRead := by
  refine F.ok scRead (fun vs H Q E h => ?_) (fun cdv A outer s H vs Q E hr h => ?_)
  · obtain ⟨p, rest, rfl, _⟩ := h
    rfl
  · obtain ⟨p, rest, rfl, hp, lns, few, rq⟩ := h
    have r2 : Room 2 _ := hr.mono (by decide)
    refine ⟨_, pss_cons (ps_set (i := 1) scRead.nd rfl (.inl rfl) (pe_op op_cat (pv 0) (pe_op op_rep (pe_lst (pa_cons pe_non pa_nil)) pe_int)))
      (pss_one (ps_try_two (i := 2) (tb := t_read K C CP CI) (Wout := fun _ _ _ _ => False) rfl rfl scRead.nd rfl rfl ⟨rfl, by decide, Or.inl Z.L.gC⟩ takes0
        (fun W pn xe tk _ => by
          have ar : ∀ {e : Expr} {te : TE} {pos : Pos}, PE (((cxOf CX0 P w K mg base ["lines", "row", "error"] "_law_read" (defScope sRead) f cdv A outer s H E).nox).tr pn xe) e te → attributeBase e "arities" (((cxOf CX0 P w K mg base ["lines", "row", "error"] "_law_read" (defScope sRead) f cdv A outer s H E).nox).tr pn xe).env (eval e (((cxOf CX0 P w K mg base ["lines", "row", "error"] "_law_read" (defScope sRead) f cdv A outer s H E).nox).tr pn xe).env) = eval e (((cxOf CX0 P w K mg base ["lines", "row", "error"] "_law_read" (defScope sRead) f cdv A outer s H E).nox).tr pn xe).env → PE (((cxOf CX0 P w K mg base ["lines", "row", "error"] "_law_read" (defScope sRead) f cdv A outer s H E).nox).tr pn xe) (.Attribute e "arities" pos) (tProp C (spPA C) [] E0 te) :=
            fun h hb => pe_prop h O.cf.cls O.prA O.GA r2 O.bA .nil pass0 hb
          exact (pss_cons (ps_if (by exact (pt_cmpR op_eq (pe_callB (call_len_seqK (K := K) rfl) (by rfl) T.len PySem.boot_len (pa_cons (pv 0) pa_nil)) pe_int (nomark _))) (pss_one (ps_ret (by exact (ar (pe_cmethS0 (E := WE W) (pe_glob (v := .ref C) (by rfl) O.g rfl) Z.R Z.M Z.G hr (fun σ => passAt tk σ)) rfl)))) pss_nil)
            (pss_cons (ps_if (by exact (pt_cmpR op_eq (pe_callB (call_len_seqK (K := K) rfl) (by rfl) T.len PySem.boot_len (pa_cons (pv 0) pa_nil)) pe_int (nomark _))) (pss_one (ps_ret (by exact (ar (pe_cmethS (E := WE W) (pe_glob (v := .ref C) (by rfl) O.g rfl) Z.R Z.M Z.G hr (fun σ => passAt tk σ) (by exact (pa_cons (pe_ix ix_list (pv 1) pe_int (fun _ _ => rfl)) pa_nil))) rfl)))) pss_nil)
            (pss_cons (ps_if (by exact (pt_cmpR op_eq (pe_callB (call_len_seqK (K := K) rfl) (by rfl) T.len PySem.boot_len (pa_cons (pv 0) pa_nil)) pe_int (nomark _))) (pss_one (ps_ret (by exact (ar (pe_cmethS (E := WE W) (pe_glob (v := .ref C) (by rfl) O.g rfl) Z.R Z.M Z.G hr (fun σ => passAt tk σ) (by exact (pa_cons (pe_ix ix_list (pv 1) pe_int (fun _ _ => rfl)) (pa_cons (pe_ix ix_list (pv 1) pe_int (fun _ _ => rfl)) pa_nil)))) rfl)))) pss_nil)
            (pss_cons (ps_if (by exact (pt_cmpR op_eq (pe_callB (call_len_seqK (K := K) rfl) (by rfl) T.len PySem.boot_len (pa_cons (pv 0) pa_nil)) pe_int (nomark _))) (pss_one (ps_ret (by exact (ar (pe_cmethS (E := WE W) (pe_glob (v := .ref C) (by rfl) O.g rfl) Z.R Z.M Z.G hr (fun σ => passAt tk σ) (by exact (pa_cons (pe_ix ix_list (pv 1) pe_int (fun _ _ => rfl)) (pa_cons (pe_ix ix_list (pv 1) pe_int (fun _ _ => rfl)) (pa_cons (pe_ix ix_list (pv 1) pe_int (fun _ _ => rfl)) pa_nil))))) rfl)))) pss_nil)
            (pss_cons (ps_if (by exact (pt_cmpR op_eq (pe_callB (call_len_seqK (K := K) rfl) (by rfl) T.len PySem.boot_len (pa_cons (pv 0) pa_nil)) pe_int (nomark _))) (pss_one (ps_ret (by exact (ar (pe_cmethS (E := WE W) (pe_glob (v := .ref C) (by rfl) O.g rfl) Z.R Z.M Z.G hr (fun σ => passAt tk σ) (by exact (pa_cons (pe_ix ix_list (pv 1) pe_int (fun _ _ => rfl)) (pa_cons (pe_ix ix_list (pv 1) pe_int (fun _ _ => rfl)) (pa_cons (pe_ix ix_list (pv 1) pe_int (fun _ _ => rfl)) (pa_cons (pe_ix ix_list (pv 1) pe_int (fun _ _ => rfl)) pa_nil)))))) rfl)))) pss_nil)
            (pss_cons (ps_if (by exact (pt_cmpR op_eq (pe_callB (call_len_seqK (K := K) rfl) (by rfl) T.len PySem.boot_len (pa_cons (pv 0) pa_nil)) pe_int (nomark _))) (pss_one (ps_ret (by exact (ar (pe_cmethS (E := WE W) (pe_glob (v := .ref C) (by rfl) O.g rfl) Z.R Z.M Z.G hr (fun σ => passAt tk σ) (by exact (pa_cons (pe_ix ix_list (pv 1) pe_int (fun _ _ => rfl)) (pa_cons (pe_ix ix_list (pv 1) pe_int (fun _ _ => rfl)) (pa_cons (pe_ix ix_list (pv 1) pe_int (fun _ _ => rfl)) (pa_cons (pe_ix ix_list (pv 1) pe_int (fun _ _ => rfl)) (pa_cons (pe_ix ix_list (pv 1) pe_int (fun _ _ => rfl)) pa_nil))))))) rfl)))) pss_nil)
            (pss_one (ps_ret (by exact (ar (pe_cmethS (E := WE W) (pe_glob (v := .ref C) (by rfl) O.g rfl) Z.R Z.M Z.G hr (fun σ => passAt tk σ) (by exact (pa_cons (pe_ix ix_list (pv 1) pe_int (fun _ _ => rfl)) (pa_cons (pe_ix ix_list (pv 1) pe_int (fun _ _ => rfl)) (pa_cons (pe_ix ix_list (pv 1) pe_int (fun _ _ => rfl)) (pa_cons (pe_ix ix_list (pv 1) pe_int (fun _ _ => rfl)) (pa_cons (pe_ix ix_list (pv 1) pe_int (fun _ _ => rfl)) (pa_cons (pe_ix ix_list (pv 1) pe_int (fun _ _ => rfl)) (pa_cons (pe_ix ix_list (pv 1) pe_int (fun _ _ => rfl)) (pa_cons (pe_ix ix_list (pv 1) pe_int (fun _ _ => rfl)) (pa_cons (pe_ix ix_list (pv 1) pe_int (fun _ _ => rfl)) pa_nil))))))))))) rfl)))))))))))
        (fun a oe cls d pn hz hf => pss_one (ps_ret (pe_op op_add_str pe_str (pe_callTy call_str_int (by rfl) T.str (by decide +kernel) (pa_cons (pe_byPe Z.L hz hf (pv 2)) pa_nil)))))
        (.cons (c := .ref CI) ⟨rfl, by decide, Or.inl O.io.g⟩ (fun a oe cls d pn hz hf => pss_one (ps_ret pe_str)) .nil))), ?_⟩
    refine ⟨_, rfl, by show 1 ≤ sizeLine; decide, fun n1 h1 => ?_⟩
    have s1 := Same.new h1 (o := .lst [V.non])
    have e1 : (upd H n1 (.lst [V.non])) n1 = some (.lst [V.non]) := upd_same
    generalize upd H n1 (.lst [V.non]) = H1 at s1 e1 ⊢
    refine ⟨_, _, _, rfl, rfl, e1, by decide, by decide, by show 1 * 9 ≤ sizeLine; decide, fun n2 h2 => ?_⟩
    have s2 := s1.trans (Same.new h2 (o := .lst (List.replicate (9 : Int).toNat [V.non]).flatten))
    have e2 : (upd H1 n2 (.lst (List.replicate (9 : Int).toNat [V.non]).flatten)) n2 = some (.lst [.non, .non, .non, .non, .non, .non, .non, .non, .non]) := upd_same
    generalize upd H1 n2 (.lst (List.replicate (9 : Int).toNat [V.non]).flatten) = H2 at s2 e2 ⊢
    refine ⟨_, _, _, _, rfl, rfl, s2 _ _ hp, e2, by rw [sizeLine_eq]; show rest.length + 9 ≤ _; omega, fun r3 h3 => ?_⟩
    have s3 := s2.trans (Same.new h3 (o := .lst (rest ++ [.non, .non, .non, .non, .non, .non, .non, .non, .non])))
    have hr3 : (upd H2 r3 (.lst (rest ++ [.non, .non, .non, .non, .non, .non, .non, .non, .non]))) r3 = some (.lst (rest ++ [.non, .non, .non, .non, .non, .non, .non, .non, .non])) := upd_same
    generalize upd H2 r3 (.lst (rest ++ [.non, .non, .non, .non, .non, .non, .non, .non, .non])) = H3 at s3 hr3 ⊢
    have hp3 := s3 _ _ hp
    have rq3 := rq.up s3
    have lns3 : ∀ v ∈ rest, Ln H3 v := fun v m => (lns v m).same s3
    clear rq lns s1 s2 e1 e2 hp
    have few9 : rest.length ≤ 1000 := by omega
    have lp : (("parse " : Str)).length = 6 := rfl
    have num : ∀ i : Nat, rd 0 [] rest = .inl i → i < 10 := fun i e => by
      have := rd_lt e
      omega
    rcases few_cases few with rfl | ⟨x0, rfl⟩ | ⟨x0, x1, rfl⟩ | ⟨x0, x1, x2, rfl⟩ | ⟨x0, x1, x2, x3, rfl⟩ | ⟨x0, x1, x2, x3, x4, rfl⟩ | ⟨x0, x1, x2, x3, x4, x5, x6, x7, x8, rfl⟩
    · refine ⟨_, rfl, p, _, rfl, .inl (SqL.of hp3), rfl, _, rfl, if_true_of (by rfl) ?_⟩
      refine ⟨rfl, [], rfl, ?_⟩
      refine ⟨lns3, few9, fun i er G d sG nd => ⟨true, Z.e1, fun _ a ha => ?_, fun z => Bool.noConfusion z⟩, fun l er nb G sG => ⟨false, Z.e2, fun z => Bool.noConfusion z, fun _ => ⟨true, Z.e3, fun _ a _ => rq3.bad l er nb G sG, fun z => Bool.noConfusion z⟩⟩, fun l er ok l' x G pl srt sG op => ?_⟩
      · have i10 := num i er
        have lg : ((i : Int)).natAbs.log2 < 1920 := Nat.lt_of_le_of_lt (Nat.log2_le_self _) (by omega)
        have tl : ((Str.ofString (toString (i : Int)))).length ≤ 1921 := PyProof.Rows.int_text_len_1921 lg
        refine ⟨_, rfl, rfl, rfl, d, .int (i : Int), rfl, upd_same, i, rfl, lg, _, _, rfl, rfl, by rw [lp, sizeLine_eq]; omega, rq3.parse i er _ (sG.trans (Same.new nd))⟩
      · obtain ⟨dx2, tn, ta, tl, ho, hn, hta, hl⟩ := op.ex
        exact ⟨x, dx2, _, rfl, ho, x, l', rfl, op, fun q nq => rq3.good l er ok l' q _ pl srt (sG.trans (Same.new nq)) (sG.free nq) upd_same⟩
    · refine ⟨_, rfl, p, _, rfl, .inl (SqL.of hp3), rfl, _, rfl, if_false_of (by rfl) ?_⟩
      refine ⟨_, rfl, p, _, rfl, .inl (SqL.of hp3), rfl, _, rfl, if_true_of (by rfl) ?_⟩
      refine ⟨rfl, _, rfl, r3, _, 0, _, rfl, rfl, SqL.of hr3, rfl, [x0], rfl, ?_⟩
      refine ⟨lns3, few9, fun i er G d sG nd => ⟨true, Z.e1, fun _ a ha => ?_, fun z => Bool.noConfusion z⟩, fun l er nb G sG => ⟨false, Z.e2, fun z => Bool.noConfusion z, fun _ => ⟨true, Z.e3, fun _ a _ => rq3.bad l er nb G sG, fun z => Bool.noConfusion z⟩⟩, fun l er ok l' x G pl srt sG op => ?_⟩
      · have i10 := num i er
        have lg : ((i : Int)).natAbs.log2 < 1920 := Nat.lt_of_le_of_lt (Nat.log2_le_self _) (by omega)
        have tl : ((Str.ofString (toString (i : Int)))).length ≤ 1921 := PyProof.Rows.int_text_len_1921 lg
        refine ⟨_, rfl, rfl, rfl, d, .int (i : Int), rfl, upd_same, i, rfl, lg, _, _, rfl, rfl, by rw [lp, sizeLine_eq]; omega, rq3.parse i er _ (sG.trans (Same.new nd))⟩
      · obtain ⟨dx2, tn, ta, tl, ho, hn, hta, hl⟩ := op.ex
        exact ⟨x, dx2, _, rfl, ho, x, l', rfl, op, fun q nq => rq3.good l er ok l' q _ pl srt (sG.trans (Same.new nq)) (sG.free nq) upd_same⟩
    · refine ⟨_, rfl, p, _, rfl, .inl (SqL.of hp3), rfl, _, rfl, if_false_of (by rfl) ?_⟩
      refine ⟨_, rfl, p, _, rfl, .inl (SqL.of hp3), rfl, _, rfl, if_false_of (by rfl) ?_⟩
      refine ⟨_, rfl, p, _, rfl, .inl (SqL.of hp3), rfl, _, rfl, if_true_of (by rfl) ?_⟩
      refine ⟨rfl, _, rfl, r3, _, 0, _, rfl, rfl, SqL.of hr3, rfl, _, rfl, r3, _, 1, _, rfl, rfl, SqL.of hr3, rfl, [x0, x1], rfl, ?_⟩
      refine ⟨lns3, few9, fun i er G d sG nd => ⟨true, Z.e1, fun _ a ha => ?_, fun z => Bool.noConfusion z⟩, fun l er nb G sG => ⟨false, Z.e2, fun z => Bool.noConfusion z, fun _ => ⟨true, Z.e3, fun _ a _ => rq3.bad l er nb G sG, fun z => Bool.noConfusion z⟩⟩, fun l er ok l' x G pl srt sG op => ?_⟩
      · have i10 := num i er
        have lg : ((i : Int)).natAbs.log2 < 1920 := Nat.lt_of_le_of_lt (Nat.log2_le_self _) (by omega)
        have tl : ((Str.ofString (toString (i : Int)))).length ≤ 1921 := PyProof.Rows.int_text_len_1921 lg
        refine ⟨_, rfl, rfl, rfl, d, .int (i : Int), rfl, upd_same, i, rfl, lg, _, _, rfl, rfl, by rw [lp, sizeLine_eq]; omega, rq3.parse i er _ (sG.trans (Same.new nd))⟩
      · obtain ⟨dx2, tn, ta, tl, ho, hn, hta, hl⟩ := op.ex
        exact ⟨x, dx2, _, rfl, ho, x, l', rfl, op, fun q nq => rq3.good l er ok l' q _ pl srt (sG.trans (Same.new nq)) (sG.free nq) upd_same⟩
    · refine ⟨_, rfl, p, _, rfl, .inl (SqL.of hp3), rfl, _, rfl, if_false_of (by rfl) ?_⟩
      refine ⟨_, rfl, p, _, rfl, .inl (SqL.of hp3), rfl, _, rfl, if_false_of (by rfl) ?_⟩
      refine ⟨_, rfl, p, _, rfl, .inl (SqL.of hp3), rfl, _, rfl, if_false_of (by rfl) ?_⟩
      refine ⟨_, rfl, p, _, rfl, .inl (SqL.of hp3), rfl, _, rfl, if_true_of (by rfl) ?_⟩
      refine ⟨rfl, _, rfl, r3, _, 0, _, rfl, rfl, SqL.of hr3, rfl, _, rfl, r3, _, 1, _, rfl, rfl, SqL.of hr3, rfl, _, rfl, r3, _, 2, _, rfl, rfl, SqL.of hr3, rfl, [x0, x1, x2], rfl, ?_⟩
      refine ⟨lns3, few9, fun i er G d sG nd => ⟨true, Z.e1, fun _ a ha => ?_, fun z => Bool.noConfusion z⟩, fun l er nb G sG => ⟨false, Z.e2, fun z => Bool.noConfusion z, fun _ => ⟨true, Z.e3, fun _ a _ => rq3.bad l er nb G sG, fun z => Bool.noConfusion z⟩⟩, fun l er ok l' x G pl srt sG op => ?_⟩
      · have i10 := num i er
        have lg : ((i : Int)).natAbs.log2 < 1920 := Nat.lt_of_le_of_lt (Nat.log2_le_self _) (by omega)
        have tl : ((Str.ofString (toString (i : Int)))).length ≤ 1921 := PyProof.Rows.int_text_len_1921 lg
        refine ⟨_, rfl, rfl, rfl, d, .int (i : Int), rfl, upd_same, i, rfl, lg, _, _, rfl, rfl, by rw [lp, sizeLine_eq]; omega, rq3.parse i er _ (sG.trans (Same.new nd))⟩
      · obtain ⟨dx2, tn, ta, tl, ho, hn, hta, hl⟩ := op.ex
        exact ⟨x, dx2, _, rfl, ho, x, l', rfl, op, fun q nq => rq3.good l er ok l' q _ pl srt (sG.trans (Same.new nq)) (sG.free nq) upd_same⟩
    · refine ⟨_, rfl, p, _, rfl, .inl (SqL.of hp3), rfl, _, rfl, if_false_of (by rfl) ?_⟩
      refine ⟨_, rfl, p, _, rfl, .inl (SqL.of hp3), rfl, _, rfl, if_false_of (by rfl) ?_⟩
      refine ⟨_, rfl, p, _, rfl, .inl (SqL.of hp3), rfl, _, rfl, if_false_of (by rfl) ?_⟩
      refine ⟨_, rfl, p, _, rfl, .inl (SqL.of hp3), rfl, _, rfl, if_false_of (by rfl) ?_⟩
      refine ⟨_, rfl, p, _, rfl, .inl (SqL.of hp3), rfl, _, rfl, if_true_of (by rfl) ?_⟩
      refine ⟨rfl, _, rfl, r3, _, 0, _, rfl, rfl, SqL.of hr3, rfl, _, rfl, r3, _, 1, _, rfl, rfl, SqL.of hr3, rfl, _, rfl, r3, _, 2, _, rfl, rfl, SqL.of hr3, rfl, _, rfl, r3, _, 3, _, rfl, rfl, SqL.of hr3, rfl, [x0, x1, x2, x3], rfl, ?_⟩
      refine ⟨lns3, few9, fun i er G d sG nd => ⟨true, Z.e1, fun _ a ha => ?_, fun z => Bool.noConfusion z⟩, fun l er nb G sG => ⟨false, Z.e2, fun z => Bool.noConfusion z, fun _ => ⟨true, Z.e3, fun _ a _ => rq3.bad l er nb G sG, fun z => Bool.noConfusion z⟩⟩, fun l er ok l' x G pl srt sG op => ?_⟩
      · have i10 := num i er
        have lg : ((i : Int)).natAbs.log2 < 1920 := Nat.lt_of_le_of_lt (Nat.log2_le_self _) (by omega)
        have tl : ((Str.ofString (toString (i : Int)))).length ≤ 1921 := PyProof.Rows.int_text_len_1921 lg
        refine ⟨_, rfl, rfl, rfl, d, .int (i : Int), rfl, upd_same, i, rfl, lg, _, _, rfl, rfl, by rw [lp, sizeLine_eq]; omega, rq3.parse i er _ (sG.trans (Same.new nd))⟩
      · obtain ⟨dx2, tn, ta, tl, ho, hn, hta, hl⟩ := op.ex
        exact ⟨x, dx2, _, rfl, ho, x, l', rfl, op, fun q nq => rq3.good l er ok l' q _ pl srt (sG.trans (Same.new nq)) (sG.free nq) upd_same⟩
    · refine ⟨_, rfl, p, _, rfl, .inl (SqL.of hp3), rfl, _, rfl, if_false_of (by rfl) ?_⟩
      refine ⟨_, rfl, p, _, rfl, .inl (SqL.of hp3), rfl, _, rfl, if_false_of (by rfl) ?_⟩
      refine ⟨_, rfl, p, _, rfl, .inl (SqL.of hp3), rfl, _, rfl, if_false_of (by rfl) ?_⟩
      refine ⟨_, rfl, p, _, rfl, .inl (SqL.of hp3), rfl, _, rfl, if_false_of (by rfl) ?_⟩
      refine ⟨_, rfl, p, _, rfl, .inl (SqL.of hp3), rfl, _, rfl, if_false_of (by rfl) ?_⟩
      refine ⟨_, rfl, p, _, rfl, .inl (SqL.of hp3), rfl, _, rfl, if_true_of (by rfl) ?_⟩
      refine ⟨rfl, _, rfl, r3, _, 0, _, rfl, rfl, SqL.of hr3, rfl, _, rfl, r3, _, 1, _, rfl, rfl, SqL.of hr3, rfl, _, rfl, r3, _, 2, _, rfl, rfl, SqL.of hr3, rfl, _, rfl, r3, _, 3, _, rfl, rfl, SqL.of hr3, rfl, _, rfl, r3, _, 4, _, rfl, rfl, SqL.of hr3, rfl, [x0, x1, x2, x3, x4], rfl, ?_⟩
      refine ⟨lns3, few9, fun i er G d sG nd => ⟨true, Z.e1, fun _ a ha => ?_, fun z => Bool.noConfusion z⟩, fun l er nb G sG => ⟨false, Z.e2, fun z => Bool.noConfusion z, fun _ => ⟨true, Z.e3, fun _ a _ => rq3.bad l er nb G sG, fun z => Bool.noConfusion z⟩⟩, fun l er ok l' x G pl srt sG op => ?_⟩
      · have i10 := num i er
        have lg : ((i : Int)).natAbs.log2 < 1920 := Nat.lt_of_le_of_lt (Nat.log2_le_self _) (by omega)
        have tl : ((Str.ofString (toString (i : Int)))).length ≤ 1921 := PyProof.Rows.int_text_len_1921 lg
        refine ⟨_, rfl, rfl, rfl, d, .int (i : Int), rfl, upd_same, i, rfl, lg, _, _, rfl, rfl, by rw [lp, sizeLine_eq]; omega, rq3.parse i er _ (sG.trans (Same.new nd))⟩
      · obtain ⟨dx2, tn, ta, tl, ho, hn, hta, hl⟩ := op.ex
        exact ⟨x, dx2, _, rfl, ho, x, l', rfl, op, fun q nq => rq3.good l er ok l' q _ pl srt (sG.trans (Same.new nq)) (sG.free nq) upd_same⟩
    · refine ⟨_, rfl, p, _, rfl, .inl (SqL.of hp3), rfl, _, rfl, if_false_of (by rfl) ?_⟩
      refine ⟨_, rfl, p, _, rfl, .inl (SqL.of hp3), rfl, _, rfl, if_false_of (by rfl) ?_⟩
      refine ⟨_, rfl, p, _, rfl, .inl (SqL.of hp3), rfl, _, rfl, if_false_of (by rfl) ?_⟩
      refine ⟨_, rfl, p, _, rfl, .inl (SqL.of hp3), rfl, _, rfl, if_false_of (by rfl) ?_⟩
      refine ⟨_, rfl, p, _, rfl, .inl (SqL.of hp3), rfl, _, rfl, if_false_of (by rfl) ?_⟩
      refine ⟨_, rfl, p, _, rfl, .inl (SqL.of hp3), rfl, _, rfl, if_false_of (by rfl) ?_⟩
      refine ⟨rfl, _, rfl, r3, _, 0, _, rfl, rfl, SqL.of hr3, rfl, _, rfl, r3, _, 1, _, rfl, rfl, SqL.of hr3, rfl, _, rfl, r3, _, 2, _, rfl, rfl, SqL.of hr3, rfl, _, rfl, r3, _, 3, _, rfl, rfl, SqL.of hr3, rfl, _, rfl, r3, _, 4, _, rfl, rfl, SqL.of hr3, rfl, _, rfl, r3, _, 5, _, rfl, rfl, SqL.of hr3, rfl, _, rfl, r3, _, 6, _, rfl, rfl, SqL.of hr3, rfl, _, rfl, r3, _, 7, _, rfl, rfl, SqL.of hr3, rfl, _, rfl, r3, _, 8, _, rfl, rfl, SqL.of hr3, rfl, [x0, x1, x2, x3, x4, x5, x6, x7, x8], rfl, ?_⟩
      refine ⟨lns3, few9, fun i er G d sG nd => ⟨true, Z.e1, fun _ a ha => ?_, fun z => Bool.noConfusion z⟩, fun l er nb G sG => ⟨false, Z.e2, fun z => Bool.noConfusion z, fun _ => ⟨true, Z.e3, fun _ a _ => rq3.bad l er nb G sG, fun z => Bool.noConfusion z⟩⟩, fun l er ok l' x G pl srt sG op => ?_⟩
      · have i10 := num i er
        have lg : ((i : Int)).natAbs.log2 < 1920 := Nat.lt_of_le_of_lt (Nat.log2_le_self _) (by omega)
        have tl : ((Str.ofString (toString (i : Int)))).length ≤ 1921 := PyProof.Rows.int_text_len_1921 lg
        refine ⟨_, rfl, rfl, rfl, d, .int (i : Int), rfl, upd_same, i, rfl, lg, _, _, rfl, rfl, by rw [lp, sizeLine_eq]; omega, rq3.parse i er _ (sG.trans (Same.new nd))⟩
      · obtain ⟨dx2, tn, ta, tl, ho, hn, hta, hl⟩ := op.ex
        exact ⟨x, dx2, _, rfl, ho, x, l', rfl, op, fun q nq => rq3.good l er ok l' q _ pl srt (sG.trans (Same.new nq)) (sG.free nq) upd_same⟩
end
end Pr
namespace Pr
open PySem PySem.Spec PyProof.Rows L2 Gd
/-! ### _law_near_line -/
/-- a value that can be a line; a text has at most n signs -/
def Lb (n : Nat) (H : Hp) (v : V) : Prop := (∃ ty, Kd H v ty) ∧ ∀ z, v = .str z → z.length ≤ n
theorem Lb.same {n : Nat} {H H' : Hp} {v : V} (h : Lb n H v) (s : Same H H') : Lb n H' v := ⟨let ⟨ty, k⟩ := h.1; ⟨ty, k.same s⟩, h.2⟩
theorem Lb.le {n m : Nat} {H : Hp} {v : V} (h : Lb n H v) (l : n ≤ m) : Lb m H v := ⟨h.1, fun z e => Nat.le_trans (h.2 z e) l⟩
theorem Lb.str {n : Nat} {H : Hp} {z : Str} (h : z.length ≤ n) : Lb n H (.str z) := ⟨⟨_, .str z⟩, fun y e => by cases e; exact h⟩
theorem Lb.non {n : Nat} {H : Hp} : Lb n H .non := ⟨⟨_, .non⟩, fun y e => (nomatch e)⟩
theorem Lb.int {n : Nat} {H : Hp} {i : Int} : Lb n H (.int i) := ⟨⟨_, .int i⟩, fun y e => (nomatch e)⟩
theorem Lb.lst {n : Nat} {H : Hp} {a : Addr} {xs : List V} (h : H a = some (.lst xs)) : Lb n H (.ref a) := ⟨⟨_, .lst h⟩, fun y e => (nomatch e)⟩
theorem Lb.tup {n : Nat} {H : Hp} {a : Addr} {xs : List V} (h : Tx.TX H a xs) : Lb n H (.ref a) := ⟨⟨_, .tup h⟩, fun y e => (nomatch e)⟩
theorem Hm.sub {d : Addr} {H : Hp} : Same (Hm d H) H := fun b o h => (Hm.some_of h).1
theorem Lb.ln {n : Nat} {d : Addr} {H : Hp} {v : V} (h : Lb n (Hm d H) v) (l : n ≤ 100000) : Ln H v := ⟨let ⟨ty, k⟩ := h.1; ⟨ty, k.same Hm.sub⟩, fun z e => Nat.le_trans (h.2 z e) l⟩
def spNear : Sp := fun vs H Q _ => ∃ (d : Addr) (z : Str) (p : Str × Nat) (n L : Nat), vs = [.ref d, .str z] ∧ lineOf (.str z) = some p ∧ z.length ≤ L ∧ L ≤ 1000 ∧ Dice H d n ∧ n + 3 < 1000000 ∧
  ∀ (v : V) (H' : Hp), Kp d H H' → Dice H' d (n + 3) → Lb (3 * L + 20) (Hm d H') v → Q v H'
theorem noPart {σ : L2.St} {H : Hp} {k : Option Int → Hp → Prop} (h : k none H) : tNoPart σ H k := h
section
variable {P : Program} {w : World} {K : PySem.W.Frag} {mg : Str → Option Value} {base : Heap} {fR fP fM : Addr} {dR dP dM : FuncData}
theorem scNear : FnScope ["dice", "line", "words", "at", "sign", "some"] ["dice", "line"] (defScope sNear) := ⟨rfl, rfl, rfl, by decide +kernel, rfl, by decide +kernel, by decide +kernel⟩
theorem ok_near {f : Addr} {fd : FuncData} (F : Fun K "_law_near_line" "_law_near_line" sNear f fd) (D : Draws K mg fR fP fM dR dP dM) (T : Free mg) : FnOk P w K mg base CX0 3 f fd ["dice", "line"] spNear := by
  have GR : FnOk P w K mg base CX0 1 fR dR ["dice", "total"] spRoll := ok_roll D.FR T
  have GP : FnOk P w K mg base CX0 2 fP dP ["dice", "items"] (spPick K) := ok_pick D T
  refine F.ok scNear (fun vs H Q E h => ?_) (fun cdv A outer s H vs Q E hr h => ?_)
  · obtain ⟨d, z, p, n, L, rfl, _⟩ := h
    rfl
  · obtain ⟨d, z, p, n, L, rfl, lo, zl, L3, di, hn, q⟩ := h
    have r1 : Room 1 _ := hr.mono (by decide)
    have hu := hr.units
    refine ⟨_, pss_cons (ps_set (i := 2) scNear.nd rfl (.inl rfl) (pe_split (pv 1) pe_str))
      (pss_cons (ps_par (i := 3) (j := 4) (by rfl) scNear.nd rfl rfl (by decide) rfl rfl (pa_cons (pe_call GR r1 (by rfl) D.gR D.FR.kp D.bR .nil pass0 (pa_cons (pv 0) (pa_cons (pe_op op_add (pe_callB call_len_str (by rfl) T.len PySem.boot_len (pa_cons (pv 1) pa_nil)) pe_int) pa_nil)))
          (pa_cons (pe_call GP hr (by rfl) D.gP D.FP.kp D.bP .nil pass0 (pa_cons (pv 0) (pa_cons (pe_lst (pa_cons pe_str (pa_cons pe_str (pa_cons pe_str (pa_cons pe_str (pa_cons pe_str (pa_cons pe_str (pa_cons pe_str (pa_cons pe_str pa_nil))))))))) pa_nil))) pa_nil)) (by rfl))
      (pss_cons (ps_set (i := 5) scNear.nd rfl (.inl rfl) (pe_lst (pa_cons (pe_op op_add_str (pe_op op_add_str (pe_slice sl_str (pv 1) po_none (po_some (pv 3))) (pv 4)) (pe_slice sl_str (pv 1) (po_some (pv 3)) po_none))
          (pa_cons (pe_op op_add_str (pe_slice sl_str (pv 1) po_none (po_some (pv 3))) (pe_slice sl_str (pv 1) (po_some (pe_op op_add (pv 3) pe_int)) po_none))
          (pa_cons (pe_op op_add_str (pv 1) pe_str) (pa_cons (pe_op op_add_str pe_str (pv 1)) (pa_cons (pe_upper (pv 1)) (pa_cons pe_non (pa_cons pe_int pa_nil)))))))))
      (pss_cons (ps_set (i := 5) scNear.nd rfl (.inl rfl) (pe_op op_cat (pv 5) (pe_lst (pa_cons (pe_op op_add_str pe_str (pe_ix ix_list (pv 2) pe_int (fun _ _ => rfl)))
          (pa_cons (pe_op op_add_str (pe_op op_add_str (pe_ix ix_list (pv 2) pe_int (fun _ _ => rfl)) pe_str) (pe_ix ix_list (pv 2) pe_int (fun _ _ => rfl)))
          (pa_cons (pe_op op_add_str (pe_op op_add_str pe_str (pe_ix ix_list (pv 2) pe_int (fun _ _ => rfl))) pe_str)
          (pa_cons (Tx.pe_tupX (pa_cons (pv 1) pa_nil)) (pa_cons (pv 2) pa_nil))))))))
      (pss_cons (ps_expr (pe_bm PySem.F.plainAttrs_list PySem.F.slot_list_append PySem.F.type_list_append mt_append (pv 5) (pa_cons (pe_op op_add_str (pe_op op_add_str pe_str (pe_ix ix_list (pv 2) pe_int (fun _ _ => rfl))) pe_str) pa_nil)))
      (pss_one (ps_ret (pe_call GP hr (by rfl) D.gP D.FP.kp D.bP .nil pass0 (pa_cons (pv 0) (pa_cons (pe_op op_cat (pv 5) (pe_lst (pa_cons (pv 1) (pa_cons (pe_op op_add_str (pe_op op_add_str pe_str (pe_ix ix_list (pv 2) pe_int (fun _ _ => rfl))) pe_str) (pa_cons pe_str (pa_cons (pe_op op_add_str pe_str (pe_ix ix_list (pv 2) pe_int (fun _ _ => rfl))) pa_nil))))))
          pa_nil))))))))), ?_⟩
    obtain ⟨c, ez, az, dz⟩ := lineL_some (show lineL (sp z) = some p from lo)
    have hs : (Txt.split z " ").map V.str = [V.str "op", .str p.1, .str c] := by
      rw [sp_eq, ez]
      rfl
    have l1 : p.1.length ≤ 8 := by
      have h2 : (decide (1 ≤ p.1.length) && decide (p.1.length ≤ 8) && p.1.cps.toList.all azC) = true := az
      simp only [Bool.and_eq_true, decide_eq_true_eq] at h2
      omega
    have lc : c.length ≤ z.length := (sp_of (by rw [ez]; simp)).1
    obtain ⟨ds, hd⟩ := di.there
    refine ⟨_, rfl, ⟨_, rfl⟩, z, " ", rfl, rfl, rfl, by rw [sizeLine_eq]; omega, fun W nW => ?_⟩
    rw [hs]
    have s1 := Same.new nW (o := .lst [V.str "op", .str p.1, .str c])
    have hW : (upd H W (.lst [V.str "op", .str p.1, .str c])) W = some (.lst [V.str "op", .str p.1, .str c]) := upd_same
    have dW : d ≠ W := ne_of_none hd nW
    have k1 : Kp d H (upd H W (.lst [V.str "op", .str p.1, .str c])) := Kp.same s1
    have di1 := di.same s1
    generalize upd H W (.lst [V.str "op", .str p.1, .str c]) = H1 at k1 hW di1 ⊢
    refine ⟨_, rfl, _, rfl, z, rfl, by rw [sizeLine_eq]; omega, _, _, rfl, rfl, d, _, n, rfl, di1, by omega, by omega, by omega, fun r o r0 r1' di2 => ?_⟩
    have k2 : Kp d H (upd H1 d o) := k1.trans Kp.upd
    have hW2 : (upd H1 d o) W = some (.lst [V.str "op", .str p.1, .str c]) := by rw [upd_ne dW.symm]; exact hW
    generalize upd H1 d o = H2 at k2 hW2 di2 ⊢
    obtain ⟨ds2, hd2⟩ := di2.there
    refine ⟨_, rfl, by show 8 ≤ sizeLine; decide, fun B nB => ?_⟩
    have hB : (upd H2 B (.lst [V.str " ", .str "3", .str "0", .str "x", .str "A", .str "", .str "_", .str "-"])) B = some (.lst [V.str " ", .str "3", .str "0", .str "x", .str "A", .str "", .str "_", .str "-"]) := upd_same
    have k3 := k2.trans (Kp.new nB (o := .lst [V.str " ", .str "3", .str "0", .str "x", .str "A", .str "", .str "_", .str "-"]))
    have di3 := di2.same (Same.new nB (o := .lst [V.str " ", .str "3", .str "0", .str "x", .str "A", .str "", .str "_", .str "-"]))
    have hW3 := (Same.new nB (o := .lst [V.str " ", .str "3", .str "0", .str "x", .str "A", .str "", .str "_", .str "-"])) _ _ hW2
    have dB : d ≠ B := ne_of_none hd2 nB
    generalize upd H2 B (.lst [V.str " ", .str "3", .str "0", .str "x", .str "A", .str "", .str "_", .str "-"]) = H3 at k3 hB di3 hW3 ⊢
    refine ⟨d, B, n + 1, _, rfl, dB.symm, .inl (SqL.of hB), by simp, by show 8 ≤ 1000; decide, di3, by omega, fun sg o2 msg di4 => ?_⟩
    obtain ⟨s0, rfl, ls⟩ : ∃ s0 : Str, sg = .str s0 ∧ s0.length ≤ 1 := by
      have all : ∀ v ∈ [V.str " ", .str "3", .str "0", .str "x", .str "A", .str "", .str "_", .str "-"], ∃ s0 : Str, v = .str s0 ∧ s0.length ≤ 1 := by
        intro v m
        rcases List.mem_cons.mp m with rfl | m
        · exact ⟨_, rfl, by decide⟩
        · rcases List.mem_cons.mp m with rfl | m
          · exact ⟨_, rfl, by decide⟩
          · rcases List.mem_cons.mp m with rfl | m
            · exact ⟨_, rfl, by decide⟩
            · rcases List.mem_cons.mp m with rfl | m
              · exact ⟨_, rfl, by decide⟩
              · rcases List.mem_cons.mp m with rfl | m
                · exact ⟨_, rfl, by decide⟩
                · rcases List.mem_cons.mp m with rfl | m
                  · exact ⟨_, rfl, by decide⟩
                  · rcases List.mem_cons.mp m with rfl | m
                    · exact ⟨_, rfl, by decide⟩
                    · rw [List.mem_singleton.mp m]
                      exact ⟨_, rfl, by decide⟩
      exact all sg msg
    have k4 := k3.trans (Kp.upd (d := d) (H := H3) (o := o2))
    have hW4 : (upd H3 d o2) W = some (.lst [V.str "op", .str p.1, .str c]) := by rw [upd_ne dW.symm]; exact hW3
    generalize upd H3 d o2 = H4 at k4 hW4 di4 ⊢
    have zs : z.length ≤ sizeLine := by rw [sizeLine_eq]; omega
    have ca := cutS_length z
    have cb := cutS_length z none (some r)
    have cc := cutS_length z (some r) none
    have cd := cutS_length z (some (r + 1)) none
    have b1 : (cutS z none (some r)).length + s0.length ≤ sizeLine := by rw [sizeLine_eq]; omega
    have b2 : (cutS z none (some r) ++ s0).length + (cutS z (some r) none).length ≤ sizeLine := by rw [strLen_append, sizeLine_eq]; omega
    have b3 : (cutS z none (some r)).length + (cutS z (some (r + 1)) none).length ≤ sizeLine := by rw [sizeLine_eq]; omega
    have b4 : z.length + (" " : Str).length ≤ sizeLine := by rw [sizeLine_eq, show (" " : Str).length = 1 from rfl]; omega
    have b5 : (" " : Str).length + z.length ≤ sizeLine := by rw [sizeLine_eq, show (" " : Str).length = 1 from rfl]; omega
    refine ⟨_, _, rfl, _, rfl, noPart ⟨_, rfl, r, rfl, z, rfl, zs, _, rfl, _, _, rfl, rfl, b1, _, rfl, _, rfl, r, rfl, noPart ⟨z, rfl, zs, _, _, rfl, rfl, b2, ?_⟩⟩⟩
    refine ⟨_, rfl, noPart ⟨_, rfl, r, rfl, z, rfl, zs, _, rfl, _, rfl, _, _, rfl, rfl, _, rfl, noPart ⟨z, rfl, zs, _, _, rfl, rfl, b3, ?_⟩⟩⟩
    refine ⟨_, rfl, _, _, rfl, rfl, b4, _, rfl, _, _, rfl, rfl, b5, _, rfl, ⟨_, rfl⟩, z, rfl, rfl, by omega, ?_⟩
    refine ⟨by show 7 ≤ sizeLine; decide, fun q1 n1 => ?_⟩
    have lup : (Txt.upper z).length ≤ 3 * z.length := PyProof.Rows.len_upper z
    have lsp : (" " : Str).length = 1 := rfl
    have a1 : ∀ v ∈ [V.str (cutS z none (some r) ++ s0 ++ cutS z (some r) none), .str (cutS z none (some r) ++ cutS z (some (r + 1)) none), .str (z ++ " "), .str (" " ++ z), .str (Txt.upper z), .non, .int 0], ∀ G, Lb (3 * L + 20) G v := by
      intro v m G
      rcases List.mem_cons.mp m with rfl | m
      · exact Lb.str (by rw [strLen_append, strLen_append]; omega)
      · rcases List.mem_cons.mp m with rfl | m
        · exact Lb.str (by rw [strLen_append]; omega)
        · rcases List.mem_cons.mp m with rfl | m
          · exact Lb.str (by rw [strLen_append, lsp]; omega)
          · rcases List.mem_cons.mp m with rfl | m
            · exact Lb.str (by rw [strLen_append, lsp]; omega)
            · rcases List.mem_cons.mp m with rfl | m
              · exact Lb.str (by omega)
              · rcases List.mem_cons.mp m with rfl | m
                · exact Lb.non
                · rw [List.mem_singleton.mp m]
                  exact Lb.int
    have len1 : [V.str (cutS z none (some r) ++ s0 ++ cutS z (some r) none), .str (cutS z none (some r) ++ cutS z (some (r + 1)) none), .str (z ++ " "), .str (" " ++ z), .str (Txt.upper z), .non, .int 0].length = 7 := rfl
    have s5 : Same H4 (upd H4 q1 (.lst [V.str (cutS z none (some r) ++ s0 ++ cutS z (some r) none), .str (cutS z none (some r) ++ cutS z (some (r + 1)) none), .str (z ++ " "), .str (" " ++ z), .str (Txt.upper z), .non, .int 0])) := Same.new n1
    have hq1 : (upd H4 q1 (.lst [V.str (cutS z none (some r) ++ s0 ++ cutS z (some r) none), .str (cutS z none (some r) ++ cutS z (some (r + 1)) none), .str (z ++ " "), .str (" " ++ z), .str (Txt.upper z), .non, .int 0])) q1 = some (.lst [V.str (cutS z none (some r) ++ s0 ++ cutS z (some r) none), .str (cutS z none (some r) ++ cutS z (some (r + 1)) none), .str (z ++ " "), .str (" " ++ z), .str (Txt.upper z), .non, .int 0]) := upd_same
    have k5 := k4.trans (Kp.same s5)
    have di5 := di4.same s5
    have hW5 := s5 _ _ hW4
    generalize upd H4 q1 (.lst [V.str (cutS z none (some r) ++ s0 ++ cutS z (some r) none), .str (cutS z none (some r) ++ cutS z (some (r + 1)) none), .str (z ++ " "), .str (" " ++ z), .str (Txt.upper z), .non, .int 0]) = H5 at hq1 k5 di5 hW5 ⊢
    generalize [V.str (cutS z none (some r) ++ s0 ++ cutS z (some r) none), .str (cutS z none (some r) ++ cutS z (some (r + 1)) none), .str (z ++ " "), .str (" " ++ z), .str (Txt.upper z), .non, .int 0] = xs1 at hq1 a1 len1
    clear s5 hW4 di4 k4 hW3 hB k3 di3 hW2 k2 di2 hW k1 di1
    have lop : ("op " : Str).length = 3 := rfl
    have lop2 : ("op  " : Str).length = 4 := rfl
    have l01 : (" 01" : Str).length = 3 := rfl
    have l2 : (" 2" : Str).length = 2 := rfl
    have l11 : (" 1" : Str).length = 2 := rfl
    have lgo : ("goal " : Str).length = 5 := rfl
    have ll : 0 < sizeLine - 100000 := by decide
    have fit : ∀ n, n ≤ 100000 → n ≤ sizeLine := fun n h => by rw [sizeLine_eq]; omega
    refine ⟨_, rfl, _, rfl, W, _, 1, _, rfl, rfl, SqL.of hW5, rfl, _, _, rfl, rfl, fit _ (by rw [lop]; omega), ?_⟩
    refine ⟨_, rfl, W, _, 1, _, rfl, rfl, SqL.of hW5, rfl, _, _, rfl, rfl, fit _ (by rw [lsp]; omega), _, rfl, W, _, 2, _, rfl, rfl, SqL.of hW5, rfl, _, _, rfl, rfl, fit _ (by rw [strLen_append, lsp]; omega), ?_⟩
    refine ⟨_, rfl, W, _, 1, _, rfl, rfl, SqL.of hW5, rfl, _, _, rfl, rfl, fit _ (by rw [lop2]; omega), _, _, rfl, rfl, fit _ (by rw [strLen_append, lop2, l11]; omega), ?_⟩
    refine ⟨_, rfl, by show 1 ≤ sizeLine; decide, fun t H6 nt s6 tx => ?_⟩
    have k6 := k5.trans (Kp.same s6)
    have di6 := di5.same s6
    have hW6 := s6 _ _ hW5
    have hq6 := s6 _ _ hq1
    refine ⟨_, rfl, by show 5 ≤ sizeLine; decide, fun q2 n2 => ?_⟩
    have dt : d ≠ t := by
      obtain ⟨ds5, hd5⟩ := di5.there
      exact ne_of_none hd5 nt
    have a2 : ∀ v ∈ [V.str ("op " ++ p.1), .str (p.1 ++ " " ++ c), .str ("op  " ++ p.1 ++ " 1"), .ref t, .ref W], ∀ G, Tx.TX G t [.str z] → G W = some (.lst [V.str "op", .str p.1, .str c]) → Lb (3 * L + 20) G v := by
      intro v m G ht hw
      rcases List.mem_cons.mp m with rfl | m
      · exact Lb.str (by rw [strLen_append, lop]; omega)
      · rcases List.mem_cons.mp m with rfl | m
        · exact Lb.str (by rw [strLen_append, strLen_append, lsp]; omega)
        · rcases List.mem_cons.mp m with rfl | m
          · exact Lb.str (by rw [strLen_append, strLen_append, lop2, l11]; omega)
          · rcases List.mem_cons.mp m with rfl | m
            · exact Lb.tup ht
            · rw [List.mem_singleton.mp m]
              exact Lb.lst hw
    have len2 : [V.str ("op " ++ p.1), .str (p.1 ++ " " ++ c), .str ("op  " ++ p.1 ++ " 1"), .ref t, .ref W].length = 5 := rfl
    have s7 : Same H6 (upd H6 q2 (.lst [V.str ("op " ++ p.1), .str (p.1 ++ " " ++ c), .str ("op  " ++ p.1 ++ " 1"), .ref t, .ref W])) := Same.new n2
    have hq2 : (upd H6 q2 (.lst [V.str ("op " ++ p.1), .str (p.1 ++ " " ++ c), .str ("op  " ++ p.1 ++ " 1"), .ref t, .ref W])) q2 = some (.lst [V.str ("op " ++ p.1), .str (p.1 ++ " " ++ c), .str ("op  " ++ p.1 ++ " 1"), .ref t, .ref W]) := upd_same
    have k7 := k6.trans (Kp.same s7)
    have di7 := di6.same s7
    have hW7 := s7 _ _ hW6
    have hq7 := s7 _ _ hq6
    have tx7 := Tx.TX.same tx s7
    generalize upd H6 q2 (.lst [V.str ("op " ++ p.1), .str (p.1 ++ " " ++ c), .str ("op  " ++ p.1 ++ " 1"), .ref t, .ref W]) = H7 at hq2 k7 di7 hW7 hq7 tx7 ⊢
    generalize [V.str ("op " ++ p.1), .str (p.1 ++ " " ++ c), .str ("op  " ++ p.1 ++ " 1"), .ref t, .ref W] = xs2 at hq2 a2 len2
    refine ⟨_, _, _, _, rfl, rfl, hq7, hq2, by rw [len1, len2]; decide, fun q3 n3 => ?_⟩
    have s8 : Same H7 (upd H7 q3 (.lst (xs1 ++ xs2))) := Same.new n3
    have hq3 : (upd H7 q3 (.lst (xs1 ++ xs2))) q3 = some (.lst (xs1 ++ xs2)) := upd_same
    have k8 := k7.trans (Kp.same s8)
    have di8 := di7.same s8
    have hW8 := s8 _ _ hW7
    have tx8 := Tx.TX.same tx7 s8
    have q3W : q3 ≠ W := (ne_of_none hW7 n3).symm
    have q3t : q3 ≠ t := by
      obtain ⟨o9, ho9, _⟩ := tx7
      exact (ne_of_none ho9 n3).symm
    have nHq3 : H q3 = none := by
      obtain ⟨ds7, hd7⟩ := di7.there
      exact Kp.free k7 (ne_of_none hd7 n3).symm n3
    have q3d : q3 ≠ d := by
      obtain ⟨ds7, hd7⟩ := di7.there
      exact (ne_of_none hd7 n3).symm
    generalize upd H7 q3 (.lst (xs1 ++ xs2)) = H8 at hq3 k8 di8 hW8 tx8 ⊢
    refine ⟨_, rfl, .inl ⟨rfl, _, SqL.of hq3⟩, _, rfl, W, _, 1, _, rfl, rfl, SqL.of hW8, rfl, _, _, rfl, rfl, fit _ (by rw [lop]; omega), _, _, rfl, rfl, fit _ (by rw [strLen_append, lop, l01]; omega), q3, _, _, rfl, rfl, hq3, by rw [List.length_append, len1, len2]; decide, ?_⟩
    have k9 : Kp d H (upd H8 q3 (.lst (xs1 ++ xs2 ++ [V.str ("op " ++ p.1 ++ " 01")]))) := fun b u nb e => by
      rw [upd_ne (ne_of_none e nHq3)]
      exact k8 b u nb e
    have hq9 : (upd H8 q3 (.lst (xs1 ++ xs2 ++ [V.str ("op " ++ p.1 ++ " 01")]))) q3 = some (.lst (xs1 ++ xs2 ++ [V.str ("op " ++ p.1 ++ " 01")])) := upd_same
    have di9 : Dice (upd H8 q3 (.lst (xs1 ++ xs2 ++ [V.str ("op " ++ p.1 ++ " 01")]))) d (n + 2) := di8.kept fun o e => by
      rw [upd_ne q3d.symm]
      exact e
    have hW9 : (upd H8 q3 (.lst (xs1 ++ xs2 ++ [V.str ("op " ++ p.1 ++ " 01")]))) W = some (.lst [V.str "op", .str p.1, .str c]) := by
      rw [upd_ne q3W.symm]
      exact hW8
    have tx9 : Tx.TX (upd H8 q3 (.lst (xs1 ++ xs2 ++ [V.str ("op " ++ p.1 ++ " 01")]))) t [.str z] := by
      obtain ⟨o9, ho9, r9⟩ := tx8
      exact ⟨o9, by rw [upd_ne q3t.symm]; exact ho9, r9⟩
    generalize upd H8 q3 (.lst (xs1 ++ xs2 ++ [V.str ("op " ++ p.1 ++ " 01")])) = H9 at k9 hq9 di9 hW9 tx9 ⊢
    refine ⟨_, rfl, _, rfl, ?_⟩
    refine ⟨_, rfl, _, rfl, W, _, 1, _, rfl, rfl, SqL.of hW9, rfl, _, _, rfl, rfl, fit _ (by rw [lop]; omega), _, _, rfl, rfl, fit _ (by rw [strLen_append, lop, l2]; omega), _, rfl, W, _, 1, _, rfl, rfl, SqL.of hW9, rfl, _, _, rfl, rfl, fit _ (by rw [lgo]; omega), by show 4 ≤ sizeLine; decide, fun q4 n4 => ?_⟩
    have s10 : Same H9 (upd H9 q4 (.lst [V.str z, .str ("op " ++ p.1 ++ " 2"), .str "op new 1", .str ("goal " ++ p.1)])) := Same.new n4
    have hq4 : (upd H9 q4 (.lst [V.str z, .str ("op " ++ p.1 ++ " 2"), .str "op new 1", .str ("goal " ++ p.1)])) q4 = some (.lst [V.str z, .str ("op " ++ p.1 ++ " 2"), .str "op new 1", .str ("goal " ++ p.1)]) := upd_same
    have k10 := k9.trans (Kp.same s10)
    have di10 := di9.same s10
    have hW10 := s10 _ _ hW9
    have hq10 := s10 _ _ hq9
    have tx10 := Tx.TX.same tx9 s10
    have a4 : ∀ v ∈ [V.str z, .str ("op " ++ p.1 ++ " 2"), .str "op new 1", .str ("goal " ++ p.1)], ∀ G, Lb (3 * L + 20) G v := by
      intro v m G
      rcases List.mem_cons.mp m with rfl | m
      · exact Lb.str (by omega)
      · rcases List.mem_cons.mp m with rfl | m
        · exact Lb.str (by rw [strLen_append, strLen_append, lop, l2]; omega)
        · rcases List.mem_cons.mp m with rfl | m
          · exact Lb.str (by rw [show ("op new 1" : Str).length = 8 from rfl]; omega)
          · rw [List.mem_singleton.mp m]
            exact Lb.str (by rw [strLen_append, lgo]; omega)
    have len4 : [V.str z, .str ("op " ++ p.1 ++ " 2"), .str "op new 1", .str ("goal " ++ p.1)].length = 4 := rfl
    generalize upd H9 q4 (.lst [V.str z, .str ("op " ++ p.1 ++ " 2"), .str "op new 1", .str ("goal " ++ p.1)]) = H10 at hq4 k10 di10 hW10 hq10 tx10 ⊢
    generalize [V.str z, .str ("op " ++ p.1 ++ " 2"), .str "op new 1", .str ("goal " ++ p.1)] = xs4 at hq4 a4 len4
    refine ⟨_, _, _, _, rfl, rfl, hq10, hq4, by rw [List.length_append, List.length_append, len1, len2, len4]; show 7 + 5 + 1 + 4 ≤ sizeLine; decide, fun q5 n5 => ?_⟩
    have s11 : Same H10 (upd H10 q5 (.lst (xs1 ++ xs2 ++ [V.str ("op " ++ p.1 ++ " 01")] ++ xs4))) := Same.new n5
    have hq5 : (upd H10 q5 (.lst (xs1 ++ xs2 ++ [V.str ("op " ++ p.1 ++ " 01")] ++ xs4))) q5 = some (.lst (xs1 ++ xs2 ++ [V.str ("op " ++ p.1 ++ " 01")] ++ xs4)) := upd_same
    have q5d : q5 ≠ d := by
      obtain ⟨ds10, hd10⟩ := di10.there
      exact (ne_of_none hd10 n5).symm
    refine ⟨d, q5, n + 2, _, rfl, q5d, .inl (SqL.of hq5), by simp, by rw [List.length_append, List.length_append, List.length_append, len1, len2, len4]; show 7 + 5 + 1 + 4 ≤ 1000; decide, di10.same s11, by omega, fun v o5 mv di12 => ?_⟩
    have kf : Kp d H (upd (upd H10 q5 (.lst (xs1 ++ xs2 ++ [V.str ("op " ++ p.1 ++ " 01")] ++ xs4))) d o5) := (k10.trans (Kp.same s11)).trans Kp.upd
    have wf : Hm d (upd (upd H10 q5 (.lst (xs1 ++ xs2 ++ [V.str ("op " ++ p.1 ++ " 01")] ++ xs4))) d o5) W = some (.lst [V.str "op", .str p.1, .str c]) := Hm.of (by rw [upd_ne dW.symm]; exact s11 _ _ hW10) dW.symm
    have tf : Tx.TX (Hm d (upd (upd H10 q5 (.lst (xs1 ++ xs2 ++ [V.str ("op " ++ p.1 ++ " 01")] ++ xs4))) d o5)) t [.str z] := by
      obtain ⟨o9, ho9, r9⟩ := tx10
      exact ⟨o9, Hm.of (by rw [upd_ne dt.symm]; exact s11 _ _ ho9) dt.symm, r9⟩
    refine q v _ kf di12 ?_
    rcases List.mem_append.mp mv with mv | mv
    · rcases List.mem_append.mp mv with mv | mv
      · rcases List.mem_append.mp mv with mv | mv
        · exact a1 v mv _
        · exact a2 v mv _ tf wf
      · rw [List.mem_singleton.mp mv]
        exact Lb.str (by rw [strLen_append, strLen_append, lop, l01]; omega)
    · exact a4 v mv _
end
end Pr
namespace PySem
namespace OwnNe
open PySem.W PySem.Calls PyProof.Rows Builtin
section
variable {prog : Program} {w : World} {A : Around} {E : Value → Shared → Prop} {s : Shared} {K : Frag} {x C f : Addr} {ox : Obj} {od : Option Obj} {b tb : Value}
/-- x != b by object's own !=, which asks the class's == -/
theorem own_ne {Q : Value → Shared → Prop} (hu : A.units + 1 < cLine) (X : K.In s.heap) (I : InstAt s.heap x ox C od) (hb : Looks (model prog w) s.heap (typeOf b) tb) (hn : notFirst K C tb = true)
    (hne : findIn K (.ref C) "__ne__" = some (some (.builtin "object.__ne__"))) (hobj : subIn K (.ref C) (.type "object") = some true) (hs : findIn K (.ref C) "__eq__" = some (some (.ref f))) (hf : isFn K (.ref f) = true)
    (h : wpAny (model prog w) A.in1 (call (.ref f) [.ref x, b]) (fun v s' => ∃ c, v = .bool c ∧ Q (.bool (!c)) s') E s) : wpAny (model prog w) A (richCompare .NotEq (.ref x) b) Q E s := by
  have isObj : Looks (model prog w) s.heap (isInstance (.ref x) (.type "object")) true := I.type.andThen (looks_subIn X hobj)
  have one : wpAny (model prog w) A (tryCompare (.ref x) "__ne__" b) (fun r s' => ∃ v, r = some v ∧ Q v s') E s := by
    unfold tryCompare
    refine wpAny_bind ?_
    simp only [callSpecialIfBound?, bindSpecialIfBound?]
    refine wpAny_holding (wpAny_bind (wpAny_bind (wpAny_bind (I.type.here ((looks_findIn X hne).here ?_)))))
    simp only [F.cmp_object.ne.bind]
    refine wpAny_bind (wpAny_askSetting (wpAny_ite ?_))
    have body : ∀ {Q2 : PySem.Fin → Shared → Prop}, wpAny (model prog w) A.in1 (call (.ref f) [.ref x, b]) (fun v s' => ∃ c, v = .bool c ∧ Q2 (.done (.ret (.bool (!c)))) s') E s →
        wpAny (model prog w) A.in1 (Builtin.«object.__ne__» ⟨[.ref x, b], []⟩) Q2 E s := fun {Q2} hc => by
      unfold Builtin.«object.__ne__»
      repeat (first
        | with_reducible refine wpAny_cRoomFor (A := A.in1) hu ?_
        | (refine wpAny_bind (m := callSpecialIfBound? (.ref x) (Str.ofString "__eq__") [b])
            (ifBound_K X I hs hf (wpAny_mono hc (fun r s' hr => by
              obtain ⟨c, rfl, hq⟩ := hr
              repeat (first | exact hq | exact wpAny_pure hq | exact wpAny_truthy_bool hq | (refine wpAny_bind (m := truthy (.bool _)) (wpAny_truthy_bool ?_)) | wp_step)) fun _ _ e => e)))
        | wp_step)
    have fin : wpAny (model prog w) A (call (.builtin "object.__ne__") ([.ref x] ++ [b]) >>= fun v => pure (some v)) (fun r s' => ∃ c, r = some (.bool c) ∧ Q (.bool c) s') E s := by
      refine wpAny_bind (wpAny_call (codeAny_call_builtin F.cmp_object.ne.plain F.cmpEntry_ne (check_slot F.cmpKind_ne F.cmpSplit_ne isObj (F.cmpArgs_ne _ _) (body (wpAny_mono h (fun v s' hv => ?_) fun _ _ e => e)))))
      obtain ⟨c, rfl, hq⟩ := hv
      exact ⟨c, rfl, wpAny_pure ⟨_, rfl, hq⟩⟩
    split
    · refine wpAny_bind (wpAny_pure (wpAny_pure ?_))
      refine wpAny_mono fin (fun r s' hr => ?_) fun _ _ e => e
      obtain ⟨c, rfl, hq⟩ := hr
      exact wpAny_pure ⟨_, rfl, hq⟩
    · refine wpAny_tryCatch (wpAny_bind (wpAny_pure (wpAny_pure ?_)))
      refine wpAny_mono fin (fun r s' hr => ?_) fun _ _ e => e
      obtain ⟨c, rfl, hq⟩ := hr
      exact wpAny_pure ⟨_, rfl, hq⟩
  unfold richCompare
  simp only [oneThing_ref]
  refine wpAny_holding (wpAny_bind (wpAny_cRoomFor (Nat.lt_of_succ_lt hu) ?_))
  rw [cmpInfo_NotEq]
  dsimp only
  refine wpAny_bind (I.type.here (wpAny_bind (hb.here ?_)))
  split
  · rename_i q
    have e : subIn K tb (.ref C) = some false := by
      rcases Bool.or_eq_true_iff.mp hn with e | e
      · rw [beq_iff_eq.mp e] at q; simp at q
      · exact beq_iff_eq.mp e
    refine wpAny_bind ((looks_subIn X e).here ?_)
    simp only [Bool.false_eq_true, if_false]
    refine wpAny_bind (wpAny_mono one (fun r s' z => ?_) fun _ _ e => e)
    obtain ⟨v, rfl, hq⟩ := z
    exact wpAny_pure hq
  · refine wpAny_bind (wpAny_pure ?_)
    simp only [Bool.false_eq_true, if_false]
    refine wpAny_bind (wpAny_mono one (fun r s' z => ?_) fun _ _ e => e)
    obtain ⟨v, rfl, hq⟩ := z
    exact wpAny_pure hq
end
end OwnNe
end PySem
namespace Pr
open PySem PySem.Spec PyProof.Rows L2 Gd
/-! ### == and != by the class's own == -/
/-- what of the class == and != look up -/
structure EqF (K : PySem.W.Frag) (C f : Addr) : Prop where
  eq : PySem.W.findIn K (.ref C) "__eq__" = some (some (.ref f))
  fn : PySem.W.isFn K (.ref f) = true
  ne : PySem.W.findIn K (.ref C) "__ne__" = some (some (.builtin "object.__ne__"))
  ob : PySem.W.subIn K (.ref C) (.type "object") = some true
  nD : PySem.W.notFirst K C (.type "dict") = true
  nI : PySem.W.notFirst K C (.type "int") = true
/-- what stands at the right -/
inductive Rt (H : Hp) (C : Addr) : V → Prop where
  | own {b dy : Addr} {gs : List (Str × V)} (e : H b = some (.ins C dy gs)) : Rt H C (.ref b)
  | dict {b : Addr} {kvs : List (Key × V)} (e : H b = some (.dK kvs)) : Rt H C (.ref b)
  | int (i : Int) : Rt H C (.int i)
section
variable {X : Cx} {CX : CXT} {n : Nat} {C f : Addr} {fd : FuncData} {ps : List Str} {sp : Sp} {E : XK}
theorem Rt.looks {pins : List (Addr × Obj)} {σ : L2.St} {H : Hp} {s : Shared} {y : V} {u : Value} (I : Inv X pins σ H s) (EF : EqF X.K C f) (r : Rt H C y) (ry : RelV y u) : ∃ tb, PySem.W.Looks (model X.prog X.w) s.heap (typeOf u) tb ∧ PySem.W.notFirst X.K C tb = true := by
  cases r with
  | own e =>
    cases ry
    obtain ⟨mB, J, _⟩ := ins_get I.hok e
    obtain ⟨od, J, _⟩ := J.look
    exact ⟨.ref C, J.type, by simp [PySem.W.notFirst]⟩
  | dict e =>
    cases ry
    obtain ⟨_, _, _, _, o, _, _, ho, hc, _⟩ := I.hok _ _ e
    refine ⟨.type "dict", fun A Q E s k q => wpAny_typeOf_ref (k _ _ ho) (by rw [hc.1]; exact q), EF.nD⟩
  | int i =>
    obtain ⟨t, rfl⟩ := ry
    exact ⟨.type "int", .now, EF.nI⟩
def rOwnC (C : Addr) (sp : Sp) (E : XK) (neg : Bool) : R2 := fun x y H Q => ∃ a dx fs, x = .ref a ∧ H a = some (.ins C dx fs) ∧ Rt H C y ∧ sp [x, y] H (fun v H' => ∃ c, v = .bl c ∧ Q (.bl (if neg = true then !c else c)) H') E
theorem op_eqOwn (F : FnOk X.prog X.w X.K X.mg X.base CX n f fd ps sp) (EF : EqF X.K C f) (bb : Binds X.K fd ps []) (hx : Passes CX X E) (hr : Room n X.A) : OpR X (compareOp .Eq) (rOwnC C sp E false) := by
  intro pins s σ H x y v u Q I rx ry hq
  obtain ⟨a, dx, fs, rfl, ha, rt, hsp⟩ := hq
  obtain ⟨tb, lk, nf⟩ := rt.looks I EF ry
  cases rx
  obtain ⟨mA, J, _⟩ := ins_get I.hok ha
  obtain ⟨od, J, _⟩ := J.look
  obtain ⟨m, hF⟩ := I.fr
  show wpAny _ _ (richCompare .Eq (.ref a) u) _ _ _
  refine PySem.W.cmp_K (op := .Eq) hr.units0 hF I.ok.mod.kin J lk nf EF.eq EF.fn ?_
  have r2 : Vals [V.ref a, y] [Value.ref a, u] := .cons rfl (.cons ry .nil)
  refine thn (run_fn (us := [Value.ref a, u]) (vs := [V.ref a, y]) F hr bb .nil hx I r2 hsp) fun w s' hw => ?_
  obtain ⟨z, H', I', rz, c, ez, q⟩ := hw
  subst ez
  cases rz
  exact ⟨.bl c, H', I', rfl, q⟩
theorem op_neOwn (F : FnOk X.prog X.w X.K X.mg X.base CX n f fd ps sp) (EF : EqF X.K C f) (bb : Binds X.K fd ps []) (hx : Passes CX X E) (hr : Room (n + 1) X.A) : OpR X (compareOp .NotEq) (rOwnC C sp E true) := by
  intro pins s σ H x y v u Q I rx ry hq
  obtain ⟨a, dx, fs, rfl, ha, rt, hsp⟩ := hq
  obtain ⟨tb, lk, nf⟩ := rt.looks I EF ry
  cases rx
  obtain ⟨mA, J, _⟩ := ins_get I.hok ha
  obtain ⟨od, J, _⟩ := J.look
  show wpAny _ _ (richCompare .NotEq (.ref a) u) _ _ _
  refine PySem.OwnNe.own_ne (by have := hr.units; omega) I.kIn J lk nf EF.ne EF.ob EF.eq EF.fn ?_
  have e0 : Env0 X.prog X.w X.K X.mg X.base X.A.in1 X.stack s H := by
    have e := I.env0
    exact ⟨e.frames, e.mod, e.bs, e.bsz, e.funs, e.frf, e.hok, e.bare⟩
  have hl := F.len _ _ _ _ hsp
  have r2 : Vals [V.ref a, y] [Value.ref a, u] := .cons rfl (.cons ry .nil)
  refine wpAny_call (codeAny_mono (F.run X.A.in1 X.stack s H ⟨[.ref a, u], []⟩ [.ref a, u] [.ref a, y] _ E hr.in1 e0 (by
    have := bb s [.ref a, u] I.kIn (by simpa using hl)
    simpa using this) r2 hsp) fun r s' hq => ?_)
  cases r with
  | error e => exact hx pins σ H s e s' I hq
  | ok fl =>
    cases fl with
    | ret w =>
      obtain ⟨z, H', I', rz, c, ez, q⟩ := I.after hq
      subst ez
      cases rz
      exact ⟨c, rfl, .bl (!c), H', I', rfl, q⟩
    | next => exact False.elim hq
    | brk => exact False.elim hq
    | cont => exact False.elim hq
end
end Pr
namespace Pr
open PySem PySem.Spec PyProof.Rows L2 Gd
/-! ### == and != of dicts with flat values -/
def hitB (ls : List (Key × V)) : List (Key × V) → Bool
  | [] => true
  | p :: r => match valV ls p.1 with
    | none => false
    | some u => eqV p.2 u && hitB ls r
def eqD (ks ls : List (Key × V)) : Bool := (ks.length == ls.length) && hitB ls ks
theorem hits_B {A : Around} {s : Shared} {ls : List (Key × V)} {vb : List (Key × Value)} (rb : KV ls vb) (fl : ∀ p ∈ ls, flatV p.2 = true) {ks : List (Key × V)} {va : List (Key × Value)} (ra : KV ks va) :
    (∀ p ∈ ks, flatV p.2 = true) → PySem.W.KeqHits A s vb va (hitB ls ks) := by
  unfold KV at ra
  induction ra with
  | nil => intro _; exact .nil
  | @cons p q ps qs h t ih =>
    intro hp
    obtain ⟨h1, h2⟩ := h
    have f := hp p List.mem_cons_self
    have rr : RelO (valV ls p.1) (valueAt vb p.1) := rb.val p.1
    obtain ⟨k, v⟩ := q
    have h1' : p.1 = k := h1
    have ih' := ih fun p' hm => hp p' (List.mem_cons_of_mem _ hm)
    cases e : valV ls p.1 with
    | none =>
      rw [e] at rr
      have hn : valueAt vb p.1 = none := RelO.none_of rr
      rw [h1'] at hn
      show PySem.W.KeqHits A s vb ((k, v) :: qs) (match valV ls p.1 with | none => false | some u => eqV p.2 u && hitB ls ps)
      rw [e]
      exact .miss hn
    | some u =>
      rw [e] at rr
      obtain ⟨y, hy, ry⟩ := rr.some_of
      rw [h1'] at hy
      show PySem.W.KeqHits A s vb ((k, v) :: qs) (match valV ls p.1 with | none => false | some u => eqV p.2 u && hitB ls ps)
      rw [e]
      have fu : flatV u = true := by
        have e2 : ((ls.find? fun kv => decide (kv.1 = p.1)).map (·.2)) = some u := e
        obtain ⟨kv, hk, ek⟩ := Option.map_eq_some_iff.mp e2
        rw [← ek]
        exact fl kv (List.mem_of_find?_eq_some hk)
      exact .hit hy (eqAt_V h2 ry f fu) ih'
def rEqDB (neg : Bool) : R2 := fun x y H Q => ∃ a b ks ls, x = .ref a ∧ y = .ref b ∧ H a = some (.dK ks) ∧ H b = some (.dK ls) ∧ (∀ p ∈ ks, flatV p.2 = true) ∧ (∀ p ∈ ls, flatV p.2 = true) ∧ Q (.bl (if neg = true then !eqD ks ls else eqD ks ls)) H
section
variable {X : Cx}
theorem op_eq_dictB (hu : X.A.units < cLine) : OpR X (compareOp .Eq) (rEqDB false) := by
  intro pins s σ H x y v u Q I rx ry h
  obtain ⟨a, b, ks, ls, rfl, rfl, ea, eb, fk, fl, q⟩ := h
  obtain rfl : v = Value.ref a := rx
  obtain rfl : u = Value.ref b := ry
  obtain ⟨_, ya, va, ra, da⟩ := (show ObjOk X.prog X.w H s.heap a (.dK ks) from I.hok a _ ea)
  obtain ⟨_, yb, vb, rb, db⟩ := (show ObjOk X.prog X.w H s.heap b (.dK ls) from I.hok b _ eb)
  have hl : va.length = ks.length := ra.length.symm
  have hl2 : vb.length = ls.length := rb.length.symm
  exact PySem.W.keq_eq (knd := mixKind X.prog X.w) (r := hitB ls ks) ya yb da db hu (fun _ => hits_B rb fl ra fk) (fin_bl I q (by rw [hl, hl2]; rfl))
theorem op_ne_dictB (hu : X.A.units < cLine) : OpR X (compareOp .NotEq) (rEqDB true) := by
  intro pins s σ H x y v u Q I rx ry h
  obtain ⟨a, b, ks, ls, rfl, rfl, ea, eb, fk, fl, q⟩ := h
  obtain rfl : v = Value.ref a := rx
  obtain rfl : u = Value.ref b := ry
  obtain ⟨_, ya, va, ra, da⟩ := (show ObjOk X.prog X.w H s.heap a (.dK ks) from I.hok a _ ea)
  obtain ⟨_, yb, vb, rb, db⟩ := (show ObjOk X.prog X.w H s.heap b (.dK ls) from I.hok b _ eb)
  have hl : va.length = ks.length := ra.length.symm
  have hl2 : vb.length = ls.length := rb.length.symm
  exact PySem.W.keq_ne (knd := mixKind X.prog X.w) (r := hitB ls ks) ya yb da db hu (fun _ => hits_B rb fl ra fk) (fin_bl I q (by rw [hl, hl2]; rfl))
end
end Pr
namespace Pr
open PySem PySem.Spec PyProof.Rows L2 Gd
/-! ### Operators.__eq__ -/
/-- what isinstance looks up of the class -/
structure IsF (K : PySem.W.Frag) (mg : Str → Option Value) (C : Addr) : Prop where
  g : mg "Operators" = some (.ref C)
  cl : PySem.W.findIn K (.ref C) "__class__" = some (some (.builtin "object.__class__"))
  sp : PySem.W.specialIn K (.builtin "object.__class__") "__get__" = some (some (.builtin "getset_descriptor.__get__"))
  tk : PySem.W.takesIn K (.builtin "object.__class__") = some true
  ob : PySem.W.mroIn K C (.type "object") = some true
  k1 : PySem.W.kitOne K (.ref C) (.ref C) = some true
  k2 : PySem.W.kitOne K (.type "dict") (.ref C) = some false
  k3 : PySem.W.kitOne K (.type "int") (.ref C) = some false
def spEqO (C : Addr) : Sp := fun vs H Q _ => ∃ (o : Addr) (y : V) (l : List (Str × Nat)), vs = [.ref o, y] ∧ OpsAt H C o l ∧
  ((∃ o2 l2, y = .ref o2 ∧ OpsAt H C o2 l2 ∧ Q (.bl (eqD (dkv l) (dkv l2))) H) ∨ (((∃ a kvs, y = .ref a ∧ H a = some (.dK kvs)) ∨ ∃ i, y = .int i) ∧ Q (.bl false) H))
theorem flat_dkv {l : List (Str × Nat)} : ∀ p ∈ dkv l, flatV p.2 = true := fun p m => by
  obtain ⟨q, _, rfl⟩ := List.mem_map.mp m
  rfl
section
variable {P : Program} {w : World} {K : PySem.W.Frag} {mg : Str → Option Value} {base : Heap} {C : Addr}
theorem scEqO : FnScope ["self", "other"] ["self", "other"] (defScope mEq) := ⟨rfl, rfl, rfl, by decide +kernel, rfl, by decide +kernel, by decide +kernel⟩
theorem ok_eqO {f : Addr} {fd : FuncData} (F : Fun K "__eq__" "Operators.__eq__" mEq f fd) (cf : OpF K C) (T : Free mg) (I : IsF K mg C) : FnOk P w K mg base CX0 1 f fd ["self", "other"] (spEqO C) := by
  refine F.ok scEqO (fun vs H Q E h => ?_) (fun cdv A outer s H vs Q E hr h => ?_)
  · obtain ⟨o, y, l, rfl, _⟩ := h
    rfl
  · obtain ⟨o, y, l, rfl, op, h⟩ := h
    refine ⟨_, pss_one (ps_ret (pe_and (pe_callB call_isi (by rfl) T.isi (by decide +kernel) (pa_cons (pv 1) (pa_cons (pe_glob (v := .ref C) (by rfl) I.g rfl) pa_nil))) (pe_one (pe_cmpR (op_eq_dictB hr.units0) (pe_fld (pv 0) rfl) (pe_fld (pv 1) rfl) (nomark _))))), ?_⟩
    obtain ⟨dx, tn, ta, tl, ho, hn, ha, hl⟩ := op.ex
    rcases h with ⟨o2, l2, rfl, op2, q⟩ | ⟨h, q⟩
    · obtain ⟨dx2, tn2, ta2, tl2, ho2, hn2, ha2, hl2⟩ := op2.ex
      refine ⟨_, rfl, .ref o2, _, _, _, true, rfl, .own C, .base (.ins ho2 cf.cls I.cl I.sp I.tk I.ob), I.k1, _, rfl, iteT ?_⟩
      exact ⟨_, rfl, o, C, dx, _, _, rfl, ho, cf.cls, cf.n2, rfl, _, rfl, o2, C, dx2, _, _, rfl, ho2, cf.cls, cf.n2, rfl, ta, ta2, _, _, rfl, rfl, ha, ha2, flat_dkv, flat_dkv, q⟩
    · rcases h with ⟨a, kvs, rfl, hd⟩ | ⟨i, rfl⟩
      · exact ⟨_, rfl, .ref a, _, _, _, false, rfl, .own C, (Kd.dK hd).ty, I.k2, _, rfl, iteF q⟩
      · exact ⟨_, rfl, .int i, _, _, _, false, rfl, .own C, (Kd.int (H := H) i).ty, I.k3, _, rfl, iteF q⟩
end
end Pr
namespace PySem
namespace NeD
open Builtin Calls PyProof.Rows SeqAt
/-! ### != of anything but a dict beside a dict -/
section
variable {M : Model} {A : Around} {E : Value → Shared → Prop} {s : Shared} {d : Addr} {od : Obj}
theorem non_declines : Meets (Builtin.«NoneType.__ne__» ⟨[.none, .ref d], []⟩) (fun _ R s => s.heap.get? d = some od ∧ od.cls = .type "dict" ∧ (∃ es ep, od.data = .dict es ep) ∧ R (.ok (.ret .notImplemented)) s) :=
  .of_wp fun prog w A R s h => by obtain ⟨hp, g, dr, tk, os⟩ := s; obtain ⟨hl, hc, ⟨es, ep, he⟩, h⟩ := h; obtain ⟨cls, dd, data, sl⟩ := od; cases (show cls = .type "dict" from hc); cases (show data = .dict es ep from he); have f1 := F.sub_dict_NoneType; wp_walk using wpAny_loadPart' hl, wpAny_load hl; exact ⟨_, rfl, h⟩
theorem dict_non : Meets (Builtin.«dict.__ne__» ⟨[.ref d, .none], []⟩) (fun _ R s => s.heap.get? d = some od ∧ od.cls = .type "dict" ∧ (∃ es ep, od.data = .dict es ep) ∧ R (.ok (.ret .notImplemented)) s) :=
  .of_wp fun prog w A R s h => by
    obtain ⟨hp, g, dr, tk, os⟩ := s; obtain ⟨hl, hc, ⟨es, ep, he⟩, h⟩ := h; obtain ⟨cls, dd, data, sl⟩ := od; cases (show cls = .type "dict" from hc); cases (show data = .dict es ep from he); have f1 := F.sub_NoneType_dict
    have hT : (⟨hp, g, dr, tk, os⟩ : Shared).TypeIs (.ref d) "dict" := ⟨_, hl, rfl⟩
    show wpAny _ _ (Builtin.Dict.dictSlotArgs "__ne__" ⟨[.ref d, .none], []⟩ >>= _) _ _ _
    refine wpAny_bind ?_
    unfold Builtin.Dict.dictSlotArgs
    refine wpAny_bind (wpAny_notOrdered_dict hT ?_)
    wp_walk using wpAny_loadPart' hl
    exact ⟨_, rfl, h⟩
theorem bl_declines (a : Bool) : Meets (Builtin.«int.__ne__» ⟨[(.bool a), .ref d], []⟩) (fun _ R s => s.heap.get? d = some od ∧ od.cls = .type "dict" ∧ (∃ es ep, od.data = .dict es ep) ∧ R (.ok (.ret .notImplemented)) s) :=
  .of_wp fun prog w A R s h => by obtain ⟨hp, g, dr, tk, os⟩ := s; obtain ⟨hl, hc, ⟨es, ep, he⟩, h⟩ := h; obtain ⟨cls, dd, data, sl⟩ := od; cases (show cls = .type "dict" from hc); cases (show data = .dict es ep from he); have f1 := F.sub_dict_bool; wp_walk using wpAny_loadPart' hl, wpAny_load hl; exact ⟨_, rfl, h⟩
theorem dict_bl (a : Bool) : Meets (Builtin.«dict.__ne__» ⟨[.ref d, (.bool a)], []⟩) (fun _ R s => s.heap.get? d = some od ∧ od.cls = .type "dict" ∧ (∃ es ep, od.data = .dict es ep) ∧ R (.ok (.ret .notImplemented)) s) :=
  .of_wp fun prog w A R s h => by
    obtain ⟨hp, g, dr, tk, os⟩ := s; obtain ⟨hl, hc, ⟨es, ep, he⟩, h⟩ := h; obtain ⟨cls, dd, data, sl⟩ := od; cases (show cls = .type "dict" from hc); cases (show data = .dict es ep from he); have f1 := F.sub_bool_dict
    have hT : (⟨hp, g, dr, tk, os⟩ : Shared).TypeIs (.ref d) "dict" := ⟨_, hl, rfl⟩
    show wpAny _ _ (Builtin.Dict.dictSlotArgs "__ne__" ⟨[.ref d, (.bool a)], []⟩ >>= _) _ _ _
    refine wpAny_bind ?_
    unfold Builtin.Dict.dictSlotArgs
    refine wpAny_bind (wpAny_notOrdered_dict hT ?_)
    wp_walk using wpAny_loadPart' hl
    exact ⟨_, rfl, h⟩
theorem int_declines (a : Int) (u : Tok) : Meets (Builtin.«int.__ne__» ⟨[(.int a u), .ref d], []⟩) (fun _ R s => s.heap.get? d = some od ∧ od.cls = .type "dict" ∧ (∃ es ep, od.data = .dict es ep) ∧ R (.ok (.ret .notImplemented)) s) :=
  .of_wp fun prog w A R s h => by obtain ⟨hp, g, dr, tk, os⟩ := s; obtain ⟨hl, hc, ⟨es, ep, he⟩, h⟩ := h; obtain ⟨cls, dd, data, sl⟩ := od; cases (show cls = .type "dict" from hc); cases (show data = .dict es ep from he); have f1 := F.sub_dict_int; wp_walk using wpAny_loadPart' hl, wpAny_load hl; exact ⟨_, rfl, h⟩
theorem dict_int (a : Int) (u : Tok) : Meets (Builtin.«dict.__ne__» ⟨[.ref d, (.int a u)], []⟩) (fun _ R s => s.heap.get? d = some od ∧ od.cls = .type "dict" ∧ (∃ es ep, od.data = .dict es ep) ∧ R (.ok (.ret .notImplemented)) s) :=
  .of_wp fun prog w A R s h => by
    obtain ⟨hp, g, dr, tk, os⟩ := s; obtain ⟨hl, hc, ⟨es, ep, he⟩, h⟩ := h; obtain ⟨cls, dd, data, sl⟩ := od; cases (show cls = .type "dict" from hc); cases (show data = .dict es ep from he); have f1 := F.sub_int_dict
    have hT : (⟨hp, g, dr, tk, os⟩ : Shared).TypeIs (.ref d) "dict" := ⟨_, hl, rfl⟩
    show wpAny _ _ (Builtin.Dict.dictSlotArgs "__ne__" ⟨[.ref d, (.int a u)], []⟩ >>= _) _ _ _
    refine wpAny_bind ?_
    unfold Builtin.Dict.dictSlotArgs
    refine wpAny_bind (wpAny_notOrdered_dict hT ?_)
    wp_walk using wpAny_loadPart' hl
    exact ⟨_, rfl, h⟩
theorem str_declines (a : Str) (u : Tok) : Meets (Builtin.«str.__ne__» ⟨[(.str a u), .ref d], []⟩) (fun _ R s => s.heap.get? d = some od ∧ od.cls = .type "dict" ∧ (∃ es ep, od.data = .dict es ep) ∧ R (.ok (.ret .notImplemented)) s) :=
  .of_wp fun prog w A R s h => by obtain ⟨hp, g, dr, tk, os⟩ := s; obtain ⟨hl, hc, ⟨es, ep, he⟩, h⟩ := h; obtain ⟨cls, dd, data, sl⟩ := od; cases (show cls = .type "dict" from hc); cases (show data = .dict es ep from he); have f1 := F.sub_dict_str; wp_walk using wpAny_loadPart' hl, wpAny_load hl; exact ⟨_, rfl, h⟩
theorem dict_str (a : Str) (u : Tok) : Meets (Builtin.«dict.__ne__» ⟨[.ref d, (.str a u)], []⟩) (fun _ R s => s.heap.get? d = some od ∧ od.cls = .type "dict" ∧ (∃ es ep, od.data = .dict es ep) ∧ R (.ok (.ret .notImplemented)) s) :=
  .of_wp fun prog w A R s h => by
    obtain ⟨hp, g, dr, tk, os⟩ := s; obtain ⟨hl, hc, ⟨es, ep, he⟩, h⟩ := h; obtain ⟨cls, dd, data, sl⟩ := od; cases (show cls = .type "dict" from hc); cases (show data = .dict es ep from he); have f1 := F.sub_str_dict
    have hT : (⟨hp, g, dr, tk, os⟩ : Shared).TypeIs (.ref d) "dict" := ⟨_, hl, rfl⟩
    show wpAny _ _ (Builtin.Dict.dictSlotArgs "__ne__" ⟨[.ref d, (.str a u)], []⟩ >>= _) _ _ _
    refine wpAny_bind ?_
    unfold Builtin.Dict.dictSlotArgs
    refine wpAny_bind (wpAny_notOrdered_dict hT ?_)
    wp_walk using wpAny_loadPart' hl
    exact ⟨_, rfl, h⟩
theorem list_declines (l : Addr) (items : Array Value) (n : Nat) (dd : Option Addr) (sl : Array (Option Value)) : Meets (Builtin.«list.__ne__» ⟨[.ref l, .ref d], []⟩) (fun _ R s => s.heap.get? l = some { cls := .type "list", dict := dd, data := .seq items n, slots := sl } ∧ s.heap.get? d = some od ∧ od.cls = .type "dict" ∧ (∃ es ep, od.data = .dict es ep) ∧ R (.ok (.ret .notImplemented)) s) :=
  .of_wp fun prog w A R s h => by obtain ⟨hp, g, dr, tk, os⟩ := s; obtain ⟨h0, hl, hc, ⟨es, ep, he⟩, h⟩ := h; obtain ⟨cls, dd', data, sl'⟩ := od; cases (show cls = .type "dict" from hc); cases (show data = .dict es ep from he); have f1 := F.sub_dict_list; wp_walk using wpAny_loadPart' h0, wpAny_loadPart' hl; exact ⟨_, rfl, h⟩
theorem dict_list (l : Addr) (items : Array Value) (n : Nat) (dd : Option Addr) (sl : Array (Option Value)) : Meets (Builtin.«dict.__ne__» ⟨[.ref d, .ref l], []⟩) (fun _ R s => s.heap.get? l = some { cls := .type "list", dict := dd, data := .seq items n, slots := sl } ∧ s.heap.get? d = some od ∧ od.cls = .type "dict" ∧ (∃ es ep, od.data = .dict es ep) ∧ R (.ok (.ret .notImplemented)) s) :=
  .of_wp fun prog w A R s h => by
    obtain ⟨hp, g, dr, tk, os⟩ := s; obtain ⟨h0, hl, hc, ⟨es, ep, he⟩, h⟩ := h; obtain ⟨cls, dd', data, sl'⟩ := od; cases (show cls = .type "dict" from hc); cases (show data = .dict es ep from he); have f1 := F.sub_list_dict
    have hT : (⟨hp, g, dr, tk, os⟩ : Shared).TypeIs (.ref d) "dict" := ⟨_, hl, rfl⟩
    show wpAny _ _ (Builtin.Dict.dictSlotArgs "__ne__" ⟨[.ref d, .ref l], []⟩ >>= _) _ _ _
    refine wpAny_bind ?_
    unfold Builtin.Dict.dictSlotArgs
    refine wpAny_bind (wpAny_notOrdered_dict hT ?_)
    wp_walk using wpAny_loadPart' h0, wpAny_loadPart' hl
    exact ⟨_, rfl, h⟩
theorem tuple_declines (l : Addr) (items : Array Value) (n : Nat) (dd : Option Addr) (sl : Array (Option Value)) : Meets (Builtin.«tuple.__ne__» ⟨[.ref l, .ref d], []⟩) (fun _ R s => s.heap.get? l = some { cls := .type "tuple", dict := dd, data := .seq items n, slots := sl } ∧ s.heap.get? d = some od ∧ od.cls = .type "dict" ∧ (∃ es ep, od.data = .dict es ep) ∧ R (.ok (.ret .notImplemented)) s) :=
  .of_wp fun prog w A R s h => by obtain ⟨hp, g, dr, tk, os⟩ := s; obtain ⟨h0, hl, hc, ⟨es, ep, he⟩, h⟩ := h; obtain ⟨cls, dd', data, sl'⟩ := od; cases (show cls = .type "dict" from hc); cases (show data = .dict es ep from he); have f1 := F.sub_dict_tuple; wp_walk using wpAny_loadPart' h0, wpAny_loadPart' hl; exact ⟨_, rfl, h⟩
theorem dict_tuple (l : Addr) (items : Array Value) (n : Nat) (dd : Option Addr) (sl : Array (Option Value)) : Meets (Builtin.«dict.__ne__» ⟨[.ref d, .ref l], []⟩) (fun _ R s => s.heap.get? l = some { cls := .type "tuple", dict := dd, data := .seq items n, slots := sl } ∧ s.heap.get? d = some od ∧ od.cls = .type "dict" ∧ (∃ es ep, od.data = .dict es ep) ∧ R (.ok (.ret .notImplemented)) s) :=
  .of_wp fun prog w A R s h => by
    obtain ⟨hp, g, dr, tk, os⟩ := s; obtain ⟨h0, hl, hc, ⟨es, ep, he⟩, h⟩ := h; obtain ⟨cls, dd', data, sl'⟩ := od; cases (show cls = .type "dict" from hc); cases (show data = .dict es ep from he); have f1 := F.sub_tuple_dict
    have hT : (⟨hp, g, dr, tk, os⟩ : Shared).TypeIs (.ref d) "dict" := ⟨_, hl, rfl⟩
    show wpAny _ _ (Builtin.Dict.dictSlotArgs "__ne__" ⟨[.ref d, .ref l], []⟩ >>= _) _ _ _
    refine wpAny_bind ?_
    unfold Builtin.Dict.dictSlotArgs
    refine wpAny_bind (wpAny_notOrdered_dict hT ?_)
    wp_walk using wpAny_loadPart' h0, wpAny_loadPart' hl
    exact ⟨_, rfl, h⟩
theorem ne_non (hd : s.heap.get? d = some od) (hc : od.cls = .type "dict") (he : ∃ es ep, od.data = .dict es ep) (hu : A.units < cLine) : RcNeAt A s .none (.ref d) true := fun prog w E Q h =>
  rc_ne_decline_or (k := false) rfl ⟨_, hd, hc⟩ (by decide) F.sub_dict_NoneType F.slot_NoneType_ne F.slot_dict_ne_refl
    (fun _ hq => call_meets F.slot_NoneType_ne rfl F.entry_NoneType_ne (F.args_NoneType_ne_2 _ _) (non_declines) ⟨hd, hc, he, hq⟩)
    (fun _ hq => call_meets F.slot_dict_ne_refl ⟨_, hd, hc⟩ F.entry_dict_ne (F.args_dict_ne_2 _ _) (dict_non) ⟨hd, hc, he, hq⟩)
    (fun _ hq => wpAny_of_eq (rfl : isSame .none (.ref d) = pure false) hq) (.inr hu) h
theorem ne_bl (a : Bool) (hd : s.heap.get? d = some od) (hc : od.cls = .type "dict") (he : ∃ es ep, od.data = .dict es ep) (hu : A.units < cLine) : RcNeAt A s (.bool a) (.ref d) true := fun prog w E Q h =>
  rc_ne_decline_or (k := false) rfl ⟨_, hd, hc⟩ (by decide) F.sub_dict_bool F.slot_bool_ne F.slot_dict_ne_refl
    (fun _ hq => call_meets F.slot_bool_ne rfl F.entry_int_ne (F.args_int_ne_2 _ _) (bl_declines a) ⟨hd, hc, he, hq⟩)
    (fun _ hq => call_meets F.slot_dict_ne_refl ⟨_, hd, hc⟩ F.entry_dict_ne (F.args_dict_ne_2 _ _) (dict_bl a) ⟨hd, hc, he, hq⟩)
    (fun _ hq => wpAny_of_eq (rfl : isSame (.bool a) (.ref d) = pure false) hq) (.inr hu) h
theorem ne_int (a : Int) (u : Tok) (hd : s.heap.get? d = some od) (hc : od.cls = .type "dict") (he : ∃ es ep, od.data = .dict es ep) (hu : A.units < cLine) : RcNeAt A s (.int a u) (.ref d) true := fun prog w E Q h =>
  rc_ne_decline_or (k := false) (typeIs_int s a u) ⟨_, hd, hc⟩ (by decide) F.sub_dict_int F.slot_int_ne F.slot_dict_ne_refl
    (fun _ hq => call_meets F.slot_int_ne (typeIs_int s a u) F.entry_int_ne (F.args_int_ne_2 _ _) (int_declines a u) ⟨hd, hc, he, hq⟩)
    (fun _ hq => call_meets F.slot_dict_ne_refl ⟨_, hd, hc⟩ F.entry_dict_ne (F.args_dict_ne_2 _ _) (dict_int a u) ⟨hd, hc, he, hq⟩)
    (fun _ hq => wpAny_of_eq (rfl : isSame (.int a u) (.ref d) = pure false) hq) (.inr hu) h
theorem ne_str (a : Str) (u : Tok) (hd : s.heap.get? d = some od) (hc : od.cls = .type "dict") (he : ∃ es ep, od.data = .dict es ep) (hu : A.units < cLine) : RcNeAt A s (.str a u) (.ref d) true := fun prog w E Q h =>
  rc_ne_decline_or (k := false) (typeIs_str s a u) ⟨_, hd, hc⟩ (by decide) F.sub_dict_str F.slot_str_ne F.slot_dict_ne_refl
    (fun _ hq => call_meets F.slot_str_ne (typeIs_str s a u) F.entry_str_ne (F.args_str_ne_2 _ _) (str_declines a u) ⟨hd, hc, he, hq⟩)
    (fun _ hq => call_meets F.slot_dict_ne_refl ⟨_, hd, hc⟩ F.entry_dict_ne (F.args_dict_ne_2 _ _) (dict_str a u) ⟨hd, hc, he, hq⟩)
    (fun _ hq => wpAny_of_eq (rfl : isSame (.str a u) (.ref d) = pure false) hq) (.inr hu) h
theorem ne_list {l : Addr} {items : Array Value} (hl : s.heap.IsList l items) (hd : s.heap.get? d = some od) (hc : od.cls = .type "dict") (he : ∃ es ep, od.data = .dict es ep) (hu : A.units < cLine) : RcNeAt A s (.ref l) (.ref d) true := fun prog w E Q h => by
  obtain ⟨⟨cls, dd, data, sl⟩, ho, hcl, n, hdt⟩ := id hl
  simp only at hcl hdt
  subst hcl hdt
  have hne : l ≠ d := fun e => by
    rw [e, hd] at ho
    cases ho
    exact absurd hc (by simp)
  exact (rc_ne_decline_or (k := false) ⟨_, ho, rfl⟩ ⟨_, hd, hc⟩ (by decide) F.sub_dict_list F.slot_list_ne F.slot_dict_ne_refl
    (fun _ hq => call_meets F.slot_list_ne ⟨_, ho, rfl⟩ F.entry_list_ne (F.args_list_ne_2 _ _) (list_declines l items n dd sl) ⟨ho, hd, hc, he, hq⟩)
    (fun _ hq => call_meets F.slot_dict_ne_refl ⟨_, hd, hc⟩ F.entry_dict_ne (F.args_dict_ne_2 _ _) (dict_list l items n dd sl) ⟨ho, hd, hc, he, hq⟩)
    (fun _ hq => wpAny_isSame_ref_other' hne ho hd (by rw [hc]; simp) hq) (.inr hu) h)
theorem ne_tuple {l : Addr} {items : Array Value} (hl : s.heap.IsTuple l items) (hd : s.heap.get? d = some od) (hc : od.cls = .type "dict") (he : ∃ es ep, od.data = .dict es ep) (hu : A.units < cLine) : RcNeAt A s (.ref l) (.ref d) true := fun prog w E Q h => by
  obtain ⟨⟨cls, dd, data, sl⟩, ho, hcl, n, hdt⟩ := id hl
  simp only at hcl hdt
  subst hcl hdt
  have hne : l ≠ d := fun e => by
    rw [e, hd] at ho
    cases ho
    exact absurd hc (by simp)
  exact (rc_ne_decline_or (k := false) ⟨_, ho, rfl⟩ ⟨_, hd, hc⟩ (by decide) F.sub_dict_tuple F.slot_tuple_ne F.slot_dict_ne_refl
    (fun _ hq => call_meets F.slot_tuple_ne ⟨_, ho, rfl⟩ F.entry_tuple_ne (F.args_tuple_ne_2 _ _) (tuple_declines l items n dd sl) ⟨ho, hd, hc, he, hq⟩)
    (fun _ hq => call_meets F.slot_dict_ne_refl ⟨_, hd, hc⟩ F.entry_dict_ne (F.args_dict_ne_2 _ _) (dict_tuple l items n dd sl) ⟨ho, hd, hc, he, hq⟩)
    (fun _ hq => wpAny_isSame_ref_other' hne ho hd (by rw [hc]; simp) hq) (.inr hu) h)
end
end NeD
end PySem
namespace Pr
open PySem PySem.Spec PyProof.Rows L2 Gd
/-- != beside a dict: of a dict with flat values, or of something else -/
def rNeAny (K : PySem.W.Frag) : R2 := fun x y H Q => ∃ (b : Addr) (ls : List (Key × V)) (ty : String), y = .ref b ∧ H b = some (.dK ls) ∧ Kd H x ty ∧ ty ≠ "dict" ∧ Q (.bl true) H
theorem op_neAny {X : Cx} (hu : X.A.units < cLine) : OpR X (compareOp .NotEq) (rNeAny X.K) := by
  intro pins s σ H x y v u Q I rx ry h
  obtain ⟨b, ls, ty, rfl, hb, kd, nd, q⟩ := h
  obtain rfl : u = Value.ref b := ry
  obtain ⟨_, yb, vb, rb, db⟩ := (show ObjOk X.prog X.w H s.heap b (.dK ls) from I.hok b _ hb)
  obtain ⟨od, es, ep, hod, hx, hda, _⟩ := db
  have he : ∃ es ep, od.data = .dict es ep := ⟨es, ep, hda⟩
  have fin : EP X pins σ Q (.bool true) s := ⟨.bl true, H, I, rfl, q⟩
  show wpAny _ _ (richCompare .NotEq v (.ref b)) _ _ _
  cases kd with
  | non => cases rx; exact PySem.NeD.ne_non hod hx.1 he hu X.prog X.w _ _ fin
  | bl k => cases rx; exact PySem.NeD.ne_bl k hod hx.1 he hu X.prog X.w _ _ fin
  | int i => obtain ⟨t, rfl⟩ := rx; exact PySem.NeD.ne_int i t hod hx.1 he hu X.prog X.w _ _ fin
  | str z => obtain ⟨t, rfl⟩ := rx; exact PySem.NeD.ne_str z t hod hx.1 he hu X.prog X.w _ _ fin
  | lst e =>
    obtain rfl : v = Value.ref _ := rx
    obtain ⟨its, r, p, _⟩ := I.list (SqL.of e)
    exact PySem.NeD.ne_list p.isList hod hx.1 he hu X.prog X.w _ _ fin
  | tup e =>
    obtain rfl : v = Value.ref _ := rx
    obtain ⟨its, r, p, _⟩ := I.tuple (Tx.TX.sq e)
    exact PySem.NeD.ne_tuple p hod hx.1 he hu X.prog X.w _ _ fin
  | dK e => exact absurd rfl nd
end Pr
/-! ### {**d, k: v} -/
namespace Du
theorem twice {R A : Prop} (f : R → A) (r : R) : A := f r
open PySem PySem.Spec PyProof.Rows L2
section
variable {prog : Program} {w : World} {K : Type} [DecidableEq K] {knd : KeyKind prog w K} {A : Around} {E : Value → Shared → Prop} {s : Shared}
/-- a key that isn't there goes to the end -/
theorem put_fresh {d : Addr} {old : List (K × Value)} {k : K} {kv vv : Value} {Q : Unit → Shared → Prop} (is : knd.is k kv = true) (at_ : s.heap.DictOf knd d old) (few : old.length ≤ sizeLine) (fresh : k ∉ old.map (·.1))
    (then_ : ∀ h2, h2.DictOf knd d (old ++ [(k, vv)]) → Heap.SameBut d s.heap h2 → Q () { s with heap := h2 }) : wpAny (model prog w) A (dictPut d (knd.hash k) kv vv) Q E s := by
  obtain ⟨ob, rows, age, there, exact_, dat, ks, prs, ndk⟩ := at_
  have sz : rows.size ≤ sizeLine := by
    have e := prs.length
    rw [Array.length_toList] at e
    omega
  have no : (rows.findIdx? fun e => knd.is k e.key) = none := by
    have e1 := prs.findIdx k
    have e2 : (old.findIdx? fun kv => decide (kv.1 = k)) = none := by
      rw [List.findIdx?_eq_none_iff]
      intro x hx
      exact decide_eq_false fun e => fresh (e ▸ List.mem_map_of_mem hx)
    rw [e2] at e1
    rw [← e1]
    obtain ⟨l⟩ := rows
    simp
  unfold dictPut
  refine wpAny_bind (wpAny_dictFind_of is there dat ks ?_)
  rw [no]
  refine wpAny_updateDictKeys (hz := sz) there dat (then_ _ ⟨_, _, age + 1, Heap.get?_update_self _ there (Obj.isFreed_of_dict (Obj.data_mapDictKeys dat _)), exact_.mapDictKeys _,
    Obj.data_mapDictKeys dat _, ks.push is _, ?_, ?_⟩ (Heap.SameBut.update ..))
  · have := prs.append is (knd.hash k) vv
    obtain ⟨l⟩ := rows
    simpa using this
  · rw [List.map_append, List.nodup_append]
    refine ⟨ndk, by simp, fun x hx y hy e => ?_⟩
    rw [List.map_cons, List.map_nil, List.mem_singleton] at hy
    rw [e, hy] at hx
    exact fresh hx
/-- all of one dict behind what another one has -/
theorem merge_fresh {d a : Addr} {acc more : List (K × Value)} {Q : Unit → Shared → Prop} (da : d ≠ a) (sys : (a == sysModules) = false) (hd : s.heap.DictOf knd d acc) (ha : s.heap.DictOf knd a more) (nodup : ((acc ++ more).map (·.1)).Nodup)
    (few : acc.length + more.length ≤ sizeLine) (byV : ∀ (k : K) (v : Value), knd.is k v = true → ∀ b, v ≠ .ref b)
    (then_ : ∀ h2, h2.DictOf knd d (acc ++ more) → Heap.SameBut d s.heap h2 → Q () { s with heap := h2 }) : wpAny (model prog w) A (mergeMapping d (.ref a) false) Q E s := by
  have tyA := ha.typeIs
  obtain ⟨od, rd, gd, atd, exd, datd, ksd, prd, ndd⟩ := id hd
  obtain ⟨oa, ra, ga, ata, exa, data_, ksa, pra, nda⟩ := id ha
  have len : more.length = ra.size := by
    rw [← pra.length]
    simp
  unfold mergeMapping
  refine wpAny_bind (wpAny_isInstance (T := "dict") (U := "dict") (b := true) tyA (by rw [isSubtype_type]; kernel_rfl) ?_)
  rw [if_pos rfl]
  refine wpAny_bind (wpAny_specialOf tyA F.slot_dict_iter.lookup ?_)
  refine wpAny_bind (wpAny_pure ?_)
  have e : (some (Value.builtin "dict.__iter__") == some (Value.builtin "dict.__iter__")) = true := by decide +kernel
  rw [e]
  dsimp only
  rw [if_neg (by rw [sys]; exact Bool.false_ne_true)]
  refine wpAny_bind (wpAny_dictEntries atd datd ?_)
  apply twice
  · intro rest
    refine wpAny_ite_split (fun _ => ?_) (fun _ => ?_)
    · refine wpAny_bind (wpAny_dictEntries ata data_ ?_)
      refine wpAny_bind ?_
      rw [← Array.forIn_toList]
      refine wpAny_forIn_list _ (fun l _ s' => s' = s ∧ ∀ e ∈ l, e ∈ ra) _ ?_ ?_ _ _ ⟨rfl, fun e he => Array.mem_toList_iff.mp he⟩
      · rintro e l b s' ⟨es, hin⟩
        rw [es]
        obtain ⟨k, hk, _⟩ := ksa e (hin e List.mem_cons_self)
        have no := byV k e.key hk
        split
        · rename_i b eb
          exact absurd eb (no b)
        · exact wpAny_pure ⟨rfl, fun x hx => hin x (List.mem_cons_of_mem _ hx)⟩
      · rintro b s' ⟨es, _⟩
        rw [es]
        exact rest
    · exact rest
  refine wpAny_bind (wpAny_dictEntries ata data_ ?_)
  refine wpAny_bind (wpAny_dictEpoch ata data_ ?_)
  refine wpAny_bind ?_
  refine wpAny_forIn_list _ (fun l _ s' => ∃ (h2 : Heap) (i : Nat), s' = { s with heap := h2 } ∧ l = List.range' i (ra.size - i) ∧ i ≤ ra.size ∧ h2.DictOf knd d (acc ++ more.take i) ∧ h2.get? a = some oa ∧ Heap.SameBut d s.heap h2) _ ?_ ?_ _ _
    ⟨s.heap, 0, rfl, by rw [List.range_eq_range', Nat.sub_zero], Nat.zero_le _, by rw [List.take_zero, List.append_nil]; exact hd, ata, Heap.SameBut.refl _ _⟩
  · rintro x l b s' ⟨h2, i, rfl, el, hi, hd2, ata2, same⟩
    have lt : i < ra.size := by
      rcases Nat.lt_or_ge i ra.size with h | h
      · exact h
      · rw [Nat.sub_eq_zero_of_le h] at el
        cases el
    have e1 : ra.size - i = (ra.size - (i + 1)) + 1 := by omega
    rw [e1, List.range'_succ] at el
    injection el with ex el
    subst ex
    refine wpAny_bind (wpAny_dictEntries ata2 data_ ?_)
    rw [Array.getElem?_eq_getElem lt]
    have ltm : x < more.length := by omega
    obtain ⟨hk, hv⟩ := pra.get? (i := x) (e := ra[x]) (k := more[x].1) (v := more[x].2) (by rw [Array.getElem?_toList, Array.getElem?_eq_getElem lt]) (List.getElem?_eq_getElem ltm)
    obtain ⟨k2, hk2, hh⟩ := ksa ra[x] (Array.getElem_mem lt)
    have ek : k2 = more[x].1 := knd.inj _ _ _ hk2 hk
    subst ek
    have split_ : more = more.take x ++ more[x] :: more.drop (x + 1) := by rw [List.getElem_cons_drop, List.take_append_drop]
    have fresh : more[x].1 ∉ (acc ++ more.take x).map (·.1) := fun m => by
      have nd2 := nodup
      rw [split_, ← List.append_assoc, List.map_append, List.nodup_append] at nd2
      exact nd2.2.2 _ m _ (List.mem_map_of_mem List.mem_cons_self) rfl
    refine wpAny_bind (wpAny_holding ?_)
    rw [if_neg Bool.false_ne_true, hh, hv]
    have few2 : (acc ++ more.take x).length ≤ sizeLine := by
      rw [List.length_append, List.length_take]
      omega
    refine put_fresh hk hd2 few2 fresh fun h3 hd3 same3 => ?_
    have ata3 : h3.get? a = some oa := (same3.2 a (Ne.symm da)).trans ata2
    refine wpAny_bind (wpAny_dictEpoch ata3 data_ ?_)
    rw [if_neg (by simp)]
    refine wpAny_pure ⟨h3, x + 1, rfl, el, lt, ?_, ata3, same.trans same3⟩
    rw [List.take_add_one, List.getElem?_eq_getElem ltm, ← List.append_assoc]
    exact hd3
  · rintro b s' ⟨h2, i, rfl, el, hi, hd2, ata2, same⟩
    have ei : i = ra.size := by
      rcases Nat.lt_or_ge i ra.size with h | h
      · have e1 : ra.size - i = (ra.size - (i + 1)) + 1 := by omega
        rw [e1, List.range'_succ] at el
        cases el
      · omega
    rw [ei, ← len, List.take_length] at hd2
    exact wpAny_pure (then_ h2 hd2 same)
end
/-- {**d, k: v}: a new dict with all of d and, at its end, one key more -/
def tDunp (t0 tk tv : TE) : TE := fun σ H Q => ∀ p, H p = none → t0 σ (upd H p (.dK [])) fun x H1 => ∃ (a : Addr) (kvs : List (Key × V)), x = .ref a ∧ a ≠ p ∧ H1 p = some (.dK []) ∧ H1 a = some (.dK kvs) ∧
  ∀ q, (upd H1 p (.dK kvs)) q = none → tk σ (upd (upd H1 p (.dK kvs)) q (.dK [])) fun y H2 => tv σ H2 fun z H3 => ∃ k : Key, y = kV k ∧ H3 q = some (.dK []) ∧ H3 p = some (.dK kvs) ∧ k ∉ kvs.map (·.1) ∧ kvs.length < 1000 ∧
    Q (.ref p) (upd (upd H3 q (.dK [(k, z)])) p (.dK (kvs ++ [(k, z)])))
theorem key_byV {prog : Program} {w : World} (k : Key) (v : Value) (h : (mixKind prog w).is k v = true) (b : Addr) : v ≠ .ref b := by
  rcases keyIs_shape (k := k) (v := v) h with ⟨i, t, _, rfl⟩ | ⟨x, t, _, rfl⟩ <;> intro e <;> cases e
theorem KV.keys {kvs : List (Key × V)} {vs : List (Key × Value)} (r : KV kvs vs) : vs.map (·.1) = kvs.map (·.1) := by
  unfold KV at r
  induction r with
  | nil => rfl
  | cons h t ih => rw [List.map_cons, List.map_cons, ih, h.1]
theorem KV.app {kvs ks2 : List (Key × V)} {vs vs2 : List (Key × Value)} (r : KV kvs vs) (r2 : KV ks2 vs2) : KV (kvs ++ ks2) (vs ++ vs2) := by
  unfold KV at r
  induction r with
  | nil => exact r2
  | cons h t ih => exact .cons h ih
section
variable {X : Cx} {pos : Pos} {e0 k v : Expr} {t0 tk tv : TE}
theorem pe_dunp (h0 : PE X e0 t0) (hk : PE X k tk) (hv : PE X v tv) : PE X (.Dict [none, some k] [e0, v] pos) (tDunp t0 tk tv) := by
  refine ⟨fun pins s σ H Q I q => ?_⟩
  have hn := I.hok.fresh (Nat.le_refl s.heap.objs.size)
  have I1 := I.laid (a := s.heap.objs.size) (o := .dK []) (h' := s.heap.push { cls := .type "dict", data := .dict #[] }) (t' := s.toks) (fun _ _ q => Heap.get?_push_of_some _ q) (Nat.le_refl _) (dk_empty s.heap I.big)
  rw [arm_eval_Dict]
  refine wpAny_bind (wpAny_standAt ?_)
  have items : (evalEachOpt [none, some k] X.env).zip ((evalEach [e0, v] X.env).map fun v => do let x ← v; standAt pos; pure x) =
    [(none, do let x ← eval e0 X.env; standAt pos; pure x), (some (eval k X.env), do let x ← eval v X.env; standAt pos; pure x)] := rfl
  rw [items]
  unfold dictDisplay
  simp only [List.forIn_cons, List.forIn_nil]
  refine wpAny_bind (wpAny_bind ?_)
  refine wpAny_bind (wpAny_of_eq (a := none) rfl ?_)
  dsimp only
  refine wpAny_bind (wpAny_alloc ?_)
  refine wpAny_bind (wpAny_holding (wpAny_bind (thn (h0.run pins _ σ _ _ I1 (q _ hn)) fun u s1 ⟨x, H1, I2, rx, a, kvs, ex, ap, hp1, ha1, q1⟩ => wpAny_bind (wpAny_standAt (wpAny_pure ?_)))))
  subst ex
  obtain rfl : u = Value.ref a := rx
  obtain ⟨za, sysa, va, ra, da⟩ := dk_of I2.hok ha1
  obtain ⟨zp, sysp, vp, rp, dp⟩ := dk_of I2.hok hp1
  cases rp
  have nda : ((([] : List (Key × Value)) ++ va).map fun (x : Key × Value) => x.1).Nodup := by
    obtain ⟨_, _, _, _, _, _, _, _, nd⟩ := da
    rw [List.nil_append]
    exact nd
  have lva : kvs.length = va.length := Paired.length ra
  refine wpAny_bind (wpAny_onRaise (wpAny_tryCatch (wpAny_onRaise (wpAny_holding (merge_fresh (knd := mixKind X.prog X.w) (Ne.symm ap) sysa dp da nda (by rw [List.length_nil]; omega) key_byV fun h2 dp2 same2 => wpAny_pure (wpAny_pure ?_))))))
  rw [List.nil_append] at dp2
  have hpe : ∃ q, h2.get? s.heap.objs.size = some q := let ⟨q, _, _, hq, _⟩ := dp2; ⟨q, hq⟩
  have I3 := d_write (t' := s1.toks) I2 (a := s.heap.objs.size) (ob := .dK kvs) (by rw [hp1]; exact True.intro) same2 hpe (dk_new za sysp ra dp2)
  dsimp only
  refine wpAny_bind ?_
  show wpAny _ _ (holding [.ref s.heap.objs.size] (subDict (pairTrees [some k] [v] X.env pos)) >>= _) _ _ _
  have nq : (upd H1 s.heap.objs.size (.dK kvs)) h2.objs.size = none := I3.hok.fresh (Nat.le_refl _)
  have I4 := I3.laid (a := h2.objs.size) (o := .dK []) (h' := h2.push { cls := .type "dict", data := .dict #[] }) (t' := s1.toks) (fun _ _ q => Heap.get?_push_of_some _ q) (Nat.le_refl _) (dk_empty h2 I3.big)
  refine wpAny_bind (wpAny_holding (wpAny_subDict (knd := mixKind X.prog X.w) (by rw [pairTrees_length _ _ _ _ rfl rfl]; show 1 ≤ 15; decide) ?_))
  refine pairTrees_cons_walk (thn (hk.run pins _ σ _ _ I4 (q1 _ nq)) fun kv s2 ⟨y, H2, I5, ry, q2⟩ => thn (hv.run pins s2 σ H2 _ I5 q2) fun vv s3 ⟨z, H3, I6, rz, key, ey, hq3, hp3, fresh, few, q3⟩ => pairTrees_nil_walk ?_)
  subst ey
  obtain ⟨zq, sysq, vq, rq, dq⟩ := dk_of I6.hok hq3
  cases rq
  refine ⟨[(key, vv)], ⟨kV_is ry, rfl, True.intro⟩, dq, fun h4 dq4 same4 => ?_⟩
  have dq5 : h4.DictOf (mixKind X.prog X.w) h2.objs.size [(key, vv)] := dq4
  have hqe : ∃ q, h4.get? h2.objs.size = some q := let ⟨q, _, _, hq, _⟩ := dq5; ⟨q, hq⟩
  have I7 := d_write (t' := s3.toks + 1) I6 (a := h2.objs.size) (ob := .dK [(key, z)]) (by rw [hq3]; exact True.intro) same4 hqe (dk_new (by show 1 ≤ sizeLine; decide) sysq (.cons ⟨rfl, rz⟩ .nil) dq5)
  have pq : s.heap.objs.size ≠ h2.objs.size := fun e => by
    rw [← e, upd_same] at nq
    cases nq
  have hp7 : (upd H3 h2.objs.size (.dK [(key, z)])) s.heap.objs.size = some (.dK kvs) := by
    rw [upd_ne pq]
    exact hp3
  obtain ⟨zp7, sysp7, vp7, rp7, dp7⟩ := dk_of I7.hok hp7
  have nd7 : ((vp7 ++ [(key, vv)]).map fun (x : Key × Value) => x.1).Nodup := by
    obtain ⟨_, _, _, _, _, _, _, _, nd⟩ := id dp7
    rw [List.map_append, List.nodup_append]
    refine ⟨nd, by simp, fun x hx y hy e => ?_⟩
    rw [KV.keys rp7] at hx
    rw [List.map_cons, List.map_nil, List.mem_singleton] at hy
    rw [e, hy] at hx
    exact fresh hx
  have lv7 : kvs.length = vp7.length := Paired.length rp7
  refine wpAny_bind (wpAny_onRaise (wpAny_holding (merge_fresh (knd := mixKind X.prog X.w) pq sysq dp7 dq5 nd7 (by rw [sizeLine_eq, ← lv7]; simp only [List.length_cons, List.length_nil]; omega) key_byV fun h5 dp8 same5 => wpAny_pure ?_)))
  have hpe5 : ∃ q, h5.get? s.heap.objs.size = some q := let ⟨q, _, _, hq, _⟩ := dp8; ⟨q, hq⟩
  have I8 := d_write (t' := s3.toks + 1) I7 (a := s.heap.objs.size) (ob := .dK (kvs ++ [(key, z)])) (by rw [hp7]; exact True.intro) same5 hpe5
    (dk_new (by rw [List.length_append, sizeLine_eq]; simp only [List.length_cons, List.length_nil]; omega) sysp7 (KV.app rp7 (.cons ⟨rfl, rz⟩ .nil)) dp8)
  exact wpAny_pure ⟨.ref s.heap.objs.size, _, I8, rfl, q3⟩
end
end Du
/-! ### tuple.count; t[:h:-1]; list.extend(t) -/
namespace Tb
open PySem PySem.Spec PyProof.Rows L2
/-- how often a flat value stands in a tuple of flat values -/
def rTCnt (K : PySem.W.Frag) : V → List V → Hp → VK → Prop := fun x xs H Q => ∃ (p : Addr) (ys : List V) (z : V), x = .ref p ∧ xs = [z] ∧ SqT K H p ys ∧ flatV z = true ∧ ys.all flatV = true ∧ Q (.int (ys.countP fun y => eqV y z : Nat)) H
theorem count_eqU {x : V} : ∀ {xs : List V} {us : List Value}, Vals xs us → xs.all flatV = true → us.countP (eqU x) = xs.countP fun y => eqV y x
  | _, _, .nil, _ => rfl
  | y :: xs, u :: us, .cons r t, f => by
    rw [List.all_cons, Bool.and_eq_true] at f
    rw [List.countP_cons, List.countP_cons, eqU_of r f.1, count_eqU t f.2]
theorem mt_tcount {X : Cx} : MtR X "tuple.count" (rTCnt X.K) := by
  intro pins s σ H x xs v us Q I rx rxs h
  obtain ⟨p, ys, z, rfl, rfl, ht, fz, fs, q⟩ := h
  cases rx
  obtain ⟨u, rfl, ru⟩ := rxs.one
  obtain ⟨its, rel, ⟨⟨ocl, odi, oda, osl⟩, hat, hcl, cnt, hda⟩, _⟩ := I.tuple ht
  dsimp only at hcl hda
  subst hcl hda
  have each : ∀ y, y ∈ its.toArray → SeqAt.EqAt X.A.in1 s y u (eqU z y) := fun y hy => mem_eqAt ru fz rel fs y (by simpa using hy)
  refine call_meets PySem.F.slot_tuple_count ⟨_, hat, rfl⟩
    PySem.F.entry_tuple_count (PySem.F.args_tuple_count_2 _ _)
    (SeqAt.tuple_countAt p its.toArray cnt odi osl u (eqU z)) ⟨hat, each, ?_⟩
  have e : its.toArray.toList.countP (eqU z) = ys.countP fun y => eqV y z := count_eqU rel fs
  refine ⟨.int (ys.countP fun y => eqV y z : Nat), H, I.tok _, ⟨s.toks, ?_⟩, q⟩
  show Value.int ((its.toArray.toList.countP (eqU z) : Nat) : Int) s.toks = _
  rw [e]
theorem fm_congr {α β : Type} {f g : α → Option β} : ∀ {l : List α}, (∀ x ∈ l, f x = g x) → l.filterMap f = l.filterMap g
  | [], _ => rfl
  | x :: l, h => by rw [List.filterMap_cons, List.filterMap_cons, h x List.mem_cons_self, fm_congr fun y m => h y (List.mem_cons_of_mem _ m)]
theorem back_pick (xs : Array Value) {h : Nat} (hh : h < xs.size) : ((List.range (xs.size - 1 - h)).filterMap fun (k : Nat) => xs[(((xs.size : Int) - 1) + (k : Int) * (-1)).toNat]?).toArray = ((xs.toList.drop (h + 1)).reverse).toArray := by
  congr 1
  have len : (xs.toList.drop (h + 1)).reverse.length = xs.size - 1 - h := by
    rw [List.length_reverse, List.length_drop, Array.length_toList]
    omega
  have all : ∀ l : List Value, (List.range l.length).filterMap (fun k => l[k]?) = l := fun l => by
    induction l with
    | nil => rfl
    | cons a l ih =>
      rw [List.length_cons, List.range_succ_eq_map, List.filterMap_cons]
      show a :: ((List.range l.length).map Nat.succ).filterMap (fun k => (a :: l)[k]?) = a :: l
      rw [List.filterMap_map]
      exact congrArg (a :: ·) ih
  have e := all (xs.toList.drop (h + 1)).reverse
  rw [len] at e
  refine Eq.trans ?_ e
  refine fm_congr fun k hk => ?_
  have hk := List.mem_range.mp hk
  rw [List.getElem?_reverse (by rw [List.length_drop, Array.length_toList]; omega), List.getElem?_drop, List.length_drop, Array.length_toList, Array.getElem?_toList]
  congr 1
  omega
section
variable {prog : Program} {w : World} {A : Around} {E : Value → Shared → Prop} {s : Shared}
theorem applied_back {sl : Addr} {vl vu vs : Value} {h n : Nat} {Q : Int × Int × Nat → Shared → Prop} (so : s.heap.IsSliceOf sl vl vu vs) (p0 : IsPart vl none) (p1 : IsPart vu (some (h : Int))) (p2 : IsPart vs (some (-1))) (hn : h < n)
    (k : Q ((n : Int) - 1, -1, n - 1 - h) s) : wpAny (model prog w) A (Builtin.Slice.sliceApplied (.ref sl) (pure (n : Int))) Q E s := by
  obtain ⟨ob, at_, _, dat⟩ := id so
  unfold Builtin.Slice.sliceApplied Builtin.Slice.sliceFields
  refine wpAny_bind (wpAny_bind (wpAny_field at_ dat (x := vl) rfl ?_))
  refine wpAny_bind (wpAny_field at_ dat (x := vu) rfl ?_)
  refine wpAny_bind (wpAny_field at_ dat (x := vs) rfl (wpAny_pure ?_))
  refine wpAny_bind (HT.slicePart_ p2 ?_)
  show wpAny _ _ (if ((-1 : Int) == 0) = true then _ else _) _ _ s
  rw [if_neg (by decide)]
  refine wpAny_bind (HT.slicePart_ p0 ?_)
  refine wpAny_bind (HT.slicePart_ p1 ?_)
  refine wpAny_bind (wpAny_pure ?_)
  have adj : Builtin.Slice.sliceAdjust none (some (h : Int)) (-1) (n : Int) = ((n : Int) - 1, (h : Int)) := by
    unfold Builtin.Slice.sliceAdjust
    have e : ¬ ((h : Int) < 0) := by omega
    have e2 : min (h : Int) ((n : Int) - 1) = h := by omega
    simp [e, e2]
  have pl : Builtin.Slice.slicePlaces ((n : Int) - 1) (h : Int) (-1) = n - 1 - h := by
    unfold Builtin.Slice.slicePlaces
    rw [if_neg (by decide)]
    by_cases c : (n : Int) - 1 > (h : Int)
    · rw [if_pos c]
      have e : ((n : Int) - 1 - (h : Int) - 1) / (- -1) = (n : Int) - 1 - (h : Int) - 1 := by
        rw [show (- -1 : Int) = 1 by decide, Int.ediv_one]
      rw [e]
      omega
    · rw [if_neg c]
      omega
  show wpAny _ _ (match Builtin.Slice.sliceAdjust none (some (h : Int)) (-1) (n : Int) with | (lo, hi) => pure (lo, (-1 : Int), Builtin.Slice.slicePlaces lo hi (-1))) _ _ s
  rw [adj]
  show wpAny _ _ (pure ((n : Int) - 1, (-1 : Int), Builtin.Slice.slicePlaces ((n : Int) - 1) (h : Int) (-1))) _ _ s
  rw [pl]
  exact wpAny_pure k
theorem item_back {t sl : Addr} {items : Array Value} {vl vu vs : Value} {h : Nat} {Q : Value → Shared → Prop} (tt : IsTup s.heap t items) (so : s.heap.IsSliceOf sl vl vu vs) (p0 : IsPart vl none) (p1 : IsPart vu (some (h : Int))) (p2 : IsPart vs (some (-1))) (hn : h < items.size) (few : items.size ≤ sizeLine)
    (k : Q (.ref s.heap.objs.size) { s with heap := s.heap.push { cls := .type "tuple", data := .seq ((items.toList.drop (h + 1)).reverse).toArray } }) : wpAny (model prog w) A (getItem (.ref t) (.ref sl)) Q E s := by
  have okSize : sizeOk (.seq ((items.toList.drop (h + 1)).reverse).toArray) := by
    show ((items.toList.drop (h + 1)).reverse).toArray.size ≤ sizeLine
    rw [List.size_toArray, List.length_reverse, List.length_drop, Array.length_toList]
    omega
  obtain ⟨ob, at_, cl, dat⟩ := id so
  have tyS : s.TypeIs (.ref sl) "slice" := ⟨ob, at_, cl⟩
  unfold getItem
  refine wpAny_holding ?_
  refine wpAny_bind (wpAny_sequenceKey tt.typeIs (by decide) ?_)
  refine wpAny_bind (wpAny_callSpecial?_slot (name := Str.ofString "__getitem__") tt.typeIs PyProof.Rows.slot_tuple_getitem
    (wpAny_call_entry PyProof.Rows.slot_tuple_getitem tt.typeIs PyProof.Rows.entry_tuple_getitem ?_ (PyProof.Rows.args_tuple_getitem _ _)))
  show wpAny _ _ (Builtin.Tuple.tupleItemsOf (.ref t) >>= _) _ _ s
  refine wpAny_bind (PyProof.Rows.tupleItemsOf_ tt ?_)
  refine wpAny_bind (wpAny_typeOf tyS ?_)
  rw [if_pos (by decide)]
  refine wpAny_bind (applied_back so p0 p1 p2 hn ?_)
  show wpAny _ _ (if (((items.size : Int) - 1) == 0 && (-1 : Int) == 1 && (items.size - 1 - h) == items.size) = true then _ else _) _ _ s
  have no : ¬ ((((items.size : Int) - 1) == 0 && (-1 : Int) == 1 && (items.size - 1 - h) == items.size) = true) := by
    rw [show ((-1 : Int) == 1) = false by decide, Bool.and_false, Bool.false_and]
    exact Bool.false_ne_true
  rw [if_neg no, back_pick items hn]
  exact wpAny_bind (m := Builtin.Tuple.tupleExact _) (wpAny_newObj_type (wpAny_pure ⟨_, rfl, wpAny_pure k⟩) okSize)
end
/-- t[:h:-1] -/
def tRevUp (K : PySem.W.Frag) (te th : TE) : TE := fun σ H Q => te σ H fun x H1 => tPart th σ H1 fun y H2 => ∃ (a : Addr) (xs : List V) (h : Nat), x = .ref a ∧ y = some (h : Int) ∧ SqT K H2 a xs ∧ h < xs.length ∧ ∀ p, H2 p = none → Q (.ref p) (upd H2 p (.tup (xs.drop (h + 1)).reverse))
section
variable {X : Cx}
theorem pe_revUp {e eh : Expr} {te th : TE} {c : Nat} {p1 p2 p3 pos : Pos} (he : PE X e te) (hh : PE X eh th) : PE X (.Subscript e (.Slice none (some eh) (some (.UnaryOp .USub (.Constant (.int 1) c p1) p2)) p3) pos) (tRevUp X.K te th) := by
  refine ⟨fun pins s0 σ G0 Q J0 q0 => ?_⟩
  refine Subscript_ (thn (he.run pins s0 σ G0 _ J0 q0) fun v0 s1 ⟨x, G1, J1, r0, q1⟩ => ?_)
  refine wpAny_Slice (thn (po_none.run pins s1 σ G1 (fun o G => o = none ∧ G = G1) J1 ⟨rfl, rfl⟩) fun vl s2 ⟨l, G2, J2, pl, el, e2⟩ => ?_)
  subst el e2
  have up : PO X (some eh) (tPart th) := po_some hh
  refine thn (up.run pins s2 σ G2 _ J2 q1) fun vu s3 ⟨u, G3, J3, pu, a, xs, h, ex, eu, hx, hl, q2⟩ => ?_
  subst ex eu
  cases r0
  have back : PO X (some (.UnaryOp .USub (.Constant (.int 1) c p1) p2)) (tPart (tUn (rU fun i => .int (-i)) (tC (.int 1)))) := po_some (pe_un un_neg pe_int)
  refine thn (back.run pins s3 σ G3 (fun o G => o = some (-1) ∧ G = G3) J3 ⟨1, rfl, -1, rfl, rfl, rfl⟩) fun vs s4 ⟨o, G4, J4, ps, eo, e4⟩ => ?_
  subst eo e4
  have J5 : Inv X pins σ G4 { s4 with heap := s4.heap.push { cls := .type "slice", data := .fields #[vl, vu, vs] } } := J4.kept (t' := s4.toks) fun b ob z => Heap.get?_push_of_some _ z
  obtain ⟨its, rel, tt, few⟩ := J5.tuple hx
  have len := rel.length
  show wpAny (model X.prog X.w) X.A (subscriptTail e (.Slice none (some eh) (some (.UnaryOp .USub (.Constant (.int 1) c p1) p2)) p3) (.ref a) (.ref s4.heap.objs.size)) (EP X pins σ Q) X.xe { s4 with heap := s4.heap.push { cls := .type "slice", data := .fields #[vl, vu, vs] } }
  refine tail_any (ops := [.ref a, .ref s4.heap.objs.size]) tt.typeIs
    PyProof.Rows.slot_tuple_getitem.lookup ?_ (by with_unfolding_all rfl)
  refine item_back (h := h) tt (Heap.IsSliceOf.new _ vl vu vs) pl pu ps (by rw [List.size_toArray]; omega) (by rw [List.size_toArray]; omega) ?_
  refine ⟨.ref _, _, J5.laid (t' := s4.toks) (o := .tup (xs.drop (h + 1)).reverse) (fun b ob z => Heap.get?_push_of_some _ z) (Nat.le_refl _) ?_, rfl, q2 _ (J5.hok.fresh (Nat.le_refl _))⟩
  refine ⟨by rw [List.length_reverse, List.length_drop]; omega, (its.drop (h + 1)).reverse, ?_, IsTup.new _ _⟩
  exact (rel.drop (h + 1)).reverse
end
end Tb
/-! ### t * k and t[::-1], what is new is plain -/
namespace Tb
open PySem PySem.Spec PyProof.Rows L2
theorem tuple_mul0 (l : Addr) (n : Nat) (dd : Option Addr) (sl : Array (Option Value)) (x : Int) (u : Tok) (c0 : (decide (x < -(2 ^ 63)) || decide (x ≥ 2 ^ 63)) = false) :
    Meets (Builtin.«tuple.__mul__» ⟨[.ref l, .int x u], []⟩) (fun _ R s => s.heap.get? l = some { cls := .type "tuple", dict := dd, data := .seq #[] n, slots := sl } ∧ R (.ok (.ret (Value.ref l))) s) :=
  .of_wp fun prog w A R s h => by
    obtain ⟨hp, g, d, tk, os⟩ := s
    obtain ⟨hl, h⟩ := h
    have f1 := AutoSeq1.idx_int
    have tI : (⟨hp, g, d, tk, os⟩ : Shared).TypeIs (.ref l) "tuple" := ⟨_, hl, rfl⟩
    wp_walk using wpAny_loadPart' hl
    repeat (first
      | (refine wpAny_ite_false (decide_eq_false (by rw [c0]; exact Bool.false_ne_true)) ?_; wp_walk using wpAny_loadPart' hl)
      | (refine wpAny_ite_true ?_ ?_; (first | rfl | (simp; done)); wp_walk using wpAny_loadPart' hl))
    exact ⟨_, rfl, h⟩
/-- a tuple times a number -/
def rRepX (K : PySem.W.Frag) : R2 := fun x y H Q => ∃ (a : Addr) (m : Nat) (xs : List V), x = .ref a ∧ y = .int (m : Int) ∧ Tx.TX H a xs ∧ 2 ≤ m ∧ m ≤ 5000 ∧ xs.length * m ≤ 100000 ∧
  (xs = [] → Q (.ref a) H) ∧ ∀ p H2, H p = none → Same H H2 → Tx.TX H2 p (List.replicate m xs).flatten → Q (.ref p) H2
theorem op_repX {X : Cx} : OpR X (binaryOp .Mult) (rRepX X.K) := by
  intro pins s σ H x y v u Q I rx ry h
  obtain ⟨a, m, xs, rfl, rfl, tx, m2, m5, prod, q0, q⟩ := h
  have ht : SqT X.K H a xs := tx.sq
  cases rx
  obtain ⟨tk, rfl⟩ := ry
  obtain ⟨us, rel, ⟨⟨ocl, odi, oda, osl⟩, hat, hcl, cnt, hda⟩, _⟩ := I.tuple ht
  dsimp only at hcl hda
  subst hcl hda
  have eu : us.length = xs.length := rel.length.symm
  have eus : us.toArray.size = xs.length := by rw [List.size_toArray, eu]
  have g0 : (decide ((m : Int) < -(2 ^ 63)) || decide ((m : Int) ≥ 2 ^ 63)) = false := by
    have h1 : decide ((m : Int) < -(2 ^ 63)) = false := decide_eq_false (by omega)
    have h2 : decide ((m : Int) ≥ 2 ^ 63) = false := decide_eq_false (by omega)
    rw [h1, h2]
    rfl
  have other := int_rmul_tuple (m : Int) tk a us.toArray cnt odi osl
  refine wpAny_binaryOp_repeat_ref (T := "tuple")
    (U := "int") (by decide) ⟨_, hat, rfl⟩
    (fun st => typeIs_int st (m : Int) tk)
    noFill_tuple_mul
    F.fills_int_mul F.slot_int_rmul
    repeat_tuple
    F.slot_int_index.lookup ?_
  refine call_meets F.slot_int_rmul (typeIs_int s (m : Int) tk)
    F.entry_int_rmul (F.args_int_rmul_2 _ _) other ⟨hat, rfl, ⟨_, hat, rfl⟩, ?_⟩
  by_cases ex : xs = []
  · subst ex
    have e0 : us = [] := List.eq_nil_of_length_eq_zero eu
    subst e0
    refine call_meets F.slot_tuple_mul ⟨_, hat, rfl⟩
      F.entry_tuple_mul (F.args_tuple_mul_2 _ _) (tuple_mul0 a cnt odi osl (m : Int) tk g0) ⟨hat, ?_⟩
    exact ⟨.ref a, H, I, rfl, q0 rfl⟩
  · have x1 : 1 ≤ xs.length := by
      cases xs with
      | nil => exact absurd rfl ex
      | cons _ _ => simp
    have full : us.toArray.isEmpty = false := by
      cases us with
      | nil => exact absurd eu (by rw [List.length_nil]; omega)
      | cons _ _ => rfl
    have prodI : ((us.toArray.size : Nat) : Int) * (m : Int) ≤ 100000 := by
      rw [eus]
      have e : ((xs.length : Nat) : Int) * (m : Int) = ((xs.length * m : Nat) : Int) := (Int.natCast_mul _ _).symm
      rw [e]
      omega
    have lenR : ∀ {α : Type} (ys : List α), ys.length = xs.length → (List.replicate m ys).flatten.length ≤ sizeLine := fun ys hy => by
      rw [PyProof.Rows.lm_len_rep_flat, hy, sizeLine_eq, Nat.mul_comm]
      omega
    have g1 : (us.toArray.isEmpty || (m : Int) == 1) = false := by
      have h1 : ((m : Int) == 1) = false := beq_eq_false_iff_ne.mpr (by omega)
      rw [full, h1]
      rfl
    have g2 : (decide ((m : Int) ≤ 0) || us.toArray.isEmpty) = false := by
      have h1 : decide ((m : Int) ≤ 0) = false := decide_eq_false (by omega)
      rw [full, h1]
      rfl
    have g4 : Builtin.Tuple.tupleTooMany (((us.toArray.size : Nat) : Int) * (m : Int)) = false := by
      unfold Builtin.Tuple.tupleTooMany
      exact decide_eq_false (by rw [sizeLine_eq]; omega)
    have times := tuple_mulW a us.toArray cnt odi osl (m : Int) tk g0 g1 g2 (by omega) g4 (by rw [size_rep, List.size_toArray, Int.toNat_natCast]; exact lenR us eu)
    refine call_meets F.slot_tuple_mul ⟨_, hat, rfl⟩
      F.entry_tuple_mul (F.args_tuple_mul_2 _ _) times ⟨hat, ?_⟩
    rw [size_rep, Int.toNat_natCast]
    obtain ⟨G2, J2, fresh, same, tx2⟩ := Tx.laid_tup I (rel.rep m) (lenR xs rfl)
    exact ⟨.ref s.heap.objs.size, G2, J2, rfl, q _ _ fresh same tx2⟩
section
variable {prog : Program} {w : World} {A : Around} {E : Value → Shared → Prop} {s : Shared}
theorem applied_rev {sl : Addr} {vl vu vs : Value} {n : Nat} {Q : Int × Int × Nat → Shared → Prop} (so : s.heap.IsSliceOf sl vl vu vs) (p0 : IsPart vl none) (p1 : IsPart vu none) (p2 : IsPart vs (some (-1)))
    (k : Q ((n : Int) - 1, -1, n) s) : wpAny (model prog w) A (Builtin.Slice.sliceApplied (.ref sl) (pure (n : Int))) Q E s := by
  obtain ⟨ob, at_, _, dat⟩ := id so
  unfold Builtin.Slice.sliceApplied Builtin.Slice.sliceFields
  refine wpAny_bind (wpAny_bind (wpAny_field at_ dat (x := vl) rfl ?_))
  refine wpAny_bind (wpAny_field at_ dat (x := vu) rfl ?_)
  refine wpAny_bind (wpAny_field at_ dat (x := vs) rfl (wpAny_pure ?_))
  refine wpAny_bind (HT.slicePart_ p2 ?_)
  show wpAny _ _ (if ((-1 : Int) == 0) = true then _ else _) _ _ s
  rw [if_neg (by decide)]
  refine wpAny_bind (HT.slicePart_ p0 ?_)
  refine wpAny_bind (HT.slicePart_ p1 ?_)
  refine wpAny_bind (wpAny_pure ?_)
  have adj : Builtin.Slice.sliceAdjust none none (-1) (n : Int) = ((n : Int) - 1, -1) := by
    unfold Builtin.Slice.sliceAdjust
    simp
  have pl : Builtin.Slice.slicePlaces ((n : Int) - 1) (-1) (-1) = n := by
    unfold Builtin.Slice.slicePlaces
    rw [if_neg (by decide)]
    by_cases c : (n : Int) - 1 > -1
    · rw [if_pos c]
      have e : ((n : Int) - 1 - -1 - 1) / (- -1) = (n : Int) - 1 := by
        rw [show (- -1 : Int) = 1 by decide, Int.ediv_one]
        omega
      rw [e]
      omega
    · rw [if_neg c]
      omega
  show wpAny _ _ (match Builtin.Slice.sliceAdjust none none (-1) (n : Int) with | (lo, hi) => pure (lo, (-1 : Int), Builtin.Slice.slicePlaces lo hi (-1))) _ _ s
  rw [adj]
  show wpAny _ _ (pure ((n : Int) - 1, (-1 : Int), Builtin.Slice.slicePlaces ((n : Int) - 1) (-1) (-1))) _ _ s
  rw [pl]
  exact wpAny_pure k
theorem rev_pick (xs : Array Value) : ((List.range xs.size).filterMap fun (k : Nat) => xs[(((xs.size : Int) - 1) + (k : Int) * (-1)).toNat]?).toArray = (xs.toList.reverse).toArray := by
  congr 1
  have len : xs.toList.reverse.length = xs.size := by
    rw [List.length_reverse, Array.length_toList]
  have all : ∀ l : List Value, (List.range l.length).filterMap (fun k => l[k]?) = l := fun l => by
    induction l with
    | nil => rfl
    | cons a l ih =>
      rw [List.length_cons, List.range_succ_eq_map, List.filterMap_cons]
      show a :: ((List.range l.length).map Nat.succ).filterMap (fun k => (a :: l)[k]?) = a :: l
      rw [List.filterMap_map]
      exact congrArg (a :: ·) ih
  have e := all xs.toList.reverse
  rw [len] at e
  refine Eq.trans ?_ e
  refine fm_congr fun k hk => ?_
  have hk := List.mem_range.mp hk
  rw [List.getElem?_reverse (by rw [Array.length_toList]; omega), Array.length_toList, Array.getElem?_toList]
  congr 1
  omega
theorem item_rev {t sl : Addr} {items : Array Value} {vl vu vs : Value} {Q : Value → Shared → Prop} (tt : IsTup s.heap t items) (so : s.heap.IsSliceOf sl vl vu vs) (p0 : IsPart vl none) (p1 : IsPart vu none) (p2 : IsPart vs (some (-1))) (few : items.size ≤ sizeLine)
    (k : Q (.ref s.heap.objs.size) { s with heap := s.heap.push { cls := .type "tuple", data := .seq (items.toList.reverse).toArray } }) : wpAny (model prog w) A (getItem (.ref t) (.ref sl)) Q E s := by
  have okSize : sizeOk (.seq (items.toList.reverse).toArray) := by
    show (items.toList.reverse).toArray.size ≤ sizeLine
    rw [List.size_toArray, List.length_reverse, Array.length_toList]
    omega
  obtain ⟨ob, at_, cl, dat⟩ := id so
  have tyS : s.TypeIs (.ref sl) "slice" := ⟨ob, at_, cl⟩
  unfold getItem
  refine wpAny_holding ?_
  refine wpAny_bind (wpAny_sequenceKey tt.typeIs (by decide) ?_)
  refine wpAny_bind (wpAny_callSpecial?_slot (name := Str.ofString "__getitem__") tt.typeIs PyProof.Rows.slot_tuple_getitem
    (wpAny_call_entry PyProof.Rows.slot_tuple_getitem tt.typeIs PyProof.Rows.entry_tuple_getitem ?_ (PyProof.Rows.args_tuple_getitem _ _)))
  show wpAny _ _ (Builtin.Tuple.tupleItemsOf (.ref t) >>= _) _ _ s
  refine wpAny_bind (PyProof.Rows.tupleItemsOf_ tt ?_)
  refine wpAny_bind (wpAny_typeOf tyS ?_)
  rw [if_pos (by decide)]
  refine wpAny_bind (applied_rev so p0 p1 p2 ?_)
  show wpAny _ _ (if (((items.size : Int) - 1) == 0 && (-1 : Int) == 1 && items.size == items.size) = true then _ else _) _ _ s
  have no : ¬ ((((items.size : Int) - 1) == 0 && (-1 : Int) == 1 && items.size == items.size) = true) := by
    rw [show ((-1 : Int) == 1) = false by decide, Bool.and_false, Bool.false_and]
    exact Bool.false_ne_true
  rw [if_neg no, rev_pick items]
  exact wpAny_bind (m := Builtin.Tuple.tupleExact _) (wpAny_newObj_type (wpAny_pure ⟨_, rfl, wpAny_pure k⟩) okSize)
end
/-- t[::-1] -/
def tRevX (K : PySem.W.Frag) (te : TE) : TE := fun σ H Q => te σ H fun x H1 => ∃ (a : Addr) (xs : List V), x = .ref a ∧ SqT K H1 a xs ∧ ∀ p H2, H1 p = none → Same H1 H2 → Tx.TX H2 p xs.reverse → Q (.ref p) H2
section
variable {X : Cx}
theorem pe_revX {e : Expr} {te : TE} {c : Nat} {p1 p2 p3 pos : Pos} (he : PE X e te) : PE X (.Subscript e (.Slice none none (some (.UnaryOp .USub (.Constant (.int 1) c p1) p2)) p3) pos) (tRevX X.K te) := by
  refine ⟨fun pins s0 σ G0 Q J0 q0 => ?_⟩
  refine Subscript_ (thn (he.run pins s0 σ G0 _ J0 q0) fun v0 s1 ⟨x, G1, J1, r0, q1⟩ => ?_)
  refine wpAny_Slice (thn (po_none.run pins s1 σ G1 (fun o G => o = none ∧ G = G1) J1 ⟨rfl, rfl⟩) fun vl s2 ⟨l, G2, J2, pl, el, e2⟩ => ?_)
  subst el e2
  refine thn (po_none.run pins s2 σ G2 (fun o G => o = none ∧ G = G2) J2 ⟨rfl, rfl⟩) fun vu s3 ⟨u, G3, J3, pu, eu, e3⟩ => ?_
  subst eu e3
  obtain ⟨a, xs, ex, hx, q2⟩ := q1
  subst ex
  cases r0
  have back : PO X (some (.UnaryOp .USub (.Constant (.int 1) c p1) p2)) (tPart (tUn (rU fun i => .int (-i)) (tC (.int 1)))) := po_some (pe_un un_neg pe_int)
  refine thn (back.run pins s3 σ G3 (fun o G => o = some (-1) ∧ G = G3) J3 ⟨1, rfl, -1, rfl, rfl, rfl⟩) fun vs s4 ⟨o, G4, J4, ps, eo, e4⟩ => ?_
  subst eo e4
  have J5 : Inv X pins σ G4 { s4 with heap := s4.heap.push { cls := .type "slice", data := .fields #[vl, vu, vs] } } := J4.kept (t' := s4.toks) fun b ob z => Heap.get?_push_of_some _ z
  obtain ⟨its, rel, tt, few⟩ := J5.tuple hx
  have len := rel.length
  show wpAny (model X.prog X.w) X.A (subscriptTail e (.Slice none none (some (.UnaryOp .USub (.Constant (.int 1) c p1) p2)) p3) (.ref a) (.ref s4.heap.objs.size)) (EP X pins σ Q) X.xe { s4 with heap := s4.heap.push { cls := .type "slice", data := .fields #[vl, vu, vs] } }
  refine tail_any (ops := [.ref a, .ref s4.heap.objs.size]) tt.typeIs
    PyProof.Rows.slot_tuple_getitem.lookup ?_ (by with_unfolding_all rfl)
  refine item_rev tt (Heap.IsSliceOf.new _ vl vu vs) pl pu ps (by rw [List.size_toArray]; omega) ?_
  obtain ⟨G6, J6, fresh, same, tx⟩ := Tx.laid_tup J5 rel.reverse (by rw [List.length_reverse]; omega)
  exact ⟨.ref _, _, J6, rfl, q2 _ _ fresh same tx⟩
end
end Tb
namespace Pr
open PySem PySem.Spec PyProof.Rows L2 Gd
/-! ### the odd values -/
/-- an odd value: it has a type; it is a short text, or one of two dicts, or something else -/
structure Ov (H : Hp) (v : V) : Prop where
  kd : ∃ ty, Kd H v ty
  few : ∀ z, v = .str z → z.length ≤ 100000
  dict : ∀ a kvs, v = .ref a → H a = some (.dK kvs) → kvs = [] ∨ kvs = [((Sum.inr "c" : Key), V.int 0)]
theorem Ov.same {H H' : Hp} {v : V} (h : Ov H v) (s : Same H H') : Ov H' v := by
  obtain ⟨ty, k⟩ := h.kd
  refine ⟨⟨ty, k.same s⟩, h.few, fun a kvs e q => ?_⟩
  subst e
  cases k with
  | lst e =>
    rw [s _ _ e] at q
    cases q
  | tup e =>
    obtain ⟨o, ho, _⟩ := e
    rw [s _ _ ho] at q
    cases q
  | dK e =>
    have e2 := s _ _ e
    rw [e2] at q
    cases q
    exact h.dict a _ rfl e
theorem Ov.non {H : Hp} : Ov H .non := ⟨⟨_, .non⟩, fun z e => (nomatch e), fun a k e => (nomatch e)⟩
theorem Ov.bl {H : Hp} (b : Bool) : Ov H (.bl b) := ⟨⟨_, .bl b⟩, fun z e => (nomatch e), fun a k e => (nomatch e)⟩
theorem Ov.int {H : Hp} (i : Int) : Ov H (.int i) := ⟨⟨_, .int i⟩, fun z e => (nomatch e), fun a k e => (nomatch e)⟩
theorem Ov.str {H : Hp} (z : Str) (h : z.length ≤ 100000) : Ov H (.str z) := ⟨⟨_, .str z⟩, fun y e => by cases e; exact h, fun a k e => (nomatch e)⟩
theorem Ov.tup {H : Hp} {a : Addr} {xs : List V} (e : Tx.TX H a xs) : Ov H (.ref a) := ⟨⟨_, .tup e⟩, fun z q => (nomatch q), fun b k q h => by
  cases q
  obtain ⟨o, ho, _⟩ := e
  rw [ho] at h
  cases h⟩
theorem Ov.lst {H : Hp} {a : Addr} {xs : List V} (e : H a = some (.lst xs)) : Ov H (.ref a) := ⟨⟨_, .lst e⟩, fun z q => (nomatch q), fun b k q h => by
  cases q
  rw [e] at h
  cases h⟩
theorem Ov.dK0 {H : Hp} {a : Addr} (e : H a = some (.dK [])) : Ov H (.ref a) := ⟨⟨_, .dK e⟩, fun z q => (nomatch q), fun b k q h => by
  cases q
  rw [e] at h
  cases h
  exact .inl rfl⟩
theorem Ov.dK1 {H : Hp} {a : Addr} (e : H a = some (.dK [((Sum.inr "c" : Key), V.int 0)])) : Ov H (.ref a) := ⟨⟨_, .dK e⟩, fun z q => (nomatch q), fun b k q h => by
  cases q
  rw [e] at h
  cases h
  exact .inr rfl⟩
/-- values made so far: each can be judged, none is the dice -/
structure Good (d : Addr) (H0 H : Hp) (xs : List V) : Prop where
  same : Same H0 H
  there : ∃ o, H0 d = some o
  all : ∀ v ∈ xs, Ov (Hm d H) v
theorem Good.nil {d : Addr} {H : Hp} (h : ∃ o, H d = some o) : Good d H H [] := ⟨Same.refl H, h, fun v m => nomatch m⟩
theorem hm_new {d p : Addr} {H : Hp} {o : HO} (n : H p = none) : Same (Hm d H) (Hm d (upd H p o)) := (Kp.same (d := d) (Same.new n)).hm
theorem hm_fresh {d p : Addr} {H : Hp} {o : HO} (_ : H p = none) (ne : p ≠ d) : Hm d (upd H p o) p = some o := Hm.of upd_same ne
theorem Good.step {d : Addr} {H0 H H2 : Hp} {xs : List V} (g : Good d H0 H xs) (s : Same H H2) : Good d H0 H2 xs := ⟨g.same.trans s, g.there, fun v m => (g.all v m).same (Same.hm s)⟩
theorem Good.new {d p : Addr} {H0 H : Hp} {xs : List V} {o : HO} (g : Good d H0 H xs) (n : H p = none) : Good d H0 (upd H p o) xs := g.step (Same.new n)
theorem Good.ne {d p : Addr} {H0 H : Hp} {xs : List V} (g : Good d H0 H xs) (n : H p = none) : p ≠ d := by
  obtain ⟨u, hu⟩ := g.there
  exact (ne_of_none (g.same _ _ hu) n).symm
theorem Good.put {d : Addr} {H0 H : Hp} {xs : List V} {v : V} (g : Good d H0 H xs) (h : Ov (Hm d H) v) : Good d H0 H (xs ++ [v]) := by
  refine ⟨g.same, g.there, fun u q => ?_⟩
  rcases List.mem_append.mp q with q | q
  · exact g.all u q
  · rw [List.mem_singleton.mp q]
    exact h
theorem all1 {P : V → Prop} {x : V} (h : P x) : ∀ y ∈ [x], P y := fun y m => by
  rw [List.mem_singleton.mp m]
  exact h
theorem all2 {P : V → Prop} {x y : V} (h : P x) (k : P y) : ∀ z ∈ [x, y], P z := fun z m => by
  rcases List.mem_cons.mp m with e | m
  · rw [e]
    exact h
  · rw [List.mem_singleton.mp m]
    exact k
theorem all0 {P : V → Prop} : ∀ z ∈ ([] : List V), P z := fun z m => nomatch m
def repS (z : Str) (k : Nat) : Str := ⟨(List.replicate k z.cps).foldl (· ++ ·) #[]⟩
/-- a text times a small number -/
def rRepS : R2 := fun x y H Q => ∃ z k, x = .str z ∧ y = .int k ∧ 2 ≤ k ∧ k ≤ 5000 ∧ z.length = 1 ∧ Q (.str (repS z k.toNat)) H
section
variable {X : Cx}
theorem foldl_size (c : Array Nat) : ∀ (k : Nat) (a : Array Nat), ((List.replicate k c).foldl (· ++ ·) a).size = a.size + k * c.size
  | 0, a => by simp
  | k + 1, a => by
    rw [List.replicate_succ, List.foldl_cons, foldl_size c k (a ++ c), Array.size_append, Nat.succ_mul]
    omega
theorem op_repS : OpR X (binaryOp .Mult) rRepS := by
  intro pins s σ H x y v u Q I rx ry h
  obtain ⟨z, k, rfl, rfl, h2, h5, hz, q⟩ := h
  obtain ⟨t, rfl⟩ := rx
  obtain ⟨t', rfl⟩ := ry
  have k1 : ¬ k < 1 := by omega
  have e1 : (k == 1 || z.length == 0) = false := by
    have a1 : (k == 1) = false := by rw [beq_eq_false_iff_ne]; omega
    have a2 : (z.length == 0) = false := by rw [beq_eq_false_iff_ne]; omega
    rw [a1, a2]
    rfl
  have hk : (k.toNat : Int) = k := Int.toNat_of_nonneg (by omega)
  have es : (repS z k.toNat).length ≤ sizeLine := by
    show ((List.replicate k.toNat z.cps).foldl (· ++ ·) #[]).size ≤ sizeLine
    have hc : z.cps.size = 1 := hz
    rw [foldl_size, hc, sizeLine_eq]
    simp
    omega
  refine PySem.P.mul_str ?_ (fun _ _ => ?_) (fun _ _ => ?_) ?_
  · rw [decide_eq_false (by omega), decide_eq_false (by omega)]
    rfl
  · rw [hz]
    have := Int.le_ediv_of_mul_le (a := 1) (b := 2 ^ 63 - 1) (c := k) (by omega) (by omega)
    omega
  · rw [hz]
    show decide (_ > sizeLine) = false
    exact decide_eq_false (by rw [sizeLine_eq]; omega)
  · rw [if_neg k1, e1, if_neg Bool.false_ne_true]
    exact ⟨es, .str (repS z k.toNat), H, I.tok _, ⟨_, rfl⟩, q⟩
end
theorem foldl_mem (c : Array Nat) : ∀ (k : Nat) (a : Array Nat) (x : Nat), x ∈ ((List.replicate k c).foldl (· ++ ·) a).toList → x ∈ a.toList ∨ x ∈ c.toList
  | 0, a, x, h => .inl h
  | k + 1, a, x, h => by
    rw [List.replicate_succ, List.foldl_cons] at h
    rcases foldl_mem c k (a ++ c) x h with h | h
    · rw [Array.toList_append] at h
      exact (List.mem_append.mp h).imp id id
    · exact .inr h
theorem sok_rep {k : Nat} {z : Str} (hz : SOk 1 z) : SOk k (repS z k) := by
  have h1 := hz.1
  have h2 : z.cps.size ≤ 1 := h1
  refine ⟨?_, fun c h => ?_⟩
  · show ((List.replicate k z.cps).foldl (· ++ ·) #[]).size ≤ k
    rw [foldl_size]
    have := Nat.mul_le_mul_left k h2
    simp
    omega
  · rcases foldl_mem z.cps k #[] c h with h | h
    · simp at h
    · exact hz.2 c h
/-- the law's odd values: each is odd, none is the dice -/
def spOdd : Sp := fun vs H Q _ => ∃ (d : Addr) (n : Nat), vs = [.ref d] ∧ Dice H d n ∧ n + 26 < 1000000 ∧
  ∀ (q : Addr) (ys : List V) (H' : Hp), q ≠ d → H q = none → Kp d H H' → H' q = some (.lst ys) → ys.length = 26 → (∀ y ∈ ys, Ov (Hm d H') y) → Dice H' d (n + 26) → Q (.ref q) H'
section
variable {P : Program} {w : World} {K : PySem.W.Frag} {mg : Str → Option Value} {base : Heap} {fR fP fM : Addr} {dR dP dM : FuncData}
theorem scOdd : FnScope ["dice", "some"] ["dice"] (defScope sOdd) := ⟨rfl, rfl, rfl, by decide +kernel, rfl, by decide +kernel, by decide +kernel⟩
theorem ok_odd {f : Addr} {fd : FuncData} (F : Fun K "_law_odd_values" "_law_odd_values" sOdd f fd) (D : Draws K mg fR fP fM dR dP dM) (T : Free mg) : FnOk P w K mg base CX0 3 f fd ["dice"] spOdd := by
  have GM : FnOk P w K mg base CX0 2 fM dM ["dice", "items"] (spMixed K) := ok_mixed D T
  refine F.ok scOdd (fun vs H Q E h => ?_) (fun cdv A outer s H vs Q E hr h => ?_)
  · obtain ⟨d, n, rfl, _⟩ := h
    rfl
  · obtain ⟨d, n, rfl, di, hn, k⟩ := h
    obtain ⟨ds, hd⟩ := di.there
    refine ⟨_, pss_cons (ps_set (i := 1) scOdd.nd rfl (.inl rfl) (pe_lst (pa_cons pe_non (pa_cons pe_int (pa_cons pe_int (pa_cons (pe_un un_neg pe_int) (pa_cons pe_bl (pa_cons pe_bl (pa_cons pe_str (pa_cons pe_str (pa_cons pe_str
        (pa_cons (Tx.pe_tupX pa_nil) (pa_cons (Tx.pe_tupX (pa_cons pe_str pa_nil)) (pa_cons (pe_lst pa_nil) (pa_cons (pe_lst (pa_cons pe_str pa_nil)) (pa_cons pe_dnewK (pa_cons (pe_disp (pps_cons pe_str pe_int pps_nil) (by rfl) (by rfl) (fun z => by cases z) (by decide))
        (pa_cons (Tx.pe_tupX (pa_cons (Tx.pe_tupX pa_nil) pa_nil)) (pa_cons (pe_op op_pow pe_int pe_int) (pa_cons pe_str pa_nil))))))))))))))))))))
      (pss_cons (ps_set (i := 1) scOdd.nd rfl (.inl rfl) (pe_op op_cat (pv 1) (pe_lst (pa_cons (pe_op op_repS pe_str pe_int) (pa_cons (pe_op Tb.op_repX (Tx.pe_tupX (pa_cons pe_str pa_nil)) pe_int) (pa_cons (Tx.pe_tupX (pa_cons pe_int (pa_cons pe_int pa_nil)))
        (pa_cons (Tx.pe_tupX (pa_cons pe_non pa_nil)) (pa_cons (Tx.pe_tupX (pa_cons (Tx.pe_tupX (pa_cons (Tx.pe_tupX (pa_cons pe_str pa_nil)) pa_nil)) pa_nil)) (pa_cons pe_str (pa_cons (pe_op op_mulW (pe_op op_pow pe_int pe_int) (pe_op op_pow pe_int pe_int)) pa_nil))))))))))
      (pss_one (ps_ret (pe_call GM hr (by rfl) D.gM D.FM.kp D.bM .nil pass0 (pa_cons (pv 0) (pa_cons (pe_op op_cat (pv 1) (pe_lst (pa_cons (pe_op op_sub pe_int (pe_op op_pow pe_int pe_int)) pa_nil))) pa_nil)))))), ?_⟩
    have z : ∀ {m : Nat}, m ≤ 64 → m ≤ sizeLine := fun h => Nat.le_trans h (by decide)
    have g0 : Good d H H [] := Good.nil ⟨_, hd⟩
    have T : ∀ {H : Hp} (z : Str), SOk 5 z → Ov H (.str z) := fun z h => Ov.str z (Nat.le_trans h.1 (by decide))
    have I : ∀ {H : Hp} (i : Int), i.natAbs < 2 ^ 1900 → Ov H (.int i) := fun i _ => Ov.int i
    have g1 := ((((((((g0.put Ov.non).put (I 0 (by decide +kernel))).put (I 1 (by decide +kernel))).put (I (-1) (by decide +kernel))).put (Ov.bl true)).put (Ov.bl false)).put (T "" ⟨by decide, by decide +kernel⟩)).put (T "a" ⟨by decide, by decide +kernel⟩)).put (T "A b" ⟨by decide, by decide +kernel⟩)
    refine ⟨_, rfl, z (Nat.le_of_ble_eq_true rfl), fun t1 H1 n1 s1 x1 => ?_⟩
    have g2 := (g1.step s1).put (Ov.tup (TX.hm x1 (g1.ne n1)))
    refine ⟨z (Nat.le_of_ble_eq_true rfl), fun t2 H2 n2 s2 x2 => ?_⟩
    have g3 := (g2.step s2).put (Ov.tup (TX.hm x2 (g2.ne n2)))
    refine ⟨z (Nat.le_of_ble_eq_true rfl), fun t3 n3 => ?_⟩
    have g4 := (g3.new n3 (o := .lst [])).put (Ov.lst (hm_fresh n3 (g3.ne n3)))
    refine ⟨z (Nat.le_of_ble_eq_true rfl), fun t4 n4 => ?_⟩
    have g5 := (g4.new n4 (o := .lst [.str "c"])).put (Ov.lst (hm_fresh n4 (g4.ne n4)))
    intro t5 n5
    have g6 := (g5.new n5 (o := .dK [])).put (Ov.dK0 (hm_fresh n5 (g5.ne n5)))
    refine fun t6 n6 => ⟨upd_same, [(Sum.inr "c", .int 0)], rfl, by decide, ?_⟩
    have g7 := (g6.new (o := .dK (mergeK [] [((Sum.inr "c" : Key), V.int 0)])) n6).put (Ov.dK1 (hm_fresh n6 (g6.ne n6)))
    have g7b := g7
    rw [← upd_upd (H := upd _ t5 _) (a := t6) (o := .dK [])] at g7b
    refine ⟨z (Nat.le_of_ble_eq_true rfl), fun t7 H7 n7 s7 x7 => ⟨z (Nat.le_of_ble_eq_true rfl), fun t8 H8 n8 s8 x8 => ?_⟩⟩
    have g7c := g7b.step s7
    have v7 : Ov (Hm d _) (.ref t7) := (Ov.tup (TX.hm x7 (g7b.ne n7)))
    have x7b := TX.hm (Tx.TX.same x7 s8) (g7b.ne n7)
    have g8 := (g7c.step s8).put (Ov.tup (TX.hm x8 (g7c.ne n8)))
    refine ⟨10, 60, rfl, rfl, c10 (k := 60) (by decide), ?_⟩
    have g9 := (g8.put (I (10 ^ (60 : Int).toNat) (by decide +kernel))).put (T "_" ⟨by decide, by decide +kernel⟩)
    -- the list itself
    refine ⟨z (Nat.le_of_ble_eq_true rfl), fun l1 m1 => ?_⟩
    have g10 := g9.new m1 (o := .lst [V.non, .int 0, .int 1, .int (-1), .bl true, .bl false, .str "", .str "a", .str "A b", .ref t1, .ref t2, .ref t3, .ref t4, .ref t5, .ref t6, .ref t8, .int (10 ^ (60 : Int).toNat), .str "_"])
    -- some + [..]
    refine ⟨_, rfl, _, _, rfl, rfl, by decide, by decide, by decide +kernel, ?_⟩
    have V4 : ∀ {H : Hp}, Ov H (.str (repS "x" (4000 : Int).toNat)) := Ov.str _ (Nat.le_trans (sok_rep (k := (4000 : Int).toNat) (z := "x") ⟨by decide, by decide +kernel⟩).1 (by decide))
    have h0 := g10.put V4
    refine ⟨z (Nat.le_of_ble_eq_true rfl), fun t9 H9 n9 s9 x9 => ⟨_, 30, _, rfl, rfl, x9, by decide, by decide, by decide, (fun e => nomatch e), fun t10 H10 n10 s10 x10 => ?_⟩⟩
    have h0b := h0.step s9
    have inr : ∀ y ∈ (List.replicate 30 [V.str "c"]).flatten, y = V.str "c" := fun y m => by
      obtain ⟨l, hl, hy⟩ := List.mem_flatten.mp m
      rw [List.eq_of_mem_replicate hl] at hy
      exact List.mem_singleton.mp hy
    have h1 := (h0b.step s10).put (Ov.tup (TX.hm x10 (h0b.ne n10)))
    refine ⟨z (Nat.le_of_ble_eq_true rfl), fun t11 H11 n11 s11 x11 => ?_⟩
    have h2 := (h1.step s11).put (Ov.tup (TX.hm x11 (h1.ne n11)))
    refine ⟨z (Nat.le_of_ble_eq_true rfl), fun t12 H12 n12 s12 x12 => ?_⟩
    have h3 := (h2.step s12).put (Ov.tup (TX.hm x12 (h2.ne n12)))
    refine ⟨z (Nat.le_of_ble_eq_true rfl), fun t13 H13 n13 s13 x13 => ⟨z (Nat.le_of_ble_eq_true rfl), fun t14 H14 n14 s14 x14 => ⟨z (Nat.le_of_ble_eq_true rfl), fun t15 H15 n15 s15 x15 => ?_⟩⟩⟩
    have h3b := h3.step s13
    have v13 : Ov (Hm d _) (.ref t13) := (Ov.tup (TX.hm x13 (h3.ne n13)))
    have x13b := TX.hm (Tx.TX.same x13 s14) (h3.ne n13)
    have h3c := h3b.step s14
    have v14 : Ov (Hm d _) (.ref t14) := (Ov.tup (TX.hm x14 (h3b.ne n14)))
    have x14b := TX.hm (Tx.TX.same x14 s15) (h3b.ne n14)
    have h4 := (h3c.step s15).put (Ov.tup (TX.hm x15 (h3c.ne n15)))
    refine ⟨10, 60, rfl, rfl, c10 (k := 60) (by decide), 10, 39, rfl, rfl, c10 (k := 39) (by decide), _, _, rfl, rfl, wide_mul (a := 400) (b := 400) (by decide +kernel) (by decide +kernel) (by decide) (by decide) (by decide), ?_⟩
    have h5 := (h4.put (T "\n" ⟨by decide, by decide +kernel⟩)).put (I (10 ^ (60 : Int).toNat * 10 ^ (39 : Int).toNat) (by decide +kernel))
    refine ⟨z (Nat.le_of_ble_eq_true rfl), fun l2 m2 => ?_⟩
    refine ⟨l1, l2, _, _, rfl, rfl, (((((((s9.trans s10).trans s11).trans s12).trans s13).trans s14).trans s15).trans (Same.new m2)) _ _ upd_same, upd_same, z (Nat.le_of_ble_eq_true rfl), fun p m3 => ?_⟩
    refine ⟨_, rfl, _, rfl, 10, 60, rfl, rfl, c10 (k := 60) (by decide), 0, _, rfl, rfl, z (Nat.le_of_ble_eq_true rfl), fun l3 m4 => ?_⟩
    refine ⟨p, l3, _, _, rfl, rfl, (Same.new m4) _ _ upd_same, upd_same, z (Nat.le_of_ble_eq_true rfl), fun p2 m5 => ?_⟩
    have h6 := fun o : HO => Good.new (o := o) (Good.put (Good.new (Good.new h5 m2) m3) (I (0 - 10 ^ (60 : Int).toNat) (by decide +kernel))) m4
    have h7 := fun o : HO => Good.new (o := o) (h6 _) m5
    simp only [List.nil_append, List.cons_append] at h7
    have hd2 := fun o : HO => (h6 o).same _ _ hd
    refine ⟨d, p2, n, _, rfl, (ne_of_none (hd2 _) m5).symm, SqL.of upd_same, Nat.le_of_ble_eq_true rfl, di.same (h7 _).same, hn, fun q ys H' nqd nq kp hq pm di2 => ?_⟩
    · refine k q ys H' nqd ((h7 _).same.free nq) (fun b o nb e => kp b o nb ((h7 _).same b o e)) hq pm.length_eq (fun y m => ((h7 _).all y (pm.subset m)).same kp.hm) di2
end
end Pr
namespace Pr
open PySem PySem.Spec PyProof.Rows L2 Gd
/-! ### lists beside lists: the same items, or another length -/
theorem eq_self {A : Around} {s : Shared} {H : Hp} {v : V} {t : String} {u u' : Value} (k : Kd H v t) (r : RelV v u) (r' : RelV v u') : SeqAt.EqAt A s u u' true := by
  cases k with
  | non => exact eqAt_same r r' rfl
  | bl b => exact eqAt_same r r' rfl
  | int i => exact eqAt_same r r' rfl
  | str z => exact eqAt_same r r' rfl
  | _ =>
    cases (show u = Value.ref _ from r)
    cases (show u' = Value.ref _ from r')
    exact SeqAt.EqAt.same _
theorem eq_items {A : Around} {s : Shared} {H : Hp} : ∀ {xs : List V} {us ws : List Value}, (∀ v ∈ xs, ∃ t, Kd H v t) → Vals xs us → Vals xs ws → ∀ j (h1 : j < us.length) (h2 : j < ws.length), SeqAt.EqAt A s us[j] ws[j] true
  | _, _, _, _, .nil, .nil, j, h1, _ => absurd h1 (Nat.not_lt_zero j)
  | _, _, _, k, .cons r _, .cons r' _, 0, _, _ => by
    obtain ⟨t, kt⟩ := k _ List.mem_cons_self
    exact eq_self kt r r'
  | _, _, _, k, .cons _ t, .cons _ t', j + 1, h1, h2 => eq_items (fun v m => k v (List.mem_cons_of_mem _ m)) t t' j (Nat.lt_of_succ_lt_succ h1) (Nat.lt_of_succ_lt_succ h2)
def rNeL (K : PySem.W.Frag) : R2 := fun x y H Q => ∃ a b xs ys, x = .ref a ∧ y = .ref b ∧ SqL K H a xs ∧ SqL K H b ys ∧ (xs.length ≠ ys.length ∧ Q (.bl true) H ∨ xs = ys ∧ (∀ v ∈ xs, ∃ t, Kd H v t) ∧ Q (.bl false) H)
def rEqL (K : PySem.W.Frag) : R2 := fun x y H Q => ∃ a b xs ys, x = .ref a ∧ y = .ref b ∧ SqL K H a xs ∧ SqL K H b ys ∧ (xs.length ≠ ys.length ∧ Q (.bl false) H ∨ xs = ys ∧ (∀ v ∈ xs, ∃ t, Kd H v t) ∧ Q (.bl true) H)
theorem op_neL {X : Cx} (hu : X.A.units + 64 < cLine) : OpR X (compareOp .NotEq) (rNeL X.K) := by
  intro pins s σ H x y v u Q I rx ry h
  obtain ⟨a, b, xs, ys, rfl, rfl, ha, hb, q⟩ := h
  cases (show v = Value.ref a from rx)
  cases (show u = Value.ref b from ry)
  obtain ⟨us, r1, p1, _⟩ := I.list ha
  obtain ⟨ws, r2, p2, _⟩ := I.list hb
  rcases q with ⟨ne, q⟩ | ⟨rfl, k, q⟩
  · have hsz : (us.toArray.size != ws.toArray.size) = true := by
      rw [List.size_toArray, List.size_toArray, ← r1.length, ← r2.length]
      exact bne_iff_ne.mpr ne
    exact SeqAt.RcNeAt.lists_lengths p1.isList p2.isList hsz (A := X.A) (s := s) (by omega) X.prog X.w _ _ ⟨.bl true, H, I, rfl, q⟩
  · have hsz : us.toArray.size = ws.toArray.size := by
      rw [List.size_toArray, List.size_toArray, ← r1.length, ← r2.length]
    have z := SeqAt.RcNeAt.lists (e := fun _ => true) p1.isList p2.isList hsz (A := X.A) (s := s) (by omega) (fun j h1 h2 => by
      have e := eq_items (A := X.A.in1) (s := s) k r1 r2 j (by simpa using h1) (by simpa using h2)
      simpa using e)
    rw [show ((List.range us.toArray.size).all fun _ => true) = true from List.all_eq_true.mpr fun _ _ => rfl] at z
    exact z X.prog X.w _ _ ⟨.bl false, H, I, rfl, q⟩
theorem op_eqL {X : Cx} (hu : X.A.units + 64 < cLine) : OpR X (compareOp .Eq) (rEqL X.K) := by
  intro pins s σ H x y v u Q I rx ry h
  obtain ⟨a, b, xs, ys, rfl, rfl, ha, hb, q⟩ := h
  cases (show v = Value.ref a from rx)
  cases (show u = Value.ref b from ry)
  obtain ⟨us, r1, p1, _⟩ := I.list ha
  obtain ⟨ws, r2, p2, _⟩ := I.list hb
  rcases q with ⟨ne, q⟩ | ⟨rfl, k, q⟩
  · have hsz : (us.toArray.size != ws.toArray.size) = true := by
      rw [List.size_toArray, List.size_toArray, ← r1.length, ← r2.length]
      exact bne_iff_ne.mpr ne
    exact SeqAt.RcAt.lists_lengths p1.isList p2.isList hsz (A := X.A) (s := s) (by omega) X.prog X.w _ _ ⟨.bl false, H, I, rfl, q⟩
  · have hsz : us.toArray.size = ws.toArray.size := by
      rw [List.size_toArray, List.size_toArray, ← r1.length, ← r2.length]
    have z := SeqAt.RcAt.lists (e := fun _ => true) p1.isList p2.isList hsz (A := X.A) (s := s) (by omega) (fun j h1 h2 => by
      have e := eq_items (A := X.A.in1) (s := s) k r1 r2 j (by simpa using h1) (by simpa using h2)
      simpa using e)
    rw [show ((List.range us.toArray.size).all fun _ => true) = true from List.all_eq_true.mpr fun _ _ => rfl] at z
    exact z X.prog X.w _ _ ⟨.bl true, H, I, rfl, q⟩
/-! ### comprehensions that choose -/
section
variable {K : PySem.W.Frag} {a D : Addr} {xs : List V} {tt : TT} {i : Nat} {σ : L2.St} {H1 : Hp} {Qd : Hp → Prop}
theorem filt_step (p : V → Bool) {k : Nat} {x : V} (h : xs[k]? = some x) : (xs.take (k + 1)).filter p = (xs.take k).filter p ++ (if p x then [x] else []) := by
  rw [List.take_add_one, h, List.filter_append]
  cases e : p x <;> simp [e]
theorem filt_len (p : V → Bool) {k : Nat} : ((xs.take k).filter p).length ≤ xs.length := by
  refine Nat.le_trans (List.length_filter_le _ _) ?_
  rw [List.length_take]
  exact Nat.min_le_right _ _
theorem filt_turn (p : V → Bool) (hi : i < σ.length) (nD : H1 D = none) (few : xs.length < sizeLine) (hs : ∀ x ∈ xs, ∀ G, Same H1 G → ∀ R : Bool → Hp → Prop, R (p x) G → tt ((σ.set i none).set i (some x)) G R) :
    ∀ k x G, xs[k]? = some x → (G D = some (.lst ((xs.take k).filter p)) ∧ Same H1 G) → gName i x (wipe σ [i]) G fun σ2 H2 => wipe σ2 [i] = wipe σ [i] ∧ tt σ2 H2 fun b H3 =>
      if b = true then tVar i σ2 H3 fun y H4 => ∃ acc, H4 D = some (.lst acc) ∧ acc.length < sizeLine ∧ ((upd H4 D (.lst (acc ++ [y]))) D = some (.lst ((xs.take (k + 1)).filter p)) ∧ Same H1 (upd H4 D (.lst (acc ++ [y])))) else (H3 D = some (.lst ((xs.take (k + 1)).filter p)) ∧ Same H1 H3) := by
  intro k x G hx h
  obtain ⟨eD, s⟩ := h
  refine ⟨?_, ?_⟩
  · show (((σ.set i none).set i (some x)).set i none) = σ.set i none
    rw [List.set_set, List.set_set]
  · refine hs x (List.mem_of_getElem? hx) G s _ ?_
    have e := filt_step (xs := xs) p hx
    by_cases c : p x = true
    · rw [if_pos c] at e ⊢
      refine ⟨x, ?_, _, eD, Nat.lt_of_le_of_lt (filt_len p) few, ?_, ?_⟩
      · show ((σ.set i none).set i (some x))[i]? = some (some x)
        rw [List.getElem?_set_self (by rw [List.length_set]; exact hi)]
      · rw [upd_same, e]
      · exact fun b u q => by
          rw [upd_ne (ne_of_none q nD)]
          exact s b u q
    · rw [if_neg c] at e ⊢
      rw [e, List.append_nil]
      exact ⟨eD, s⟩
theorem lc_filtT (p : V → Bool) (hi : i < σ.length) (ht : ∀ G, Same H1 G → SqT K G a xs) (nD : H1 D = none) (few : xs.length < sizeLine)
    (hs : ∀ x ∈ xs, ∀ G, Same H1 G → ∀ R : Bool → Hp → Prop, R (p x) G → tt ((σ.set i none).set i (some x)) G R) (hd : ∀ G, G D = some (.lst (xs.filter p)) → Same H1 G → Qd G) :
    ∃ W : Nat → Nat → Hp → Prop, (∃ m, W 0 m (upd H1 D (.lst []))) ∧ ∀ k m H, W k m H →
      ((Itt K a).stop k H ∧ Qd H) ∨ ((Itt K a).go k H ∧ ∃ Nx : Hp → Prop, (∀ H', Nx H' → ∃ m', m' < m ∧ W (k + 1) m' H') ∧ ∀ x H', (Itt K a).yld k H x H' → gName i x (wipe σ [i]) H' fun σ2 H2 => wipe σ2 [i] = wipe σ [i] ∧ tt σ2 H2 fun b H3 =>
        if b = true then tVar i σ2 H3 fun y H4 => ∃ acc, H4 D = some (.lst acc) ∧ acc.length < sizeLine ∧ Nx (upd H4 D (.lst (acc ++ [y]))) else Nx H3) := by
  refine lc_tup (K := K) (a := a) (xs := xs) (fun k G => G D = some (.lst ((xs.take k).filter p)) ∧ Same H1 G) ⟨upd_same, Same.new nD⟩ (fun k G _ ⟨_, s⟩ => ht G s) (filt_turn p hi nD few hs) ?_
  rintro G ⟨eD, s⟩
  rw [List.take_length] at eD
  exact hd G eD s
theorem lc_filtL (p : V → Bool) (hi : i < σ.length) (ht : ∀ G, Same H1 G → SqL K G a xs) (nD : H1 D = none) (few : xs.length < sizeLine)
    (hs : ∀ x ∈ xs, ∀ G, Same H1 G → ∀ R : Bool → Hp → Prop, R (p x) G → tt ((σ.set i none).set i (some x)) G R) (hd : ∀ G, G D = some (.lst (xs.filter p)) → Same H1 G → Qd G) :
    ∃ W : Nat → Nat → Hp → Prop, (∃ m, W 0 m (upd H1 D (.lst []))) ∧ ∀ k m H, W k m H →
      ((Itl K a).stop k H ∧ Qd H) ∨ ((Itl K a).go k H ∧ ∃ Nx : Hp → Prop, (∀ H', Nx H' → ∃ m', m' < m ∧ W (k + 1) m' H') ∧ ∀ x H', (Itl K a).yld k H x H' → gName i x (wipe σ [i]) H' fun σ2 H2 => wipe σ2 [i] = wipe σ [i] ∧ tt σ2 H2 fun b H3 =>
        if b = true then tVar i σ2 H3 fun y H4 => ∃ acc, H4 D = some (.lst acc) ∧ acc.length < sizeLine ∧ Nx (upd H4 D (.lst (acc ++ [y]))) else Nx H3) := by
  refine lc_list (K := K) (a := a) (xs := xs) (fun k G => G D = some (.lst ((xs.take k).filter p)) ∧ Same H1 G) ⟨upd_same, Same.new nD⟩ (fun k G _ ⟨_, s⟩ => ht G s) (filt_turn p hi nD few hs) ?_
  rintro G ⟨eD, s⟩
  rw [List.take_length] at eD
  exact hd G eD s
end
end Pr
namespace Pr
open PySem PySem.Spec PyProof.Rows L2 Gd
/-! ### what is said of a dict with one more pair -/
theorem merge_snoc : ∀ (xs kvs : List (Key × V)) (p : Key × V), mergeK kvs (xs ++ [p]) = putK (mergeK kvs xs) p.1 p.2
  | [], kvs, p => rfl
  | x :: xs, kvs, p => by
    show mergeK (putK kvs x.1 x.2) (xs ++ [p]) = _
    rw [merge_snoc xs]
    rfl
theorem put_length (kvs : List (Key × V)) (k : Key) (v : V) : kvs.length ≤ (putK kvs k v).length ∧ (putK kvs k v).length ≤ kvs.length + 1 := by
  unfold putK
  split
  · rw [List.length_map]
    omega
  · rw [List.length_append]
    simp
theorem put_mem {kvs : List (Key × V)} {k : Key} {v : V} {p : Key × V} (m : p ∈ putK kvs k v) : p ∈ kvs ∨ p = (k, v) := by
  unfold putK at m
  split at m
  · obtain ⟨q, mq, e⟩ := List.mem_map.mp m
    by_cases c : q.1 = k
    · rw [if_pos c] at e
      exact .inr (by rw [← e, c])
    · rw [if_neg c] at e
      exact .inl (e ▸ mq)
  · rcases List.mem_append.mp m with m | m
    · exact .inl m
    · exact .inr (List.mem_singleton.mp m)
theorem put_keys (kvs : List (Key × V)) (k : Key) (v : V) : (putK kvs k v).map (·.1) = if (kvs.any fun kv => decide (kv.1 = k)) = true then kvs.map (·.1) else kvs.map (·.1) ++ [k] := by
  unfold putK
  split
  · rw [List.map_map]
    refine List.map_congr_left fun q _ => ?_
    show (if q.1 = k then (q.1, v) else q).1 = q.1
    split <;> rfl
  · rw [List.map_append]
    rfl
theorem put_nice {kvs : List (Key × V)} {k : Key} {v : V} (n : Nice kvs) (f : kvs.length < 1000) (fv : Fl v) (hk : ∀ z, k = .inr z → z.length ≤ 1000000) : Nice (putK kvs k v) := by
  have hl := put_length kvs k v
  refine ⟨?_, by omega, fun p m => ?_, fun p m z e => ?_⟩
  · rw [put_keys]
    split
    · exact n.nd
    · rename_i c
      rw [List.nodup_append]
      refine ⟨n.nd, by simp, fun x m y m2 e => c ?_⟩
      have e2 : y = k := by simpa using m2
      obtain ⟨q, mq, eq⟩ := List.mem_map.mp m
      rw [List.any_eq_true]
      exact ⟨q, mq, decide_eq_true (by rw [eq, e, e2])⟩
  · rcases put_mem m with m | rfl
    · exact n.flat p m
    · exact fv
  · rcases put_mem m with m | rfl
    · exact n.key p m z e
    · exact hk z e
theorem fl_of {v : V} (h : flatV v = true) : Fl v := by
  cases v with
  | non => exact Fl.non
  | bl b => exact Fl.bl b
  | int i => exact Fl.int i
  | str z => exact Fl.str z
  | _ => cases h
/-- the law's own look at a number -/
def badV (v : V) : Bool := isB v || !inV v [V.int 0, .int 1, .int 2]
theorem bad_good {v : V} (h : flatV v = true) : (!badV v) = (isIntO v && in02 v) := by
  rw [isIntO_eq]
  cases v with
  | non => rfl
  | bl b => rfl
  | str z => rfl
  | int i =>
    show (!(false || !((0 : Int) == i || ((1 : Int) == i || ((2 : Int) == i || false))))) = (decide ((if i < 0 then -i else i) < 10 ^ (60 : Int).toNat) && (decide (0 ≤ i) && decide (i ≤ 2)))
    have e : ((10 : Int) ^ (60 : Int).toNat) = ((10 ^ 60 : Nat) : Int) := by decide +kernel
    rw [e]
    by_cases c : 0 ≤ i ∧ i ≤ 2
    · have c0 : i = 0 ∨ i = 1 ∨ i = 2 := by omega
      rcases c0 with rfl | rfl | rfl <;> decide +kernel
    · have h1 : ((0 : Int) == i) = false := beq_eq_false_iff_ne.mpr (by omega)
      have h2 : ((1 : Int) == i) = false := beq_eq_false_iff_ne.mpr (by omega)
      have h3 : ((2 : Int) == i) = false := beq_eq_false_iff_ne.mpr (by omega)
      rw [h1, h2, h3]
      by_cases a : 0 ≤ i
      · rw [decide_eq_false (show ¬ i ≤ 2 by omega)]
        simp
      · rw [decide_eq_false a]
        simp
  | _ => cases h
theorem good_two {kvs : List (Key × V)} (h1 : 1 ≤ kvs.length) (h8 : kvs.length ≤ 8) (f : ∀ p ∈ kvs, flatV p.2 = true) :
    goodK kvs = ((kvs.filter fun p => !nameB (kV p.1)).isEmpty && (kvs.filter fun p => badV p.2).isEmpty) := by
  unfold goodK
  rw [decide_eq_true h1, decide_eq_true h8, Bool.true_and, Bool.true_and]
  clear h1 h8
  induction kvs with
  | nil => rfl
  | cons p r ih =>
    have ih := ih fun q m => f q (List.mem_cons_of_mem _ m)
    have bg := bad_good (f p List.mem_cons_self)
    rw [List.all_cons, ih, List.filter_cons, List.filter_cons]
    unfold goodP
    rw [← bg]
    cases nameB (kV p.1) <;> cases badV p.2 <;> simp
/-- rows with the same names, of one multiset, each name once, are one -/
theorem rows_one : ∀ {x y : List (Str × Nat)}, x.Perm y → sortedS (x.map (·.1)) = true → sortedS (y.map (·.1)) = true → (x.map (·.1)).Nodup → x = y := by
  intro x y p sx sy nd
  have ek : x.map (·.1) = y.map (·.1) := sorted_one sx sy (p.map _)
  have ndy : (y.map (·.1)).Nodup := ek ▸ nd
  have key : ∀ {a b : List (Str × Nat)}, a.map (·.1) = b.map (·.1) → (∀ q ∈ a, ∀ r ∈ b, q.1 = r.1 → q = r) → a = b := by
    intro a
    induction a with
    | nil =>
      intro b e _
      cases b with
      | nil => rfl
      | cons _ _ => cases e
    | cons u a ih =>
      intro b e h
      cases b with
      | nil => cases e
      | cons w b =>
        have e : u.1 :: a.map (·.1) = w.1 :: b.map (·.1) := e
        injection e with e1 e2
        rw [h u List.mem_cons_self w List.mem_cons_self e1, ih e2 fun q m r m2 => h q (List.mem_cons_of_mem _ m) r (List.mem_cons_of_mem _ m2)]
  refine key ek fun q m r m2 e => ?_
  have m3 : r ∈ x := p.mem_iff.mpr m2
  have v1 := val_some nd (show (q.1, q.2) ∈ x from m)
  have v2 := val_some nd (show (r.1, r.2) ∈ x from m3)
  rw [e, v2] at v1
  injection v1 with h
  injection h with h
  exact Prod.ext e (by omega)
end Pr
namespace Pr
open PySem PySem.Spec PyProof.Rows L2 Gd
/-! ### _law_dicts_right -/
theorem OpR.or7 {X : Cx} {op : Value → Value → Sem Value} {r1 r2 : R2} (h1 : OpR X op r1) (h2 : OpR X op r2) : OpR X op (fun x y H Q => r1 x y H Q ∨ r2 x y H Q) := by
  intro pins s σ H x y v u Q I rx ry h
  rcases h with h | h
  · exact h1 pins s σ H x y v u Q I rx ry h
  · exact h2 pins s σ H x y v u Q I rx ry h
theorem isiK7 {X : Cx} {K : PySem.W.Frag} (h : X.K = K) : CallR X (.builtin "isinstance") (rIsi K) := by
  subst h
  exact call_isi
theorem op_notIn_seqK {X : Cx} {K : PySem.W.Frag} (h : X.K = K) : OpR X (compareOp .NotIn) (rIn K true) := by
  subst h
  exact op_notIn_seq
theorem op_neAnyK {X : Cx} {K : PySem.W.Frag} (h : X.K = K) (hu : X.A.units < cLine) : OpR X (compareOp .NotEq) (rNeAny K) := by
  subst h
  exact op_neAny hu
theorem joinV {Pr R : V → Hp → Prop} {A : Prop} (f : (∀ v G, Pr v G → R v G) → A) (g : ∀ v G, Pr v G → R v G) : A := f g
theorem filt7 {α : Type} {p : α → Bool} {zs : List α} {i : Nat} {z : α} (h : zs[i]? = some z) : (zs.take (i + 1)).filter p = (zs.take i).filter p ++ (if p z then [z] else []) := by
  rw [List.take_add_one, h, List.filter_append]
  cases e : p z <;> simp [e]
theorem ones_empty {α : Type} {p : α → Bool} {zs : List α} : ((zs.filter p).map fun _ => V.int 1).isEmpty = (zs.filter p).isEmpty := by
  cases zs.filter p <;> rfl
/-- the slots at a turn of the loop -/
def Sl (x0 x1 x2 x3 x4 x5 x7 x8 : Option V) (A : Addr) : L2.St := [x0, x1, x2, x3, x4, x5, some (.ref A), x7, x8, none, none, none, none]
/-- are all keys names -/
def namesB (kvs : List (Key × V)) : Bool := (kvs.filter fun p => !nameB (kV p.1)).isEmpty
def t_good : TE := fun σ H Q => ∃ (x0 x1 x2 x3 x4 x5 x7 x8 : Option V) (A : Addr) (kvs : List (Key × V)), σ = [x0, x1, x2, x3, x4, x5, some (.ref A), x7, x8, none, none, none, none] ∧ H A = some (.dK kvs) ∧ Nice kvs ∧ kvs.length ≤ 8 ∧ ∀ G, Same H G → Q (.bl (namesB kvs)) G
theorem hit_sub {l : List (Str × Nat)} (nd : (l.map (·.1)).Nodup) : ∀ {k : List (Str × Nat)}, (∀ p ∈ k, p ∈ l) → hitB (dkv l) (dkv k) = true
  | [], _ => rfl
  | p :: k, h => by
    have v1 := val_some nd (show (p.1, p.2) ∈ l from h p List.mem_cons_self)
    show (match valV (dkv l) (.inr p.1 : Key) with | none => false | some u => eqV (.int (p.2 : Int)) u && hitB (dkv l) (dkv k)) = true
    rw [v1]
    show ((p.2 : Int) == (p.2 : Int) && hitB (dkv l) (dkv k)) = true
    rw [hit_sub nd fun q m => h q (List.mem_cons_of_mem _ m)]
    simp
theorem eqD_self {l : List (Str × Nat)} (nd : (l.map (·.1)).Nodup) : eqD (dkv l) (dkv l) = true := by
  unfold eqD
  rw [hit_sub nd fun p m => m]
  simp
theorem hit_not {ls : List (Key × V)} {z : Str} {a : Nat} {b : Int} (hv : valV ls (.inr z : Key) = some (.int b)) (n : b ≠ (a : Int)) : ∀ {k : List (Str × Nat)}, (z, a) ∈ k → hitB ls (dkv k) = false
  | p :: k, m => by
    show (match valV ls (.inr p.1 : Key) with | none => false | some u => eqV (.int (p.2 : Int)) u && hitB ls (dkv k)) = false
    rcases List.mem_cons.mp m with e | m
    · rw [← e, hv]
      show ((a : Int) == b && hitB ls (dkv k)) = false
      rw [beq_eq_false_iff_ne.mpr (fun e => n e.symm), Bool.false_and]
    · have ih := hit_not hv n m
      rw [ih]
      cases valV ls (.inr p.1 : Key) with
      | none => rfl
      | some u => exact Bool.and_false _
theorem eqD_not {ls : List (Key × V)} {z : Str} {a : Nat} {b : Int} {k : List (Str × Nat)} (hv : valV ls (.inr z : Key) = some (.int b)) (n : b ≠ (a : Int)) (m : (z, a) ∈ k) : eqD (dkv k) ls = false := by
  unfold eqD
  rw [hit_not hv n m, Bool.and_false]
theorem paired_reverse {α β : Type} {F : α → β → Prop} : ∀ {xs : List α} {ys : List β}, Paired F xs ys → Paired F xs.reverse ys.reverse
  | _, _, .nil => .nil
  | _, _, .cons a r => by
    rw [List.reverse_cons, List.reverse_cons]
    exact paired_snoc (paired_reverse r) a
theorem put_val {kvs : List (Key × V)} {k : Key} {v : V} (n : Nice (putK kvs k v)) : valV (putK kvs k v) k = some v := by
  have m : (k, v) ∈ putK kvs k v := by
    unfold putK
    split
    · rename_i h
      obtain ⟨q, mq, e⟩ := List.any_eq_true.mp h
      have e' : q.1 = k := of_decide_eq_true e
      refine List.mem_map.mpr ⟨q, mq, ?_⟩
      rw [if_pos e', e']
    · exact List.mem_append_right _ (by simp)
  exact val_mem n.nd m
theorem mk7 {C CI x dx a : Addr} {kvs : List (Key × V)} {l : List (Str × Nat)} {G : Hp} {R : Hp → Prop} (nx : G x = none) (ndx : G dx = none) (ne : dx ≠ x) (ha : G a = some (.dK kvs)) (el : kvs = dkv l) (ok : OpsOk l)
    (q : ∀ l' H', l'.Perm l → sortedS (l'.map (·.1)) = true → Same G H' → OpsAt H' C x l' → R H') : spInit C CI [.ref x, .ref a] (upd (upd G dx (.own x)) x (.ins C dx [])) (fun v H2 => v = .non ∧ R H2) E0 := by
  subst el
  have s0 : Same G (upd (upd G dx (.own x)) x (.ins C dx [])) := (Same.new ndx).trans (Same.new (by rw [upd_ne ne.symm]; exact nx))
  have gd := good_of ok
  refine ⟨x, dx, .ref a, goodK (dkv l), rfl, upd_same, .dict (s0 _ _ ha) gd.1, fun bf => ?_, fun a2 l2 bt ea ha2 ok2 l' H' pl srt kp op => ⟨rfl, ?_⟩⟩
  · rw [gd.2] at bf
    cases bf
  · cases ea
    rw [s0 _ _ ha] at ha2
    have e2 : l = l2 := dkv_inj (by
      injection ha2 with h
      injection h)
    subst e2
    refine q l' H' pl srt (fun b u e => ?_) op
    have nb : b ≠ x := ne_of_none e nx
    exact kp b u nb (s0 b u e)
theorem val_back {kvs : List (Key × V)} {k : Key} {v : V} (h : valV kvs k = some v) : (k, v) ∈ kvs := by
  obtain ⟨kv, hk, ek⟩ := Option.map_eq_some_iff.mp (show (kvs.find? fun kv => decide (kv.1 = k)).map (·.2) = some v from h)
  have e1 : kv.1 = k := of_decide_eq_true (List.find?_some (p := fun kv : Key × V => decide (kv.1 = k)) hk)
  have m := List.mem_of_find?_eq_some hk
  rw [← e1, ← ek]
  exact m
/-- are all values numbers that are let -/
def numsB (kvs : List (Key × V)) : Bool := (kvs.filter fun p => badV p.2).isEmpty
theorem ps_imp {X : Cx} {st : Stmt} {t t' : TS} (h : PS X st t) (k : ∀ D σ H, t' D σ H → t D σ H) : PS X st t' := ⟨fun pins s σ H D I q => h.run pins s σ H D I (k D σ H q)⟩
def t_num : TS := fun D σ H => ∃ (x0 x1 x2 x3 x4 x5 : Option V) (A L : Addr) (B : Bool) (kvs : List (Key × V)), σ = [x0, x1, x2, x3, x4, x5, some (.ref A), some (.bl B), some (.ref L), none, none, none, none] ∧ H L = some (.lst (kvs.map (·.2))) ∧ (∀ p ∈ kvs, flatV p.2 = true) ∧ kvs.length ≤ 8 ∧
  ∀ G, Same H G → D.nx [x0, x1, x2, x3, x4, x5, some (.ref A), some (.bl (B && numsB kvs)), some (.ref L), none, none, none, none] G
def t_cmp : TS := fun D σ H => ∃ (x0 x1 x2 x3 x4 x5 x8 : Option V) (A : Addr) (kvs : List (Key × V)), σ = [x0, x1, x2, x3, x4, x5, some (.ref A), some (.bl (goodK kvs)), x8, none, none, none, none] ∧ H A = some (.dK kvs) ∧ Nice kvs ∧ (∀ p ∈ kvs, flatV p.2 = true) ∧ ∀ G, Same H G → D.nx σ G
/-- pairs that were laid -/
structure Tps (H0 H : Hp) (ps : List Addr) (prs : List (Key × V)) : Prop where
  same : Same H0 H
  pr : Paired (fun p kv => H p = some (.tup [kV kv.1, kv.2])) ps prs
theorem Tps.nil {H : Hp} : Tps H H [] [] := ⟨Same.refl H, .nil⟩
theorem Tps.step {H0 H H2 : Hp} {ps : List Addr} {prs : List (Key × V)} (g : Tps H0 H ps prs) (s : Same H H2) : Tps H0 H2 ps prs := ⟨g.same.trans s, paired_map (fun p kv h => s _ _ h) g.pr⟩
theorem Tps.put {H0 H : Hp} {ps : List Addr} {prs : List (Key × V)} {t : Addr} {k : Key} {v : V} (g : Tps H0 H ps prs) (n : H t = none) : Tps H0 (upd H t (.tup [kV k, v])) (ps ++ [t]) (prs ++ [(k, v)]) :=
  ⟨g.same.trans (Same.new n), paired_snoc (paired_map (fun p kv h => (Same.new n) _ _ h) g.pr) upd_same⟩
theorem paired_at {α β : Type} {F : α → β → Prop} : ∀ {xs : List α} {ys : List β} {i : Nat} {x : α}, Paired F xs ys → xs[i]? = some x → ∃ y, ys[i]? = some y ∧ F x y
  | _, _, i, x, .nil, h => by simp at h
  | _, _, 0, x, .cons a r, h => by
    cases h
    exact ⟨_, rfl, a⟩
  | _ :: _, _ :: _, i + 1, x, .cons a r, h => let ⟨y, hy, f⟩ := paired_at (i := i) r (by simpa using h); ⟨y, by simpa using hy, f⟩
/-- what is known of the defs that it calls -/
structure DF (P : Program) (w : World) (K : PySem.W.Frag) (mg : Str → Option Value) (base : Heap) (C fN fM7 fS fO fE : Addr) (dN dM7 dS dO dE : FuncData) : Prop where
  FN : Fun K "_law_is_named" "_law_is_named" sNamed fN dN
  bN : Binds K dN ["value"] []
  gN : mg "_law_is_named" = some (.ref fN)
  FM : Fun K "_law_made_of" "_law_made_of" sMade fM7 dM7
  GM : FnOk P w K mg base CX0 5 fM7 dM7 ["value"] spMade
  bM : Binds K dM7 ["value"] []
  gM : mg "_law_made_of" = some (.ref fM7)
  FS : Fun K "_law_sorted" "_law_sorted" sSorted fS dS
  bS : Binds K dS ["value"] []
  gS : mg "_law_sorted" = some (.ref fS)
  FO : Fun K "_law_odd_values" "_law_odd_values" sOdd fO dO
  bO : Binds K dO ["dice"] []
  gO : mg "_law_odd_values" = some (.ref fO)
  GE : FnOk P w K mg base CX0 1 fE dE ["self", "other"] (spEqO C)
  bE : Binds K dE ["self", "other"] []
  EF : EqF K C fE
def spDicts : Sp := fun vs H Q _ => ∃ (d a : Addr) (l : List (Str × Nat)) (n : Nat), vs = [.ref d, .ref a] ∧ a ≠ d ∧ H a = some (.dK (dkv l)) ∧ Ars l ∧ Dice H d n ∧ n + 30 < 1000000 ∧ ∀ H', Kp d H H' → Dice H' d (n + 30) → Q (.bl true) H'
section
variable {P : Program} {w : World} {K : PySem.W.Frag} {mg : Str → Option Value} {base : Heap} {C CI fI pA gA fR fP fM fN fM7 fS fO fE : Addr} {dI dA dR dP dM dN dM7 dS dO dE : FuncData}
theorem scDicts : FnScope ["dice", "arities", "name", "odd", "key", "number", "value", "good", "numbers", "one", "other", "near", "word"] ["dice", "arities"] (defScope sDicts) := ⟨rfl, rfl, rfl, by decide +kernel, rfl, by decide +kernel, by decide +kernel⟩
theorem ok_dicts {f : Addr} {fd : FuncData} (F : Fun K "_law_dicts_right" "_law_dicts_right" sDicts f fd) (D : Draws K mg fR fP fM dR dP dM) (T : Free mg) (O : OpsC P w K mg base C CI fI pA gA dI dA) (Z : DF P w K mg base C fN fM7 fS fO fE dN dM7 dS dO dE) : FnOk P w K mg base CX0 6 f fd ["dice", "arities"] spDicts := by
  have GP : FnOk P w K mg base CX0 2 fP dP ["dice", "items"] (spPick K) := ok_pick D T
  have GN : FnOk P w K mg base CX0 1 fN dN ["value"] spNamed := ok_named Z.FN T
  have GS : FnOk P w K mg base CX0 1 fS dS ["value"] spSorted := ok_sorted Z.FS T
  have GO : FnOk P w K mg base CX0 3 fO dO ["dice"] spOdd := ok_odd Z.FO D T
  refine F.ok scDicts (fun vs H Q E h => ?_) (fun cdv A outer s H vs Q E hr h => ?_)
  · obtain ⟨d, a, l, n, rfl, _⟩ := h
    rfl
  · obtain ⟨d, a, l, n, rfl, nad, ha, ars, di, hn, q⟩ := h
    have r2 : Room 2 _ := hr.mono (by decide)
    have r1 : Room 1 _ := hr.mono (by decide)
    have r3 : Room 3 _ := hr.mono (by decide)
    have r4 : Room 4 _ := hr.mono (by decide)
    have hu := hr.units
    have hu0 : ∀ {u : Nat}, u + 64 < cLine → u < cLine := fun h => by omega
    have hu1 : ∀ {u : Nat}, u + 64 < cLine → u + 1 < cLine := fun h => by omega
    refine ⟨_, pss_cons (ps_set (i := 2) scDicts.nd rfl (.inl rfl) (pe_call GP r2 (by rfl) D.gP D.FP.kp D.bP .nil pass0 (pa_cons (pv 0) (pa_cons (pe_callB (call_sortedD (by rfl)) (by rfl) T.sorted (by decide +kernel) (pa_cons (pv 1) pa_nil)) pa_nil))))
      (pss_cons (ps_set (i := 3) scDicts.nd rfl (.inl rfl) (pe_lst (pa_cons (pe_tup (pa_cons pe_str (pa_cons pe_int pa_nil))) (pa_cons (pe_tup (pa_cons pe_int (pa_cons pe_int pa_nil))) (pa_cons (pe_tup (pa_cons pe_str (pa_cons pe_int pa_nil))) (pa_cons (pe_tup (pa_cons pe_str (pa_cons pe_int pa_nil))) (pa_cons (pe_tup (pa_cons (pv 2) (pa_cons pe_int pa_nil))) (pa_cons (pe_tup (pa_cons (pv 2) (pa_cons (pe_un un_neg pe_int) pa_nil))) (pa_cons (pe_tup (pa_cons (pv 2) (pa_cons pe_bl pa_nil))) (pa_cons (pe_tup (pa_cons (pv 2) (pa_cons pe_str pa_nil))) (pa_cons (pe_tup (pa_cons (pv 2) (pa_cons pe_non pa_nil))) pa_nil)))))))))))
      (pss_cons (ps_for PassesOwn.never rfl (pi_list (pe_op op_cat (pv 3) (pe_lst (pa_cons (pe_tup (pa_cons pe_str (pa_cons pe_int pa_nil))) (pa_cons (pe_tup (pa_cons pe_str (pa_cons pe_int pa_nil))) (pa_cons (pe_tup (pa_cons (pv 2) (pa_cons pe_int pa_nil))) (pa_cons (pe_tup (pa_cons (pv 2) (pa_cons (pe_op op_pow pe_int pe_int) pa_nil))) pa_nil))))))) (pg_tup rfl (pgs_cons (pg_name (i := 4) scDicts.nd rfl (.inl rfl)) (pgs_cons (pg_name (i := 5) scDicts.nd rfl (.inl rfl)) pgs_nil))) (pss_cons (ps_set (i := 6) scDicts.nd rfl (.inr rfl) (pe_callTy (call_dictP rfl) (by rfl) T.dict (by decide +kernel) (pa_cons (pe_op op_cat (LiI.pe_listItems (by rfl) (pv 1) (by rfl) T.list (by decide +kernel)) (pe_lst (pa_cons (pe_tup (pa_cons (pv 4) (pa_cons (pv 5) pa_nil))) pa_nil))) pa_nil)))
      (pss_cons (ps_set (i := 7) scDicts.nd rfl (.inl rfl) (pe_imp (t' := t_good) (pe_and (pe_cmpR (op_eqE hu) (pe_lock (pe_lc (own := [("word", 12)]) (g := gName 12) (by rfl) scDicts.nd (pi_keys (pv 6)) (blkOk_by (own := [("word", 12)]) (N := ["dice", "arities", "name", "odd", "key", "number", "value", "good", "numbers", "one", "other", "near", "word"]) (sc := defScope sDicts) (by decide +kernel)) (fun _ _ _ _ _ => pg_name (i := 12) scDicts.nd rfl (Or.inl rfl)) (fun _ _ _ _ _ => pts_one (pt_not (pt_val (pe_call GN r1 (by rfl) Z.gN Z.FN.kp Z.bN .nil pass0 (pa_cons (pv 12) pa_nil))))) (fun _ _ _ _ _ => pe_int))) (pe_lst pa_nil) (nomark _)) (pe_one (pe_cmpR op_le (pe_callB call_lenD (by rfl) T.len PySem.boot_len (pa_cons (pv 6) pa_nil)) pe_int (nomark _))))
      ?g1))
      (pss_cons (ps_lock (ps_setLc (i := 8) (own := [("word", 12)]) (g := gName 12) (by rfl) scDicts.nd rfl rfl (sw_true rfl rfl rfl (by decide +kernel)) (pi_keys (pv 6)) (blkOk_by (own := [("word", 12)]) (N := ["dice", "arities", "name", "odd", "key", "number", "value", "good", "numbers", "one", "other", "near", "word"]) (sc := defScope sDicts) (by decide +kernel)) (fun _ _ _ _ _ => pg_name (i := 12) scDicts.nd rfl (Or.inl rfl)) (fun _ _ _ _ _ => pts_nil) (fun _ _ _ _ _ => pe_dget (hu1 hu) (pv 6) (pv 12) (fun _ _ => rfl))))
      (pss_cons (ps_imp (t' := t_num) (ps_if (pt_cmpR (op_neL hu) (pe_lc (own := [("one", 9)]) (g := gName 9) (by rfl) scDicts.nd (pi_list (pv 8)) (blkOk_by (own := [("one", 9)]) (N := ["dice", "arities", "name", "odd", "key", "number", "value", "good", "numbers", "one", "other", "near", "word"]) (sc := defScope sDicts) (by decide +kernel)) (fun _ _ _ _ _ => pg_name (i := 9) scDicts.nd rfl (Or.inl rfl)) (fun _ _ _ _ _ => pts_one (PW.pt (pw_or (pt_val (pe_callB (isiK7 (K := K) rfl) (by rfl) T.isi (by decide +kernel) (pa_cons (pv 9) (pa_cons (pe_bltn (v := .ty "bool") (by rfl) T.bool (by decide +kernel) rfl) pa_nil)))) (pw_or1 (pt_cmpR (op_notIn_seqK (K := K) rfl) (pv 9) (pe_lst (pa_cons pe_int (pa_cons pe_int (pa_cons pe_int pa_nil)))) (by rfl)))))) (fun _ _ _ _ _ => pe_int)) (pe_lst pa_nil) (nomark _)) (pss_one (ps_set (i := 7) scDicts.nd rfl (.inl rfl) pe_bl)) pss_nil) ?g2)
      (pss_one (ps_imp (t' := t_cmp) (ps_if (pt_cmpR (OpR.or7 op_ne (op_ne_dictB (hu0 hu))) (pe_call Z.GM hr (by rfl) Z.gM Z.FM.kp Z.bM .nil pass0 (pa_cons (pv 6) pa_nil)) (pe_ifExp (pt_val (pv 7)) (pe_call GS r1 (by rfl) Z.gS Z.FS.kp Z.bS .nil pass0 (pa_cons (pv 6) pa_nil)) pe_str) (nomark _)) (pss_one (ps_ret pe_bl)) pss_nil) ?g3)))))))
      (pss_cons (ps_par (i := 9) (j := 10) (by rfl) scDicts.nd rfl rfl (by decide) rfl rfl (pa_cons (pe_make O.M O.GI r4 (by rfl) O.g O.bI .nil passL (pa_cons (pv 1) pa_nil)) (pa_cons (pe_make O.M O.GI r4 (by rfl) O.g O.bI .nil passL (pa_cons (pe_callTy (call_dictP rfl) (by rfl) T.dict (by decide +kernel) (pa_cons (pe_revL (LiI.pe_listItems (by rfl) (pv 1) (by rfl) T.list (by decide +kernel))) pa_nil)) pa_nil)) pa_nil)) (by rfl))
      (pss_cons (ps_set (i := 11) scDicts.nd rfl (.inl rfl) (pe_callTy (call_dictP rfl) (by rfl) T.dict (by decide +kernel) (pa_cons (pe_op op_cat (LiI.pe_listItems (by rfl) (pv 1) (by rfl) T.list (by decide +kernel)) (pe_lst (pa_cons (pe_tup (pa_cons (pv 2) (pa_cons (pe_op op_mod (pe_op op_add (pe_dget (hu1 hu) (pv 1) (pv 2) (fun _ _ => rfl)) pe_int) pe_int) pa_nil))) pa_nil))) pa_nil)))
      (pss_cons (ps_if (PW.pt (pw_or (pt_cmpR (op_neOwn Z.GE Z.EF Z.bE (E := E0) pass0 r2) (pv 9) (pv 10) (nomark _)) (pw_or (pt_cmpR (op_eqOwn Z.GE Z.EF Z.bE (E := E0) pass0 r1) (pv 9) (pe_make O.M O.GI r4 (by rfl) O.g O.bI .nil passL (pa_cons (pv 11) pa_nil)) (nomark _)) (pw_or (pt_cmpR (op_eqOwn Z.GE Z.EF Z.bE (E := E0) pass0 r1) (pv 9) (pv 1) (nomark _)) (pw_or (pt_cmpR (op_eqOwn Z.GE Z.EF Z.bE (E := E0) pass0 r1) (pv 9) pe_int (nomark _)) (pw_or1 (pt_not (pt_cmpR (op_eqOwn Z.GE Z.EF Z.bE (E := E0) pass0 r1) (pv 9) (pv 10) (nomark _))))))))) (pss_one ps_never) pss_nil)
      (pss_one (ps_ret (pe_cmpR (op_eqE hu) (pe_lc (own := [("value", 6)]) (g := gName 6) (by rfl) scDicts.nd (pi_list (pe_call GO r3 (by rfl) Z.gO Z.FO.kp Z.bO .nil pass0 (pa_cons (pv 0) pa_nil))) (blkOk_by (own := [("value", 6)]) (N := ["dice", "arities", "name", "odd", "key", "number", "value", "good", "numbers", "one", "other", "near", "word"]) (sc := defScope sDicts) (by decide +kernel)) (fun _ _ _ _ _ => pg_name (i := 6) scDicts.nd rfl (Or.inl rfl)) (fun _ _ _ _ _ => pts_one (PW.pt (pw_and (pt_cmpR (OpR.or7 (op_ne_dictB (hu0 hu)) (op_neAnyK (K := K) rfl (hu0 hu))) (pv 6) (pe_disp (pps_cons pe_str pe_int pps_nil) (by rfl) (by rfl) (fun z => by cases z) (by decide)) (nomark _)) (pw_and1 (pt_cmpR op_ne (pe_call Z.GM hr (by rfl) Z.gM Z.FM.kp Z.bM .nil pass0 (pa_cons (pv 6) pa_nil)) pe_str (nomark _)))))) (fun _ _ _ _ _ => pe_int)) (pe_lst pa_nil) (nomark _))))))))), ?_⟩
    case g1 =>
      intro σ H3 Q hq
      obtain ⟨x0, x1, x2, x3, x4, x5, x7, x8, A, kvs, rfl, hA, nice, l8, q7⟩ := hq
      have z : ∀ {m : Nat}, m ≤ 64 → m ≤ sizeLine := fun h => Nat.le_trans h (by decide)
      refine ⟨A, _, hA, trivial, fun od => ⟨_, rfl, A, od, rfl, .inl ⟨kvs, upd_same, fun D nD => ?_⟩⟩⟩
      have AD : A ≠ D := ne_of_none upd_same nD
      have nGD : H3 D = none := by
        rw [upd_ne AD.symm] at nD
        exact nD
      refine lc_it walk_keys (fun i G' => G' D = some (.lst (((kvs.take i).filter fun p => !nameB (kV p.1)).map fun _ => V.int 1)) ∧ G' A = some (.frz od (.dK kvs)) ∧ ∀ b u, b ≠ A → H3 b = some u → G' b = some u) ⟨upd_same, by rw [upd_ne AD, upd_same], fun b u nb e => by rw [upd_ne (ne_of_none e nGD), upd_ne nb]; exact e⟩
        (fun i G' _ ⟨_, h, _⟩ => h) ?_ ?_
      · rintro i x G' G'' hi ⟨eD, eA, sm'⟩ ⟨rfl, k', v', hk', rfl⟩
        have kk : ∃ ty, Kd G'' (kV k') ty := by
          cases k' with
          | inl i => exact ⟨_, .int i⟩
          | inr z => exact ⟨_, .str z⟩
        obtain ⟨ty, kk⟩ := kk
        have hz : ∀ z, kV k' = .str z → z.length ≤ 1000000 := fun z e => by
          cases k' with
          | inl i => cases e
          | inr y =>
            cases e
            exact nice.key _ (List.mem_of_getElem? hk') _ rfl
        have more := filt7 (p := fun p : Key × V => !nameB (kV p.1)) hk'
        refine ⟨rfl, _, rfl, kV k', ty, rfl, kk, hz, fun G6 s6 => ⟨_, rfl, ite2 (fun c => ?_) (fun c => ?_)⟩⟩
        · have c' : (!nameB (kV k')) = true := c
          refine ⟨_, s6 _ _ eD, ?_, ?_, by rw [upd_ne AD]; exact s6 _ _ eA, fun b u nb e => by rw [upd_ne (ne_of_none e nGD)]; exact s6 _ _ (sm' b u nb e)⟩
          · have := List.length_filter_le (fun p : Key × V => !nameB (kV p.1)) (kvs.take i)
            rw [List.length_take] at this
            rw [List.length_map, sizeLine_eq]
            omega
          · rw [upd_same, more]
            show some (HO.lst (_ ++ [V.int 1])) = some (HO.lst (((kvs.take i).filter _ ++ (if (!nameB (kV k')) = true then [(k', v')] else [])).map fun _ => V.int 1))
            rw [if_pos c', List.map_append]
            rfl
        · have c' : ¬ (!nameB (kV k')) = true := c
          refine ⟨?_, s6 _ _ eA, fun b u nb e => s6 _ _ (sm' b u nb e)⟩
          rw [more]
          show G6 D = some (HO.lst (((kvs.take i).filter _ ++ (if (!nameB (kV k')) = true then [(k', v')] else [])).map fun _ => V.int 1))
          rw [if_neg c', List.append_nil]
          exact s6 _ _ eD
      · rintro G' ⟨eD, eA, sm'⟩
        rw [List.take_of_length_le (Nat.le_refl _)] at eD
        have sU : Same H3 (upd G' A (.dK kvs)) := fun b u e => by
          by_cases c : b = A
          · rw [c] at e ⊢
            rw [hA] at e
            rw [upd_same, e]
          · rw [upd_ne c]
            exact sm' b u c e
        have hA4 : (upd G' A (.dK kvs)) A = some (.dK kvs) := upd_same
        have eD4 : (upd G' A (.dK kvs)) D = some (.lst ((kvs.filter fun p => !nameB (kV p.1)).map fun _ => V.int 1)) := by rw [upd_ne AD.symm]; exact eD
        refine ⟨eA, ?_⟩
        generalize upd G' A (.dK kvs) = G4 at sU hA4 eD4 ⊢
        refine ⟨z (Nat.le_of_ble_eq_true rfl), fun e0 ne0 => ⟨D, e0, _, rfl, rfl, SqL.of ((Same.new ne0) _ _ eD4), SqL.of upd_same, _, rfl, ?_⟩⟩
        have s12 := sU.trans (Same.new ne0 (o := .lst []))
        have hA5 := (Same.new ne0 (o := .lst [])) _ _ hA4
        generalize upd G4 e0 (.lst []) = G5 at s12 hA5 ⊢
        rw [ones_empty]
        have q8 := q7 G5 s12
        unfold namesB at q8
        refine ite2 (fun c => ?_) (fun c => ?_)
        · refine ⟨_, rfl, A, kvs, rfl, hA5, _, _, rfl, rfl, ?_⟩
          rw [c] at q8
          show Q (V.bl (decide ((kvs.length : Int) ≤ 8))) G5
          rw [decide_eq_true (show (kvs.length : Int) ≤ 8 by omega)]
          exact q8
        · rw [Bool.eq_false_iff.mpr c] at q8
          exact q8
    case g2 =>
      rintro D σ H3 ⟨x0, x1, x2, x3, x4, x5, A, L, B, kvs, rfl, hL, fl, l8, nx⟩
      refine ⟨_, rfl, L, rfl, ⟨_, SqL.of hL⟩, fun D2 nD2 => ?_⟩
      refine lc_list (K := K) (a := L) (xs := kvs.map (·.2)) (fun i G' => G' D2 = some (.lst (((kvs.take i).filter fun p => badV p.2).map fun _ => V.int 1)) ∧ Same H3 G') ⟨upd_same, Same.new nD2⟩ (fun i G' _ ⟨_, s⟩ => SqL.of (s _ _ hL)) ?_ ?_
      · rintro i v G' hv ⟨eD, sm'⟩
        rw [List.getElem?_map] at hv
        obtain ⟨p, hp, rfl⟩ := Option.map_eq_some_iff.mp hv
        have fv := fl _ (List.mem_of_getElem? hp)
        have more := filt7 (p := fun p : Key × V => badV p.2) hp
        have keep : ∀ G6, Same G' G6 → badV p.2 = true → ∃ acc, G6 D2 = some (.lst acc) ∧ acc.length < sizeLine ∧ ((upd G6 D2 (.lst (acc ++ [V.int 1]))) D2 = some (.lst (((kvs.take (i + 1)).filter fun p => badV p.2).map fun _ => V.int 1)) ∧ Same H3 (upd G6 D2 (.lst (acc ++ [V.int 1])))) := fun G6 s6 c => by
          refine ⟨_, s6 _ _ eD, ?_, ?_, fun b u e => by rw [upd_ne (ne_of_none e nD2)]; exact s6 _ _ (sm' b u e)⟩
          · have := List.length_filter_le (fun p : Key × V => badV p.2) (kvs.take i)
            rw [List.length_take] at this
            rw [List.length_map, sizeLine_eq]
            omega
          · rw [upd_same, more]
            show some (HO.lst (_ ++ [V.int 1])) = some (HO.lst (((kvs.take i).filter _ ++ (if badV p.2 = true then [p] else [])).map fun _ => V.int 1))
            rw [if_pos c, List.map_append]
            rfl
        have skip : ∀ G6, Same G' G6 → ¬ badV p.2 = true → G6 D2 = some (.lst (((kvs.take (i + 1)).filter fun p => badV p.2).map fun _ => V.int 1)) ∧ Same H3 G6 := fun G6 s6 c => by
          refine ⟨?_, fun b u e => s6 _ _ (sm' b u e)⟩
          rw [more]
          show G6 D2 = some (HO.lst (((kvs.take i).filter _ ++ (if badV p.2 = true then [p] else [])).map fun _ => V.int 1))
          rw [if_neg c, List.append_nil]
          exact s6 _ _ eD
        obtain ⟨ty, kd⟩ := fl_of fv G'
        refine ⟨rfl, _, rfl, p.2, _, _, _, _, rfl, .ty "bool", kd.ty, kit_bool kd, _, rfl, ite2 (fun c => ?_) (fun c => ?_)⟩
        · have cb : badV p.2 = true := by
            unfold badV
            rw [c]
            rfl
          exact if_true_of rfl (keep G' (Same.refl _) cb)
        · have c0 : isB p.2 = false := Bool.eq_false_iff.mpr c
          refine ⟨_, rfl, by show 3 ≤ sizeLine; decide, fun t nt => ⟨t, _, rfl, .inl (SqL.of upd_same), fv, rfl, _, rfl, ite2 (fun c2 => ?_) (fun c2 => ?_)⟩⟩
          · have c3 : (!inV p.2 [V.int 0, .int 1, .int 2]) = true := c2
            exact keep _ (Same.new nt) (by unfold badV; rw [c0, c3]; rfl)
          · have c3 : ¬ (!inV p.2 [V.int 0, .int 1, .int 2]) = true := c2
            exact skip _ (Same.new nt) (by unfold badV; rw [c0, Bool.false_or]; exact c3)
      · rintro G' ⟨eD, sm'⟩
        rw [List.length_map, List.take_of_length_le (Nat.le_refl _)] at eD
        refine ⟨by show 0 ≤ sizeLine; decide, fun e0 ne0 => ⟨D2, e0, _, _, rfl, rfl, SqL.of ((Same.new ne0) _ _ eD), SqL.of upd_same, ?_⟩⟩
        have s12 : Same H3 (upd G' e0 (.lst [])) := sm'.trans (Same.new ne0)
        have nx2 := nx _ s12
        cases ef : kvs.filter fun p => badV p.2 with
        | nil =>
          have en : numsB kvs = true := by
            unfold numsB
            rw [ef]
            rfl
          rw [en, Bool.and_true] at nx2
          exact .inr ⟨rfl, fun v m => (nomatch m), _, rfl, if_false_of rfl nx2⟩
        | cons y r =>
          have en : numsB kvs = false := by
            unfold numsB
            rw [ef]
            rfl
          rw [en, Bool.and_false] at nx2
          exact .inl ⟨by simp, _, rfl, if_true_of rfl nx2⟩
    case g3 =>
      rintro D σ H3 ⟨x0, x1, x2, x3, x4, x5, x8, A, kvs, rfl, hA, nice, fl, nx⟩
      refine ⟨_, rfl, .ref A, goodK kvs, rfl, .dict hA nice, fun bf H' s' => ?_, fun a l bt ea ha ok l' q H' pl srt s' nq hq => ?_⟩
      · rw [bf]
        rw [bf] at nx
        exact ⟨_, rfl, _, rfl, if_false_of rfl (.inl ⟨rfl, _, rfl, if_false_of (by decide +kernel) (nx _ s')⟩)⟩
      · rw [bt]
        rw [bt] at nx
        cases ea
        refine ⟨_, rfl, _, rfl, if_true_of rfl ⟨_, rfl, .ref A, rfl, .inr ⟨A, l, rfl, s' _ _ ha, ok, fun l2 q2 H2 pl2 srt2 s2 nq2 hq2 => ?_⟩⟩⟩
        have ndl : (l'.map (·.1)).Nodup := (pl.map _).nodup_iff.mpr ok.nd
        have e2 : l' = l2 := rows_one (pl.trans pl2.symm) srt srt2 ndl
        subst e2
        refine .inr ⟨q, q2, _, _, rfl, rfl, s2 _ _ hq, hq2, flat_dkv, flat_dkv, _, rfl, ?_⟩
        rw [eqD_self ndl]
        exact if_false_of (by decide) (nx _ (s'.trans s2))
    have z : ∀ {m : Nat}, m ≤ 64 → m ≤ sizeLine := fun h => Nat.le_trans h (by decide)
    obtain ⟨ds, hd⟩ := di.there
    have few := ars.few
    refine ⟨_, rfl, _, rfl, a, dkv l, l.map (·.1), rfl, Rd.of ha, by unfold dkv; rw [List.map_map, List.map_map]; rfl, by rw [List.length_map]; omega, fun ks ns pk srt nns => ?_⟩
    obtain ⟨l', pl, rfl⟩ := perm_map pk
    have s1 := Same.new nns (o := .lst ((l'.map (·.1)).map V.str))
    have hns : (upd H ns (.lst ((l'.map (·.1)).map V.str))) ns = some (.lst ((l'.map (·.1)).map V.str)) := upd_same
    have dns : ns ≠ d := (ne_of_none hd nns).symm
    have di1 := di.same s1
    have k1 : Kp d H (upd H ns (.lst ((l'.map (·.1)).map V.str))) := Kp.same s1
    generalize upd H ns (.lst ((l'.map (·.1)).map V.str)) = H1 at hns di1 k1 ⊢
    have ll : l'.length = l.length := pl.length_eq
    refine ⟨d, ns, n, _, rfl, dns, .inl (SqL.of hns), fun e => ?_, by rw [List.length_map, List.length_map]; omega, di1, by omega, fun nm o1 mnm di2 => ?_⟩
    · have e2 := congrArg List.length e
      rw [List.length_map, List.length_map] at e2
      simp at e2
      rw [e2] at ll
      simp at ll
      omega
    obtain ⟨zn, mz, rfl⟩ := List.mem_map.mp mnm
    obtain ⟨an, man⟩ : ∃ an, (zn, an) ∈ l := by
      obtain ⟨p, mp, ep⟩ := List.mem_map.mp mz
      exact ⟨p.2, by rw [← ep]; exact pl.mem_iff.mp mp⟩
    have k2 : Kp d H (upd H1 d o1) := k1.trans Kp.upd
    generalize upd H1 d o1 = H2 at di2 k2 ⊢
    have ha2 := k2 _ _ nad ha
    have g0 : Tps H2 H2 [] [] := Tps.nil
    refine ⟨z (Nat.le_of_ble_eq_true rfl), fun t1 n1 => ?_⟩
    have g1 := g0.put n1 (k := .inr "A") (v := .int 0)
    refine ⟨z (Nat.le_of_ble_eq_true rfl), fun t2 n2 => ?_⟩
    have g2 := g1.put n2 (k := .inl 0) (v := .int 0)
    refine ⟨z (Nat.le_of_ble_eq_true rfl), fun t3 n3 => ?_⟩
    have g3 := g2.put n3 (k := .inr "") (v := .int 1)
    refine ⟨z (Nat.le_of_ble_eq_true rfl), fun t4 n4 => ?_⟩
    have g4 := g3.put n4 (k := .inr "abcdefghi") (v := .int 0)
    refine ⟨_, rfl, z (Nat.le_of_ble_eq_true rfl), fun t5 n5 => ?_⟩
    have g5 := g4.put n5 (k := .inr zn) (v := .int 3)
    refine ⟨_, rfl, _, rfl, z (Nat.le_of_ble_eq_true rfl), fun t6 n6 => ?_⟩
    have g6 := g5.put n6 (k := .inr zn) (v := .int (-1))
    refine ⟨_, rfl, z (Nat.le_of_ble_eq_true rfl), fun t7 n7 => ?_⟩
    have g7 := g6.put n7 (k := .inr zn) (v := .bl true)
    refine ⟨_, rfl, z (Nat.le_of_ble_eq_true rfl), fun t8 n8 => ?_⟩
    have g8 := g7.put n8 (k := .inr zn) (v := .str "1")
    refine ⟨_, rfl, z (Nat.le_of_ble_eq_true rfl), fun t9 n9 => ?_⟩
    have g9 := g8.put n9 (k := .inr zn) (v := .non)
    clear g0 g1 g2 g3 g4 g5 g6 g7 g8
    have g9 : Tps H2 (upd (upd (upd (upd (upd (upd (upd (upd (upd H2 t1 (.tup [V.str "A", .int 0])) t2 (.tup [V.int 0, .int 0])) t3 (.tup [V.str "", .int 1])) t4 (.tup [V.str "abcdefghi", .int 0])) t5 (.tup [V.str zn, .int 3])) t6 (.tup [V.str zn, .int (-1)])) t7 (.tup [V.str zn, .bl true])) t8 (.tup [V.str zn, .str "1"])) t9 (.tup [V.str zn, .non])) [t1, t2, t3, t4, t5, t6, t7, t8, t9] [((Sum.inr "A" : Key), V.int 0), ((Sum.inl 0 : Key), V.int 0), ((Sum.inr "" : Key), V.int 1), ((Sum.inr "abcdefghi" : Key), V.int 0), ((Sum.inr zn : Key), V.int 3), ((Sum.inr zn : Key), V.int (-1)), ((Sum.inr zn : Key), V.bl true), ((Sum.inr zn : Key), V.str "1"), ((Sum.inr zn : Key), V.non)] := g9
    generalize (upd (upd (upd (upd (upd (upd (upd (upd (upd H2 t1 (.tup [V.str "A", .int 0])) t2 (.tup [V.int 0, .int 0])) t3 (.tup [V.str "", .int 1])) t4 (.tup [V.str "abcdefghi", .int 0])) t5 (.tup [V.str zn, .int 3])) t6 (.tup [V.str zn, .int (-1)])) t7 (.tup [V.str zn, .bl true])) t8 (.tup [V.str zn, .str "1"])) t9 (.tup [V.str zn, .non])) = H3 at g9 ⊢
    have k3 := k2.trans (Kp.same g9.same)
    have di3 := di2.same g9.same
    have ha3 := g9.same _ _ ha2
    refine ⟨z (Nat.le_of_ble_eq_true rfl), fun q1 m1 => ?_⟩
    have hq1 : (upd H3 q1 (.lst [.ref t1, .ref t2, .ref t3, .ref t4, .ref t5, .ref t6, .ref t7, .ref t8, .ref t9])) q1 = some (.lst ([t1, t2, t3, t4, t5, t6, t7, t8, t9].map V.ref)) := upd_same
    have g9 := g9.step (Same.new m1 (o := .lst [.ref t1, .ref t2, .ref t3, .ref t4, .ref t5, .ref t6, .ref t7, .ref t8, .ref t9]))
    have s4 := Same.new m1 (o := .lst [.ref t1, .ref t2, .ref t3, .ref t4, .ref t5, .ref t6, .ref t7, .ref t8, .ref t9])
    have k4 := k3.trans (Kp.same s4)
    have di4 := di3.same s4
    have ha4 := s4 _ _ ha3
    generalize upd H3 q1 (.lst [.ref t1, .ref t2, .ref t3, .ref t4, .ref t5, .ref t6, .ref t7, .ref t8, .ref t9]) = H4 at g9 hq1 k4 di4 ha4 ⊢
    generalize ep1 : [t1, t2, t3, t4, t5, t6, t7, t8, t9] = ps1 at g9 hq1
    have lp1 : ps1.length = 9 := by rw [← ep1]; rfl
    generalize eprs : [((Sum.inr "A" : Key), V.int 0), ((Sum.inl 0 : Key), V.int 0), ((Sum.inr "" : Key), V.int 1), ((Sum.inr "abcdefghi" : Key), V.int 0), ((Sum.inr zn : Key), V.int 3), ((Sum.inr zn : Key), V.int (-1)), ((Sum.inr zn : Key), V.bl true), ((Sum.inr zn : Key), V.str "1"), ((Sum.inr zn : Key), V.non)] = prs1 at g9
    refine ⟨_, rfl, z (Nat.le_of_ble_eq_true rfl), fun u1 n1 => ?_⟩
    have f1 := g9.put n1 (k := .inr "op") (v := .int 1)
    refine ⟨z (Nat.le_of_ble_eq_true rfl), fun u2 n2 => ?_⟩
    have f2 := f1.put n2 (k := .inr "c") (v := .int 0)
    refine ⟨_, rfl, z (Nat.le_of_ble_eq_true rfl), fun u3 n3 => ?_⟩
    have f3 := f2.put n3 (k := .inr zn) (v := .int 2)
    refine ⟨_, rfl, 10, 60, rfl, rfl, c10 (k := 60) (by decide), z (Nat.le_of_ble_eq_true rfl), fun u4 n4 => ?_⟩
    have f4 := f3.put n4 (k := .inr zn) (v := .int (10 ^ (60 : Int).toNat))
    have s5 : Same H4 (upd (upd (upd (upd H4 u1 (.tup [V.str "op", .int 1])) u2 (.tup [V.str "c", .int 0])) u3 (.tup [V.str zn, .int 2])) u4 (.tup [V.str zn, .int (10 ^ (60 : Int).toNat)])) := (((Same.new n1).trans (Same.new n2)).trans (Same.new n3)).trans (Same.new n4)
    have f4 : Tps H2 (upd (upd (upd (upd H4 u1 (.tup [V.str "op", .int 1])) u2 (.tup [V.str "c", .int 0])) u3 (.tup [V.str zn, .int 2])) u4 (.tup [V.str zn, .int (10 ^ (60 : Int).toNat)])) (((ps1 ++ [u1]) ++ [u2]) ++ [u3] ++ [u4]) (prs1 ++ [((.inr "op" : Key), V.int 1)] ++ [((.inr "c" : Key), V.int 0)] ++ [((.inr zn : Key), V.int 2)] ++ [((.inr zn : Key), V.int (10 ^ (60 : Int).toNat))]) := f4
    clear f1 f2 f3 g9
    generalize upd (upd (upd (upd H4 u1 (.tup [V.str "op", .int 1])) u2 (.tup [V.str "c", .int 0])) u3 (.tup [V.str zn, .int 2])) u4 (.tup [V.str zn, .int (10 ^ (60 : Int).toNat)]) = H5 at s5 f4 ⊢
    refine ⟨z (Nat.le_of_ble_eq_true rfl), fun q2 m2 => ?_⟩
    refine ⟨_, _, _, _, rfl, rfl, (Same.new m2) _ _ (s5 _ _ hq1), upd_same, by rw [List.length_map, lp1]; show 9 + 4 ≤ sizeLine; decide, fun q3 m3 => ?_⟩
    have epp : ps1.map V.ref ++ [V.ref u1, .ref u2, .ref u3, .ref u4] = (((ps1 ++ [u1]) ++ [u2]) ++ [u3] ++ [u4]).map V.ref := by simp
    rw [epp]
    have s6 := (Same.new m2 (o := .lst [V.ref u1, .ref u2, .ref u3, .ref u4])).trans (Same.new m3 (o := .lst ((((ps1 ++ [u1]) ++ [u2]) ++ [u3] ++ [u4]).map V.ref)))
    have tp := f4.step s6
    have hq3 : (upd (upd H5 q2 (.lst [V.ref u1, .ref u2, .ref u3, .ref u4])) q3 (.lst ((((ps1 ++ [u1]) ++ [u2]) ++ [u3] ++ [u4]).map V.ref))) q3 = some (.lst ((((ps1 ++ [u1]) ++ [u2]) ++ [u3] ++ [u4]).map V.ref)) := upd_same
    have s7 := s5.trans s6
    have k7 := k4.trans (Kp.same s7)
    have di7 := di4.same s7
    have ha7 := s7 _ _ ha4
    generalize upd (upd H5 q2 (.lst [V.ref u1, .ref u2, .ref u3, .ref u4])) q3 (.lst ((((ps1 ++ [u1]) ++ [u2]) ++ [u3] ++ [u4]).map V.ref)) = H7 at tp hq3 k7 di7 ha7 ⊢
    have okp : ∀ p ∈ prs1 ++ [((.inr "op" : Key), V.int 1)] ++ [((.inr "c" : Key), V.int 0)] ++ [((.inr zn : Key), V.int 2)] ++ [((.inr zn : Key), V.int (10 ^ (60 : Int).toNat))], flatV p.2 = true ∧ ∀ y, p.1 = .inr y → y.length ≤ 1000000 := by
      have zl : zn.length ≤ 1000000 := by
        have h2 : (decide (1 ≤ zn.length) && decide (zn.length ≤ 8) && zn.cps.toList.all azC) = true := ars.ok.name _ man
        simp only [Bool.and_eq_true, decide_eq_true_eq] at h2
        omega
      have one : ∀ (k : Key) (v : V), flatV v = true → (∀ y, k = .inr y → y.length ≤ 1000000) → ∀ p ∈ [(k, v)], flatV p.2 = true ∧ ∀ y, p.1 = .inr y → y.length ≤ 1000000 := fun k v h1 h2 p m => by
        rw [List.mem_singleton.mp m]
        exact ⟨h1, h2⟩
      have nmk : ∀ y, (Sum.inr zn : Key) = .inr y → y.length ≤ 1000000 := fun y e => by
        cases e
        exact zl
      have txt : ∀ (t : Str), t.length ≤ 1000000 → ∀ y, (Sum.inr t : Key) = .inr y → y.length ≤ 1000000 := fun t h y e => by
        cases e
        exact h
      have old : ∀ p ∈ prs1, flatV p.2 = true ∧ ∀ y, p.1 = .inr y → y.length ≤ 1000000 := by
        rw [← eprs]
        intro p m
        rcases List.mem_cons.mp m with rfl | m
        · exact ⟨rfl, txt _ (by decide)⟩
        · rcases List.mem_cons.mp m with rfl | m
          · exact ⟨rfl, fun y e => (nomatch e)⟩
          · rcases List.mem_cons.mp m with rfl | m
            · exact ⟨rfl, txt _ (by decide)⟩
            · rcases List.mem_cons.mp m with rfl | m
              · exact ⟨rfl, txt _ (by decide)⟩
              · rcases List.mem_cons.mp m with rfl | m
                · exact ⟨rfl, nmk⟩
                · rcases List.mem_cons.mp m with rfl | m
                  · exact ⟨rfl, nmk⟩
                  · rcases List.mem_cons.mp m with rfl | m
                    · exact ⟨rfl, nmk⟩
                    · rcases List.mem_cons.mp m with rfl | m
                      · exact ⟨rfl, nmk⟩
                      · rw [List.mem_singleton.mp m]
                        exact ⟨rfl, nmk⟩
      intro p m
      rcases List.mem_append.mp m with m | m
      · rcases List.mem_append.mp m with m | m
        · rcases List.mem_append.mp m with m | m
          · rcases List.mem_append.mp m with m | m
            · exact old p m
            · exact one _ _ rfl (txt _ (by decide)) p m
          · exact one _ _ rfl (txt _ (by decide)) p m
        · exact one _ _ rfl nmk p m
      · exact one _ _ rfl nmk p m
    generalize prs1 ++ [((.inr "op" : Key), V.int 1)] ++ [((.inr "c" : Key), V.int 0)] ++ [((.inr zn : Key), V.int 2)] ++ [((.inr zn : Key), V.int (10 ^ (60 : Int).toNat))] = prs at tp okp
    generalize ((ps1 ++ [u1]) ++ [u2]) ++ [u3] ++ [u4] = ps at tp hq3 ⊢
    refine ⟨q3, rfl, ⟨_, SqL.of hq3⟩, ?_⟩
    have ndl := ars.nd
    refine for_list (K := K) (a := q3) (xs := ps.map V.ref) (fun i σ G => ∃ v4 v5 v6 v7 v8 : Option V, σ = [some (.ref d), some (.ref a), some (.str zn), some (.ref q1), v4, v5, v6, v7, v8, none, none, none, none] ∧ Same H7 G)
      ⟨none, none, none, none, none, rfl, Same.refl H7⟩ (fun i σ G _ ⟨_, _, _, _, _, _, sm⟩ => SqL.of (sm _ _ hq3)) ?_ ?_
    · rintro i x σ G hx ⟨v4, v5, v6, v7, v8, rfl, sm⟩
      rw [List.getElem?_map] at hx
      obtain ⟨p, hp, rfl⟩ := Option.map_eq_some_iff.mp hx
      obtain ⟨⟨k, v⟩, hkv, hpt⟩ := paired_at tp.pr hp
      obtain ⟨fv, kok⟩ := okp _ (List.mem_of_getElem? hkv)
      have hpt2 := sm _ _ hpt
      refine ⟨p, _, rfl, SqT.of hpt2, rfl, ?_⟩
      refine ⟨_, _, rfl, _, _, rfl, rfl, ?_⟩
      have ha8 := sm _ _ ha7
      refine ⟨_, rfl, a, dkv l, rfl, ha8, fun G1 p2 ts s8 np2 nts pts h2 pr => ?_⟩
      have s8 : Same G G1 := s8
      have lts : ts.length = l.length := by
        have e : (dkv l).length = l.length := List.length_map _
        rw [pr.length, e]
      refine ⟨_, rfl, _, rfl, z (Nat.le_of_ble_eq_true rfl), fun u nu => ⟨z (Nat.le_of_ble_eq_true rfl), fun q2 nq2 => ?_⟩⟩
      have su := Same.new nu (o := .tup [kV k, v])
      have hu' : (upd G1 u (.tup [kV k, v])) u = some (.tup [kV k, v]) := upd_same
      have sq := Same.new nq2 (o := .lst [.ref u])
      refine ⟨_, _, _, _, rfl, rfl, sq _ _ (su _ _ h2), upd_same, by rw [List.length_map, lts]; exact z (by show l.length + 1 ≤ 64; omega), fun r nr => ?_⟩
      have sr := Same.new nr (o := .lst (ts.map V.ref ++ [.ref u]))
      have s9 := ((s8.trans su).trans sq).trans sr
      have hr' : (upd (upd (upd G1 u (.tup [kV k, v])) q2 (.lst [.ref u])) r (.lst (ts.map V.ref ++ [.ref u]))) r = some (.lst ((ts ++ [u]).map V.ref)) := by
        rw [upd_same, List.map_append]
        rfl
      have pr9 : Paired (fun t kv => (upd (upd (upd G1 u (.tup [kV k, v])) q2 (.lst [.ref u])) r (.lst (ts.map V.ref ++ [.ref u]))) t = some (.tup [kV kv.1, kv.2])) (ts ++ [u]) (dkv l ++ [(k, v)]) :=
        paired_snoc (paired_map (fun t kv h => sr _ _ (sq _ _ (su _ _ h))) pr) (sr _ _ (sq _ _ hu'))
      generalize upd (upd (upd G1 u (.tup [kV k, v])) q2 (.lst [.ref u])) r (.lst (ts.map V.ref ++ [.ref u])) = G2 at s9 hr' pr9 ⊢
      refine ⟨r, ts ++ [u], dkv l ++ [(k, v)], rfl, SqL.of hr', paired_map (fun t kv h => SqT.of h) pr9, fun A nA => ?_⟩
      have em : mergeK [] (dkv l ++ [(k, v)]) = putK (dkv l) k v := by rw [merge_snoc, merge_all ndl]
      rw [em]
      have el : (dkv l).length = l.length := List.length_map _
      have nice : Nice (putK (dkv l) k v) := put_nice (good_of ars.ok).1 (by omega) (fl_of fv) kok
      have pl2 := put_length (dkv l) k v
      have fl : ∀ p ∈ putK (dkv l) k v, flatV p.2 = true := fun p m => by
        rcases put_mem m with m | rfl
        · exact flat_dkv p m
        · exact fv
      have l1 : 1 ≤ (putK (dkv l) k v).length := by omega
      have l8 : (putK (dkv l) k v).length ≤ 8 := by omega
      have eg := good_two l1 l8 fl
      have s10 := (sm.trans s9).trans (Same.new nA (o := .dK (putK (dkv l) k v)))
      have hA : (upd G2 A (.dK (putK (dkv l) k v))) A = some (.dK (putK (dkv l) k v)) := upd_same
      generalize upd G2 A (.dK (putK (dkv l) k v)) = G3 at s10 hA ⊢
      generalize putK (dkv l) k v = kvs at nice fl l1 l8 eg hA
      refine ⟨_, _, _, _, _, _, v7, v8, A, kvs, rfl, hA, nice, l8, fun G4 s11 => ?_⟩
      have hA4 := s11 _ _ hA
      have s12 := s10.trans s11
      clear s10 s11 hA
      refine ⟨A, _, hA4, trivial, fun od => ⟨_, rfl, A, od, rfl, .inl ⟨kvs, upd_same, fun D nD => ?_⟩⟩⟩
      have AD : A ≠ D := ne_of_none upd_same nD
      have nGD : G4 D = none := by
        rw [upd_ne AD.symm] at nD
        exact nD
      refine lc_it walk_keys (fun i G' => G' D = some (.lst ((kvs.take i).map (·.2))) ∧ G' A = some (.frz od (.dK kvs)) ∧ ∀ b u, b ≠ A → G4 b = some u → G' b = some u) ⟨upd_same, by rw [upd_ne AD, upd_same], fun b u nb e => by rw [upd_ne (ne_of_none e nGD), upd_ne nb]; exact e⟩
        (fun i G' _ ⟨_, h, _⟩ => h) ?_ ?_
      · rintro i x G' G'' hi ⟨eD, eA, sm'⟩ ⟨rfl, k', v', hk', rfl⟩
        have mp : (k', v') ∈ kvs := List.mem_of_getElem? hk'
        have dg : DGet G'' A (kV k') (some v') := val_mem nice.nd mp ▸ (.inl ⟨kvs, k', .inr ⟨od, eA⟩, rfl, rfl⟩)
        refine ⟨rfl, _, rfl, _, rfl, A, _, rfl, dg, _, eD, ?_, ?_, by rw [upd_ne AD]; exact eA, fun b u nb e => by rw [upd_ne (ne_of_none e nGD)]; exact sm' b u nb e⟩
        · rw [List.length_map, List.length_take, sizeLine_eq]
          omega
        · rw [upd_same, List.take_add_one, hk', List.map_append]
          rfl
      · rintro G' ⟨eD, eA, sm'⟩
        rw [List.take_of_length_le (Nat.le_refl _)] at eD
        have sU : Same G4 (upd G' A (.dK kvs)) := fun b u e => by
          by_cases c : b = A
          · rw [c] at e ⊢
            rw [hA4] at e
            rw [upd_same, e]
          · rw [upd_ne c]
            exact sm' b u c e
        have hA5 : (upd G' A (.dK kvs)) A = some (.dK kvs) := upd_same
        have hD5 : (upd G' A (.dK kvs)) D = some (.lst (kvs.map (·.2))) := by rw [upd_ne AD.symm]; exact eD
        refine ⟨eA, ?_⟩
        generalize upd G' A (.dK kvs) = G5 at sU hA5 hD5 ⊢
        have eg2 : goodK kvs = (namesB kvs && numsB kvs) := eg
        refine ⟨_, _, _, _, _, _, A, D, namesB kvs, kvs, rfl, hD5, fl, l8, fun G6 s6 => ?_⟩
        rw [← eg2]
        refine ⟨_, _, _, _, _, _, _, A, kvs, rfl, s6 _ _ hA5, nice, fl, fun G7 s7 => ?_⟩
        exact ⟨_, _, _, _, _, rfl, ((s12.trans sU).trans s6).trans s7⟩
    · rintro σ G ⟨v4, v5, v6, v7, v8, rfl, sm⟩
      have ha8 := sm _ _ ha7
      have k8 := k7.trans (Kp.same sm)
      have di8 := di7.same sm
      clear hq3 tp okp
      have okl := ars.ok
      refine ⟨_, rfl, fun x1 dx1 nx1 ndx1 ne1 => mk7 nx1 ndx1 ne1 ha8 rfl okl fun l1 G1 pl1 srt1 s1 op1 => ?_⟩
      have ha9 := s1 _ _ ha8
      refine ⟨_, rfl, a, dkv l, rfl, ha9, fun G2 p2 ts s2 np2 nts pts h2 pr => ?_⟩
      have s2 : Same G1 G2 := s2
      have lts : ts.length = l.length := by
        have e : (dkv l).length = l.length := List.length_map _
        rw [pr.length, e]
      refine ⟨p2, _, rfl, SqL.of h2, fun rr nrr => ?_⟩
      have srr := Same.new nrr (o := .lst (ts.map V.ref).reverse)
      have hrr : (upd G2 rr (.lst (ts.map V.ref).reverse)) rr = some (.lst (ts.reverse.map V.ref)) := by rw [upd_same, List.map_reverse]
      have pr3 := paired_map (G := fun (t : Addr) (kv : Key × V) => (upd G2 rr (.lst (ts.map V.ref).reverse)) t = some (.tup [kV kv.1, kv.2])) (fun t kv h => srr _ _ h) (paired_reverse pr)
      have s3 := s2.trans srr
      generalize upd G2 rr (.lst (ts.map V.ref).reverse) = G3 at s3 hrr pr3 ⊢
      refine ⟨rr, ts.reverse, (dkv l).reverse, rfl, SqL.of hrr, paired_map (fun t kv h => SqT.of h) pr3, fun A nA => ?_⟩
      have erev : (dkv l).reverse = dkv l.reverse := by
        unfold dkv
        rw [List.map_reverse]
      have okr : OpsOk l.reverse := ⟨by rw [List.length_reverse]; exact okl.few, by rw [List.map_reverse]; exact (List.reverse_perm _).nodup_iff.mpr okl.nd, fun p m => okl.name p (List.mem_reverse.mp m), fun p m => okl.two p (List.mem_reverse.mp m)⟩
      have em : mergeK [] (dkv l).reverse = dkv l.reverse := by rw [erev, merge_all okr.nd]
      rw [em]
      have s4 := s3.trans (Same.new nA (o := .dK (dkv l.reverse)))
      have hA : (upd G3 A (.dK (dkv l.reverse))) A = some (.dK (dkv l.reverse)) := upd_same
      generalize upd G3 A (.dK (dkv l.reverse)) = G4 at s4 hA ⊢
      refine fun x2 dx2 nx2 ndx2 ne2 => mk7 nx2 ndx2 ne2 hA rfl okr fun l2 G5 pl2 srt2 s5 op2 => ?_
      have e12 : l1 = l2 := rows_one (pl1.trans ((List.reverse_perm l).symm.trans pl2.symm)) srt1 srt2 ((pl1.map _).nodup_iff.mpr okl.nd)
      subst e12
      have op1 := (op1.same s4).same s5
      have s15 := (s1.trans s4).trans s5
      have ha10 := s15 _ _ ha8
      have k10 := k8.trans (Kp.same s15)
      have di10 := di8.same s15
      have nd1 : (l1.map (·.1)).Nodup := (pl1.map _).nodup_iff.mpr okl.nd
      clear s1 s2 srr s3 s4 s5 hrr pr3 pr h2 nts np2 ha9 k8 di8 ha8 hA
      refine ⟨_, _, rfl, ?_⟩
      refine ⟨_, rfl, a, dkv l, rfl, ha10, fun J1 p3 ts3 t1 np3 nts3 pts3 h3 pr => ?_⟩
      have t1 : Same G5 J1 := t1
      have lts3 : ts3.length = l.length := by
        have e : (dkv l).length = l.length := List.length_map _
        rw [pr.length, e]
      have vz := val_some okl.nd man
      have an2 : an ≤ 2 := ars.two _ man
      refine ⟨_, rfl, _, rfl, _, rfl, a, _, rfl, vz ▸ DGet.k (k := .inr zn) (t1 _ _ ha10), _, _, rfl, rfl, _, _, rfl, rfl, (show (0 : Int) < 3 by decide), z (Nat.le_of_ble_eq_true rfl), fun u nu => ⟨z (Nat.le_of_ble_eq_true rfl), fun q2 nq2 => ?_⟩⟩
      have su := Same.new nu (o := .tup [.str zn, .int (((an : Int) + 1) % 3)])
      have hu' : (upd J1 u (.tup [.str zn, .int (((an : Int) + 1) % 3)])) u = some (.tup [.str zn, .int (((an : Int) + 1) % 3)]) := upd_same
      have sq := Same.new nq2 (o := .lst [.ref u])
      refine ⟨_, _, _, _, rfl, rfl, sq _ _ (su _ _ h3), upd_same, by rw [List.length_map, lts3]; exact z (by show l.length + 1 ≤ 64; omega), fun r nr => ?_⟩
      have sr := Same.new nr (o := .lst (ts3.map V.ref ++ [.ref u]))
      have t2 := ((t1.trans su).trans sq).trans sr
      have hr' : (upd (upd (upd J1 u (.tup [.str zn, .int (((an : Int) + 1) % 3)])) q2 (.lst [.ref u])) r (.lst (ts3.map V.ref ++ [.ref u]))) r = some (.lst ((ts3 ++ [u]).map V.ref)) := by
        rw [upd_same, List.map_append]
        rfl
      have pr9 : Paired (fun (t : Addr) (kv : Key × V) => (upd (upd (upd J1 u (.tup [.str zn, .int (((an : Int) + 1) % 3)])) q2 (.lst [.ref u])) r (.lst (ts3.map V.ref ++ [.ref u]))) t = some (.tup [kV kv.1, kv.2])) (ts3 ++ [u]) (dkv l ++ [((.inr zn : Key), V.int (((an : Int) + 1) % 3))]) :=
        paired_snoc (paired_map (fun t kv h => sr _ _ (sq _ _ (su _ _ h))) pr) (sr _ _ (sq _ _ hu'))
      generalize upd (upd (upd J1 u (.tup [.str zn, .int (((an : Int) + 1) % 3)])) q2 (.lst [.ref u])) r (.lst (ts3.map V.ref ++ [.ref u])) = J2 at t2 hr' pr9 ⊢
      refine ⟨r, ts3 ++ [u], dkv l ++ [((.inr zn : Key), V.int (((an : Int) + 1) % 3))], rfl, SqL.of hr', paired_map (fun t kv h => SqT.of h) pr9, fun N nN => ?_⟩
      have em3 : mergeK [] (dkv l ++ [((.inr zn : Key), V.int (((an : Int) + 1) % 3))]) = putK (dkv l) (.inr zn) (.int (((an : Int) + 1) % 3)) := by rw [merge_snoc, merge_all okl.nd]
      rw [em3]
      have el : (dkv l).length = l.length := List.length_map _
      have azn : azB zn = true := okl.name _ man
      have zl : zn.length ≤ 1000000 := by
        have h2 : (decide (1 ≤ zn.length) && decide (zn.length ≤ 8) && zn.cps.toList.all azC) = true := azn
        simp only [Bool.and_eq_true, decide_eq_true_eq] at h2
        omega
      have nice : Nice (putK (dkv l) (.inr zn) (.int (((an : Int) + 1) % 3))) := put_nice (good_of okl).1 (by omega) (Fl.int _) (fun y e => by cases e; exact zl)
      have pl3 := put_length (dkv l) (.inr zn) (.int (((an : Int) + 1) % 3))
      have pv3 := put_val nice
      have gk : goodK (putK (dkv l) (.inr zn) (.int (((an : Int) + 1) % 3))) = true := by
        have g0 := (good_of okl).2
        unfold goodK at g0 ⊢
        rw [Bool.and_eq_true, Bool.and_eq_true] at g0
        rw [decide_eq_true (by omega), decide_eq_true (by omega), Bool.true_and, Bool.true_and, List.all_eq_true]
        intro p m
        rcases put_mem m with m | rfl
        · exact List.all_eq_true.mp g0.2.2 p m
        · unfold goodP
          have h3 : isIntO (.int (((an : Int) + 1) % 3)) = true := by
            rw [isIntO_eq]
            show decide ((if ((an : Int) + 1) % 3 < 0 then -(((an : Int) + 1) % 3) else ((an : Int) + 1) % 3) < 10 ^ (60 : Int).toNat) = true
            have e : ((10 : Int) ^ (60 : Int).toNat) = ((10 ^ 60 : Nat) : Int) := by decide +kernel
            rw [if_neg (by omega), e, decide_eq_true (by omega)]
          have h4 : in02 (.int (((an : Int) + 1) % 3)) = true := by
            show (decide (0 ≤ ((an : Int) + 1) % 3) && decide (((an : Int) + 1) % 3 ≤ 2)) = true
            rw [decide_eq_true (by omega), decide_eq_true (by omega)]
            rfl
          have h1 : nameB (kV (.inr zn : Key)) = true := azn
          rw [h1, h3, h4]
          rfl
      obtain ⟨l3, el3, ok3⟩ := good_ok nice gk
      have hN : (upd J2 N (.dK (putK (dkv l) (.inr zn) (.int (((an : Int) + 1) % 3))))) N = some (.dK (putK (dkv l) (.inr zn) (.int (((an : Int) + 1) % 3)))) := upd_same
      have t3 := t2.trans (Same.new nN (o := .dK (putK (dkv l) (.inr zn) (.int (((an : Int) + 1) % 3)))))
      generalize upd J2 N (.dK (putK (dkv l) (.inr zn) (.int (((an : Int) + 1) % 3)))) = J3 at t3 hN ⊢
      have op1 := op1.same t3
      have op2 := op2.same t3
      have ha11 := t3 _ _ ha10
      have k11 := k10.trans (Kp.same t3)
      have di11 := di10.same t3
      obtain ⟨e1, f1, g1, h1, ho1, _⟩ := op1.ex
      obtain ⟨e2, f2, g2, h2, ho2, _⟩ := op2.ex
      refine ⟨_, rfl, _, rfl, x1, e1, _, rfl, ho1, .own ho2, ⟨x1, .ref x2, l1, rfl, op1, .inl ⟨x2, l1, rfl, op2, ?_⟩⟩⟩
      rw [eqD_self nd1]
      refine ⟨_, rfl, _, rfl, if_false_of (by decide) ?_⟩
      refine ⟨_, rfl, _, rfl, fun x3 dx3 nx3 ndx3 ne3 => mk7 nx3 ndx3 ne3 hN el3 ok3 fun l4 G7 pl4 srt4 s7 op4 => ?_⟩
      have op1 := op1.same s7
      have op2 := op2.same s7
      have ho1 := s7 _ _ ho1
      have ho2 := s7 _ _ ho2
      have ha12 := s7 _ _ ha11
      have k12 := k11.trans (Kp.same s7)
      have di12 := di11.same s7
      obtain ⟨e4, f4, g4, h4, ho4, _⟩ := op4.ex
      have v4 : valV (dkv l4) (.inr zn : Key) = some (.int (((an : Int) + 1) % 3)) := by
        have m3 := val_back pv3
        rw [el3] at m3
        obtain ⟨p4, mp4, ep4⟩ := List.mem_map.mp m3
        have e41 : p4.1 = zn := Sum.inr.inj (congrArg Prod.fst ep4)
        have e42 : (p4.2 : Int) = ((an : Int) + 1) % 3 := V.int.inj (congrArg Prod.snd ep4)
        have v5 := val_some ((pl4.map _).nodup_iff.mpr ok3.nd) (show (p4.1, p4.2) ∈ l4 from pl4.mem_iff.mpr mp4)
        rw [e41, e42] at v5
        exact v5
      have ne4 := eqD_not (k := l1) (a := an) v4 (by omega) (pl1.mem_iff.mpr man)
      refine ⟨x1, e1, _, rfl, ho1, .own ho4, ⟨x1, .ref x3, l1, rfl, op1, .inl ⟨x3, l4, rfl, op4, ?_⟩⟩⟩
      rw [ne4]
      refine ⟨_, rfl, _, rfl, if_false_of (by decide) ?_⟩
      refine ⟨_, rfl, _, rfl, x1, e1, _, rfl, ho1, .dict ha12, ⟨x1, .ref a, l1, rfl, op1, .inr ⟨.inl ⟨a, _, rfl, ha12⟩, _, rfl, _, rfl, if_false_of (by decide) ?_⟩⟩⟩
      refine ⟨_, rfl, x1, e1, _, rfl, ho1, .int 0, ⟨x1, .int 0, l1, rfl, op1, .inr ⟨.inr ⟨0, rfl⟩, _, rfl, _, rfl, if_false_of (by decide) ?_⟩⟩⟩
      refine ⟨_, rfl, _, rfl, x1, e1, _, rfl, ho1, .own ho2, ⟨x1, .ref x2, l1, rfl, op1, .inl ⟨x2, l1, rfl, op2, ?_⟩⟩⟩
      rw [eqD_self nd1]
      refine ⟨_, rfl, _, rfl, if_false_of (by decide) ?_⟩
      refine ⟨_, rfl, d, n + 1, rfl, di12, by omega, fun oq ys H8 noq fresh k13 hoq loq voq di13 => ?_⟩
      refine ⟨oq, rfl, ⟨_, SqL.of hoq⟩, fun D nD => ?_⟩
      refine lc_list (K := K) (a := oq) (xs := ys) (fun i G' => G' D = some (.lst []) ∧ Same H8 G') ⟨upd_same, Same.new nD⟩ (fun i G' _ ⟨_, s⟩ => SqL.of (s _ _ hoq)) ?_ ?_
      · rintro i y G' hy ⟨eD, sm'⟩
        have ov := (voq y (List.mem_of_getElem? hy)).same (Same.hm sm')
        refine ⟨rfl, _, rfl, fun t6 n6 => ⟨upd_same, [((Sum.inr "c" : Key), V.int 0)], rfl, by decide, ?_⟩⟩
        rw [upd_upd]
        have s6 : Same G' (upd G' t6 (.dK (mergeK [] [((Sum.inr "c" : Key), V.int 0)]))) := Same.new n6
        have h6 : (upd G' t6 (.dK (mergeK [] [((Sum.inr "c" : Key), V.int 0)]))) t6 = some (.dK [((Sum.inr "c" : Key), V.int 0)]) := upd_same
        generalize upd G' t6 (.dK (mergeK [] [((Sum.inr "c" : Key), V.int 0)])) = G6 at s6 h6 ⊢
        have ov6 := ov.same (Same.hm s6)
        have skip : ∀ G8, Same G6 G8 → G8 D = some (.lst []) ∧ Same H8 G8 := fun G8 s8 => ⟨s8 _ _ (s6 _ _ eD), fun b u e => s8 _ _ (s6 _ _ (sm' b u e))⟩
        have fl1 : ∀ p ∈ [((Sum.inr "c" : Key), V.int 0)], flatV p.2 = true := fun p m => by
          rw [List.mem_singleton.mp m]
          rfl
        obtain ⟨ty, kd⟩ := ov6.kd
        have kd2 := kd.same Hm.sub
        by_cases isD : ty = "dict"
        · obtain ⟨aa, kvs, rfl, hkv⟩ : ∃ aa kvs, y = .ref aa ∧ Hm d G6 aa = some (.dK kvs) := by
            cases kd with
            | dK e => exact ⟨_, _, rfl, e⟩
            | _ => exact absurd isD (by decide)
          rcases ov6.dict aa kvs rfl hkv with rfl | rfl
          · have hkv2 := Hm.sub _ _ hkv
            refine .inl ⟨aa, t6, [], _, rfl, rfl, hkv2, h6, fun p m => (nomatch m), fl1, _, rfl, if_true_of (by decide +kernel) ?_⟩
            refine ⟨_, rfl, .ref aa, goodK [], rfl, .dict hkv2 ⟨.nil, by decide, fun p m => (nomatch m), fun p m => (nomatch m)⟩, fun bf H' s' => ⟨rfl, _, rfl, if_false_of (by decide +kernel) (skip _ s')⟩, fun a2 l2 bt => ?_⟩
            have gf : goodK [] = false := by
              unfold goodK
              rfl
            rw [gf] at bt
            cases bt
          · have hkv2 := Hm.sub _ _ hkv
            exact .inl ⟨aa, t6, _, _, rfl, rfl, hkv2, h6, fl1, fl1, _, rfl, if_false_of (by decide +kernel) (skip _ (Same.refl _))⟩
        · refine .inr ⟨t6, _, ty, rfl, h6, kd2, isD, _, rfl, if_true_of rfl ?_⟩
          exact ⟨_, rfl, y, false, rfl, .not kd2 isD, fun bf H' s' => ⟨rfl, _, rfl, if_false_of (by decide +kernel) (skip _ s')⟩, fun a2 l2 bt => by cases bt⟩
      · rintro G' ⟨eD, sm'⟩
        refine ⟨by show 0 ≤ sizeLine; decide, fun e0 ne0 => ⟨D, e0, [], rfl, rfl, SqL.of ((Same.new ne0) _ _ eD), SqL.of upd_same, ?_⟩⟩
        have sF := sm'.trans (Same.new ne0 (o := .lst []))
        exact q _ ((k12.trans k13).trans (Kp.same sF)) ((di13.same sF).more (by omega) (by omega))
end
end Pr
namespace Pr
open PySem PySem.Spec PyProof.Rows L2 Gd
/-! ### iter(a tuple), and Operators.__iter__ -/
/-- the iterator at it over the tuple at t, at its i-th item -/
def TitO (t it : Addr) (i : Nat) : HO := .ext fun h => h.IsTupleIter it t i
theorem titO_ok {P : Program} {w : World} {H : Hp} {h : Heap} {t it : Addr} {i : Nat} (e : h.IsTupleIter it t i) : ObjOk P w H h it (TitO t it i) :=
  ⟨e, let ⟨o, ho, _⟩ := e; ⟨o, ho⟩, fun h1 h2 q k => let ⟨o, ho, r⟩ := q; ⟨o, k _ ho, r⟩⟩
theorem titO_get {X : Cx} {pins : List (Addr × Obj)} {σ : L2.St} {H : Hp} {s : Shared} {t it : Addr} {i : Nat} (I : Inv X pins σ H s) (e : H it = some (TitO t it i)) : s.heap.IsTupleIter it t i := (I.hok it _ e).1
theorem iter_tuple {prog : Program} {w : World} {A : Around} {E : Value → Shared → Prop} {s : Shared} {l : Addr} {items : Array Value} {Q : Value → Shared → Prop} (hl : s.heap.IsTuple l items)
    (h : Q (.ref s.heap.objs.size) { s with heap := s.heap.push { cls := .type "tuple_iterator", data := .fields #[.ref l, .int 0 0] } }) : wpAny (model prog w) A (call (.builtin "iter") [.ref l]) Q E s := by
  refine Calls.call_function_entry (by decide +kernel) (by decide +kernel) PySem.W.kdk_entry_iter (PySem.W.kdk_args_iter _) ?_
  unfold Builtin.«iter»
  refine wpAny_bind (m := someArgs "iter" 1 2 _) (wpAny_of_eq (a := [Value.ref l]) (by first | rfl | kernel_rfl!) ?_)
  show wpAny _ _ (pyIter (.ref l) >>= _) _ _ _
  refine wpAny_bind (wpAny_pyIter_tuple hl ?_)
  exact wpAny_pure ⟨_, rfl, h⟩
def rIterT (K : PySem.W.Frag) : List V → Hp → VK → Prop := fun xs H Q => ∃ (l : Addr) (zs : List V), xs = [.ref l] ∧ SqT K H l zs ∧ ∀ it, H it = none → Q (.ref it) (upd H it (TitO l it 0))
theorem call_iterT {X : Cx} : CallR X (.builtin "iter") (rIterT X.K) := by
  intro pins s σ H xs us Q I r h
  obtain ⟨l, zs, rfl, hq, q⟩ := h
  obtain ⟨u, rfl, ru⟩ := r.one
  cases ru
  obtain ⟨its, rv, p, hz⟩ := I.tuple hq
  refine iter_tuple (show s.heap.IsTuple l its.toArray from p) ?_
  have kp : ∀ b o, s.heap.get? b = some o → (s.heap.push ({ cls := .type "tuple_iterator", data := .fields #[.ref l, .int 0 0] } : Obj)).get? b = some o := fun b o e => Heap.get?_push_of_some _ e
  have hn : H s.heap.objs.size = none := I.hok.fresh (Nat.le_refl _)
  have J := I.laid (t' := s.toks) kp (Nat.le_refl _) (titO_ok (P := X.prog) (w := X.w) (H := upd H s.heap.objs.size (TitO l s.heap.objs.size 0)) (h := s.heap.push ({ cls := .type "tuple_iterator", data := .fields #[.ref l, .int 0 0] } : Obj)) (t := l) (it := s.heap.objs.size) (i := 0) ⟨_, Heap.get?_push_size _ rfl, rfl, rfl⟩)
  exact ⟨.ref s.heap.objs.size, _, J, rfl, q _ hn⟩
def spIt (C : Addr) : Sp := fun vs H Q _ => ∃ (o : Addr) (l : List (Str × Nat)), vs = [.ref o] ∧ OpsAt H C o l ∧ ∀ tl it, H tl = some (.tup (l.map lnV)) → H it = none → Q (.ref it) (upd H it (TitO tl it 0))
section
variable {P : Program} {w : World} {K : PySem.W.Frag} {mg : Str → Option Value} {base : Heap} {C : Addr}
theorem scIt : FnScope ["self"] ["self"] (defScope mIter) := ⟨rfl, rfl, rfl, by decide +kernel, rfl, by decide +kernel, by decide +kernel⟩
theorem ok_it {f : Addr} {fd : FuncData} (F : Fun K "__iter__" "Operators.__iter__" mIter f fd) (cf : OpF K C) (T : Free mg) : FnOk P w K mg base CX0 1 f fd ["self"] (spIt C) := by
  refine F.ok scIt (fun vs H Q E h => ?_) (fun cdv A outer s H vs Q E hr h => ?_)
  · obtain ⟨o, l, rfl, _⟩ := h
    rfl
  · obtain ⟨o, l, rfl, op, q⟩ := h
    refine ⟨_, pss_one (ps_ret (pe_callB call_iterT (by rfl) T.iter (by decide +kernel) (pa_cons (pe_fld (pv 0) rfl) pa_nil))), ?_⟩
    obtain ⟨dx, tn, ta, tl, ho, hn, ha, hl⟩ := op.ex
    exact ⟨_, rfl, o, C, dx, _, _, rfl, ho, cf.cls, cf.n3, rfl, tl.1, _, rfl, SqT.of hl, fun it nit => q tl.1 it hl nit⟩
end
end Pr
namespace PySem
namespace EnT7
open PySem.W PySem.Calls PyProof.Rows AutoSeq1
section
variable {prog : Program} {w : World} {A : Around} {E : Value → Shared → Prop} {s : Shared} {it t : Addr} {i : Nat} {ys : Array Value}
/-- the end of a walk over a tuple: the iterator's object stays -/
theorem next_end7 {Q : Option Value → Shared → Prop} (hh : A.handled = none) (hit : s.heap.IsTupleIter it t i) (ht : s.heap.IsTuple t ys) (hx : ys[i]? = none)
    (hQ : ∀ h', Heap.ExtBut it s.heap h' → (∃ o, h'.get? it = some o) → Q none { s with heap := h' }) : wpAny (model prog w) A (pyNext (.ref it)) Q E s := by
  obtain ⟨o, ho, hc, hd⟩ := id hit
  obtain ⟨ol, hol, _, nl, hdl⟩ := ht
  unfold pyNext
  refine wpAny_bind (wpAny_attempt (wpAny_callSpecial?_slot (name := Str.ofString "__next__") hit.typeIs F.slot_tuple_iterator_next
    (wpAny_call_entry F.slot_tuple_iterator_next hit.typeIs F.entry_tuple_iterator_next ?_ (F.args_tuple_iterator_next_1 _))))
  refine (show wpAny _ _ (field (.ref it) 0 >>= _) _ _ s from wpAny_bind (wpAny_field ho hd (x := .ref t) rfl ?_))
  refine (show wpAny _ _ (if (Value.ref t == Value.none) = true then _ else _) _ _ s from ?_); rw [if_neg (show ¬ ((Value.ref t == Value.none) = true) from Bool.false_ne_true)]
  refine (show wpAny _ _ (field (.ref it) 1 >>= _) _ _ s from wpAny_bind (wpAny_field ho hd (x := .int i 0) rfl ?_))
  refine (show wpAny _ _ (seqItems? (.ref t) >>= _) _ _ s from wpAny_bind (wpAny_seqItems hol hdl ?_)); simp only [Int.toNat_natCast, hx]
  refine wpAny_bind (wpAny_rule (wpAny_bind (wpAny_setField ho hd (by simp) (show wpAny _ _ (newExc (.type "StopIteration") [] >>= _) _ _ _ from wpAny_bind ?_)))); simp only [newExc, newTuple]
  refine wpAny_bind (wpAny_newObj_type (wpAny_bind (m := firstArgMember _ _) (wpAny_of_eq (a := Value.none) (by first | rfl | (simp only [firstArgMember]; rfl)) (wpAny_newObj_type ?_ (by size_fits)))) (by size_fits)); simp only [raiseNew]
  refine wpAny_bind (wpAny_handled ?_); first | rw [show A.in1.handled = none from hh] | rw [hh]
  refine wpAny_bind (wpAny_pure (wpAny_throw ?_))
  refine wpAny_bind (wpAny_isInstance (T := "StopIteration") (b := true) ⟨_, Heap.get?_push_size _ rfl, rfl⟩ isSubtype_stop ?_)
  refine wpAny_pure (hQ _ (((Heap.SameBut.update ..).extBut.push _).push _) ?_)
  exact ⟨_, Heap.get?_push_of_some _ (Heap.get?_push_of_some _ (Heap.get?_update_self _ ho (Obj.isFreed_of_fields (Obj.data_mapFields hd _))))⟩
end
end EnT7
end PySem
namespace Pr
open PySem PySem.Spec PyProof.Rows L2 Gd
/-! ### list(o), where o's __iter__ tells the iterator of a tuple -/
section
variable {X : Cx} {pins : List (Addr × Obj)} {σ : L2.St} {A1 : Around}
theorem tup_loop {Rs : Result → Shared → Prop} {it tl q : Addr} {xs : List V} (hh : A1.handled = none) (hs : xs.length ≤ 1000) (hne : q ≠ it) (ht : tl ≠ it) (hqt : q ≠ tl) :
    ∀ (m i : Nat) (H : Hp) (s : Shared), i + m = xs.length → Inv X pins σ H s → H it = some (TitO tl it i) → H tl = some (.tup xs) → H q = some (.lst (xs.take i)) →
      (∀ H2 s2, Inv X pins σ H2 s2 → (∀ b, b ≠ q → b ≠ it → H2 b = H b) → H2 q = some (.lst xs) → Rs (.ok (.ret .none)) s2) → codeAny (model X.prog X.w) A1 (.builtin "list.extend.loop" ⟨[.ref q, .ref it, .none], []⟩) Rs s := by
  intro m
  induction m with
  | zero =>
    intro i H s hi I hit htl hq fin
    have ei : i = xs.length := by omega
    subst ei
    rw [List.take_of_length_le (Nat.le_refl _)] at hq
    refine codeAny_builtin PySem.F.entry_extend_loop ?_
    rw [Around.under_plainId PySem.F.plain_extend_loop _]
    show wpAny _ A1.in1 (pyNext (.ref it) >>= _) _ _ s
    obtain ⟨its, rv, p, hz⟩ := I.tuple (SqT.of htl)
    have hl := rv.length
    have mu : Mut (H it) := by rw [hit]; exact True.intro
    refine wpAny_bind (PySem.EnT7.next_end7 (A := A1.in1) hh (titO_get I hit) (show s.heap.IsTuple tl its.toArray from p) (by simp; omega) fun h' eb ex => ?_)
    refine wpAny_pure ?_
    obtain ⟨oi, hoi⟩ := ex
    have J : Inv X pins σ (upd H it (.ext fun h => h.get? it = some oi)) { s with heap := h' } := I.write (x := it) (e := it) (t' := s.toks) mu (.inl rfl) (fun b o nb z => eb b o nb z) ⟨_, hoi⟩ ⟨hoi, ⟨_, hoi⟩, fun h1 h2 q k => k _ q⟩
    exact fin _ _ J (fun b nq ni => upd_ne ni) (by rw [upd_ne hne]; exact hq)
  | succ m ih =>
    intro i H s hi I hit htl hq fin
    refine codeAny_builtin PySem.F.entry_extend_loop ?_
    rw [Around.under_plainId PySem.F.plain_extend_loop _]
    show wpAny _ A1.in1 (pyNext (.ref it) >>= _) _ _ s
    obtain ⟨its, rv, p, hz⟩ := I.tuple (SqT.of htl)
    have il : i < xs.length := by omega
    obtain ⟨u, hu, ru⟩ := rv.get (List.getElem?_eq_getElem il)
    have mu : Mut (H it) := by rw [hit]; exact True.intro
    refine wpAny_bind (wpAny_pyNext_tuple_item (titO_get I hit) (show s.heap.IsTuple tl its.toArray from p) (x := u) (by rw [List.getElem?_toArray]; exact hu) fun h' hit' sb => ?_)
    obtain ⟨oi, hoi, _⟩ := id hit'
    have J : Inv X pins σ (upd H it (TitO tl it (i + 1))) { s with heap := h' } := I.write (x := it) (e := it) (t' := s.toks) mu (.inl rfl) (fun b o nb z => (sb.2 b nb).trans z) ⟨_, hoi⟩ (titO_ok hit')
    have hq2 : (upd H it (TitO tl it (i + 1))) q = some (.lst (xs.take i)) := by rw [upd_ne hne]; exact hq
    show wpAny _ A1.in1 (updateSeq q (·.push u) >>= _) _ _ _
    obtain ⟨zz, its2, k, r2, hl2, e2⟩ := J.lstM hq2
    have li : its2.length = i := by
      have := r2.length
      rw [List.length_take] at this
      omega
    refine wpAny_bind (wpAny_updateSeq e2 rfl (wpAny_pure ⟨plainId_quiet PySem.F.plain_extend_loop _, ?_⟩) (by rw [List.size_toArray, li, sizeLine_eq]; omega) (by show (its2.toArray.push u).size ≤ sizeLine + 1; rw [Array.size_push, List.size_toArray, li, sizeLine_eq]; omega))
    have e3 : xs.take (i + 1) = xs.take i ++ [xs[i]] := by rw [List.take_add_one, List.getElem?_eq_getElem il]; rfl
    have J2 := J.lset (f := (·.push u)) (its' := its2 ++ [u]) (ys := xs.take (i + 1)) (t' := s.toks) hq2 e2 (by simp) (by rw [e3]; exact r2.append (.cons ru .nil)) (by rw [List.length_take, sizeLine_eq]; omega)
    refine ih (i + 1) _ _ (by omega) J2 ?_ ?_ upd_same fun H2 s2 I2 kb hq3 => fin H2 s2 I2 (fun b nq ni => ?_) hq3
    · rw [upd_ne hne.symm, upd_same]
    · rw [upd_ne hqt.symm, upd_ne ht]
      exact htl
    · rw [kb b nq ni, upd_ne nq, upd_ne ni]
end
end Pr
/-! ### len(o), str(o), v in o by the class's own defs -/
namespace L2
open PySem PySem.Spec PyProof.Rows PySem.Builtin PySem.Builtin.Str
section
variable {X : Cx} {k : Nat} {C f : Addr} {fd : FuncData} {ps : List Str} {sp : Sp}
/-- the class has the name as a def at f -/
structure OwnM (K : PySem.W.Frag) (C : Addr) (name : Str) (f : Addr) : Prop where
  at_ : PySem.W.findIn K (.ref C) name = some (some (.ref f))
  fn : PySem.W.isFn K (.ref f) = true
/-- its call, somewhere below -/
theorem own_run (F : FnOk X.prog X.w X.K X.mg X.base CX0 k f fd ps sp) (hb : Binds X.K fd ps []) {A : Around} (hr : Room k A) {pins : List (Addr × Obj)} {σ : L2.St} {H : Hp} {s : Shared} (I : Inv X pins σ H s) (e : Env0 X.prog X.w X.K X.mg X.base A X.stack s H)
    {vs : List V} {us : List Value} (rv : Vals vs us) {Q : VK} (h : sp vs H Q E0) {R : Value → Shared → Prop} {E : Value → Shared → Prop} (hR : ∀ u s', EP X pins σ Q u s' → R u s') : wpAny (model X.prog X.w) A (call (.ref f) us) R E s := by
  have hl := F.len _ _ _ _ h
  refine wpAny_call (codeAny_mono (F.run A X.stack s H ⟨us, []⟩ us vs Q E0 hr e (by
    have := hb s us I.kIn (by rw [List.append_nil, ← rv.length]; exact hl)
    rw [List.append_nil] at this
    exact this) rv h) fun r s' hq => ?_)
  cases r with
  | error z => exact (show False from hq).elim
  | ok fl =>
    cases fl with
    | ret u => exact hR u s' (I.after hq)
    | next => exact False.elim hq
    | brk => exact False.elim hq
    | cont => exact False.elim hq
def rLenO (C : Addr) (sp : Sp) : List V → Hp → VK → Prop := fun xs H Q => ∃ a dx fs, xs = [.ref a] ∧ H a = some (.ins C dx fs) ∧ sp [.ref a] H (fun v H' => ∃ n : Int, v = .int n ∧ 0 ≤ n ∧ n < 2 ^ 63 ∧ Q (.int n) H') E0
theorem call_lenO (F : FnOk X.prog X.w X.K X.mg X.base CX0 k f fd ps sp) (hb : Binds X.K fd ps []) (hr : Room (k + 1) X.A) (O : OwnM X.K C "__len__" f) : CallR X (.builtin "len") (rLenO C sp) := by
  intro pins s σ H vs us Q I r h
  obtain ⟨a, dx, fs, rfl, ha, h⟩ := h
  obtain ⟨u, rfl, ru⟩ := vals1 r
  cases ru
  obtain ⟨mA, J, _⟩ := ins_get I.hok ha
  obtain ⟨od, J, _⟩ := J.look
  obtain ⟨m, hF⟩ := I.fr
  refine PySem.W.len_K hF I.ok.mod.kin J O.at_ O.fn (own_run F hb hr.in1 I I.env0.in1 (vs := [.ref a]) (us := [.ref a]) (.cons rfl .nil) h fun u s' q => ?_)
  obtain ⟨v, H', I', rv, n, rfl, n0, n1, q⟩ := q
  obtain ⟨t, rfl⟩ := rv
  exact ⟨⟨n0, n1⟩, .int n, H', I'.tok _, ⟨_, rfl⟩, q⟩
def rInO (C : Addr) (sp : Sp) (neg : Bool) : R2 := fun x y H Q => ∃ a dx fs, y = .ref a ∧ H a = some (.ins C dx fs) ∧ sp [.ref a, x] H (fun v H' => ∃ b : Bool, v = .bl b ∧ Q (.bl (if neg then !b else b)) H') E0
theorem op_inO (F : FnOk X.prog X.w X.K X.mg X.base CX0 k f fd ps sp) (hb : Binds X.K fd ps []) (hr : Room k X.A) (O : OwnM X.K C "__contains__" f) : OpR X (compareOp .In) (rInO C sp false) := by
  intro pins s σ H x y v u Q I rx ry h
  obtain ⟨a, dx, fs, rfl, ha, h⟩ := h
  cases ry
  obtain ⟨mA, J, _⟩ := ins_get I.hok ha
  obtain ⟨od, J, _⟩ := J.look
  obtain ⟨m, hF⟩ := I.fr
  refine PySem.W.in_K hF I.ok.mod.kin J O.at_ O.fn (own_run F hb hr I I.env0 (vs := [.ref a, x]) (us := [.ref a, v]) (.cons rfl (.cons rx .nil)) h fun u s' q => ?_)
  obtain ⟨v, H', I', rv, b, rfl, q⟩ := q
  cases rv
  exact wpAny_truthy_bool ⟨.bl b, H', I', rfl, q⟩
theorem op_notInO (F : FnOk X.prog X.w X.K X.mg X.base CX0 k f fd ps sp) (hb : Binds X.K fd ps []) (hr : Room k X.A) (O : OwnM X.K C "__contains__" f) : OpR X (compareOp .NotIn) (rInO C sp true) := by
  intro pins s σ H x y v u Q I rx ry h
  obtain ⟨a, dx, fs, rfl, ha, h⟩ := h
  cases ry
  obtain ⟨mA, J, _⟩ := ins_get I.hok ha
  obtain ⟨od, J, _⟩ := J.look
  obtain ⟨m, hF⟩ := I.fr
  refine PySem.W.notIn_K hF I.ok.mod.kin J O.at_ O.fn (own_run F hb hr I I.env0 (vs := [.ref a, x]) (us := [.ref a, v]) (.cons rfl (.cons rx .nil)) h fun u s' q => ?_)
  obtain ⟨v, H', I', rv, b, rfl, q⟩ := q
  cases rv
  exact wpAny_truthy_bool ⟨.bl (!b), H', I', rfl, q⟩
def rStrO (C : Addr) (sp : Sp) : List V → Hp → VK → Prop := fun xs H Q => ∃ a dx fs, xs = [.ref a] ∧ H a = some (.ins C dx fs) ∧ sp [.ref a] H (fun v H' => ∃ z : Str, v = .str z ∧ Q (.str z) H') E0
theorem call_strO (F : FnOk X.prog X.w X.K X.mg X.base CX0 k f fd ps sp) (hb : Binds X.K fd ps []) (hr : Room (k + 2) X.A) (O : OwnM X.K C "__str__" f) : CallR X (.type "str") (rStrO C sp) := by
  intro pins s σ H vs us Q I r h
  obtain ⟨a, dx, fs, rfl, ha, h⟩ := h
  obtain ⟨u, rfl, ru⟩ := vals1 r
  cases ru
  obtain ⟨mA, J, _⟩ := ins_get I.hok ha
  obtain ⟨od, J, _⟩ := J.look
  have hu := hr.units
  refine callType_codes (T := "str") (Bi := Builtin.«object.__init__») (Q₁ := fun r s₁ => ∃ y u, r = .str y u ∧ EP X pins σ Q r s₁) PySem.F.called_str (PySem.F.typeCall_str_1 _) PySem.F.entry_object_init ?_ ?_
  · refine codeAny_of_tree ?_
    show wpAny _ X.A.in1.in1 (do checkBuiltinCall "str.__new__" ⟨[.type "str", .ref a], []⟩; again (.builtin "str.__new__" ⟨[.type "str", .ref a], []⟩)) _ _ s
    refine wpAny_bind (wpAny_of_eq (PySem.F.newCall_str_1 _) (wpAny_pure ⟨plainId_quiet (by decide +kernel) _, codeAny_builtin PySem.F.entry_str_new ?_⟩))
    rw [Around.under_plainId (by decide +kernel) _]
    rw [PySem.str_new_tree]
    refine wpAny_bind (wpAny_pure ?_)
    refine wpAny_bind (wpAny_of_eq isSubtype_str_str ?_)
    have key : wpAny (model X.prog X.w) X.A.in1.in1 (PySem.Builtin.Str.strOf (.ref a)) (fun r s₁ => ∃ y u, r = .str y u ∧ EP X pins σ Q r s₁) X.xe s := by
      unfold PySem.Builtin.Str.strOf
      rw [show isExactStr (.ref a) = false from rfl]
      refine wpAny_bind (m := cRoomFor _ _) (wpAny_cRoomFor (by show X.A.units + 1 + 1 < cLine; omega) ?_)
      refine wpAny_bind (m := callSpecial? (.ref a) (Str.ofString "__str__")) (PySem.W.special_fn I.kIn J O.at_ (beq_iff_eq.mp O.fn) (own_run F hb hr.in1.in1 I I.env0.in1.in1 (vs := [.ref a]) (us := [.ref a]) (.cons rfl .nil) h fun u s' q => ?_))
      obtain ⟨v, H', I', rv, z, rfl, q⟩ := q
      obtain ⟨t, rfl⟩ := rv
      exact wpAny_pure ⟨_, _, rfl, .str z, H', I', ⟨t, rfl⟩, q⟩
    exact wpAny_bind (wpAny_mono key (fun r s₁ hr => wpAny_pure hr) fun _ _ y => y)
  · rintro obj s₁ ⟨y, u, rfl, hq⟩
    exact ⟨typeIs_str _ _ _, PySem.F.args_object_init_2 _ _, object_init_meets PySem.F.called_str.init.lookup PySem.F.called_str.made (by decide) X.prog X.w X.A.in1 _ s₁ ⟨typeIs_str _ _ _, rfl, hq⟩⟩
end
end L2
namespace Pr
open PySem PySem.Spec PyProof.Rows L2 Gd
abbrev mLen : Stmt := inS 20
def spLn (C : Addr) : Sp := fun vs H Q _ => ∃ (o : Addr) (l : List (Str × Nat)), vs = [.ref o] ∧ OpsAt H C o l ∧ Q (.int (l.length : Int)) H
section
variable {P : Program} {w : World} {K : PySem.W.Frag} {mg : Str → Option Value} {base : Heap} {C : Addr}
theorem scLn : FnScope ["self"] ["self"] (defScope mLen) := ⟨rfl, rfl, rfl, by decide +kernel, rfl, by decide +kernel, by decide +kernel⟩
theorem ok_ln {f : Addr} {fd : FuncData} (F : Fun K "__len__" "Operators.__len__" mLen f fd) (cf : OpF K C) (T : Free mg) : FnOk P w K mg base CX0 1 f fd ["self"] (spLn C) := by
  refine F.ok scLn (fun vs H Q E h => ?_) (fun cdv A outer s H vs Q E hr h => ?_)
  · obtain ⟨o, l, rfl, _⟩ := h
    rfl
  · obtain ⟨o, l, rfl, op, q⟩ := h
    refine ⟨_, pss_one (ps_ret (pe_callB call_len_seq (by rfl) T.len PySem.boot_len (pa_cons (pe_fld (pv 0) rfl) pa_nil))), ?_⟩
    obtain ⟨dx, tn, ta, tl, ho, hn, ha, hl⟩ := op.ex
    refine ⟨_, rfl, o, C, dx, _, _, rfl, ho, cf.cls, cf.n1, rfl, tn, _, rfl, .inr (SqT.of hn), ?_⟩
    rw [List.length_map]
    exact q
end
def rListO (C : Addr) : List V → Hp → VK → Prop := fun xs H Q => ∃ (o : Addr) (l : List (Str × Nat)), xs = [.ref o] ∧ OpsAt H C o l ∧ l.length ≤ 8 ∧ ∀ q H', Same H H' → H q = none → H' q = some (.lst (l.map lnV)) → Q (.ref q) H'
section
variable {X : Cx} {C fi fl : Addr} {dI dL : FuncData}
theorem hint_ops {pins : List (Addr × Obj)} {σ : L2.St} {H : Hp} {s : Shared} {A : Around} {E : Value → Shared → Prop} {Q : Bool → Shared → Prop} {o : Addr} {l : List (Str × Nat)} (OL : OwnM X.K C "__len__" fl) (FL : FnOk X.prog X.w X.K X.mg X.base CX0 1 fl dL ["self"] (spLn C)) (bL : Binds X.K dL ["self"] [])
    (I : Inv X pins σ H s) (e0 : Env0 X.prog X.w X.K X.mg X.base A.in1 X.stack s H) (hr : Room 1 A.in1) (op : OpsAt H C o l) (l8 : l.length ≤ 8) (h : ∀ b s', Inv X pins σ H s' → Q b s') : wpAny (model X.prog X.w) A (Builtin.List.listLengthHint (.ref o)) Q E s := by
  obtain ⟨dx, tn, ta, tl, ho, _⟩ := op.ex
  obtain ⟨mA, J, _⟩ := ins_get I.hok ho
  obtain ⟨od, J, _⟩ := J.look
  obtain ⟨m, hF⟩ := I.fr
  unfold Builtin.List.listLengthHint
  refine wpAny_bind (wpAny_bind (J.type.here ((PySem.W.looks_findIn I.kIn OL.at_).here ?_)))
  refine PySem.W.KFB.if_not rfl ?_
  refine (show wpAny _ _ (if (some (Value.ref fl)).isSome = true then _ else _) _ _ s from ?_)
  rw [if_pos (show (some (Value.ref fl)).isSome = true from rfl)]
  refine wpAny_bind (wpAny_rule ?_)
  have hsp : spLn C [V.ref o] H (fun v H' => v = .int (l.length : Int) ∧ H' = H) E0 := ⟨o, l, rfl, op, rfl, rfl⟩
  refine wpAny_bind (wpAny_attempt (PySem.W.len_K hF I.ok.mod.kin J OL.at_ OL.fn (own_run FL bL hr I e0 (vs := [.ref o]) (us := [.ref o]) (.cons rfl .nil) hsp fun u s' q => ?_)))
  obtain ⟨v, H', I', rv, ev, eH⟩ := q
  subst ev
  subst eH
  obtain ⟨t, rfl⟩ := rv
  refine ⟨⟨by omega, by omega⟩, ?_⟩
  refine (show wpAny (model X.prog X.w) A (asInt? (Value.int (l.length : Int) s'.toks) >>= _) _ _ _ from wpAny_bind (wpAny_of_eq (a := some (l.length : Int)) rfl ?_))
  refine PySem.W.KFB.if_not ?_ ?_
  · have e : ((l.length : Int)).toNat = l.length := Int.toNat_natCast _
    rw [e]
    unfold Builtin.List.listTooLong
    rw [decide_eq_false]
    rw [sizeLine_eq]
    omega
  · exact wpAny_pure (h _ _ (I'.tok _))
theorem call_listIt (OI : OwnM X.K C "__iter__" fi) (OL : OwnM X.K C "__len__" fl) (FI : FnOk X.prog X.w X.K X.mg X.base CX0 1 fi dI ["self"] (spIt C)) (bI : Binds X.K dI ["self"] []) (FL : FnOk X.prog X.w X.K X.mg X.base CX0 1 fl dL ["self"] (spLn C)) (bL : Binds X.K dL ["self"] [])
    (hcalm : X.calm = true) (hr : Room 4 X.A) : CallR X (.type "list") (rListO C) := by
  intro pins s σ H xs us Q I rv h
  obtain ⟨o, l, rfl, op, l8, hq⟩ := h
  obtain ⟨u, rfl, ru⟩ := rv.one
  cases ru
  refine callType_codes (Q₁ := fun obj s₁ => obj = .ref s.heap.objs.size ∧ s₁ = { s with heap := s.heap.push { cls := .type "list", data := .seq #[] } }) PySem.F.called_list (PySem.F.typeCall_list_1 _) PySem.F.entry_list_init
    (code_list_new _ ⟨rfl, rfl⟩) fun obj s₁ h₁ => ?_
  obtain ⟨rfl, rfl⟩ := h₁
  have hS : (s.heap.push { cls := .type "list", data := .seq #[] }).get? s.heap.objs.size = some { cls := .type "list", data := .seq #[] } := Heap.get?_push_size _ rfl
  refine ⟨⟨_, hS, rfl⟩, PySem.F.args_list_init_2 _ _, ?_⟩
  have fr : H s.heap.objs.size = none := I.hok.fresh (Nat.le_refl _)
  have I1 : Inv X pins σ (upd H s.heap.objs.size (.lst [])) { s with heap := s.heap.push { cls := .type "list", data := .seq #[] } } := I.lnew (its := []) (t' := s.toks) .nil (Nat.zero_le _)
  show wpAny _ _ (do let old ← Builtin.List.listItems (.ref s.heap.objs.size); Builtin.List.listUpdate (.ref s.heap.objs.size) (fun _ => #[]); letGo old.toList.reverse; Builtin.List.listExtendWith (.ref s.heap.objs.size) (.ref o) .none) _ _ _
  refine wpAny_bind ?_
  unfold Builtin.List.listItems
  refine wpAny_bind (wpAny_seqItems hS rfl (wpAny_pure ?_))
  show wpAny _ _ (updateSeq s.heap.objs.size (fun _ => #[]) >>= fun _ => letGo (#[] : Array Value).toList.reverse >>= fun _ => Builtin.List.listExtendWith (.ref s.heap.objs.size) (.ref o) .none) _ _ _
  refine wpAny_bind (wpAny_updateSeq hS rfl ?_)
  have I2 := I1.lset (f := fun _ => #[]) (its := []) (its' := []) (ys := []) (t' := s.toks) upd_same hS rfl .nil (Nat.zero_le _)
  rw [upd_upd] at I2
  refine wpAny_bind (wpAny_letGo ?_)
  have sN : Same H (upd H s.heap.objs.size (.lst [])) := Same.new fr
  have op2 := op.same sN
  have hq2 : (upd H s.heap.objs.size (.lst [])) s.heap.objs.size = some (.lst []) := upd_same
  generalize hQ0 : s.heap.objs.size = q0 at I2 op2 hq2 fr sN ⊢
  generalize upd H q0 (.lst []) = H2 at I2 op2 hq2 sN
  generalize hs2 : ({ toks := s.toks, heap := _, gens := _, drawn := _, os := _ } : Shared) = s2 at I2 ⊢
  obtain ⟨dx, tn, ta, tl, ho, hn, ha, hl⟩ := op2.ex
  have hne : q0 ≠ o := ne_of hq2 ho (fun z => nomatch z)
  obtain ⟨mA, J, _⟩ := ins_get I2.hok ho
  obtain ⟨od, J, _⟩ := J.look
  obtain ⟨m0, hF⟩ := I2.fr
  unfold Builtin.List.listExtendWith
  refine wpAny_bind (J.type.here ?_)
  have h1 : Builtin.List.listSameRef (.ref q0) (.ref o) = false := by simp [Builtin.List.listSameRef, hne]
  have h2 : (Value.ref C == Value.type "list") = false := rfl
  have h3 : (Value.ref C == Value.type "tuple") = false := rfl
  simp only [h1, h2, h3, Bool.or_false, Bool.false_eq_true, if_false]
  refine wpAny_bind (PySem.W.owit_iter hF I2.ok.mod.kin J OI.at_ OI.fn ?_)
  have r1 : Room 1 X.A.in1.in1 := (hr.mono (by decide : 3 ≤ 4)).in1.in1
  have hsp : spIt C [V.ref o] H2 (fun v H' => ∃ tl it, v = .ref it ∧ H2 it = none ∧ H' = upd H2 it (TitO tl it 0) ∧ H2 tl = some (.tup (l.map lnV))) E0 := ⟨o, l, rfl, op2, fun tl it htl hit => ⟨tl, it, rfl, hit, rfl, htl⟩⟩
  refine own_run FI bI r1 I2 I2.env0.in1.in1 (vs := [.ref o]) (us := [.ref o]) (.cons rfl .nil) hsp fun u s' q => ?_
  obtain ⟨v, H', I', rv, tl', it, rfl, hit, rfl, htl⟩ := q
  cases rv
  have hti := titO_get I' upd_same
  have hT : s'.TypeIs (.ref it) "tuple_iterator" := let ⟨oi, e, c, _⟩ := hti; ⟨oi, e, c⟩
  refine wpAny_specialOf hT PySem.F.slot_tuple_iterator_next.lookup ?_
  have sI : Same H2 (upd H2 it (TitO tl' it 0)) := Same.new hit
  have op3 := op2.same sI
  have r0 : Room 1 X.A.in1.in1.in1 := hr.in1.in1.in1
  refine wpAny_bind (wpAny_holding (hint_ops OL FL bL I' I'.env0.in1.in1.in1 r0 op3 l8 fun bb s3 I3 => ?_))
  have qi : q0 ≠ it := ne_of_none hq2 hit
  have ti : tl' ≠ it := ne_of_none htl hit
  have qt : q0 ≠ tl' := ne_of hq2 htl (fun z => nomatch z)
  have loop : ∀ s4, Inv X pins σ (upd H2 it (TitO tl' it 0)) s4 → codeAny (model X.prog X.w) X.A.in1 (.builtin "list.extend.loop" ⟨[.ref q0, .ref it, .none], []⟩) (wants (fun r s₂ => r = Value.none ∧ EP X pins σ Q (Value.ref q0) s₂) X.xe) s4 := fun s4 I4 => by
    refine tup_loop (A1 := X.A.in1) (xs := l.map lnV) (show X.A.in1.handled = none from I4.ok.hd hcalm) (by rw [List.length_map]; omega) qi ti qt (l.map lnV).length 0 _ s4 (by omega) I4 upd_same (sI _ _ htl) (by rw [upd_ne qi]; exact hq2) fun H5 s5 I5 kb hq5 => ?_
    refine ⟨rfl, .ref q0, H5, I5, rfl, hq q0 H5 (fun b u e => ?_) fr hq5⟩
    have b1 : b ≠ q0 := ne_of_none e fr
    have b2 : b ≠ it := ne_of_none (sN b u e) hit
    rw [kb b b1 b2, upd_ne b2]
    exact sN b u e
  have hq3 : (upd H2 it (TitO tl' it 0)) q0 = some (.lst []) := by rw [upd_ne qi]; exact hq2
  refine wpAny_ite_split (fun _ => ?_) (fun _ => wpAny_pure ⟨plainId_quiet PySem.F.plain_extend_loop _, loop _ I3⟩)
  refine wpAny_bind (wpAny_rule ?_)
  refine wpAny_bind ?_
  show wpAny _ _ (updateSeq q0 (·.push .none) >>= fun _ => updateSeq q0 (·.pop)) _ _ _
  obtain ⟨z3, its3, k3, r3, hl3, e3⟩ := I3.lstM hq3
  cases r3
  refine wpAny_bind (wpAny_updateSeq e3 rfl ?_)
  have I4 := I3.lset (f := (·.push Value.none)) (its' := [Value.none]) (ys := [.non]) (t' := s3.toks) hq3 e3 (by simp) (.cons rfl .nil) (by rw [List.length_singleton, sizeLine_eq]; decide)
  obtain ⟨z4, its4, k4, r4, hl4, e4⟩ := I4.lstM upd_same
  obtain ⟨u4, rfl, ru4⟩ := r4.one
  refine wpAny_updateSeq e4 rfl ?_ (by show 1 ≤ sizeLine; rw [sizeLine_eq]; decide) (by show 0 ≤ sizeLine + 1; exact Nat.zero_le _)
  refine wpAny_pure ⟨plainId_quiet PySem.F.plain_extend_loop _, loop _ ?_⟩
  have I5 := I4.lset (f := (·.pop)) (its := [u4]) (its' := []) (ys := []) (t' := s3.toks) upd_same e4 (by rfl) .nil (Nat.zero_le _)
  rw [upd_upd] at I5
  have hH : upd (upd H2 it (TitO tl' it 0)) q0 (.lst []) = upd H2 it (TitO tl' it 0) := by
    funext b
    by_cases hb : b = q0
    · rw [hb, upd_same, hq3]
    · rw [upd_ne hb]
  rw [hH] at I5
  exact I5
end
end Pr
namespace Pr
open PySem PySem.Spec PyProof.Rows L2 Gd TL
/-! ### the lines of drawn operators are read back -/
def figs : List Str := ["0", "1", "2"]
theorem pool_spl : ∀ z ∈ Pr.pool, ∀ n < 3, spl (tl " ") 0 [] (tl (lnS (z, n))) = [tl "op", tl z, tl (figs.getD n "")] := by decide +kernel
theorem pool_few : ∀ z ∈ Pr.pool, ∀ n < 3, (lnS (z, n)).length ≤ 13 := by decide +kernel
theorem sp_line {z : Str} {n : Nat} (m : z ∈ Pr.pool) (h : n < 3) : sp (lnS (z, n)) = [("op" : Str), z, figs.getD n ""] := by
  refine map_tl_inj ?_
  rw [sp_map, pool_spl z m n h]
  rfl
theorem line_back {z : Str} {n : Nat} (m : z ∈ Pr.pool) (h : n < 3) : lineOf (lnV (z, n)) = some (z, n) := by
  show lineL (sp (lnS (z, n))) = _
  rw [sp_line m h]
  have az : ∀ y ∈ Pr.pool, azB y = true := by decide +kernel
  have dg : dig (figs.getD n "") = some n := by
    match n, h with
    | 0, _ => decide +kernel
    | 1, _ => decide +kernel
    | 2, _ => decide +kernel
  show (if ("op" : Str) = "op" then (if azB z = true then (dig (figs.getD n "")).map fun k => (z, k) else none) else none) = _
  rw [if_pos rfl, if_pos (az z m), dg]
  rfl
/-- rows of drawn operators, whose names are each once, are read back -/
theorem rd_back : ∀ {k l : List (Str × Nat)} {i : Nat}, (∀ p ∈ k, p.1 ∈ Pr.pool ∧ p.2 < 3) → ((l ++ k).map (·.1)).Nodup → rd i l (k.map lnV) = .inr (l ++ k)
  | [], l, i, _, _ => by rw [List.append_nil]; rfl
  | p :: k, l, i, h, nd => by
    obtain ⟨a, b⟩ := h p List.mem_cons_self
    have e : lineOf (lnV p) = some p := line_back a b
    have n : p.1 ∉ l.map (·.1) := by
      rw [List.map_append, List.nodup_append] at nd
      exact fun m => nd.2.2 p.1 m p.1 (by simp) rfl
    show rd i l (lnV p :: k.map lnV) = _
    rw [rd_more e n, rd_back (fun q m => h q (List.mem_cons_of_mem _ m)) (by rw [List.append_assoc]; exact nd), List.append_assoc]
    rfl
theorem ars_lines {l k : List (Str × Nat)} (a : Ars l) (p : k.Perm l) : rd 0 [] (k.map lnV) = .inr k := by
  have h := rd_back (k := k) (l := []) (i := 0) (fun q m => ⟨a.pool q (p.mem_iff.mp m), by have := a.two q (p.mem_iff.mp m); omega⟩) (by rw [List.nil_append]; exact (p.map _).nodup_iff.mpr a.nd)
  rw [h, List.nil_append]
end Pr
namespace Pr
open PySem PySem.Spec PyProof.Rows L2 Gd
/-! ### rows of names and of numbers, told apart -/
def strD (z : Str) : PyData := .str z
theorem dp_strs {K : PySem.W.Frag} {H : Hp} : ∀ zs : List Str, DpAll K H (zs.map V.str) (zs.map strD)
  | [] => .nil
  | z :: zs => .cons (.str z) (dp_strs zs)
theorem low_depth : ∀ {ds : List PyData}, (∀ d ∈ ds, d.depth = 0) → PyData.depthAll ds = 0
  | [], _ => rfl
  | d :: ds, h => by
    simp only [PyData.depthAll]
    rw [h d List.mem_cons_self, low_depth fun x m => h x (List.mem_cons_of_mem _ m)]
    rfl
theorem lay_all : ∀ {ds : List PyData}, (∀ d ∈ ds, d.canLay0 = true) → PyData.canLayAll0 ds = true
  | [], _ => rfl
  | d :: ds, h => by
    simp only [PyData.canLayAll0]
    rw [h d List.mem_cons_self, lay_all fun x m => h x (List.mem_cons_of_mem _ m)]
    rfl
theorem shaped_row {ds : List PyData} (h : ∀ d ∈ ds, d.depth = 0 ∧ d.canLay0 = true) : SeqAt.shaped (.tuple ds) = true := by
  have e : PyData.depth (.tuple ds) = PyData.depthAll ds + 1 := by simp only [PyData.depth]
  have e2 : PyData.canLay0 (.tuple ds) = PyData.canLayAll0 ds := by simp only [PyData.canLay0]
  unfold SeqAt.shaped
  rw [e, e2, low_depth fun d m => (h d m).1, lay_all fun d m => (h d m).2]
  rfl
theorem shaped_strs {zs : List Str} (h : ∀ z ∈ zs, PyData.strOk z = true) : SeqAt.shaped (.tuple (zs.map strD)) = true := shaped_row fun d m => by
  obtain ⟨z, hz, rfl⟩ := List.mem_map.mp m
  exact ⟨by unfold strD; simp only [PyData.depth], by unfold strD; simp only [PyData.canLay0]; exact h z hz⟩
theorem neT {K : PySem.W.Frag} {H : Hp} {x y : V} {Q : VK} {ds : List PyData} (hx : Dp K H x (.tuple ds)) (hy : Dp K H y (.tuple ds)) (hs : SeqAt.shaped (.tuple ds) = true) (q : Q (.bl false) H) : rNeD K x y H Q :=
  ⟨_, _, hx, hy, hs, hs, by rw [SeqAt.eqv_refl _ (SeqAt.canLay_of_shaped hs)]; exact q⟩
theorem eqT {K : PySem.W.Frag} {H : Hp} {x y : V} {Q : VK} {ds : List PyData} (hx : Dp K H x (.tuple ds)) (hy : Dp K H y (.tuple ds)) (hs : SeqAt.shaped (.tuple ds) = true) (q : Q (.bl true) H) : rEqD K x y H Q :=
  ⟨_, _, hx, hy, hs, hs, by rw [SeqAt.eqv_refl _ (SeqAt.canLay_of_shaped hs)]; exact q⟩
theorem neStrs {K : PySem.W.Frag} {H : Hp} {a b : Addr} {Q : VK} {zs : List Str} (ha : H a = some (.tup (zs.map V.str))) (hb : H b = some (.tup (zs.map V.str))) (hz : ∀ z ∈ zs, PyData.strOk z = true) (q : Q (.bl false) H) : rNeD K (.ref a) (.ref b) H Q :=
  neT (.tup (SqT.of ha) (dp_strs zs)) (.tup (SqT.of hb) (dp_strs zs)) (shaped_strs hz) q
theorem eqStrs {K : PySem.W.Frag} {H : Hp} {a b : Addr} {Q : VK} {zs : List Str} (ha : H a = some (.tup (zs.map V.str))) (hb : H b = some (.tup (zs.map V.str))) (hz : ∀ z ∈ zs, PyData.strOk z = true) (q : Q (.bl true) H) : rEqD K (.ref a) (.ref b) H Q :=
  eqT (.tup (SqT.of ha) (dp_strs zs)) (.tup (SqT.of hb) (dp_strs zs)) (shaped_strs hz) q
end Pr
namespace Pr
open PySem PySem.Spec PyProof.Rows L2 Gd
/-! ### slices of rows; the text of a dict of arities -/
theorem cut5 {xs : List V} : cutV xs none (some 5) = xs.take 5 := by
  unfold cutV
  rw [show (some (5 : Int)) = some (((5 : Nat)) : Int) from rfl, HT.sIx_nat, show HT.sIx xs.length 0 none = 0 from rfl, List.drop_zero, Nat.sub_zero]
  rcases Nat.lt_or_ge xs.length 5 with h | h
  · rw [Nat.min_eq_right (by omega), List.take_of_length_le (Nat.le_refl _), List.take_of_length_le (by omega)]
  · rw [Nat.min_eq_left h]
theorem cut_fromV {xs : List V} {p : Nat} : cutV xs (some (p : Int)) none = xs.drop p := by
  unfold cutV
  rw [HT.sIx_nat, show HT.sIx xs.length xs.length none = xs.length from rfl]
  rcases Nat.lt_or_ge xs.length p with h | h
  · rw [Nat.min_eq_right (by omega), List.drop_of_length_le (Nat.le_refl _), List.drop_of_length_le (by omega), List.take_nil]
  · rw [Nat.min_eq_left h]
    exact List.take_of_length_le (by rw [List.length_drop]; omega)
theorem cut_toV {xs : List V} {p : Nat} (h : p ≤ xs.length) : cutV xs none (some (p : Int)) = xs.take p := by
  unfold cutV
  rw [HT.sIx_nat, show HT.sIx xs.length 0 none = 0 from rfl, Nat.min_eq_left h, List.drop_zero, Nat.sub_zero]
theorem rd_below : ∀ {vs : List V} {i k : Nat} {l : List (Str × Nat)}, rd i l vs = .inl k → k < i + vs.length
  | [], i, k, l, h => by cases h
  | v :: vs, i, k, l, h => by
    rw [List.length_cons]
    cases e : lineOf v with
    | none =>
      rw [rd_none e] at h
      cases h
      omega
    | some p =>
      by_cases c : p.1 ∈ l.map (·.1)
      · rw [rd_again e c] at h
        cases h
        omega
      · rw [rd_more e c] at h
        have := rd_below h
        omega
theorem az_ok {z : Str} (h : azB z = true) : z.length ≤ 8 ∧ ∀ c ∈ z.cps.toList, c < 16 ^ 8 := by
  have h2 : (decide (1 ≤ z.length) && decide (z.length ≤ 8) && z.cps.toList.all azC) = true := h
  simp only [Bool.and_eq_true, decide_eq_true_eq] at h2
  exact ⟨h2.1.2, fun c m => Nat.lt_of_lt_of_le (az_lt (List.all_eq_true.mp h2.2 c m)) (by decide)⟩
def fgT (n : Nat) : Str := ((toString (n : Int) : String) : Str)
theorem fg_len {n : Nat} (h : n ≤ 2) : (fgT n).length ≤ 10 := by
  match n, h with
  | 0, _ => decide +kernel
  | 1, _ => decide +kernel
  | 2, _ => decide +kernel
/-- the pieces of a dict's text -/
def pcs (l : List (Str × Nat)) : List Str := List.zipWith (fun (p : Key × V) t => keyText p.1 ++ ": " ++ t) (dkv l) (l.map fun p => fgT p.2)
theorem pcs_len : ∀ {l : List (Str × Nat)}, (∀ p ∈ l, azB p.1 = true) → (∀ p ∈ l, p.2 ≤ 2) → ((pcs l).map (·.length)).sum ≤ l.length * 100 ∧ (pcs l).length = l.length
  | [], _, _ => ⟨Nat.le_refl _, rfl⟩
  | p :: l, h, k => by
    obtain ⟨a, b⟩ := pcs_len (l := l) (fun q m => h q (List.mem_cons_of_mem _ m)) (fun q m => k q (List.mem_cons_of_mem _ m))
    have e : pcs (p :: l) = (reprText p.1 ++ ": " ++ fgT p.2) :: pcs l := rfl
    have z := az_ok (h p List.mem_cons_self)
    have r := StrLaws.reprText_len p.1 z.2
    have f := fg_len (k p List.mem_cons_self)
    rw [e, List.map_cons, List.sum_cons, List.length_cons, List.length_cons, strLen_append, strLen_append, Nat.succ_mul, b]
    refine ⟨?_, rfl⟩
    have c2 : (": " : Str).length = 2 := rfl
    omega
def dT (l : List (Str × Nat)) : Str := dictText (pcs l)
theorem sh_pieces {H : Hp} : ∀ {l : List (Str × Nat)}, (∀ p ∈ l, azB p.1 = true) → (∀ p ∈ l, p.2 ≤ 2) → Paired (fun (p : Key × V) t => keyFits p.1 ∧ Sh H 0 p.2 t) (dkv l) (l.map fun p => fgT p.2)
  | [], _, _ => .nil
  | p :: l, h, k => by
    have z := az_ok (h p List.mem_cons_self)
    have r := StrLaws.reprText_len p.1 z.2
    have n2 := k p List.mem_cons_self
    refine .cons ⟨by show (reprText p.1).length ≤ sizeLine; rw [sizeLine_eq]; omega, Sc.int _ ?_⟩ (sh_pieces (fun q m => h q (List.mem_cons_of_mem _ m)) (fun q m => k q (List.mem_cons_of_mem _ m)))
    exact Nat.lt_of_le_of_lt (Nat.log2_le_self _) (by omega)
theorem sh_ars {H : Hp} {q : Addr} {l : List (Str × Nat)} (e : H q = some (.dK (dkv l))) (ok : OpsOk l) : Sh H 1 (.ref q) (dT l) ∧ (dT l).length ≤ sizeLine := by
  refine ⟨Sh.dK e (sh_pieces ok.name ok.two), ?_⟩
  obtain ⟨a, b⟩ := pcs_len ok.name ok.two
  have h := dictText_len_le (pcs l)
  have f := ok.few
  rw [b] at h
  rw [sizeLine_eq]
  show (dictText (pcs l)).length ≤ _
  omega
theorem pw_len : ∀ i < 9, (reprText (pw i)).length ≤ 100 := by decide +kernel
/-- both are shown as one text -/
theorem same_text {t : Str} {H : Hp} {Q : V → Hp → Prop} (q : Q (.bl false) H) : rNe (.str t) (.str t) H Q := ⟨rfl, by rw [decide_eq_true rfl]; exact q⟩
end Pr
namespace Pr
open PySem PySem.Spec PyProof.Rows L2 Gd
/-! ### _law_lines_right -/
/-- what is known of the defs that it calls -/
structure LF (P : Program) (w : World) (K : PySem.W.Frag) (mg : Str → Option Value) (base : Heap) (C pL gPL fN fL fQ fS fU fIt fLn fNm : Addr) (dPL dN dL dQ dS dU dIt dLn dNm : FuncData) : Prop where
  prL : PropOf K C "lines" pL gPL
  GPL : FnOk P w K mg base CX0 1 gPL dPL ["self"] (spPL C)
  bPL : Binds K dPL ["self"] []
  FN : Fun K "_law_near_line" "_law_near_line" sNear fN dN
  bN : Binds K dN ["dice", "line"] []
  gN : mg "_law_near_line" = some (.ref fN)
  FL : Fun K "_law_is_line" "_law_is_line" sIsLine fL dL
  bL : Binds K dL ["value"] []
  gL : mg "_law_is_line" = some (.ref fL)
  FQ : Fun K "_law_read" "_law_read" sRead fQ dQ
  GQ : FnOk P w K mg base CX0 6 fQ dQ ["lines"] spRead
  bQ : Binds K dQ ["lines"] []
  gQ : mg "_law_read" = some (.ref fQ)
  FS : Fun K "_law_sorted" "_law_sorted" sSorted fS dS
  bS : Binds K dS ["value"] []
  gS : mg "_law_sorted" = some (.ref fS)
  FU : Fun K "_law_due" "_law_due" sDue fU dU
  bU : Binds K dU ["lines"] []
  gU : mg "_law_due" = some (.ref fU)
  OI : OwnM K C "__iter__" fIt
  OL : OwnM K C "__len__" fLn
  GIt : FnOk P w K mg base CX0 1 fIt dIt ["self"] (spIt C)
  bIt : Binds K dIt ["self"] []
  GLn : FnOk P w K mg base CX0 1 fLn dLn ["self"] (spLn C)
  bLn : Binds K dLn ["self"] []
  Fm : Fun K "_law_is_named" "_law_is_named" sNamed fNm dNm
  bm : Binds K dNm ["value"] []
  gm : mg "_law_is_named" = some (.ref fNm)
theorem empty_app (a : Str) : Str.empty ++ a = a := by
  apply str_ext
  show (Str.empty.cps ++ a.cps).toList = _
  rw [Array.toList_append]
  rfl
theorem lnS_eq (p : Str × Nat) : lnS p = ("op " : Str) ++ p.1 ++ (" " : Str) ++ Str.ofString (toString (p.2 : Int)) := by
  unfold lnS
  rw [empty_app]
theorem eqD_perm {l k : List (Str × Nat)} (nd : (l.map (·.1)).Nodup) (p : k.Perm l) : eqD (dkv k) (dkv l) = true := by
  unfold eqD
  rw [hit_sub nd fun q m => p.mem_iff.mp m]
  have e : (dkv k).length = (dkv l).length := by
    unfold dkv
    rw [List.length_map, List.length_map, p.length_eq]
  rw [e]
  simp
/-- a line that is drawn from the list at slot 5, or "op c 0" -/
def t_pickline : TE := fun σ H Q => ∃ (q : Addr) (us : List V) (r B : Nat), σ[5]? = some (some (.ref q)) ∧ σ[7]? = some (some (.int (r : Int))) ∧ H q = some (.lst us) ∧ r < us.length ∧ (∀ v ∈ us, Ln H v) ∧ (∀ v ∈ us, ∀ z, v = .str z → z.length ≤ B) ∧ 13 ≤ B ∧
  ∀ (z : Str) (p : Str × Nat) (G : Hp), Same H G → lineOf (.str z) = some p → z.length ≤ B → Q (.str z) G
/-- how long a text can be after k turns -/
def bnd : Nat → Nat
  | 0 => 13
  | k + 1 => 3 * bnd k + 20
theorem pool_str : ∀ z ∈ Pr.pool, ∀ n < 3, PyData.strOk (lnS (z, n)) = true := by decide +kernel
def spLines : Sp := fun vs H Q _ => ∃ (d a : Addr) (l : List (Str × Nat)) (n : Nat), vs = [.ref d, .ref a] ∧ a ≠ d ∧ H a = some (.dK (dkv l)) ∧ Ars l ∧ Dice H d n ∧ n + 200 < 1000000 ∧ ∀ H', Kp d H H' → Dice H' d (n + 200) → Q (.bl true) H'
section
variable {P : Program} {w : World} {K : PySem.W.Frag} {mg : Str → Option Value} {base : Heap} {C CI fI pA gA fR fP fM pL gPL fN fL fQ fS fU fIt fLn fNm : Addr} {dI dA dR dP dM dPL dN dL dQ dS dU dIt dLn dNm : FuncData}
theorem scLines : FnScope ["dice", "arities", "due", "ops", "turn", "lines", "again", "at", "near", "name"] ["dice", "arities"] (defScope sLines) := ⟨rfl, rfl, rfl, by decide +kernel, rfl, by decide +kernel, by decide +kernel⟩
theorem ok_lines {f : Addr} {fd : FuncData} (F : Fun K "_law_lines_right" "_law_lines_right" sLines f fd) (D : Draws K mg fR fP fM dR dP dM) (T : Free mg) (O : OpsC P w K mg base C CI fI pA gA dI dA) (Z : LF P w K mg base C pL gPL fN fL fQ fS fU fIt fLn fNm dPL dN dL dQ dS dU dIt dLn dNm) : FnG P w K mg base CX0 7 f fd ["dice", "arities"] spLines := by
  have GR : FnOk P w K mg base CX0 1 fR dR ["dice", "total"] spRoll := ok_roll D.FR T
  have GM : FnOk P w K mg base CX0 2 fM dM ["dice", "items"] (spMixed K) := ok_mixed D T
  have GN : FnOk P w K mg base CX0 3 fN dN ["dice", "line"] spNear := ok_near Z.FN D T
  have GL : FnOk P w K mg base CX0 2 fL dL ["value"] spIsLine := ok_isline Z.FL T Z.Fm Z.bm Z.gm
  have GS : FnOk P w K mg base CX0 1 fS dS ["value"] spSorted := ok_sorted Z.FS T
  have GU : FnOk P w K mg base CX0 3 fU dU ["lines"] spDue := ok_due Z.FU T GL Z.FL Z.bL Z.gL
  refine FnG.ok F scLines (fun vs H Q E h => ?_) (fun cdv A outer s H vs Q E hr gd h => ?_)
  · obtain ⟨d, a, l, n, rfl, _⟩ := h
    rfl
  · obtain ⟨d, a, l, n, rfl, nad, ha, ars, di, hn, q⟩ := h
    have r1 : Room 1 _ := hr.mono (by decide)
    have r2 : Room 2 _ := hr.mono (by decide)
    have r3 : Room 3 _ := hr.mono (by decide)
    have r4 : Room 4 _ := hr.mono (by decide)
    have hu := hr.units
    have hu0 : ∀ {u : Nat}, u + 64 < cLine → u < cLine := fun h => by omega
    have hu1 : ∀ {u : Nat}, u + 64 < cLine → u + 1 < cLine := fun h => by omega
    refine ⟨_, pss_cons (ps_setLc (i := 2) (own := [("name", 9)]) (g := gName 9) (by rfl) scLines.nd rfl rfl (sw_true rfl rfl rfl (by decide +kernel)) (pi_list (pe_callB (call_sortedD (by rfl)) (by rfl) T.sorted (by decide +kernel) (pa_cons (pv 1) pa_nil))) (blkOk_by (own := [("name", 9)]) (N := ["dice", "arities", "due", "ops", "turn", "lines", "again", "at", "near", "name"]) (sc := defScope sLines) (by decide +kernel)) (fun _ _ _ _ _ => pg_name (i := 9) scLines.nd rfl (Or.inl rfl)) (fun _ _ _ _ _ => pts_nil) (fun _ _ _ _ _ => (pe_op op_add_str (pe_op op_add_str (pe_op op_add_str pe_str (pv 9)) pe_str) (pe_callTy call_str_int (by rfl) T.str (by decide +kernel) (pa_cons (pe_dget (hu1 hu) (pv 1) (pv 9) (fun _ _ => rfl)) pa_nil)))))
      (pss_cons (ps_set (i := 3) scLines.nd rfl (.inl rfl) (pe_make O.M O.GI r4 (by rfl) O.g O.bI .nil passL (pa_cons (pv 1) pa_nil)))
      (pss_cons (ps_if (PW.pt (pw_or (pt_cmpR (op_neD hu) (pe_prop (pv 3) O.cf.cls Z.prL Z.GPL r2 Z.bPL .nil pass0 rfl) (pe_callTy Tx.call_tupX (by rfl) T.tuple (by decide +kernel) (pa_cons (pv 2) pa_nil)) (nomark _)) (pw_or (pt_cmpR (op_neL hu) (pe_callTy (call_listIt Z.OI Z.OL Z.GIt Z.bIt Z.GLn Z.bLn rfl r4) (by rfl) T.list (by decide +kernel) (pa_cons (pv 3) pa_nil)) (pv 2) (nomark _)) (pw_or1 (pt_cmpR (op_ne_dictB (hu0 hu)) (pe_call Z.GQ hr (by rfl) Z.gQ Z.FQ.kp Z.bQ .nil pass0 (pa_cons (pe_call GM r2 (by rfl) D.gM D.FM.kp D.bM .nil pass0 (pa_cons (pv 0) (pa_cons (pv 2) pa_nil))) pa_nil)) (pv 1) (nomark _)))))) (pss_one ps_never) pss_nil)
      (pss_cons (ps_for PassesOwn.never rfl (pi_range1 rfl T.range (pa_cons pe_int pa_nil)) (pg_name (i := 4) scLines.nd rfl (.inl rfl)) (pss_cons (ps_set (i := 5) scLines.nd rfl (.inl rfl) (pe_call GM r2 (by rfl) D.gM D.FM.kp D.bM .nil pass0 (pa_cons (pv 0) (pa_cons (pv 2) pa_nil))))
      (pss_cons (ps_for PassesOwn.never rfl (pi_range1 rfl T.range (pa_cons (pe_op op_add pe_int (pe_call GR r1 (by rfl) D.gR D.FR.kp D.bR .nil pass0 (pa_cons (pv 0) (pa_cons pe_int pa_nil)))) pa_nil)) (pg_name (i := 6) scLines.nd rfl (.inl rfl)) (pss_cons (ps_set (i := 7) scLines.nd rfl (.inl rfl) (pe_call GR r1 (by rfl) D.gR D.FR.kp D.bR .nil pass0 (pa_cons (pv 0) (pa_cons (pe_callB call_len_seq (by rfl) T.len PySem.boot_len (pa_cons (pv 5) pa_nil)) pa_nil))))
      (pss_cons (ps_set (i := 8) scLines.nd rfl (.inl rfl) (pe_call GN r3 (by rfl) Z.gN Z.FN.kp Z.bN .nil pass0 (pa_cons (pv 0) (pa_cons (pe_imp (t' := t_pickline) (pe_ifExp (pt_val (pe_call GL r2 (by rfl) Z.gL Z.FL.kp Z.bL .nil pass0 (pa_cons (pe_ix ix_list (pv 5) (pv 7) (fun _ _ => rfl)) pa_nil))) (pe_ix ix_list (pv 5) (pv 7) (fun _ _ => rfl)) pe_str) ?g1) pa_nil))))
      (pss_one (ps_set (i := 5) scLines.nd rfl (.inl rfl) (pe_op op_cat (pe_op op_cat (pe_slice sl_list (pv 5) po_none (po_some (pv 7))) (pe_lst (pa_cons (pv 8) pa_nil))) (pe_slice sl_list (pv 5) (po_some (pe_op op_add (pv 7) (pe_call GR r1 (by rfl) D.gR D.FR.kp D.bR .nil pass0 (pa_cons (pv 0) (pa_cons pe_int pa_nil))))) po_none)))))))
      (pss_one (ps_if (pt_cmpR op_ne (pe_callB (call_repr gd hu) (by rfl) T.repr (by decide +kernel) (pa_cons (pe_call Z.GQ hr (by rfl) Z.gQ Z.FQ.kp Z.bQ .nil pass0 (pa_cons (pe_slice sl_list (pv 5) po_none (po_some pe_int)) pa_nil)) pa_nil)) (pe_callB (call_repr gd hu) (by rfl) T.repr (by decide +kernel) (pa_cons (pe_call GS r1 (by rfl) Z.gS Z.FS.kp Z.bS .nil pass0 (pa_cons (pe_call GU r3 (by rfl) Z.gU Z.FU.kp Z.bU .nil pass0 (pa_cons (pe_slice sl_list (pv 5) po_none (po_some pe_int)) pa_nil)) pa_nil)) pa_nil)) (nomark _)) (pss_one ps_never) pss_nil)))))
      (pss_one (ps_ret pe_bl))))), ?_⟩
    case g1 =>
      rintro σ H3 Q ⟨qq, us, r, B, h5, h7, hq, lr, lns, lb, b13, kk⟩
      have g : us[r]? = some us[r] := List.getElem?_eq_getElem lr
      have mr : us[r] ∈ us := List.getElem_mem lr
      generalize us[r] = v at g mr
      refine ⟨_, h5, _, h7, qq, us, (r : Int), v, rfl, rfl, SqL.of hq, atI_nat g, v, rfl, lns v mr, fun G s => ⟨_, rfl, ?_⟩⟩
      cases e : lineOf v with
      | none =>
        refine if_false_of rfl (kk "op c 0" ("c", 0) G s ?_ (by show 6 ≤ B; omega))
        have e2 : V.str "op c 0" = lnV ("c", 0) := by decide +kernel
        rw [e2]
        exact line_back (by decide +kernel) (by decide)
      | some p =>
        cases v with
        | str z => exact if_true_of rfl ⟨_, h5, _, h7, qq, us, (r : Int), .str z, rfl, rfl, SqL.of (s _ _ hq), atI_nat g, kk z p G s e (lb _ mr z rfl)⟩
        | _ => cases e
    have few := ars.few
    have okl := ars.ok
    obtain ⟨ds, hd⟩ := di.there
    refine ⟨_, rfl, a, dkv l, l.map (·.1), rfl, Rd.of ha, by unfold dkv; rw [List.map_map, List.map_map]; rfl, by rw [List.length_map]; omega, fun ks ns pk srt nns => ?_⟩
    obtain ⟨l', pl, rfl⟩ := perm_map pk
    have s1 := Same.new nns (o := .lst ((l'.map (·.1)).map V.str))
    have hns : (upd H ns (.lst ((l'.map (·.1)).map V.str))) ns = some (.lst ((l'.map (·.1)).map V.str)) := upd_same
    generalize upd H ns (.lst ((l'.map (·.1)).map V.str)) = H1 at s1 hns ⊢
    have ll : l'.length ≤ 4 := by
      rw [pl.length_eq]
      omega
    have nd' : (l'.map (·.1)).Nodup := (pl.map _).nodup_iff.mpr okl.nd
    have lm : ((l'.map (·.1)).map V.str).length = l'.length := by rw [List.length_map, List.length_map]
    have inp : ∀ p ∈ l', p.1 ∈ Pr.pool ∧ p.2 < 3 := fun p m => ⟨ars.pool p (pl.mem_iff.mp m), by have := ars.two p (pl.mem_iff.mp m); omega⟩
    refine ⟨ns, rfl, ⟨_, SqL.of hns⟩, fun D9 nD => ?_⟩
    refine lc_list (K := K) (a := ns) (xs := (l'.map (·.1)).map V.str) (fun i G => G D9 = some (.lst ((l'.take i).map lnV)) ∧ Same H1 G) ⟨upd_same, Same.new nD⟩ (fun i G _ ⟨_, s⟩ => SqL.of (s _ _ hns)) ?_ ?_
    · rintro i v G hv ⟨eD, s⟩
      obtain ⟨p, hp, rfl⟩ : ∃ p, l'[i]? = some p ∧ v = .str p.1 := by
        rw [List.map_map, List.getElem?_map] at hv
        cases e : l'[i]? with
        | none => rw [e] at hv; cases hv
        | some p =>
          rw [e] at hv
          exact ⟨p, rfl, (Option.some.inj hv).symm⟩
      have mp := List.mem_of_getElem? hp
      have vz := val_some okl.nd (show (p.1, p.2) ∈ l from pl.mem_iff.mp mp)
      have f13 := pool_few p.1 (inp p mp).1 p.2 (inp p mp).2
      have lg : ((p.2 : Int)).natAbs.log2 < 1920 := Nat.lt_of_le_of_lt (Nat.log2_le_self _) (by have := (inp p mp).2; omega)
      have eln : lnV p = V.str (("op " : Str) ++ p.1 ++ (" " : Str) ++ Str.ofString (toString (p.2 : Int))) := congrArg V.str (lnS_eq p)
      have f13' : (("op " : Str) ++ p.1 ++ (" " : Str) ++ Str.ofString (toString (p.2 : Int))).length ≤ 13 := by
        rw [← lnS_eq]
        exact f13
      rw [strLen_append, strLen_append, strLen_append] at f13'
      refine ⟨rfl, _, rfl, _, _, rfl, rfl, by rw [sizeLine_eq]; omega, _, _, rfl, rfl, by rw [strLen_append, sizeLine_eq]; omega, _, rfl, _, rfl, a, _, rfl, vz ▸ DGet.k (k := .inr p.1) (s _ _ (s1 _ _ ha)), (p.2 : Int), rfl, lg, _, _, rfl, rfl, by rw [strLen_append, strLen_append, sizeLine_eq]; omega, ?_⟩
      refine ⟨_, eD, by rw [List.length_map, List.length_take, sizeLine_eq]; omega, ?_, fun b u e => by rw [upd_ne (ne_of_none e nD)]; exact s b u e⟩
      rw [upd_same, List.take_add_one, hp, List.map_append, ← eln]
      rfl
    · rintro G ⟨eD, s⟩
      rw [lm, List.take_of_length_le (Nat.le_refl _)] at eD
      have s2 := s1.trans s
      have ha2 := s2 _ _ ha
      refine ⟨_, rfl, fun x1 dx1 nx1 ndx1 ne1 => mk7 nx1 ndx1 ne1 ha2 rfl okl fun l1 G1 pl1 srt1 s3 op1 => ?_⟩
      have e1 : l' = l1 := rows_one (pl.trans pl1.symm) srt srt1 nd'
      subst e1
      have eD1 := s3 _ _ eD
      have s4 := s2.trans s3
      have emap : l'.map lnV = (l'.map lnS).map V.str := by
        rw [List.map_map]
        rfl
      have hz : ∀ z ∈ l'.map lnS, PyData.strOk z = true := fun z m => by
        obtain ⟨p, mp, rfl⟩ := List.mem_map.mp m
        exact pool_str p.1 (inp p mp).1 p.2 (inp p mp).2
      have sh := shaped_strs hz
      obtain ⟨dxo, tno, tao, tlo, ho, _⟩ := op1.ex
      refine ⟨_, rfl, x1, dxo, _, rfl, ho, x1, l', rfl, op1, fun tn htn => ⟨_, rfl, D9, _, rfl, SqL.of eD1, fun q1 G2 n1 t1 y1 => ?_⟩⟩
      rw [emap] at htn y1
      refine ⟨_, _, .tup (SqT.of (t1 _ _ htn)) (dp_strs _), .tup y1.sq (dp_strs _), sh, sh, ?_⟩
      rw [SeqAt.eqv_refl _ (SeqAt.canLay_of_shaped sh)]
      refine ⟨_, rfl, if_false_of rfl ?_⟩
      have s5 := s4.trans t1
      have op2 := op1.same t1
      have eD2 := t1 _ _ eD1
      refine ⟨_, rfl, x1, l', rfl, op2, by omega, fun q2 G3 t2 nq2 hq2 => ⟨_, rfl, q2, D9, _, _, rfl, rfl, SqL.of hq2, SqL.of (t2 _ _ eD2), .inr ⟨rfl, fun v m => ?_, _, rfl, if_false_of rfl ?_⟩⟩⟩
      · obtain ⟨p, _, rfl⟩ := List.mem_map.mp m
        exact ⟨_, .str _⟩
      have s6 := s5.trans t2
      have eD3 := t2 _ _ eD2
      have nD3 : D9 ≠ d := by
        have h1 := s1 _ _ hd
        exact (ne_of_none h1 nD).symm
      have di6 := di.same s6
      have lnl : (l'.map lnV).length ≤ 4 := by rw [List.length_map]; omega
      have lnsP : ∀ (k : List (Str × Nat)), k.Perm l' → ∀ G, ∀ v ∈ k.map lnV, Lb 13 G v := fun k pk G v m => by
        obtain ⟨p, mp, rfl⟩ := List.mem_map.mp m
        have ip := inp p (pk.mem_iff.mp mp)
        exact Lb.str (pool_few p.1 ip.1 p.2 ip.2)
      have ar' : Ars l' := ars.perm pl
      refine ⟨_, rfl, _, rfl, d, D9, n, _, rfl, nD3, SqL.of eD3, by omega, di6, by omega, fun q3 ys H4 nq3 fq3 k4 hq3 pm di4 => ?_⟩
      obtain ⟨k, pk, rfl⟩ := perm_map pm
      have ek := ars_lines ar' pk
      refine ⟨q3, _, rfl, hq3, fun v m => ⟨(lnsP k pk H4 v m).1, fun z e => Nat.le_trans ((lnsP k pk H4 v m).2 z e) (by decide)⟩, .inl (by rw [List.length_map, pk.length_eq]; omega), ⟨fun i e => ?_, fun l2 e nb => ?_, fun l2 e ok2 l3 q5 H5 p3 srt3 s7 nq5 hq5 => ?_⟩⟩
      · rw [ek] at e
        cases e
      · rw [ek] at e
        cases e
        have := pk.length_eq
        have := pl.length_eq
        exact absurd ⟨by omega, by omega⟩ nb
      rw [ek] at e
      cases e
      have k5 : Kp d H H5 := ((Kp.same s6).trans k4).trans (Kp.same s7)
      have ha5 := k5 _ _ nad ha
      have di5 := di4.same s7
      have eD5 := s7 _ _ (k4 _ _ nD3 eD3)
      refine ⟨_, rfl, q5, a, _, _, rfl, rfl, hq5, ha5, flat_dkv, flat_dkv, _, rfl, ?_⟩
      rw [eqD_perm okl.nd ((p3.trans pk).trans pl)]
      refine if_false_of (by decide) ?_
      have lD : (l'.map lnV).length ≤ 4 := lnl
      generalize (l'.map lnV).length = n0 at di5 lD
      refine ⟨6, rfl, by decide, by decide, for_range (lo := 0) (n := (6 : Int).toNat) (fun j σ G => ∃ v4 v5 v6 v7 v8 : Option V, σ = [some (.ref d), some (.ref a), some (.ref D9), some (.ref x1), v4, v5, v6, v7, v8, none] ∧ Kp d H5 G ∧ Dice G d (n + n0 + 20 * j))
        ⟨none, none, none, none, none, rfl, Kp.refl d H5, di5⟩ ?_ ?_⟩
      · rintro j σ G hj ⟨v4, v5, v6, v7, v8, rfl, kG, dG⟩
        have hj' : j < 6 := hj
        have eDG := kG _ _ nD3 eD5
        refine ⟨_, rfl, _, rfl, d, D9, _, _, rfl, nD3, SqL.of eDG, by rw [List.length_map]; omega, dG, by rw [List.length_map]; omega, fun q4 ys G1 nq4 fq4 k6 hq4 pm4 di7 => ?_⟩
        obtain ⟨k1, pk1, rfl⟩ := perm_map pm4
        have l1 : (l'.map lnV).length ≤ 4 := by rw [List.length_map]; omega
        generalize (l'.map lnV).length = n1 at di7 l1
        refine ⟨_, rfl, d, 2, _, rfl, di7, by omega, by decide, by decide, fun r o6 r0 r1' di8 => ?_⟩
        have k7 : Kp d H5 (upd G1 d o6) := (kG.trans k6).trans Kp.upd
        have hq5' : (upd G1 d o6) q4 = some (.lst (k1.map lnV)) := by rw [upd_ne nq4]; exact hq4
        generalize upd G1 d o6 = G2 at k7 hq5' di8 ⊢
        have lk1 : 1 ≤ (k1.map lnV).length ∧ (k1.map lnV).length ≤ 4 := by rw [List.length_map, pk1.length_eq, pl.length_eq]; omega
        have lb1 : ∀ v ∈ k1.map lnV, Lb (bnd 0) (Hm d G2) v := fun v m => lnsP k1 pk1 _ v m
        generalize k1.map lnV = ws at hq5' lk1 lb1
        have re : (1 : Int) + r = (((1 + r).toNat : Nat) : Int) := by omega
        refine ⟨_, _, rfl, rfl, 1 + r, rfl, by omega, by omega, for_range (lo := 0) (n := (1 + r).toNat) (fun i σ G => ∃ (v6 v7 v8 : Option V) (q : Addr) (us : List V), σ = [some (.ref d), some (.ref a), some (.ref D9), some (.ref x1), some (.int (0 + (j : Int))), some (.ref q), v6, v7, v8, none] ∧ Kp d H5 G ∧ q ≠ d ∧ G q = some (.lst us) ∧ 1 ≤ us.length ∧ us.length ≤ 4 + i ∧ (∀ v ∈ us, Lb (bnd i) (Hm d G) v) ∧ Dice G d (n + n0 + 20 * j + n1 + 1 + 5 * i))
          ⟨v6, v7, v8, q4, ws, rfl, k7, nq4, hq5', lk1.1, lk1.2, lb1, di8⟩ ?_ ?_⟩
        · rintro i σ G hi ⟨w6, w7, w8, q5, us, rfl, kI, nq5, hq6, u1, u4, lbs, dI⟩
          have hi' : i < (1 + r).toNat := hi
          have i1 : i ≤ 1 := by omega
          have bi : 13 ≤ bnd i ∧ bnd i ≤ 59 := by
            rcases (show i = 0 ∨ i = 1 by omega) with rfl | rfl <;> decide
          refine ⟨_, rfl, _, rfl, q5, us, rfl, .inl (SqL.of hq6), d, (us.length : Int), _, rfl, dI, by omega, by omega, by omega, fun r2 o2 r20 r21 dI2 => ?_⟩
          obtain ⟨at_, rfl⟩ := Int.eq_ofNat_of_zero_le r20
          have ha_ : at_ < us.length := by omega
          have k1 : Kp d H5 (upd G d o2) := kI.trans Kp.upd
          have hq7 : (upd G d o2) q5 = some (.lst us) := by rw [upd_ne nq5]; exact hq6
          have lb7 : ∀ v ∈ us, Lb (bnd i) (Hm d (upd G d o2)) v := fun v m => (lbs v m).same (Kp.upd (o := o2)).hm
          generalize upd G d o2 = J1 at k1 hq7 lb7 dI2 ⊢
          refine ⟨_, rfl, q5, us, at_, bnd i, rfl, rfl, hq7, ha_, fun v m => (lb7 v m).ln (by omega), fun v m => (lb7 v m).2, bi.1, fun z p J2 s2 ez zl => ?_⟩
          refine ⟨d, z, p, _, bnd i, rfl, ez, zl, by omega, dI2.same s2, by omega, fun v J3 k3 d3 lv => ?_⟩
          have hq8 : J3 q5 = some (.lst us) := k3 _ _ nq5 (s2 _ _ hq7)
          have lb8 : ∀ v ∈ us, Lb (bnd i) (Hm d J3) v := fun v m => ((lb7 v m).same (Same.hm s2)).same k3.hm
          have k4' := (k1.trans (Kp.same s2)).trans k3
          clear hq7 lb7 k1 s2 k3 dI2
          obtain ⟨ds3, hd3⟩ := d3.there
          refine ⟨_, rfl, noPart ⟨_, rfl, (at_ : Int), rfl, q5, us, rfl, SqL.of hq8, fun p1 np1 => ?_⟩⟩
          rw [cut_toV (by omega)]
          have t1 := Same.new np1 (o := .lst (us.take at_))
          have hp1 : (upd J3 p1 (.lst (us.take at_))) p1 = some (.lst (us.take at_)) := upd_same
          generalize upd J3 p1 (.lst (us.take at_)) = J4 at t1 hp1 ⊢
          refine ⟨_, rfl, by show 1 ≤ sizeLine; decide, fun p2 np2 => ?_⟩
          have t2 := t1.trans (Same.new np2 (o := .lst [v]))
          have hp2 : (upd J4 p2 (.lst [v])) p2 = some (.lst [v]) := upd_same
          have hp1' := (Same.new np2 (o := .lst [v])) _ _ hp1
          generalize upd J4 p2 (.lst [v]) = J5 at t2 hp2 hp1' ⊢
          refine ⟨p1, p2, _, _, rfl, rfl, hp1', hp2, by rw [List.length_take, sizeLine_eq]; simp; omega, fun p3 np3 => ?_⟩
          have t3 := t2.trans (Same.new np3 (o := .lst (us.take at_ ++ [v])))
          have hp3 : (upd J5 p3 (.lst (us.take at_ ++ [v]))) p3 = some (.lst (us.take at_ ++ [v])) := upd_same
          generalize upd J5 p3 (.lst (us.take at_ ++ [v])) = J6 at t3 hp3 ⊢
          have np3d : p3 ≠ d := fun e => by
            subst e
            rw [t2 _ _ hd3] at np3
            cases np3
          refine ⟨_, rfl, _, rfl, _, rfl, d, 2, _, rfl, d3.same t3, by omega, by decide, by decide, fun r3 o3 r30 r31 d4 => ?_⟩
          obtain ⟨r3, rfl⟩ := Int.eq_ofNat_of_zero_le r30
          have k5' : Kp d H5 (upd J6 d o3) := (k4'.trans (Kp.same t3)).trans Kp.upd
          have hp4 : (upd J6 d o3) p3 = some (.lst (us.take at_ ++ [v])) := by rw [upd_ne np3d]; exact hp3
          have hq9 : (upd J6 d o3) q5 = some (.lst us) := by rw [upd_ne nq5]; exact t3 _ _ hq8
          have kk : Kp d J3 (upd J6 d o3) := (Kp.same t3).trans Kp.upd
          generalize upd J6 d o3 = J7 at k5' hp4 hq9 kk d4 ⊢
          refine ⟨_, _, rfl, rfl, _, rfl, noPart ⟨q5, us, rfl, SqL.of hq9, fun p4 np4 => ?_⟩⟩
          rw [show ((at_ : Int) + (r3 : Int)) = ((at_ + r3 : Nat) : Int) by omega, cut_fromV]
          have u1' := Same.new np4 (o := .lst (us.drop (at_ + r3)))
          have hp5 := u1' _ _ hp4
          have hp6 : (upd J7 p4 (.lst (us.drop (at_ + r3)))) p4 = some (.lst (us.drop (at_ + r3))) := upd_same
          generalize upd J7 p4 (.lst (us.drop (at_ + r3))) = J8 at u1' hp5 hp6 ⊢
          refine ⟨p3, p4, _, _, rfl, rfl, hp5, hp6, by rw [List.length_append, List.length_take, List.length_drop, sizeLine_eq]; simp; omega, fun p5 np5 => ?_⟩
          have u2' := u1'.trans (Same.new np5 (o := .lst (us.take at_ ++ [v] ++ us.drop (at_ + r3))))
          have hd8 : ∃ o, J8 d = some o := by
            obtain ⟨ds7, hd7⟩ := d4.there
            exact ⟨_, u1' _ _ hd7⟩
          obtain ⟨od8, hd8⟩ := hd8
          have np5d : p5 ≠ d := (ne_of_none hd8 np5).symm
          have sub : Same (Hm d J3) (Hm d (upd J8 p5 (.lst (us.take at_ ++ [v] ++ us.drop (at_ + r3))))) := (kk.trans (Kp.same u2')).hm
          refine ⟨some (.int (0 + (i : Int))), some (.int (at_ : Int)), some v, p5, us.take at_ ++ [v] ++ us.drop (at_ + r3), rfl, k5'.trans (Kp.same u2'), np5d, upd_same, ?_, ?_, fun y m => ?_, (d4.same u2').more (by omega) (by omega)⟩
          · rw [List.length_append, List.length_append]
            simp
            omega
          · rw [List.length_append, List.length_append, List.length_take, List.length_drop]
            simp
            omega
          · have bs : bnd (i + 1) = 3 * bnd i + 20 := rfl
            rcases List.mem_append.mp m with m | m
            · rcases List.mem_append.mp m with m | m
              · exact ((lb8 y (List.mem_of_mem_take m)).same sub).le (by omega)
              · rw [List.mem_singleton.mp m]
                exact (lv.same sub).le (by omega)
            · exact ((lb8 y (List.mem_of_mem_drop m)).same sub).le (by omega)
        · rintro σ G ⟨w6, w7, w8, q5, us, rfl, kI, nq5, hq6, u1, u4, lbs, dI⟩
          have bi : bnd (1 + r).toNat ≤ 1000 := by
            rcases (show (1 + r).toNat = 1 ∨ (1 + r).toNat = 2 by omega) with e | e <;> rw [e] <;> decide
          have fin : ∀ G', Same G G' → ∃ v4 v5 v6 v7 v8 : Option V, [some (.ref d), some (.ref a), some (.ref D9), some (.ref x1), some (.int (0 + (j : Int))), some (.ref q5), w6, w7, w8, none] = [some (.ref d), some (.ref a), some (.ref D9), some (.ref x1), v4, v5, v6, v7, v8, none] ∧ Kp d H5 G' ∧ Dice G' d (n + n0 + 20 * (j + 1)) :=
            fun G' s => ⟨_, _, _, _, _, rfl, kI.trans (Kp.same s), (dI.same s).more (by omega) (by omega)⟩
          have lns : ∀ v ∈ us.take 5, Ln G v := fun v m => (lbs v (List.mem_of_mem_take m)).ln (by omega)
          have l5 : (us.take 5).length ≤ 5 := by rw [List.length_take]; omega
          refine ⟨_, rfl, noPart ⟨5, rfl, q5, us, rfl, SqL.of hq6, fun p1 np1 => ?_⟩⟩
          rw [cut5]
          have s1 := Same.new np1 (o := .lst (us.take 5))
          have hp1 : (upd G p1 (.lst (us.take 5))) p1 = some (.lst (us.take 5)) := upd_same
          generalize upd G p1 (.lst (us.take 5)) = G1 at s1 hp1 ⊢
          refine ⟨p1, _, rfl, hp1, fun v m => (lns v m).same s1, .inl l5, ⟨fun ie e G2 s2 => ?_, fun l2 e nb G2 s2 => ?_, fun l2 e ok2 l3 d2 G2 pm3 srt3 s2 nd2 hd2 => ?_⟩⟩
          · have il := rd_below e
            have pl_ := pw_len ie (by omega)
            refine ⟨_, 0, _, rfl, Sc.str _ (by rw [sizeLine_eq]; omega), by decide, by rw [sizeLine_eq]; omega, ?_⟩
            refine ⟨_, rfl, noPart ⟨5, rfl, q5, us, rfl, SqL.of ((s1.trans s2) _ _ hq6), fun p2 np2 => ?_⟩⟩
            rw [cut5]
            have s3 := (s1.trans s2).trans (Same.new np2 (o := .lst (us.take 5)))
            refine ⟨p2, _, rfl, upd_same, fun v m => (lns v m).same s3, by omega, fun i2 e2 G3 s4 => ?_, fun l4 e2 => ?_, fun l4 e2 => ?_⟩
            · rw [e] at e2
              cases e2
              refine ⟨_, rfl, .inl ⟨_, rfl, fun G4 s5 => ?_⟩⟩
              refine ⟨_, 0, _, rfl, Sc.str _ (by rw [sizeLine_eq]; omega), by decide, by rw [sizeLine_eq]; omega, same_text ⟨_, rfl, fin _ ((s3.trans s4).trans s5)⟩⟩
            · rw [e] at e2
              cases e2
            · rw [e] at e2
              cases e2
          · refine ⟨_, 0, _, rfl, Sc.str _ (by rw [sizeLine_eq]; decide +kernel), by decide, by rw [sizeLine_eq]; decide +kernel, ?_⟩
            refine ⟨_, rfl, noPart ⟨5, rfl, q5, us, rfl, SqL.of ((s1.trans s2) _ _ hq6), fun p2 np2 => ?_⟩⟩
            rw [cut5]
            have s3 := (s1.trans s2).trans (Same.new np2 (o := .lst (us.take 5)))
            refine ⟨p2, _, rfl, upd_same, fun v m => (lns v m).same s3, by omega, fun i2 e2 => ?_, fun l4 e2 nb4 G3 s4 => ?_, fun l4 e2 ok4 => ?_⟩
            · rw [e] at e2
              cases e2
            · refine ⟨_, rfl, .inl ⟨_, rfl, fun G4 s5 => ?_⟩⟩
              refine ⟨_, 0, _, rfl, Sc.str _ (by rw [sizeLine_eq]; decide +kernel), by decide, by rw [sizeLine_eq]; decide +kernel, same_text ⟨_, rfl, fin _ ((s3.trans s4).trans s5)⟩⟩
            · rw [e] at e2
              cases e2
              exact absurd ok4.few nb
          · have ok3 : OpsOk l3 := ⟨by rw [pm3.length_eq]; exact ok2.few, (pm3.map _).nodup_iff.mpr ok2.nd, fun p m => ok2.name p (pm3.mem_iff.mp m), fun p m => ok2.two p (pm3.mem_iff.mp m)⟩
            have sh3 := sh_ars hd2 ok3
            refine ⟨_, 1, _, rfl, sh3.1, by decide, sh3.2, ?_⟩
            refine ⟨_, rfl, noPart ⟨5, rfl, q5, us, rfl, SqL.of ((s1.trans s2) _ _ hq6), fun p2 np2 => ?_⟩⟩
            rw [cut5]
            have s3 := (s1.trans s2).trans (Same.new np2 (o := .lst (us.take 5)))
            refine ⟨p2, _, rfl, upd_same, fun v m => (lns v m).same s3, by omega, fun i2 e2 => ?_, fun l4 e2 nb4 => ?_, fun l4 e2 ok4 q6 G3 s4 nq6 hq6' => ?_⟩
            · rw [e] at e2
              cases e2
            · rw [e] at e2
              cases e2
              exact absurd ok2.few nb4
            · rw [e] at e2
              cases e2
              refine ⟨_, rfl, .inr ⟨q6, l2, rfl, hq6', ok2, fun l6 q7 G4 pm6 srt6 s5 nq7 hq7 => ?_⟩⟩
              have e36 : l3 = l6 := rows_one (pm3.trans pm6.symm) srt3 srt6 ok3.nd
              subst e36
              have sh6 := sh_ars hq7 ok3
              exact ⟨_, 1, _, rfl, sh6.1, by decide, sh6.2, same_text ⟨_, rfl, fin _ ((s3.trans s4).trans s5)⟩⟩
      · rintro σ G ⟨v4, v5, v6, v7, v8, rfl, kG, dG⟩
        exact q G (k5.trans kG) (dG.more (by show n + n0 + 20 * 6 ≤ n + 200; omega) (by omega))
end
end Pr
namespace Pr
open PySem PySem.Spec PyProof.Rows L2 Gd TL
/-! ### law -/
def spLaw (K : PySem.W.Frag) : Sp := fun vs H Q _ => ∃ (a : Addr) (ns : List Int), vs = [.ref a] ∧ SqL K H a (ns.map V.int) ∧ ns.length ≤ 63 ∧ ∀ H', Q (.bl true) H'
def spots (n : Int) : Int := if (if n < 5 then n else 5) > 1 then (if n < 5 then n else 5) else 1
theorem spots_le (n : Int) : 1 ≤ spots n ∧ spots n ≤ 5 := by
  unfold spots
  split <;> split <;> omega
/-- the letters of a text, each with one number -/
def lettersL (x : Str) (n : Nat) : List (Str × Nat) := x.cps.toList.map fun c => ((⟨#[c]⟩ : Str), n)
theorem letters_at {x : Str} {n i c : Nat} (h : x.cps[i]? = some c) : (lettersL x n)[i]? = some ((⟨#[c]⟩ : Str), n) := by
  have hc' : x.cps.toList[i]? = some c := by simpa using h
  unfold lettersL
  rw [List.getElem?_map, hc']
  rfl
theorem letters_size {x : Str} {n : Nat} : (lettersL x n).length = x.cps.size := by
  unfold lettersL
  simp
abbrev l9 : List (Str × Nat) := lettersL "abcdefghi" 1
abbrev l8 : List (Str × Nat) := lettersL "abcdefgh" 0
theorem l9_spl : ∀ p ∈ l9, spl (tl " ") 0 [] (tl (lnS p)) = [tl "op", tl p.1, tl "1"] := by decide +kernel
theorem l9_az : ∀ p ∈ l9, azB p.1 = true ∧ p.2 = 1 := by decide +kernel
theorem l9_len : ∀ p ∈ l9, (lnS p).length ≤ 13 := by decide +kernel
theorem l9_line : ∀ c ∈ ("abcdefghi" : Str).cps.toList, ("op " : Str) ++ ⟨#[c]⟩ ++ " 1" = lnS ((⟨#[c]⟩ : Str), 1) := by decide +kernel
theorem l9_back {p : Str × Nat} (m : p ∈ l9) : lineOf (lnV p) = some p := by
  have e1 : sp (lnS p) = [("op" : Str), p.1, "1"] := by
    refine map_tl_inj ?_
    rw [sp_map, l9_spl p m]
    rfl
  show lineL (sp (lnS p)) = _
  obtain ⟨az, p2⟩ := l9_az p m
  rw [e1]
  show (if ("op" : Str) = "op" then (if azB p.1 = true then (dig "1").map fun k => (p.1, k) else none) else none) = _
  rw [if_pos rfl, if_pos az, show dig "1" = some 1 by decide +kernel]
  show some (p.1, 1) = some p
  rw [← p2]
/-- rows of lines that are read back, whose names are each once -/
theorem rd_backG : ∀ {k l : List (Str × Nat)} {i : Nat}, (∀ p ∈ k, lineOf (lnV p) = some p) → ((l ++ k).map (·.1)).Nodup → rd i l (k.map lnV) = .inr (l ++ k)
  | [], l, i, _, _ => by rw [List.append_nil]; rfl
  | p :: k, l, i, h, nd => by
    have e := h p List.mem_cons_self
    have n : p.1 ∉ l.map (·.1) := by
      rw [List.map_append, List.nodup_append] at nd
      exact fun m => nd.2.2 p.1 m p.1 (by simp) rfl
    show rd i l (lnV p :: k.map lnV) = _
    rw [rd_more e n, rd_backG (fun q m => h q (List.mem_cons_of_mem _ m)) (by rw [List.append_assoc]; exact nd), List.append_assoc]
    rfl
theorem rd_nine : rd 0 [] (l9.map lnV) = .inr l9 := by
  rw [rd_backG (k := l9) (l := []) (fun p m => l9_back m) (by decide +kernel), List.nil_append]
theorem l8_ok : OpsOk l8 := ⟨by decide +kernel, by decide +kernel, by decide +kernel, by decide +kernel⟩
theorem c_line : lineOf (.str "op c 0") = some (("c" : Str), 0) := by
  have e2 : V.str "op c 0" = lnV (("c" : Str), 0) := by decide +kernel
  rw [e2]
  exact line_back (by decide +kernel) (by decide)
theorem rd_twice : rd 0 [] [V.str "op c 0", V.str "op c 0"] = .inl 1 := by
  rw [rd_more c_line (by simp), rd_again c_line (by simp)]
/-- what is known of the law's own defs -/
structure LW (P : Program) (w : World) (K : PySem.W.Frag) (mg : Str → Option Value) (base : Heap) (fD fA fL fX : Addr) (dD dA dL dX : FuncData) : Prop where
  FD : Fun K "_law_dice" "_law_dice" sDice fD dD
  bD : Binds K dD ["script", "spot"] []
  gD : mg "_law_dice" = some (.ref fD)
  FA : Fun K "_law_arities" "_law_arities" sArs fA dA
  bA : Binds K dA ["dice"] []
  gA : mg "_law_arities" = some (.ref fA)
  FL : Fun K "_law_lines_right" "_law_lines_right" sLines fL dL
  bL : Binds K dL ["dice", "arities"] []
  gL : mg "_law_lines_right" = some (.ref fL)
  FX : Fun K "_law_dicts_right" "_law_dicts_right" sDicts fX dX
  bX : Binds K dX ["dice", "arities"] []
  gX : mg "_law_dicts_right" = some (.ref fX)
section
variable {P : Program} {w : World} {K : PySem.W.Frag} {mg : Str → Option Value} {base : Heap} {C CI fI pA gA fR fP fM pL gPL fN fL fQ fS fU fIt fLn fNm fM7 fO fE hD hA hL hX : Addr} {dI dA dR dP dM dPL dN dL dQ dS dU dIt dLn dNm dM7 dO dE xD xA xL xX : FuncData}
theorem scLaw : FnScope ["script", "spot", "dice", "arities", "lines", "eight", "told", "name"] ["script"] (defScope sLaw) := ⟨rfl, rfl, rfl, by decide +kernel, rfl, by decide +kernel, by decide +kernel⟩
theorem ok_law {f : Addr} {fd : FuncData} (F : Fun K "law" "law" sLaw f fd) (D : Draws K mg fR fP fM dR dP dM) (T : Free mg) (O : OpsC P w K mg base C CI fI pA gA dI dA) (Z : LF P w K mg base C pL gPL fN fL fQ fS fU fIt fLn fNm dPL dN dL dQ dS dU dIt dLn dNm)
    (Y : DF P w K mg base C fNm fM7 fS fO fE dNm dM7 dS dO dE) (W : LW P w K mg base hD hA hL hX xD xA xL xX) : FnG P w K mg base CX0 8 f fd ["script"] (spLaw K) := by
  have GD : FnOk P w K mg base CX0 1 hD xD ["script", "spot"] (spDice K) := ok_dice W.FD T
  have GA : FnOk P w K mg base CX0 3 hA xA ["dice"] spArs := ok_ars W.FA D T
  have GL : FnG P w K mg base CX0 7 hL xL ["dice", "arities"] spLines := ok_lines W.FL D T O Z
  have GX : FnOk P w K mg base CX0 6 hX xX ["dice", "arities"] spDicts := ok_dicts W.FX D T O Y
  refine FnG.ok F scLaw (fun vs H Q E h => ?_) (fun cdv A0 outer s H vs Q E hr gd h => ?_)
  · obtain ⟨a, ns, rfl, _⟩ := h
    rfl
  · obtain ⟨a, ns, rfl, hS, hlen, q⟩ := h
    have hu := hr.units
    have hu0 : ∀ {u : Nat}, u + 64 < cLine → u < cLine := fun h => by omega
    have r1 : Room 1 _ := hr.mono (by decide)
    have r3 : Room 3 _ := hr.mono (by decide)
    have r5 : Room 5 _ := hr.mono (by decide)
    have r6 : Room 6 _ := hr.mono (by decide)
    have r7 : Room 7 _ := hr.mono (by decide)
    refine ⟨_, pss_cons (ps_for PassesOwn.never rfl (pi_range1 rfl T.range (pa_cons (pe_callB (call_max2 rfl) (by rfl) T.max (by decide +kernel) (pa_cons pe_int (pa_cons (pe_callB (call_min2 rfl) (by rfl) T.min (by decide +kernel) (pa_cons pe_int (pa_cons (pe_callB call_len_seq (by rfl) T.len PySem.boot_len (pa_cons (pv 0) pa_nil)) pa_nil))) pa_nil))) pa_nil)) (pg_name (i := 1) scLaw.nd rfl (.inl rfl))
        (pss_cons (ps_set (i := 2) scLaw.nd rfl (.inl rfl) (pe_call GD r1 (by rfl) W.gD W.FD.kp W.bD .nil pass0 (pa_cons (pv 0) (pa_cons (pv 1) pa_nil))))
        (pss_cons (ps_set (i := 3) scLaw.nd rfl (.inl rfl) (pe_call GA r3 (by rfl) W.gA W.FA.kp W.bA .nil pass0 (pa_cons (pv 2) pa_nil)))
        (pss_one (ps_if (PW.pt (pw_or (pt_not (pt_val (pe_callG GL r7 gd (by rfl) W.gL W.FL.kp W.bL pass0 (pa_cons (pv 2) (pa_cons (pv 3) pa_nil))))) (pw_or1 (pt_not (pt_val (pe_call GX r6 (by rfl) W.gX W.FX.kp W.bX .nil pass0 (pa_cons (pv 2) (pa_cons (pv 3) pa_nil)))))))) (pss_one ps_never) pss_nil)))))
      (pss_cons (ps_setLc (i := 4) (own := [("name", 7)]) (g := gName 7) (by rfl) scLaw.nd rfl rfl (sw_true rfl rfl rfl (by decide +kernel)) (pi_str pe_str) (blkOk_by (own := [("name", 7)]) (N := ["script", "spot", "dice", "arities", "lines", "eight", "told", "name"]) (sc := defScope sLaw) (by decide +kernel)) (fun _ _ _ _ _ => pg_name (i := 7) scLaw.nd rfl (Or.inl rfl)) (fun _ _ _ _ _ => pts_nil) (fun _ _ _ _ _ => (pe_op op_add_str (pe_op op_add_str pe_str (pv 7)) pe_str)))
      (pss_cons (ps_set (i := 5) scLaw.nd rfl (.inl rfl) (pe_callTy (call_dictP rfl) (by rfl) T.dict (by decide +kernel) (pa_cons (pe_lc (own := [("name", 7)]) (g := gName 7) (by rfl) scLaw.nd (pi_str pe_str) (blkOk_by (own := [("name", 7)]) (N := ["script", "spot", "dice", "arities", "lines", "eight", "told", "name"]) (sc := defScope sLaw) (by decide +kernel))
        (fun _ _ _ _ _ => pg_name (i := 7) scLaw.nd rfl (Or.inl rfl)) (fun _ _ _ _ _ => pts_nil) (fun _ _ _ _ _ => pe_tup (pa_cons (pv 7) (pa_cons pe_int pa_nil)))) pa_nil)))
      (pss_cons (ps_set (i := 6) scLaw.nd rfl (.inl rfl) (pe_lst (pa_cons (pe_call Z.GQ r6 (by rfl) Z.gQ Z.FQ.kp Z.bQ .nil pass0 (pa_cons (pe_lst pa_nil) pa_nil)) (pa_cons (pe_call Z.GQ r6 (by rfl) Z.gQ Z.FQ.kp Z.bQ .nil pass0 (pa_cons (pv 4) pa_nil))
        (pa_cons (pe_call Y.GM r5 (by rfl) Y.gM Y.FM.kp Y.bM .nil pass0 (pa_cons pe_dnewK pa_nil)) (pa_cons (pe_cmpR (op_eq_dictB (hu0 hu)) (pe_call Y.GM r5 (by rfl) Y.gM Y.FM.kp Y.bM .nil pass0 (pa_cons (pv 5) pa_nil)) (pv 5) (nomark _)) pa_nil))))))
      (pss_one (ps_ret (pe_and (pe_cmpR (op_eqL hu) (pv 6) (pe_lst (pa_cons pe_str (pa_cons pe_str (pa_cons pe_str (pa_cons pe_bl pa_nil))))) (nomark _)) (pe_one (pe_cmpR op_eq (pe_call Z.GQ r6 (by rfl) Z.gQ Z.FQ.kp Z.bQ .nil pass0 (pa_cons (pe_lst (pa_cons pe_str (pa_cons pe_str pa_nil))) pa_nil)) pe_str (nomark _))))))))), ?_⟩
    have sl := spots_le (ns.map V.int).length
    refine ⟨_, rfl, a, _, rfl, .inl hS, _, _, rfl, _, _, rfl, _, rfl, by show -(2 ^ 62) ≤ spots _; omega, by show spots _ < 2 ^ 62; omega, ?_⟩
    refine for_range (lo := 0) (n := (spots (ns.map V.int).length).toNat) (fun i σ H' => ∃ v1 v2 v3 : Option V, σ = [some (.ref a), v1, v2, v3, none, none, none, none] ∧ Same H H')
      ⟨none, none, none, rfl, Same.refl H⟩ ?_ ?_
    · rintro i σ H0 hi ⟨v1, v2, v3, rfl, s0⟩
      have hi' : i < 64 := by omega
      refine ⟨_, rfl, _, rfl, a, ns, i, by simp, s0.seq hS, hi', fun d H1 nd s1 di => ?_⟩
      refine ⟨_, rfl, d, 0, rfl, di, by decide, fun ad l0 H2 nad nad0 k2 had ars di2 => ?_⟩
      refine ⟨_, rfl, _, rfl, d, ad, l0, 40, rfl, nad, had, ars, di2, by decide, fun H3 k3 di3 => ⟨_, rfl, if_false_of rfl ?_⟩⟩
      refine ⟨_, rfl, _, rfl, d, ad, l0, 240, rfl, nad, k3 _ _ nad had, ars, di3, by decide, fun H4 k4 di4 => ⟨_, rfl, if_false_of rfl ?_⟩⟩
      exact ⟨_, _, _, rfl, s0.trans (Kp.over nd s1 ((k2.trans k3).trans k4))⟩
    · rintro σ H1 ⟨v1, v2, v3, rfl, s1⟩
      refine ⟨"abcdefghi", rfl, fun D nD => ?_⟩
      refine lc_signs (x := "abcdefghi") (fun i G => G D = some (.lst ((l9.take i).map lnV)) ∧ Same H1 G) ⟨upd_same, Same.new nD⟩ ?_ ?_
      · rintro i c G hc ⟨eD, s⟩
        have hp := letters_at (n := 1) hc
        have mc : c ∈ ("abcdefghi" : Str).cps.toList := Array.mem_toList_iff.mpr (Array.mem_of_getElem? hc)
        have el := l9_line c mc
        refine ⟨rfl, _, rfl, _, _, rfl, rfl, by rw [sizeLine_eq]; exact Nat.le_of_ble_eq_true rfl, _, _, rfl, rfl, by rw [strLen_append, sizeLine_eq]; exact Nat.le_of_ble_eq_true rfl, _, eD, ?_, ?_, fun b u e => by rw [upd_ne (ne_of_none e nD)]; exact s b u e⟩
        · rw [List.length_map, List.length_take, sizeLine_eq]
          have : l9.length = 9 := by decide +kernel
          omega
        · rw [upd_same, List.take_add_one, hp, List.map_append, el]
          rfl
      · rintro G ⟨eD, s⟩
        rw [← letters_size (n := 1), List.take_of_length_le (Nat.le_refl _)] at eD
        refine ⟨"abcdefgh", rfl, fun E nE => ?_⟩
        refine lc_signs (x := "abcdefgh") (fun i G' => ∃ ps : List Addr, G' E = some (.lst (ps.map V.ref)) ∧ Paired (fun p kv => G' p = some (.tup [kV kv.1, kv.2])) ps (dkv (l8.take i)) ∧ ps.length = i ∧ Same G G') ⟨[], upd_same, .nil, rfl, Same.new nE⟩ ?_ ?_
        · rintro i c G' hc ⟨ps, eE, pr, lp, s'⟩
          have hp := letters_at (n := 0) hc
          have il : i < ("abcdefgh" : Str).cps.size := (Array.getElem?_eq_some_iff.mp hc).1
          have il : i < 8 := il
          refine ⟨rfl, _, rfl, by show 2 ≤ sizeLine; decide, fun t nt => ?_⟩
          have st := Same.new nt (o := .tup [.str (⟨#[c]⟩ : Str), .int 0])
          have tE : E ≠ t := ne_of_none eE nt
          refine ⟨ps.map V.ref, st _ _ eE, by rw [List.length_map, lp, sizeLine_eq]; omega, ps ++ [t], by rw [upd_same, List.map_append]; rfl, ?_, by rw [List.length_append, lp]; rfl, fun b u e => by rw [upd_ne (ne_of_none e nE)]; exact st b u (s' b u e)⟩
          have nDt : ∀ b u, b ≠ E → G' b = some u → (upd (upd G' t (.tup [.str (⟨#[c]⟩ : Str), .int 0])) E (.lst (ps.map V.ref ++ [V.ref t]))) b = some u := fun b u nb e => by
            rw [upd_ne nb]
            exact st b u e
          have e : dkv (l8.take (i + 1)) = dkv (l8.take i) ++ [((.inr (⟨#[c]⟩ : Str) : Key), V.int 0)] := by
            rw [List.take_add_one, hp]
            unfold dkv
            rw [List.map_append]
            rfl
          rw [e]
          refine paired_snoc (paired_map (fun x y h => nDt x _ (fun c => by rw [c, eE] at h; cases h) h) pr) ?_
          show (upd (upd G' t (.tup [.str (⟨#[c]⟩ : Str), .int 0])) E _) t = _
          rw [upd_ne tE.symm, upd_same]
          rfl
        · rintro G' ⟨ps, eE, pr, lp, s'⟩
          rw [← letters_size (n := 0), List.take_of_length_le (Nat.le_refl _)] at pr
          refine ⟨E, ps, dkv l8, rfl, SqL.of eE, paired_map (fun x y h => SqT.of h) pr, fun A nA => ?_⟩
          rw [merge_all l8_ok.nd]
          have hA : (upd G' A (.dK (dkv l8))) A = some (.dK (dkv l8)) := upd_same
          have eD2 : (upd G' A (.dK (dkv l8))) D = some (.lst (l9.map lnV)) := (Same.new nA) _ _ (s' _ _ eD)
          generalize upd G' A (.dK (dkv l8)) = J0 at hA eD2 ⊢
          refine ⟨by show 0 ≤ sizeLine; decide, fun p0 np0 => ?_⟩
          refine ⟨p0, [], rfl, upd_same, fun v m => (nomatch m), .inl (by decide), ⟨fun i e => (by cases e), fun l e nb J1 s1 => ?_, fun l e ok => (by cases e; exact absurd ok.few (by decide))⟩⟩
          have s1 := (Same.new np0 (o := .lst [])).trans s1
          have hA1 := s1 _ _ hA
          have eD3 := s1 _ _ eD2
          refine ⟨_, rfl, D, _, rfl, eD3, fun v m => ?_, .inr (by decide +kernel), ⟨fun i e => (by rw [rd_nine] at e; cases e), fun l e nb J2 s2 => ?_, fun l e ok => (by rw [rd_nine] at e; cases e; exact absurd ok.few (by decide +kernel))⟩⟩
          · obtain ⟨p, mp, rfl⟩ := List.mem_map.mp m
            have := l9_len p mp
            exact ⟨⟨_, .str _⟩, fun z e => by cases e; omega⟩
          have hA2 := s2 _ _ hA1
          refine fun p3 np3 => ⟨.ref p3, goodK [], rfl, .dict upd_same ⟨.nil, by decide, fun p m => (nomatch m), fun p m => (nomatch m)⟩, fun bf J3 s3 => ?_, fun a l bt => ?_⟩
          case refine_2 =>
            have gf : goodK [] = false := by
              unfold goodK
              rfl
            rw [gf] at bt
            cases bt
          have hA3 := s3 _ _ ((Same.new np3) _ _ hA2)
          refine ⟨_, rfl, .ref A, goodK (dkv l8), rfl, .dict hA3 (good_of l8_ok).1, fun bf => ?_, fun a2 l2 bt ea ha2 ok2 l' q' J4 pl srt s4 nq hq => ?_⟩
          · rw [(good_of l8_ok).2] at bf
            cases bf
          cases ea
          rw [hA3] at ha2
          have e2 : l8 = l2 := dkv_inj (by
            injection ha2 with h
            injection h)
          subst e2
          refine ⟨_, rfl, q', A, _, _, rfl, rfl, hq, s4 _ _ hA3, flat_dkv, flat_dkv, ?_⟩
          rw [eqD_perm l8_ok.nd pl]
          refine ⟨by show 4 ≤ sizeLine; decide, fun tl1 nt1 => ?_⟩
          refine ⟨_, rfl, by show 4 ≤ sizeLine; decide, fun tl2 nt2 => ⟨tl1, tl2, _, _, rfl, rfl, SqL.of ((Same.new nt2) _ _ upd_same), SqL.of upd_same, .inr ⟨rfl, fun v m => ?_, _, rfl, iteT ?_⟩⟩⟩
          · rcases List.mem_cons.mp m with rfl | m
            · exact ⟨_, .str _⟩
            rcases List.mem_cons.mp m with rfl | m
            · exact ⟨_, .str _⟩
            rcases List.mem_cons.mp m with rfl | m
            · exact ⟨_, .str _⟩
            rw [List.mem_singleton.mp m]
            exact ⟨_, .bl _⟩
          refine ⟨by show 2 ≤ sizeLine; decide, fun p9 np9 => ⟨p9, _, rfl, upd_same, fun v m => ?_, .inl (by decide), ⟨fun i e J9 s9 => ?_, fun l e => (by rw [rd_twice] at e; cases e), fun l e => (by rw [rd_twice] at e; cases e)⟩⟩⟩
          · have : v = V.str "op c 0" := by
              rcases List.mem_cons.mp m with rfl | m
              · rfl
              · exact List.mem_singleton.mp m
            subst this
            exact ⟨⟨_, .str _⟩, fun z e => by cases e; decide⟩
          rw [rd_twice] at e
          cases e
          have pw1 : pw 1 = "parse 1" := by decide +kernel
          refine ⟨rfl, ?_⟩
          rw [show (decide (V.str (pw 1) = V.str "parse 1")) = true from decide_eq_true (congrArg V.str pw1)]
          exact q _
end
end Pr
namespace Pr
open PySem PySem.Spec PyProof.Rows L2 Gd
theorem exm_self {K : PySem.W.Frag} {S : Addr} (h1 : PySem.W.subIn K (.ref S) (.type "BaseException") = some true) (h2 : PySem.W.isClsIn K S = true) (h3 : PySem.W.typeIn K (.ref S) = some (.type "type")) (h4 : PySem.W.subIn K (.ref S) (.ref S) = some true) :
    PySem.W.exmOne K (.ref S) (.ref S) = some true := by
  have e1 : (PySem.W.subIn K (.ref S) (.type "BaseException") == some true) = true := by rw [h1] <;> rfl
  have e2 : ((PySem.W.clsIn K S).isSome && PySem.W.typeIn K (.ref S) == some (.type "type")) = true := by
    have h2' : (PySem.W.clsIn K S).isSome = true := h2
    rw [h2', h3] <;> rfl
  show (if (PySem.W.subIn K (.ref S) (.type "BaseException") == some true) = true then (if ((PySem.W.clsIn K S).isSome && PySem.W.typeIn K (.ref S) == some (.type "type")) = true then PySem.W.subIn K (.ref S) (.ref S) else none) else none) = some true
  rw [if_pos e1, if_pos e2]
  exact h4
theorem all_mk {P : Program} {w : World} {K : PySem.W.Frag} {h : Heap} {mg : Str → Option Value} {fa : Addr} (X : K.In h) (G : h.Ns mainGlobals mg) (hfa : mg "law" = some (.ref fa))
    {f1 : Addr} {od1 an1 : Option Addr} {sl1 : Array (Option Value)} {oc1 kV1 dc1 pm1 cd1 ct1 : Value}
    {f2 : Addr} {od2 an2 : Option Addr} {sl2 : Array (Option Value)} {oc2 kV2 dc2 pm2 cd2 ct2 : Value}
    {f3 : Addr} {od3 an3 : Option Addr} {sl3 : Array (Option Value)} {oc3 kV3 dc3 pm3 cd3 ct3 : Value}
    {f4 : Addr} {od4 an4 : Option Addr} {sl4 : Array (Option Value)} {oc4 kV4 dc4 pm4 cd4 ct4 : Value}
    {f5 : Addr} {od5 an5 : Option Addr} {sl5 : Array (Option Value)} {oc5 kV5 dc5 pm5 cd5 ct5 : Value}
    {f6 : Addr} {od6 an6 : Option Addr} {sl6 : Array (Option Value)} {oc6 kV6 dc6 pm6 cd6 ct6 : Value}
    {f7 : Addr} {od7 an7 : Option Addr} {sl7 : Array (Option Value)} {oc7 kV7 dc7 pm7 cd7 ct7 : Value}
    {f8 : Addr} {od8 an8 : Option Addr} {sl8 : Array (Option Value)} {oc8 kV8 dc8 pm8 cd8 ct8 : Value}
    {f9 : Addr} {od9 an9 : Option Addr} {sl9 : Array (Option Value)} {oc9 kV9 dc9 pm9 cd9 ct9 : Value}
    {f10 : Addr} {od10 an10 : Option Addr} {sl10 : Array (Option Value)} {oc10 kV10 dc10 pm10 cd10 ct10 : Value}
    {f11 : Addr} {od11 an11 : Option Addr} {sl11 : Array (Option Value)} {oc11 kV11 dc11 pm11 cd11 ct11 : Value}
    {f12 : Addr} {od12 an12 : Option Addr} {sl12 : Array (Option Value)} {oc12 kV12 dc12 pm12 cd12 ct12 : Value}
    {f13 : Addr} {od13 an13 : Option Addr} {sl13 : Array (Option Value)} {oc13 kV13 dc13 pm13 cd13 ct13 : Value}
    {f14 : Addr} {od14 an14 : Option Addr} {sl14 : Array (Option Value)} {oc14 kV14 dc14 pm14 cd14 ct14 : Value}
    {f15 : Addr} {od15 an15 : Option Addr} {sl15 : Array (Option Value)} {oc15 kV15 dc15 pm15 cd15 ct15 : Value}
    {f16 : Addr} {od16 an16 : Option Addr} {sl16 : Array (Option Value)} {oc16 kV16 dc16 pm16 cd16 ct16 : Value}
    {f17 : Addr} {od17 an17 : Option Addr} {sl17 : Array (Option Value)} {oc17 kV17 dc17 pm17 cd17 ct17 : Value}
    {f18 : Addr} {od18 an18 : Option Addr} {sl18 : Array (Option Value)} {oc18 kV18 dc18 pm18 cd18 ct18 : Value}
    {f19 : Addr} {od19 an19 : Option Addr} {sl19 : Array (Option Value)} {oc19 kV19 dc19 pm19 cd19 ct19 : Value}
    {f20 : Addr} {od20 an20 : Option Addr} {sl20 : Array (Option Value)} {oc20 kV20 dc20 pm20 cd20 ct20 : Value}
    {C : Addr}
    {f21 : Addr} {od21 an21 : Option Addr} {sl21 : Array (Option Value)} {oc21 kV21 dc21 pm21 cd21 ct21 : Value}
    {f22 : Addr} {od22 an22 : Option Addr} {sl22 : Array (Option Value)} {oc22 kV22 dc22 pm22 cd22 ct22 : Value}
    {f23 : Addr} {od23 an23 : Option Addr} {sl23 : Array (Option Value)} {oc23 kV23 dc23 pm23 cd23 ct23 : Value}
    {f24 : Addr} {od24 an24 : Option Addr} {sl24 : Array (Option Value)} {oc24 kV24 dc24 pm24 cd24 ct24 : Value}
    {f25 p25 : Addr} {r25 : List Value} {od25 an25 : Option Addr} {sl25 : Array (Option Value)} {oc25 kV25 dc25 pm25 cd25 ct25 : Value}
    {f26 p26 : Addr} {r26 : List Value} {od26 an26 : Option Addr} {sl26 : Array (Option Value)} {oc26 kV26 dc26 pm26 cd26 ct26 : Value}
    {f27 p27 : Addr} {r27 : List Value} {od27 an27 : Option Addr} {sl27 : Array (Option Value)} {oc27 kV27 dc27 pm27 cd27 ct27 : Value}
    {tk_MAX_OPERATORS : Tok}
    {tk_MAX_LETTERS : Tok}
    {CI : Addr}
    {C1 e1 : Addr} {xn1 xq1 : Str} {xN1 : Addr} {xb1 bm1 : List Value} {xs1 : List Str} {xu1 : List Value} {xa1 : Bool} {xc1 : Option Bool} {xd1 : Option Addr} {mq0 mq1 mq2 mq3 mq5 : Option Value} {xod1 xan1 : Option Addr} {xsl1 : Array (Option Value)} {xoc1 xdc1 xpm1 xcd1 xct1 : Value}
    (a1 : PySem.W.nsIn K mainGlobals "is_integer" = some (some (.ref f1)))
    (l1 : K.lookup f1 = some ⟨oc1, od1, .func (PySem.W.fnOf "is_integer" "is_integer" (defArgs sInteger) (defBody sInteger) (defScope sInteger) .none kV1 dc1 pm1 an1 cd1 ct1), sl1⟩)
    (c1 : PySem.W.codeIn K cd1 "is_integer" = true)
    (k1 : PySem.W.keepIn K (.ref f1) = true)
    (a2 : PySem.W.nsIn K mainGlobals "is_name" = some (some (.ref f2)))
    (l2 : K.lookup f2 = some ⟨oc2, od2, .func (PySem.W.fnOf "is_name" "is_name" (defArgs sName) (defBody sName) (defScope sName) .none kV2 dc2 pm2 an2 cd2 ct2), sl2⟩)
    (c2 : PySem.W.codeIn K cd2 "is_name" = true)
    (k2 : PySem.W.keepIn K (.ref f2) = true)
    (a3 : PySem.W.nsIn K mainGlobals "are_arities" = some (some (.ref f3)))
    (l3 : K.lookup f3 = some ⟨oc3, od3, .func (PySem.W.fnOf "are_arities" "are_arities" (defArgs sAre) (defBody sAre) (defScope sAre) .none kV3 dc3 pm3 an3 cd3 ct3), sl3⟩)
    (c3 : PySem.W.codeIn K cd3 "are_arities" = true)
    (k3 : PySem.W.keepIn K (.ref f3) = true)
    (a4 : PySem.W.nsIn K mainGlobals "operator_of" = some (some (.ref f4)))
    (l4 : K.lookup f4 = some ⟨oc4, od4, .func (PySem.W.fnOf "operator_of" "operator_of" (defArgs sOper) (defBody sOper) (defScope sOper) .none kV4 dc4 pm4 an4 cd4 ct4), sl4⟩)
    (c4 : PySem.W.codeIn K cd4 "operator_of" = true)
    (k4 : PySem.W.keepIn K (.ref f4) = true)
    (a5 : PySem.W.nsIn K mainGlobals "_law_dice" = some (some (.ref f5)))
    (l5 : K.lookup f5 = some ⟨oc5, od5, .func (PySem.W.fnOf "_law_dice" "_law_dice" (defArgs sDice) (defBody sDice) (defScope sDice) .none kV5 dc5 pm5 an5 cd5 ct5), sl5⟩)
    (c5 : PySem.W.codeIn K cd5 "_law_dice" = true)
    (k5 : PySem.W.keepIn K (.ref f5) = true)
    (a6 : PySem.W.nsIn K mainGlobals "_law_roll" = some (some (.ref f6)))
    (l6 : K.lookup f6 = some ⟨oc6, od6, .func (PySem.W.fnOf "_law_roll" "_law_roll" (defArgs sRoll) (defBody sRoll) (defScope sRoll) .none kV6 dc6 pm6 an6 cd6 ct6), sl6⟩)
    (c6 : PySem.W.codeIn K cd6 "_law_roll" = true)
    (k6 : PySem.W.keepIn K (.ref f6) = true)
    (a7 : PySem.W.nsIn K mainGlobals "_law_pick" = some (some (.ref f7)))
    (l7 : K.lookup f7 = some ⟨oc7, od7, .func (PySem.W.fnOf "_law_pick" "_law_pick" (defArgs sPick) (defBody sPick) (defScope sPick) .none kV7 dc7 pm7 an7 cd7 ct7), sl7⟩)
    (c7 : PySem.W.codeIn K cd7 "_law_pick" = true)
    (k7 : PySem.W.keepIn K (.ref f7) = true)
    (a8 : PySem.W.nsIn K mainGlobals "_law_mixed" = some (some (.ref f8)))
    (l8 : K.lookup f8 = some ⟨oc8, od8, .func (PySem.W.fnOf "_law_mixed" "_law_mixed" (defArgs sMixed) (defBody sMixed) (defScope sMixed) .none kV8 dc8 pm8 an8 cd8 ct8), sl8⟩)
    (c8 : PySem.W.codeIn K cd8 "_law_mixed" = true)
    (k8 : PySem.W.keepIn K (.ref f8) = true)
    (a9 : PySem.W.nsIn K mainGlobals "_law_odd_values" = some (some (.ref f9)))
    (l9 : K.lookup f9 = some ⟨oc9, od9, .func (PySem.W.fnOf "_law_odd_values" "_law_odd_values" (defArgs sOdd) (defBody sOdd) (defScope sOdd) .none kV9 dc9 pm9 an9 cd9 ct9), sl9⟩)
    (c9 : PySem.W.codeIn K cd9 "_law_odd_values" = true)
    (k9 : PySem.W.keepIn K (.ref f9) = true)
    (a10 : PySem.W.nsIn K mainGlobals "_law_arities" = some (some (.ref f10)))
    (l10 : K.lookup f10 = some ⟨oc10, od10, .func (PySem.W.fnOf "_law_arities" "_law_arities" (defArgs sArs) (defBody sArs) (defScope sArs) .none kV10 dc10 pm10 an10 cd10 ct10), sl10⟩)
    (c10 : PySem.W.codeIn K cd10 "_law_arities" = true)
    (k10 : PySem.W.keepIn K (.ref f10) = true)
    (a11 : PySem.W.nsIn K mainGlobals "_law_is_named" = some (some (.ref f11)))
    (l11 : K.lookup f11 = some ⟨oc11, od11, .func (PySem.W.fnOf "_law_is_named" "_law_is_named" (defArgs sNamed) (defBody sNamed) (defScope sNamed) .none kV11 dc11 pm11 an11 cd11 ct11), sl11⟩)
    (c11 : PySem.W.codeIn K cd11 "_law_is_named" = true)
    (k11 : PySem.W.keepIn K (.ref f11) = true)
    (a12 : PySem.W.nsIn K mainGlobals "_law_is_line" = some (some (.ref f12)))
    (l12 : K.lookup f12 = some ⟨oc12, od12, .func (PySem.W.fnOf "_law_is_line" "_law_is_line" (defArgs sIsLine) (defBody sIsLine) (defScope sIsLine) .none kV12 dc12 pm12 an12 cd12 ct12), sl12⟩)
    (c12 : PySem.W.codeIn K cd12 "_law_is_line" = true)
    (k12 : PySem.W.keepIn K (.ref f12) = true)
    (a13 : PySem.W.nsIn K mainGlobals "_law_due" = some (some (.ref f13)))
    (l13 : K.lookup f13 = some ⟨oc13, od13, .func (PySem.W.fnOf "_law_due" "_law_due" (defArgs sDue) (defBody sDue) (defScope sDue) .none kV13 dc13 pm13 an13 cd13 ct13), sl13⟩)
    (c13 : PySem.W.codeIn K cd13 "_law_due" = true)
    (k13 : PySem.W.keepIn K (.ref f13) = true)
    (a14 : PySem.W.nsIn K mainGlobals "_law_read" = some (some (.ref f14)))
    (l14 : K.lookup f14 = some ⟨oc14, od14, .func (PySem.W.fnOf "_law_read" "_law_read" (defArgs sRead) (defBody sRead) (defScope sRead) .none kV14 dc14 pm14 an14 cd14 ct14), sl14⟩)
    (c14 : PySem.W.codeIn K cd14 "_law_read" = true)
    (k14 : PySem.W.keepIn K (.ref f14) = true)
    (a15 : PySem.W.nsIn K mainGlobals "_law_near_line" = some (some (.ref f15)))
    (l15 : K.lookup f15 = some ⟨oc15, od15, .func (PySem.W.fnOf "_law_near_line" "_law_near_line" (defArgs sNear) (defBody sNear) (defScope sNear) .none kV15 dc15 pm15 an15 cd15 ct15), sl15⟩)
    (c15 : PySem.W.codeIn K cd15 "_law_near_line" = true)
    (k15 : PySem.W.keepIn K (.ref f15) = true)
    (a16 : PySem.W.nsIn K mainGlobals "_law_lines_right" = some (some (.ref f16)))
    (l16 : K.lookup f16 = some ⟨oc16, od16, .func (PySem.W.fnOf "_law_lines_right" "_law_lines_right" (defArgs sLines) (defBody sLines) (defScope sLines) .none kV16 dc16 pm16 an16 cd16 ct16), sl16⟩)
    (c16 : PySem.W.codeIn K cd16 "_law_lines_right" = true)
    (k16 : PySem.W.keepIn K (.ref f16) = true)
    (a17 : PySem.W.nsIn K mainGlobals "_law_sorted" = some (some (.ref f17)))
    (l17 : K.lookup f17 = some ⟨oc17, od17, .func (PySem.W.fnOf "_law_sorted" "_law_sorted" (defArgs sSorted) (defBody sSorted) (defScope sSorted) .none kV17 dc17 pm17 an17 cd17 ct17), sl17⟩)
    (c17 : PySem.W.codeIn K cd17 "_law_sorted" = true)
    (k17 : PySem.W.keepIn K (.ref f17) = true)
    (a18 : PySem.W.nsIn K mainGlobals "_law_made_of" = some (some (.ref f18)))
    (l18 : K.lookup f18 = some ⟨oc18, od18, .func (PySem.W.fnOf "_law_made_of" "_law_made_of" (defArgs sMade) (defBody sMade) (defScope sMade) .none kV18 dc18 pm18 an18 cd18 ct18), sl18⟩)
    (c18 : PySem.W.codeIn K cd18 "_law_made_of" = true)
    (k18 : PySem.W.keepIn K (.ref f18) = true)
    (a19 : PySem.W.nsIn K mainGlobals "_law_dicts_right" = some (some (.ref f19)))
    (l19 : K.lookup f19 = some ⟨oc19, od19, .func (PySem.W.fnOf "_law_dicts_right" "_law_dicts_right" (defArgs sDicts) (defBody sDicts) (defScope sDicts) .none kV19 dc19 pm19 an19 cd19 ct19), sl19⟩)
    (c19 : PySem.W.codeIn K cd19 "_law_dicts_right" = true)
    (k19 : PySem.W.keepIn K (.ref f19) = true)
    (a20 : PySem.W.nsIn K mainGlobals "law" = some (some (.ref f20)))
    (l20 : K.lookup f20 = some ⟨oc20, od20, .func (PySem.W.fnOf "law" "law" (defArgs sLaw) (defBody sLaw) (defScope sLaw) .none kV20 dc20 pm20 an20 cd20 ct20), sl20⟩)
    (c20 : PySem.W.codeIn K cd20 "law" = true)
    (k20 : PySem.W.keepIn K (.ref f20) = true)
    (n_C : PySem.W.nsIn K mainGlobals "Operators" = some (some (.ref C)))
    (pg_C : PySem.W.plainGet K C Str.empty = true)
    (hd_C : PySem.W.hasDictIn K C = true)
    (po_C : PySem.W.plainOver K C = true)
    (sa_C : PySem.W.findIn K (.ref C) "__setattr__" = some (some (.builtin "object.__setattr__")))
    (mk_C : PySem.W.makesIn K C = true)
    (kc_C : PySem.W.keepIn K (.ref C) = true)
    (no0_C : PySem.W.findIn K (.ref C) "_names" = some none)
    (no1_C : PySem.W.findIn K (.ref C) "_arities" = some none)
    (no2_C : PySem.W.findIn K (.ref C) "_lines" = some none)
    (no3_C : PySem.W.findIn K (.ref C) "_many" = some none)
    (no4_C : PySem.W.findIn K (.ref C) "_counts" = some none)
    (no5_C : PySem.W.findIn K (.ref C) "_rows" = some none)
    (a21 : PySem.W.findIn K (.ref C) "__init__" = some (some (.ref f21)))
    (i21 : PySem.W.isFn K (.ref f21) = true)
    (l21 : K.lookup f21 = some ⟨oc21, od21, .func (PySem.W.fnOf "__init__" "Operators.__init__" (defArgs mInit) (defBody mInit) (defScope mInit) .none kV21 dc21 pm21 an21 cd21 ct21), sl21⟩)
    (c21 : PySem.W.codeIn K cd21 "Operators.__init__" = true)
    (k21 : PySem.W.keepIn K (.ref f21) = true)
    (a22 : PySem.W.findIn K (.ref C) "__len__" = some (some (.ref f22)))
    (i22 : PySem.W.isFn K (.ref f22) = true)
    (l22 : K.lookup f22 = some ⟨oc22, od22, .func (PySem.W.fnOf "__len__" "Operators.__len__" (defArgs mLen) (defBody mLen) (defScope mLen) .none kV22 dc22 pm22 an22 cd22 ct22), sl22⟩)
    (c22 : PySem.W.codeIn K cd22 "Operators.__len__" = true)
    (k22 : PySem.W.keepIn K (.ref f22) = true)
    (a23 : PySem.W.findIn K (.ref C) "__iter__" = some (some (.ref f23)))
    (i23 : PySem.W.isFn K (.ref f23) = true)
    (l23 : K.lookup f23 = some ⟨oc23, od23, .func (PySem.W.fnOf "__iter__" "Operators.__iter__" (defArgs mIter) (defBody mIter) (defScope mIter) .none kV23 dc23 pm23 an23 cd23 ct23), sl23⟩)
    (c23 : PySem.W.codeIn K cd23 "Operators.__iter__" = true)
    (k23 : PySem.W.keepIn K (.ref f23) = true)
    (a24 : PySem.W.findIn K (.ref C) "__eq__" = some (some (.ref f24)))
    (i24 : PySem.W.isFn K (.ref f24) = true)
    (l24 : K.lookup f24 = some ⟨oc24, od24, .func (PySem.W.fnOf "__eq__" "Operators.__eq__" (defArgs mEq) (defBody mEq) (defScope mEq) .none kV24 dc24 pm24 an24 cd24 ct24), sl24⟩)
    (c24 : PySem.W.codeIn K cd24 "Operators.__eq__" = true)
    (k24 : PySem.W.keepIn K (.ref f24) = true)
    (pa25 : PySem.W.findIn K (.ref C) "arities" = some (some (.ref p25)))
    (pg25 : PySem.W.specialIn K (.ref p25) "__get__" = some (some (.builtin "property.__get__")))
    (pt25 : PySem.W.takesIn K (.ref p25) = some true)
    (pr25 : PySem.W.recIn K p25 "property" = some (.ref f25 :: r25))
    (l25 : K.lookup f25 = some ⟨oc25, od25, .func (PySem.W.fnOf "arities" "Operators.arities" (defArgs mArities) (defBody mArities) (defScope mArities) .none kV25 dc25 pm25 an25 cd25 ct25), sl25⟩)
    (c25 : PySem.W.codeIn K cd25 "Operators.arities" = true)
    (k25 : PySem.W.keepIn K (.ref f25) = true)
    (pa26 : PySem.W.findIn K (.ref C) "lines" = some (some (.ref p26)))
    (pg26 : PySem.W.specialIn K (.ref p26) "__get__" = some (some (.builtin "property.__get__")))
    (pt26 : PySem.W.takesIn K (.ref p26) = some true)
    (pr26 : PySem.W.recIn K p26 "property" = some (.ref f26 :: r26))
    (l26 : K.lookup f26 = some ⟨oc26, od26, .func (PySem.W.fnOf "lines" "Operators.lines" (defArgs mLines) (defBody mLines) (defScope mLines) .none kV26 dc26 pm26 an26 cd26 ct26), sl26⟩)
    (c26 : PySem.W.codeIn K cd26 "Operators.lines" = true)
    (k26 : PySem.W.keepIn K (.ref f26) = true)
    (ca27 : PySem.W.findCls K (.ref C) (.type "type") "from_lines" = some (.get (.builtin "classmethod.__get__") (.ref p27) .none (.ref C)))
    (cr27 : PySem.W.recIn K p27 "classmethod" = some (.ref f27 :: r27))
    (cf27 : PySem.W.fnIn K f27 = true)
    (l27 : K.lookup f27 = some ⟨oc27, od27, .func (PySem.W.fnOf "from_lines" "Operators.from_lines" (defArgs mFrom) (defBody mFrom) (defScope mFrom) .none kV27 dc27 pm27 an27 cd27 ct27), sl27⟩)
    (c27 : PySem.W.codeIn K cd27 "Operators.from_lines" = true)
    (k27 : PySem.W.keepIn K (.ref f27) = true)
    (crd : PySem.W.readsIn K C (.type "type") = true)
    (cga : PySem.W.specialIn K (.ref C) "__getattribute__" = some (some (.builtin "type.__getattribute__")))
    (cn_MAX_OPERATORS : PySem.W.nsIn K mainGlobals "MAX_OPERATORS" = some (some (.int 8 tk_MAX_OPERATORS)))
    (cn_MAX_LETTERS : PySem.W.nsIn K mainGlobals "MAX_LETTERS" = some (some (.int 8 tk_MAX_LETTERS)))
    (ig : PySem.W.nsIn K mainGlobals "InvalidOperators" = some (some (.ref CI)))
    (ix : PySem.W.excIn K CI [.type "ValueError", .type "Exception", .type "BaseException", .type "object"] "ValueError.__new__" = true)
    (ik : PySem.W.keepIn K (.ref CI) = true)
    (ib : PySem.W.subIn K (.ref CI) (.type "BaseException") = some true)
    (it : PySem.W.typeIn K (.ref CI) = some (.type "type"))
    (ic : PySem.W.isClsIn K CI = true)
    (is_ : PySem.W.subIn K (.ref CI) (.ref CI) = some true)
    (xC1 : PySem.W.nsIn K mainGlobals "ParseError" = some (some (.ref C1)))
    (xL1 : K.lookup C1 = some (excClassObj xn1 xq1 C1 xN1 xb1 bm1 true xs1 xu1 xa1 xc1 xd1 mq0 mq1 mq2 mq3 mq5 "ValueError.__new__"))
    (xV1 : PySem.HandSPX.refsVE bm1 = true)
    (xsa1 : PySem.W.findIn K (.ref C1) "__setattr__" = some (some (.builtin "object.__setattr__")))
    (xga1 : PySem.W.findIn K (.ref C1) "__getattribute__" = some (some (.builtin "BaseException.__getattribute__")))
    (xgg1 : PySem.W.findIn K (.ref C1) "__getattr__" = some none)
    (xnb1 : PySem.W.findIn K (.ref C1) "number" = some none)
    (xa11 : PySem.W.findIn K (.ref C1) "__init__" = some (some (.ref e1)))
    (xt11 : PySem.W.typeIn K (.ref e1) = some (.type "function"))
    (xl11 : K.lookup e1 = some ⟨xoc1, xod1, .func (PySem.W.fnOf "__init__" "ParseError.__init__" (PySem.PeX.iA ⟨11, 17, 11, 21⟩ ⟨11, 23, 11, 29⟩) (PySem.PeX.iB ⟨12, 8, 12, 12⟩ ⟨12, 8, 12, 19⟩ ⟨12, 22, 12, 28⟩ ⟨12, 8, 12, 28⟩) PySem.PeX.iS .none .none xdc1 xpm1 xan1 xcd1 xct1), xsl1⟩)
    (xc11 : PySem.W.codeIn K xcd1 "ParseError.__init__" = true)
    (xkC1 : PySem.W.keepIn K (.ref C1) = true)
    (xeC1 : PySem.W.subIn K (.ref C1) (.type "BaseException") = some true)
    (xtC1 : PySem.W.typeIn K (.ref C1) = some (.type "type"))
    (xhC1 : PySem.W.hasDictIn K C1 = true)
    (xiC1 : PySem.W.isClsIn K C1 = true)
    (xsC1 : PySem.W.subIn K (.ref C1) (.ref C1) = some true)
    (e2 : PySem.W.exmOne K (.ref CI) (.ref C1) = some false)
    (qne : PySem.W.findIn K (.ref C) "__ne__" = some (some (.builtin "object.__ne__")))
    (qob : PySem.W.subIn K (.ref C) (.type "object") = some true)
    (qnD : PySem.W.notFirst K C (.type "dict") = true)
    (qnI : PySem.W.notFirst K C (.type "int") = true)
    (jcl : PySem.W.findIn K (.ref C) "__class__" = some (some (.builtin "object.__class__")))
    (jsp : PySem.W.specialIn K (.builtin "object.__class__") "__get__" = some (some (.builtin "getset_descriptor.__get__")))
    (jtk : PySem.W.takesIn K (.builtin "object.__class__") = some true)
    (job : PySem.W.mroIn K C (.type "object") = some true)
    (jk1 : PySem.W.kitOne K (.ref C) (.ref C) = some true)
    (jk2 : PySem.W.kitOne K (.type "dict") (.ref C) = some false)
    (jk3 : PySem.W.kitOne K (.type "int") (.ref C) = some false)
    (z_len : PySem.W.nsIn K mainGlobals "len" = some none)
    (z_int : PySem.W.nsIn K mainGlobals "int" = some none)
    (z_abs : PySem.W.nsIn K mainGlobals "abs" = some none)
    (z_max : PySem.W.nsIn K mainGlobals "max" = some none)
    (z_min : PySem.W.nsIn K mainGlobals "min" = some none)
    (z_list : PySem.W.nsIn K mainGlobals "list" = some none)
    (z_range : PySem.W.nsIn K mainGlobals "range" = some none)
    (z_isinstance : PySem.W.nsIn K mainGlobals "isinstance" = some none)
    (z_bool : PySem.W.nsIn K mainGlobals "bool" = some none)
    (z_tuple : PySem.W.nsIn K mainGlobals "tuple" = some none)
    (z_str : PySem.W.nsIn K mainGlobals "str" = some none)
    (z_dict : PySem.W.nsIn K mainGlobals "dict" = some none)
    (z_sorted : PySem.W.nsIn K mainGlobals "sorted" = some none)
    (z_all : PySem.W.nsIn K mainGlobals "all" = some none)
    (z_sum : PySem.W.nsIn K mainGlobals "sum" = some none)
    (z_repr : PySem.W.nsIn K mainGlobals "repr" = some none)
    (z_enumerate : PySem.W.nsIn K mainGlobals "enumerate" = some none)
    (z_iter : PySem.W.nsIn K mainGlobals "iter" = some none) :
    ∃ fd : FuncData, (∀ (s : Shared) (v : Value), BindsTo s fd ⟨[v], []⟩ [("script", v)]) ∧ ∀ base : Heap, K.In base → base.Ns mainGlobals mg → FnG P w K mg base CX0 8 fa fd ["script"] (spLaw K) := by
  have e := hfa.symm.trans (PySem.W.mg_of X G a20)
  cases e
  have F1 := fun_mk (st := sInteger) l1 c1 k1
  have b1 := F1.binds (ps := ["value"]) fun _ _ _ _ _ _ us hl => match us, hl with | [_], _ => rfl
  have g1 := PySem.W.mg_of X G a1
  have F2 := fun_mk (st := sName) l2 c2 k2
  have b2 := F2.binds (ps := ["value"]) fun _ _ _ _ _ _ us hl => match us, hl with | [_], _ => rfl
  have g2 := PySem.W.mg_of X G a2
  have F3 := fun_mk (st := sAre) l3 c3 k3
  have b3 := F3.binds (ps := ["value"]) fun _ _ _ _ _ _ us hl => match us, hl with | [_], _ => rfl
  have g3 := PySem.W.mg_of X G a3
  have F4 := fun_mk (st := sOper) l4 c4 k4
  have b4 := F4.binds (ps := ["line"]) fun _ _ _ _ _ _ us hl => match us, hl with | [_], _ => rfl
  have g4 := PySem.W.mg_of X G a4
  have F5 := fun_mk (st := sDice) l5 c5 k5
  have b5 := F5.binds (ps := ["script", "spot"]) fun _ _ _ _ _ _ us hl => match us, hl with | [_, _], _ => rfl
  have g5 := PySem.W.mg_of X G a5
  have F6 := fun_mk (st := sRoll) l6 c6 k6
  have b6 := F6.binds (ps := ["dice", "total"]) fun _ _ _ _ _ _ us hl => match us, hl with | [_, _], _ => rfl
  have g6 := PySem.W.mg_of X G a6
  have F7 := fun_mk (st := sPick) l7 c7 k7
  have b7 := F7.binds (ps := ["dice", "items"]) fun _ _ _ _ _ _ us hl => match us, hl with | [_, _], _ => rfl
  have g7 := PySem.W.mg_of X G a7
  have F8 := fun_mk (st := sMixed) l8 c8 k8
  have b8 := F8.binds (ps := ["dice", "items"]) fun _ _ _ _ _ _ us hl => match us, hl with | [_, _], _ => rfl
  have g8 := PySem.W.mg_of X G a8
  have F9 := fun_mk (st := sOdd) l9 c9 k9
  have b9 := F9.binds (ps := ["dice"]) fun _ _ _ _ _ _ us hl => match us, hl with | [_], _ => rfl
  have g9 := PySem.W.mg_of X G a9
  have F10 := fun_mk (st := sArs) l10 c10 k10
  have b10 := F10.binds (ps := ["dice"]) fun _ _ _ _ _ _ us hl => match us, hl with | [_], _ => rfl
  have g10 := PySem.W.mg_of X G a10
  have F11 := fun_mk (st := sNamed) l11 c11 k11
  have b11 := F11.binds (ps := ["value"]) fun _ _ _ _ _ _ us hl => match us, hl with | [_], _ => rfl
  have g11 := PySem.W.mg_of X G a11
  have F12 := fun_mk (st := sIsLine) l12 c12 k12
  have b12 := F12.binds (ps := ["value"]) fun _ _ _ _ _ _ us hl => match us, hl with | [_], _ => rfl
  have g12 := PySem.W.mg_of X G a12
  have F13 := fun_mk (st := sDue) l13 c13 k13
  have b13 := F13.binds (ps := ["lines"]) fun _ _ _ _ _ _ us hl => match us, hl with | [_], _ => rfl
  have g13 := PySem.W.mg_of X G a13
  have F14 := fun_mk (st := sRead) l14 c14 k14
  have b14 := F14.binds (ps := ["lines"]) fun _ _ _ _ _ _ us hl => match us, hl with | [_], _ => rfl
  have g14 := PySem.W.mg_of X G a14
  have F15 := fun_mk (st := sNear) l15 c15 k15
  have b15 := F15.binds (ps := ["dice", "line"]) fun _ _ _ _ _ _ us hl => match us, hl with | [_, _], _ => rfl
  have g15 := PySem.W.mg_of X G a15
  have F16 := fun_mk (st := sLines) l16 c16 k16
  have b16 := F16.binds (ps := ["dice", "arities"]) fun _ _ _ _ _ _ us hl => match us, hl with | [_, _], _ => rfl
  have g16 := PySem.W.mg_of X G a16
  have F17 := fun_mk (st := sSorted) l17 c17 k17
  have b17 := F17.binds (ps := ["value"]) fun _ _ _ _ _ _ us hl => match us, hl with | [_], _ => rfl
  have g17 := PySem.W.mg_of X G a17
  have F18 := fun_mk (st := sMade) l18 c18 k18
  have b18 := F18.binds (ps := ["value"]) fun _ _ _ _ _ _ us hl => match us, hl with | [_], _ => rfl
  have g18 := PySem.W.mg_of X G a18
  have F19 := fun_mk (st := sDicts) l19 c19 k19
  have b19 := F19.binds (ps := ["dice", "arities"]) fun _ _ _ _ _ _ us hl => match us, hl with | [_, _], _ => rfl
  have g19 := PySem.W.mg_of X G a19
  have F20 := fun_mk (st := sLaw) l20 c20 k20
  have cl_C : Cls K C := ⟨pg_C, hd_C, po_C, sa_C⟩
  have g_C := PySem.W.mg_of X G n_C
  have F21 := fun_mk (st := mInit) l21 c21 k21
  have b21 := F21.binds (ps := ["self", "arities"]) fun _ _ _ _ _ _ us hl => match us, hl with | [_, _], _ => rfl
  have m21 : Meth K C "__init__" f21 := ⟨a21, i21, k21⟩
  have F22 := fun_mk (st := mLen) l22 c22 k22
  have b22 := F22.binds (ps := ["self"]) fun _ _ _ _ _ _ us hl => match us, hl with | [_], _ => rfl
  have m22 : Meth K C "__len__" f22 := ⟨a22, i22, k22⟩
  have F23 := fun_mk (st := mIter) l23 c23 k23
  have b23 := F23.binds (ps := ["self"]) fun _ _ _ _ _ _ us hl => match us, hl with | [_], _ => rfl
  have m23 : Meth K C "__iter__" f23 := ⟨a23, i23, k23⟩
  have F24 := fun_mk (st := mEq) l24 c24 k24
  have b24 := F24.binds (ps := ["self", "other"]) fun _ _ _ _ _ _ us hl => match us, hl with | [_, _], _ => rfl
  have m24 : Meth K C "__eq__" f24 := ⟨a24, i24, k24⟩
  have F25 := fun_mk (st := mArities) l25 c25 k25
  have b25 := F25.binds (ps := ["self"]) fun _ _ _ _ _ _ us hl => match us, hl with | [_], _ => rfl
  have q25 : PropOf K C "arities" p25 f25 := ⟨pa25, pg25, pt25, ⟨r25, pr25⟩⟩
  have F26 := fun_mk (st := mLines) l26 c26 k26
  have b26 := F26.binds (ps := ["self"]) fun _ _ _ _ _ _ us hl => match us, hl with | [_], _ => rfl
  have q26 : PropOf K C "lines" p26 f26 := ⟨pa26, pg26, pt26, ⟨r26, pr26⟩⟩
  have F27 := fun_mk (st := mFrom) l27 c27 k27
  have gc_MAX_OPERATORS := PySem.W.mg_of X G cn_MAX_OPERATORS
  have gc_MAX_LETTERS := PySem.W.mg_of X G cn_MAX_LETTERS
  have low1 : PySem.PeX.PeTxt K mg C1 e1 :=
    { gC := PySem.W.mg_of X G xC1, cls := ⟨xn1, xq1, xN1, xb1, _, xs1, xu1, xa1, xc1, xd1, mq0, mq1, mq2, mq3, mq5, xL1, xV1⟩, sa := xsa1, ga := xga1, gg := xgg1, noN := xnb1, iC := xa11, tC := xt11, kC := xkC1, exC := xeC1, tyC := xtC1, hdC := xhC1, te := exm_self xeC1 xiC1 xtC1 xsC1,
      fn := ⟨_, _, _, _, _, _, _, _, _, _, _, _, _, _, xl11, xc11⟩ }
  have T : Free mg := ⟨PySem.W.mg_none_of X G z_len, PySem.W.mg_none_of X G z_int, PySem.W.mg_none_of X G z_abs, PySem.W.mg_none_of X G z_max, PySem.W.mg_none_of X G z_min, PySem.W.mg_none_of X G z_list, PySem.W.mg_none_of X G z_range, PySem.W.mg_none_of X G z_isinstance, PySem.W.mg_none_of X G z_bool, PySem.W.mg_none_of X G z_tuple, PySem.W.mg_none_of X G z_str, PySem.W.mg_none_of X G z_dict, PySem.W.mg_none_of X G z_sorted, PySem.W.mg_none_of X G z_all, PySem.W.mg_none_of X G z_sum, PySem.W.mg_none_of X G z_repr, PySem.W.mg_none_of X G z_enumerate, PySem.W.mg_none_of X G z_iter⟩
  exact ⟨PySem.W.fnOf "law" "law" (defArgs sLaw) (defBody sLaw) (defScope sLaw) .none kV20 dc20 pm20 an20 cd20 ct20, fun s v => .of_eq rfl, fun base _ _ => by
    have cf : OpF K C := ⟨cl_C, no0_C, no1_C, no2_C, no3_C, no4_C, no5_C⟩
    have io : IopF K mg CI := ⟨ix, PySem.W.mg_of X G ig, ik, ib, it⟩
    have tI : PySem.W.exmOne K (.ref CI) (.ref CI) = some true := exm_self ib ic it is_
    have GAre : FnOk P w K mg base CX0 2 f3 _ ["value"] spAre7 := ok_are7 F3 T gc_MAX_LETTERS gc_MAX_OPERATORS F2 b2 g2 F1 b1 g1
    have mk : Mk K C f21 := ⟨mk_C, a21, i21, kc_C⟩
    have GI : FnOk P w K mg base (L2.CX P w) 3 f21 _ ["self", "arities"] (spInit C CI) := ok_init F21 T cf io GAre F3 b3 g3
    have O : OpsC P w K mg base C CI f21 p25 f25 _ _ := ⟨cf, io, g_C, mk, GI, b21, q25, ok_pa F25 cf T, b25, tI⟩
    have GO : FnOk P w K mg base CX0 2 f4 _ ["line"] spOper := ok_oper F4 T gc_MAX_LETTERS F2 b2 g2
    have FR : FromF P w K mg base C C1 CI p27 f27 e1 (.type "type") := ⟨⟨crd, cga⟩, ⟨ca27, ⟨_, cr27⟩, cf27⟩, fn_from F27 T mk GI b21 low1 GO F4 b4 g4, low1, low1.te, e2, tI⟩
    have D : Draws K mg f6 f7 f8 _ _ _ := ⟨F6, b6, g6, F7, b7, g7, F8, b8, g8⟩
    exact ok_law F20 D T O ⟨q26, ok_pl F26 cf T, b26, F15, b15, g15, F12, b12, g12, F14, ok_read F14 T O FR, b14, g14, F17, b17, g17, F13, b13, g13, ⟨a23, i23⟩, ⟨a22, i22⟩, ok_it F23 cf T, b23, ok_ln F22 cf T, b22, F11, b11, g11⟩ ⟨F11, b11, g11, F18, ok_made F18 O, b18, g18, F17, b17, g17, F9, b9, g9, ok_eqO F24 cf T ⟨g_C, jcl, jsp, jtk, job, jk1, jk2, jk3⟩, b24, ⟨a24, i24, qne, qob, qnD, qnI⟩⟩ ⟨F5, b5, g5, F10, b10, g10, F16, b16, g16, F19, b19, g19⟩⟩
end Pr
open PySem PySem.W PyProof.Rows
set_option maxHeartbeats 0 in
theorem PySem.Challenge.cw_munchbehind_k07_operators_and_their_line_holds : PySem.Challenge.rw_munchbehind_k07_operators_and_their_line.Holds := by
  w_on; o_law; k_head; (case hw => w_witness2)
  k_fill
  refine Gd.walk_ofG (l := PySem.Challenge.rw_munchbehind_k07_operators_and_their_line) (n := 63) (k := 8) (x := "script") (CX := fun _ => L2.CX0) (sp := fun w => Pr.spLaw _) rfl (by decide) rfl ⟨rfl, by decide, by decide⟩ (fun w h Y => PySem.W.kIn_of Y) ?F (fun _ _ a ns hl _ hS => ⟨a, ns, rfl, hS, hl, fun _ => rfl⟩) (fun _ _ _ _ _ h => h)
  case F =>
    intro w mg fa h KX G hmg
    refine' Pr.all_mk KX G hmg ?a1 ?l1 ?c1 ?k1 ?a2 ?l2 ?c2 ?k2 ?a3 ?l3 ?c3 ?k3 ?a4 ?l4 ?c4 ?k4 ?a5 ?l5 ?c5 ?k5 ?a6 ?l6 ?c6 ?k6 ?a7 ?l7 ?c7 ?k7 ?a8 ?l8 ?c8 ?k8 ?a9 ?l9 ?c9 ?k9 ?a10 ?l10 ?c10 ?k10 ?a11 ?l11 ?c11 ?k11 ?a12 ?l12 ?c12 ?k12 ?a13 ?l13 ?c13 ?k13 ?a14 ?l14 ?c14 ?k14 ?a15 ?l15 ?c15 ?k15 ?a16 ?l16 ?c16 ?k16 ?a17 ?l17 ?c17 ?k17 ?a18 ?l18 ?c18 ?k18 ?a19 ?l19 ?c19 ?k19 ?a20 ?l20 ?c20 ?k20 ?n_C ?pg_C ?hd_C ?po_C ?sa_C ?mk_C ?kc_C ?no0_C ?no1_C ?no2_C ?no3_C ?no4_C ?no5_C ?a21 ?i21 ?l21 ?c21 ?k21 ?a22 ?i22 ?l22 ?c22 ?k22 ?a23 ?i23 ?l23 ?c23 ?k23 ?a24 ?i24 ?l24 ?c24 ?k24 ?pa25 ?pg25 ?pt25 ?pr25 ?l25 ?c25 ?k25 ?pa26 ?pg26 ?pt26 ?pr26 ?l26 ?c26 ?k26 ?ca27 ?cr27 ?cf27 ?l27 ?c27 ?k27 ?crd ?cga ?cn_MAX_OPERATORS ?cn_MAX_LETTERS ?ig ?ix ?ik ?ib ?it ?ic ?is_ ?xC1 ?xL1 ?xV1 ?xsa1 ?xga1 ?xgg1 ?xnb1 ?xa11 ?xt11 ?xl11 ?xc11 ?xkC1 ?xeC1 ?xtC1 ?xhC1 ?xiC1 ?xsC1 ?e2 ?qne ?qob ?qnD ?qnI ?jcl ?jsp ?jtk ?job ?jk1 ?jk2 ?jk3 ?z_len ?z_int ?z_abs ?z_max ?z_min ?z_list ?z_range ?z_isinstance ?z_bool ?z_tuple ?z_str ?z_dict ?z_sorted ?z_all ?z_sum ?z_repr ?z_enumerate ?z_iter
    (case a1 => k_is)
    (case l1 => k_is)
    (case c1 => k_is)
    (case k1 => k_is)
    (case a2 => k_is)
    (case l2 => k_is)
    (case c2 => k_is)
    (case k2 => k_is)
    (case a3 => k_is)
    (case l3 => k_is)
    (case c3 => k_is)
    (case k3 => k_is)
    (case a4 => k_is)
    (case l4 => k_is)
    (case c4 => k_is)
    (case k4 => k_is)
    (case a5 => k_is)
    (case l5 => k_is)
    (case c5 => k_is)
    (case k5 => k_is)
    (case a6 => k_is)
    (case l6 => k_is)
    (case c6 => k_is)
    (case k6 => k_is)
    (case a7 => k_is)
    (case l7 => k_is)
    (case c7 => k_is)
    (case k7 => k_is)
    (case a8 => k_is)
    (case l8 => k_is)
    (case c8 => k_is)
    (case k8 => k_is)
    (case a9 => k_is)
    (case l9 => k_is)
    (case c9 => k_is)
    (case k9 => k_is)
    (case a10 => k_is)
    (case l10 => k_is)
    (case c10 => k_is)
    (case k10 => k_is)
    (case a11 => k_is)
    (case l11 => k_is)
    (case c11 => k_is)
    (case k11 => k_is)
    (case a12 => k_is)
    (case l12 => k_is)
    (case c12 => k_is)
    (case k12 => k_is)
    (case a13 => k_is)
    (case l13 => k_is)
    (case c13 => k_is)
    (case k13 => k_is)
    (case a14 => k_is)
    (case l14 => k_is)
    (case c14 => k_is)
    (case k14 => k_is)
    (case a15 => k_is)
    (case l15 => k_is)
    (case c15 => k_is)
    (case k15 => k_is)
    (case a16 => k_is)
    (case l16 => k_is)
    (case c16 => k_is)
    (case k16 => k_is)
    (case a17 => k_is)
    (case l17 => k_is)
    (case c17 => k_is)
    (case k17 => k_is)
    (case a18 => k_is)
    (case l18 => k_is)
    (case c18 => k_is)
    (case k18 => k_is)
    (case a19 => k_is)
    (case l19 => k_is)
    (case c19 => k_is)
    (case k19 => k_is)
    (case a20 => k_is)
    (case l20 => k_is)
    (case c20 => k_is)
    (case k20 => k_is)
    (case n_C => k_is)
    (case pg_C => k_is)
    (case hd_C => k_is)
    (case po_C => k_is)
    (case sa_C => k_is)
    (case mk_C => k_is)
    (case kc_C => k_is)
    (case no0_C => k_is)
    (case no1_C => k_is)
    (case no2_C => k_is)
    (case no3_C => k_is)
    (case no4_C => k_is)
    (case no5_C => k_is)
    (case a21 => k_is)
    (case i21 => k_is)
    (case l21 => k_is)
    (case c21 => k_is)
    (case k21 => k_is)
    (case a22 => k_is)
    (case i22 => k_is)
    (case l22 => k_is)
    (case c22 => k_is)
    (case k22 => k_is)
    (case a23 => k_is)
    (case i23 => k_is)
    (case l23 => k_is)
    (case c23 => k_is)
    (case k23 => k_is)
    (case a24 => k_is)
    (case i24 => k_is)
    (case l24 => k_is)
    (case c24 => k_is)
    (case k24 => k_is)
    (case pa25 => k_is)
    (case pg25 => k_is)
    (case pt25 => k_is)
    (case pr25 => first | rfl | k_is)
    (case l25 => k_is)
    (case c25 => k_is)
    (case k25 => k_is)
    (case pa26 => k_is)
    (case pg26 => k_is)
    (case pt26 => k_is)
    (case pr26 => first | rfl | k_is)
    (case l26 => k_is)
    (case c26 => k_is)
    (case k26 => k_is)
    (case ca27 => first | rfl | k_is)
    (case cr27 => first | rfl | k_is)
    (case cf27 => first | rfl | k_is)
    (case l27 => k_is)
    (case c27 => k_is)
    (case k27 => k_is)
    (case crd => first | rfl | k_is)
    (case cga => first | rfl | k_is)
    (case cn_MAX_OPERATORS => k_is)
    (case cn_MAX_LETTERS => k_is)
    (case ig => k_is)
    (case ix => k_exc)
    (case ik => k_is)
    (case ib => k_is)
    (case it => k_is)
    (case ic => k_is)
    (case is_ => first | rfl | k_is)
    (case xC1 => k_is)
    (case xL1 => k_is)
    (case xV1 => first | rfl | k_is)
    (case xsa1 => k_is)
    (case xga1 => k_is)
    (case xgg1 => k_is)
    (case xnb1 => k_is)
    (case xa11 => k_is)
    (case xt11 => k_is)
    (case xl11 => k_is)
    (case xc11 => k_is)
    (case xkC1 => k_is)
    (case xeC1 => k_is)
    (case xtC1 => k_is)
    (case xhC1 => k_is)
    (case xiC1 => k_is)
    (case xsC1 => first | rfl | k_is)
    (case e2 => first | rfl | k_is)
    (case qne => k_is)
    (case qob => k_is)
    (case qnD => first | rfl | k_is)
    (case qnI => first | rfl | k_is)
    (case jcl => k_is)
    (case jsp => first | rfl | k_is)
    (case jtk => first | rfl | k_is)
    (case job => first | rfl | k_is)
    (case jk1 => first | rfl | k_is)
    (case jk2 => first | rfl | k_is)
    (case jk3 => first | rfl | k_is)
    (case z_len => k_is)
    (case z_int => k_is)
    (case z_abs => k_is)
    (case z_max => k_is)
    (case z_min => k_is)
    (case z_list => k_is)
    (case z_range => k_is)
    (case z_isinstance => k_is)
    (case z_bool => k_is)
    (case z_tuple => k_is)
    (case z_str => k_is)
    (case z_dict => k_is)
    (case z_sorted => k_is)
    (case z_all => k_is)
    (case z_sum => k_is)
    (case z_repr => k_is)
    (case z_enumerate => k_is)
    (case z_iter => k_is)
