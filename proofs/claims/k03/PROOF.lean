import PyProof.Rows.All
import Wide.All
import OpenK.AllK
import Wide.FinOn
import PyProof.EqAt
import PyProof.EqKinds
import PyProof.TupleCall
import KE.KExcInit
import KE.OsGo
import HandS.ForMost
import HandS.ForExc
import HandS.Wide
import HandS.IsInst
import HandS.StrMore
import PyProof.ReprReads
import PyProof.ReprRoads
import PyProof.CallFns
import PyProof.ListStr
import PyProof.StrLawsRepr
import HandS.TupMul
import HandS.TupAny
import HandS.More
import KE.KExcIs
import HandS.ExcValue
import HandS.ExcIs
import HandS.ListItems
import HandS.Small
import HandS.DictComp
import HandS.FStr
import HandS.WordsDict
import HandS.Property
import HandS.Iter
import HandS.Walk
import HandS.SetFor
import HandS.Style
import HandS.Finally
import HandS.Strs
import HandS.Star
import HandS.MethStar
import PySem.Challenge.RW_munchbehind_k03_trees_and_contexts_judge
set_option Elab.async false
set_option linter.all false
set_option maxRecDepth 100000
set_option maxHeartbeats 2000000
/-! ### defs that are called where nothing is being shown (repr): what HandS says of a def, with that one fact more -/
namespace Gd
open PySem PySem.Spec PyProof.Rows L2
/-- a def's promise, kept wherever no repr is under way -/
structure FnG (P : Program) (w : World) (K : PySem.W.Frag) (mg : Str → Option Value) (base : Heap) (CX : CXT) (k : Nat) (f : Addr) (fd : FuncData) (ps : List Str) (sp : Sp) : Prop where
  len : ∀ vs H Q E, sp vs H Q E → vs.length = ps.length
  run : ∀ (A : Around) (outer : List Env) (s : Shared) (H : Hp) (args : Args) (us : List Value) (vs : List V) (Q : VK) (E : XK), Room k A → A.guards = some [] → Env0 P w K mg base A outer s H → BindsTo s fd args (ps.zip us) → Vals vs us → sp vs H Q E →
    codeAny (model P w) A (.call (.ref f) args) (CR CX outer P w H s Q E) s
section
variable {P : Program} {w : World} {K : PySem.W.Frag} {mg : Str → Option Value} {base : Heap} {CX : CXT} {k : Nat} {f : Addr} {fd : FuncData} {ps : List Str} {sp : Sp}
/-- out of its body -/
theorem FnG.of_body {qual : Str} {st : Stmt} {x : Str} {N : List Str} (F : Fun K x qual st f fd) (S : FnScope N ps (defScope st)) (len : ∀ vs H Q E, sp vs H Q E → vs.length = ps.length)
    (hbody : ∀ (cdv : Value) (A : Around) (outer : List Env) (s : Shared) (H : Hp) (vs : List V) (Q : VK) (E : XK), Room k (A.deeper (envOfC qual (defScope st) s.heap.objs.size f cdv)) →
      (A.deeper (envOfC qual (defScope st) s.heap.objs.size f cdv)).guards = some [] → sp vs H Q E →
      ∃ t, PSs (cxOf CX P w K mg base N qual (defScope st) f cdv A outer s H E) (defBody st) t ∧ t { nx := fun _ H' => Q .non H', rt := Q } (start N vs) H) : FnG P w K mg base CX (k + 1) f fd ps sp := by
  obtain ⟨oc, od, kV, doc, pm, an, cdv, ct, osl, rfl, lk, hcd⟩ := F.ex
  constructor
  · exact len
  intro A outer s H args us vs Q E room hg env bind rel want
  have size := len _ _ _ _ want
  have keep : ∀ b o, base.get? b = some o → s.heap.get? b = some o := fun b o e => (env.bs b o e).1
  have KX := env.mod.kin.keeps keep
  have lim := env.mod.nolimit.keeps keep
  have slots : ∀ y ∈ ps.zip us, (defScope st).names.lookup y.1 = some .local ∨ ((defScope st).names.lookup y.1 = some .cell ∧ ((cellsFrom (s.heap.objs.size + 1) (defScope st).names []).lookup y.1).isSome = true) := by
    rintro ⟨n, v⟩ hy
    exact (S.par n (List.of_mem_zip hy).1).imp id fun q => ⟨q, PySem.W.cellsFrom_some _ _ _ (.inl q)⟩
  refine codeAny_call_function room.depth (KX _ _ lk) rfl S.co S.gen rfl (PySem.W.codeRec_of KX hcd) (bind _ _ _ _ (wpAny_newFunctionEnv_cells S.kind slots fun env1 he s1 x => ?_))
  subst he
  refine ⟨lim.keeps x.toInCall.keep, codeAny_func ?_⟩
  have guard : (A.deeper (envOfC qual (defScope st) s.heap.objs.size f cdv)).guards = some [] := hg
  obtain ⟨t, ht, hq⟩ := hbody cdv A outer s H vs Q E (room.deeper _) guard want
  have I : Inv (cxOf CX P w K mg base N qual (defScope st) f cdv A outer s H E) [] (start N vs) H s1 := inv_start S room.hd env size rel x
  refine wpAny_mono (ht.run [] s1 (start N vs) H _ I hq) (fun fl s' hs => ?_) fun e s' hs => hs
  cases fl with
  | ret u =>
    obtain ⟨v, σ', H', J, rv, q⟩ := hs
    exact ⟨v, H', J.os, J.bare, J.base, J.hok, rv, q⟩
  | next =>
    obtain ⟨σ', H', J, q⟩ := hs
    exact ⟨V.non, H', J.os, J.bare, J.base, J.hok, rfl, q⟩
  | brk => exact (let ⟨_, _, _, q⟩ := hs; q : False).elim
  | cont => exact (let ⟨_, _, _, q⟩ := hs; q : False).elim
/-- the same, where no exception leaves it -/
theorem FnG.ok {qual : Str} {st : Stmt} {x : Str} {N : List Str} (F : Fun K x qual st f fd) (S : FnScope N ps (defScope st)) (len : ∀ vs H Q E, sp vs H Q E → vs.length = ps.length)
    (hbody : ∀ (cdv : Value) (A : Around) (outer : List Env) (s : Shared) (H : Hp) (vs : List V) (Q : VK) (E : XK), Room k (A.deeper (envOfC qual (defScope st) s.heap.objs.size f cdv)) →
      (A.deeper (envOfC qual (defScope st) s.heap.objs.size f cdv)).guards = some [] → sp vs H Q E →
      ∃ t, PSs (cxOf CX0 P w K mg base N qual (defScope st) f cdv A outer s H E).nox (defBody st) t ∧ t { nx := fun _ H' => Q .non H', rt := Q } (start N vs) H) : FnG P w K mg base CX0 (k + 1) f fd ps sp :=
  FnG.of_body F S len fun cdv A outer s H vs Q E hr hg h => let ⟨t, a, b⟩ := hbody cdv A outer s H vs Q E hr hg h; ⟨t, a.nox, b⟩
end
section
variable {X : Cx} {CX : CXT} {k : Nat} {f : Addr} {fd : FuncData} {ps : List Str} {sp : Sp} {E : XK} {x : Str} {p pos : Pos} {e : Expr} {es : List Expr} {t : TA}
/-- f(..) of such a def -/
theorem pe_callG (F : FnG X.prog X.w X.K X.mg X.base CX k f fd ps sp) (hr : Room k X.A) (gd : X.A.guards = some []) (hg : Gl X x) (hm : X.mg x = some (.ref f)) (hk : PySem.W.keepIn X.K (.ref f) = true) (hb : Binds X.K fd ps []) (hx : Passes CX X E)
    (ha : PA X (e :: es) t) (hdb : (x == ("__debug__" : Str)) = false := by decide) (he : starEach (e :: es) X.env = (false, eval e X.env) :: starEach es X.env := by rfl) (hpl : (backTo pos (starEach es X.env)).any (·.1) = false := by rfl) :
    PE X (.Call (.Name x p) (e :: es) [] pos) (tCall sp [] E t) := by
  refine ⟨fun pins s σ H Q I h => ?_⟩
  refine wpAny_Call_Name_kw (ld_glob I hg hm ?_ hdb)
  refine PySem.W.callWith_K (h₀ := X.base) I.ok.mod.kin hk (thn (ha.run pos pins s σ H _ I h) fun us s1 ⟨vs, H1, I1, r, q⟩ => ⟨I1.kIn, ?_⟩) he hpl
  have q' : sp vs H1 Q E := by
    have z : sp (vs ++ []) H1 Q E := q
    rw [List.append_nil] at z
    exact z
  have hl : us.length = ps.length := by rw [← r.length]; exact F.len _ _ _ _ q'
  have b := hb s1 us I1.kIn (by rw [List.append_nil]; exact hl)
  rw [List.append_nil] at b
  refine wpAny_call (codeAny_mono (F.run X.A X.stack s1 H1 ⟨us, []⟩ us vs Q E hr gd I1.env0 b r q') fun r' s' hq => ?_)
  cases r' with
  | error z => exact hx pins σ H1 s1 z s' I1 hq
  | ok fl =>
    cases fl with
    | ret u => exact I1.after hq
    | next => exact False.elim hq
    | brk => exact False.elim hq
    | cont => exact False.elim hq
end
/-- the script as the one thing that is tracked: at a, locked, where the written part has it not -/
def scriptH (K : PySem.W.Frag) (a : Addr) (o : Obj) (xs : List V) : Hp := fun b => if b = a ∧ K.lookup a = none then some (.frz o (.lst xs)) else none
theorem scriptH_some {K : PySem.W.Frag} {a b : Addr} {o : Obj} {xs : List V} {u : HO} (h : scriptH K a o xs b = some u) : b = a ∧ K.lookup a = none ∧ u = .frz o (.lst xs) := by
  unfold scriptH at h
  by_cases c : b = a ∧ K.lookup a = none
  · rw [if_pos c] at h
    exact ⟨c.1, c.2, (Option.some.inj h).symm⟩
  · rw [if_neg c] at h
    cases h
/-- the law's own call, from a promise that is kept where nothing is being shown -/
theorem law_callG {P : Program} {w : World} {K : PySem.W.Frag} {mg mb : Str → Option Value} {CX : CXT} {k : Nat} {fa a : Addr} {fd : FuncData} {x : Str} {sp : Sp} {s : Shared} {vs : List Value} {ns : List Int}
    (KX : K.In s.heap) (hns : s.heap.Ns mainGlobals mg) (hb : s.heap.Ns builtinsNs mb) (hbb : ∀ x : Str, x ≠ "__name__" → mb x = bootBuiltins x) (hlim : s.heap.NoLimit) (hg : s.gens = #[])
    (ha : s.heap.get? a = some { cls := .type "list", data := .seq vs.toArray }) (hi : IntsAre vs ns) (hl : ns.length ≤ sizeLine) (hr : Room k callerA)
    (F : ∀ base : Heap, K.In base → base.Ns mainGlobals mg → FnG P w K mg base CX k fa fd [x] sp) (hbind : ∀ (s : Shared) (u : Value), BindsTo s fd ⟨[u], []⟩ [(x, u)])
    (hsp : ∀ H : Hp, Only H → SqL K H a (ns.map V.int) → sp [.ref a] H (fun v _ => v = .bl true) fun _ _ _ => False)
    (hCX : ∀ H e s', CX [] H s (fun _ _ _ => False) e s' → False) :
    codeAny (model P w) callerA (.call (.ref fa) ⟨[.ref a], []⟩) (fun r s' => r = .ok (.ret (.bool true)) ∧ OldK s.heap s'.heap ∧ s'.os = s.os ∧ AllBare s'.gens) s := by
  have rv := vals_ints hi
  have lenV := hi.length
  let O : Obj := { cls := .type "list", data := .seq vs.toArray }
  let H : Hp := scriptH K a O (ns.map V.int)
  have only : Only H := fun b => by
    cases q : H b with
    | none => exact .inl rfl
    | some u => exact .inr ⟨O, ns.map V.int, by rw [(scriptH_some q).2.2]⟩
  have hS : SqL K H a (ns.map V.int) := by
    cases hk : K.lookup a with
    | none => exact .inl (.inr ⟨O, if_pos ⟨rfl, hk⟩⟩)
    | some o =>
      have e := KX a o hk
      rw [ha] at e
      cases e
      exact .inr ⟨_, vs.toArray, _, hk, rfl, rfl, rfl, by rw [List.size_toArray, lenV]; exact hl, by simpa using rv⟩
  have hok : HOk P w H s.heap := fun b u q => by
    obtain ⟨e1, _, e3⟩ := scriptH_some q
    rw [e1, e3]
    exact ⟨ha, by rw [List.length_map]; exact hl, vs, _, rv, ha⟩
  have notDict : ∀ {b : Addr} {o : Obj} {es : Array DictEntry} {ep : Nat}, s.heap.get? b = some o → o.data = .dict es ep → H b = none := fun {b o es ep} e d => by
    cases q : H b with
    | none => rfl
    | some u =>
      rw [(scriptH_some q).1, ha] at e
      cases e
      cases (show Data.seq vs.toArray _ = Data.dict es ep from d)
  have nsK : ∀ {b : Addr} {m : Str → Option Value}, s.heap.Ns b m → (hidT s.heap H).Ns b m := fun {b m} ⟨o, es, ep, e, d, r⟩ => ⟨o, es, ep, hidT_get e (notDict e d), d, r⟩
  have inK : K.In (hidT s.heap H) := fun b o e => hidT_get (KX b o e) (by
    cases q : H b with
    | none => rfl
    | some u =>
      obtain ⟨e1, e2, _⟩ := scriptH_some q
      rw [e1, e2] at e
      cases e)
  obtain ⟨mc, l1, l2⟩ := hlim
  have env : Env0 P w K mg (hidT s.heap H) callerA [] s H :=
    ⟨rfl, ⟨inK, nsK hns, ⟨mb, nsK hb, hbb⟩, ⟨mc, nsK l1, l2⟩⟩, fun b o e => of_hidT e, Nat.le_of_eq (hidT_size _ _), trivial, fun b m => absurd (show b ∈ ([] : List Addr) from m) (by simp), hok, .of_eq hg⟩
  refine codeAny_mono ((F _ inK (nsK hns)).run callerA [] s H ⟨[.ref a], []⟩ [.ref a] [.ref a] _ _ hr rfl env (hbind s (.ref a)) (.cons rfl .nil) (hsp H only hS)) fun r s' h => ?_
  cases r with
  | error e => exact (hCX H e s' h).elim
  | ok fl =>
    cases fl with
    | next => exact False.elim h
    | brk => exact False.elim h
    | cont => exact False.elim h
    | ret u =>
      obtain ⟨v, H', os, bare, un, hok', r', q⟩ := h
      obtain rfl : v = .bl true := q
      obtain rfl : u = Value.bool true := r'
      refine ⟨rfl, OldK.of_keep fun b o e => ?_, os, bare⟩
      cases q : H b with
      | none => exact un.keep b o e q (fun z => absurd (show b ∈ ([] : List Addr) from z) (by simp)) (by simp)
      | some u =>
        obtain ⟨_, _, eu⟩ := scriptH_some q
        rw [eu] at q
        have e1 := (hok b _ q).1
        have e2 := (hok' b _ (un.frzs b O _ q)).1
        rw [e] at e1
        cases e1
        exact e2
theorem walk_ofG {l : PySem.W.OpenLaw} {n k : Nat} {q : Program} {loose : List Str} {XP : (Str → Option Value) → Heap → Prop} {YP : World → Heap → Prop} {d : DefRec} {K : Params → PySem.W.Frag} {CX : World → CXT} {sp : World → Sp} {x : Str}
    (hn : l.most = some n) (hn2 : n ≤ sizeLine) (hdf : d.params.defaults = []) (hr : Room k callerA)
    (hY : ∀ (w : World) (h : Heap), YP w h → (K w.params).In h)
    (F : ∀ (w : World) (mg : Str → Option Value) (fa : Addr) (h : Heap), (K w.params).In h → h.Ns mainGlobals mg → mg d.name = some (.ref fa) →
      ∃ fd : FuncData, (∀ (s : Shared) (u : Value), BindsTo s fd ⟨[u], []⟩ [(x, u)]) ∧
        ∀ base : Heap, (K w.params).In base → base.Ns mainGlobals mg → FnG l.prog w (K w.params) mg base (CX w) k fa fd [x] (sp w))
    (hsp : ∀ (w : World) (H : Hp) (a : Addr) (ns : List Int), ns.length ≤ n → Only H → SqL (K w.params) H a (ns.map V.int) → sp w [.ref a] H (fun v _ => v = .bl true) fun _ _ _ => False)
    (hCX : ∀ (w : World) (H : Hp) (s : Shared) (e : Value) (s' : Shared), CX w [] H s (fun _ _ _ => False) e s' → False) :
    PySem.W.WalkO q loose XP YP l.row.toRowW d [] (fun f vs => PySem.call f vs) := by
  refine Att.attach_call hn hdf fun w s₀ s₁ mg mb fa o pm cd doc a vs ns G Y ho hd hcd hmg hobj hints hlen hg => ?_
  obtain ⟨fd, hb, hF⟩ := F w mg fa _ (hY w _ Y) G.T.g hmg
  exact law_callG (hY w _ Y) G.T.g G.T.b G.T.builtins G.T.nolimit hg hobj hints (Nat.le_trans hlen hn2) hr hF hb (fun H hO hS => hsp w H a ns hlen hO hS) fun H e s' => hCX w H s₁ e s'
end Gd
/-! ### tuples of which it is known that they are plain: rules that make them, and their methods -/
namespace Tx
open PySem PySem.Spec PyProof.Rows L2
/-- a plain tuple -/
def TX (H : Hp) (a : Addr) (xs : List V) : Prop := ∃ ob, H a = some (.frz ob (.tup xs)) ∧ ob.dict = none
theorem TX.same {H H' : Hp} {a : Addr} {xs : List V} (h : TX H a xs) (s : Same H H') : TX H' a xs := let ⟨ob, e, d⟩ := h; ⟨ob, s _ _ e, d⟩
theorem TX.sq {K : PySem.W.Frag} {H : Hp} {a : Addr} {xs : List V} (h : TX H a xs) : SqT K H a xs := let ⟨ob, e, _⟩ := h; .inl (.inr ⟨ob, e⟩)
theorem TX.there {H : Hp} {a : Addr} {xs : List V} (h : TX H a xs) : ∃ ob, H a = some (.frz ob (.tup xs)) := let ⟨ob, e, _⟩ := h; ⟨ob, e⟩
theorem same_new {p : Addr} {H : Hp} {o : HO} (n : H p = none) : Same H (L2.upd H p o) := fun b u h => by rw [upd_ne (ne_of_none h n)]; exact h
section
variable {X : Cx}
/-- a new plain tuple -/
theorem laid_tup {pins : List (Addr × Obj)} {σ : L2.St} {H : Hp} {s : Shared} {xs : List V} {us : List Value} (I : Inv X pins σ H s) (rel : Vals xs us) (few : xs.length ≤ sizeLine) :
    ∃ H2, Inv X pins σ H2 { s with heap := s.heap.push { cls := .type "tuple", data := .seq us.toArray } } ∧ H s.heap.objs.size = none ∧ Same H H2 ∧ TX H2 s.heap.objs.size xs := by
  have fresh := I.hok.fresh (Nat.le_refl s.heap.objs.size)
  have J := I.laid (t' := s.toks) (o := .frz { cls := .type "tuple", data := .seq us.toArray } (.tup xs)) (h' := s.heap.push { cls := .type "tuple", data := .seq us.toArray }) (fun b ob q => Heap.get?_push_of_some _ q) (Nat.le_refl _)
    ⟨Heap.get?_push_size _ rfl, few, us, rel, IsTup.new _ _⟩
  exact ⟨_, J, fresh, same_new fresh, _, upd_same, rfl⟩
/-- (a, b, ..) -/
def tTupX (t : TA) : TE := fun σ H Q => t σ H fun xs H1 => xs.length ≤ sizeLine ∧ ∀ p H2, H1 p = none → Same H1 H2 → TX H2 p xs → Q (.ref p) H2
theorem pe_tupX {es : List Expr} {pos : Pos} {x1} {t : TA} (h : PA X es t) : PE X (.Tuple es x1 pos) (tTupX t) := by
  refine ⟨fun pins s0 σ G0 Q J0 q0 => ?_⟩
  refine wpAny_Tuple_spliced (thn (h.run pos pins s0 σ G0 _ J0 q0) fun us s1 ⟨xs, G1, J1, rel, few, q⟩ => ⟨by rw [← rel.length]; exact few, ?_⟩)
  obtain ⟨G2, J2, fresh, same, tx⟩ := laid_tup J1 rel few
  exact ⟨.ref s1.heap.objs.size, G2, J2, rfl, q _ _ fresh same tx⟩
/-- t + u -/
def rCatX : R2 := fun x y H Q => ∃ a b xs ys, x = .ref a ∧ y = .ref b ∧ TX H a xs ∧ TX H b ys ∧ xs.length + ys.length ≤ sizeLine ∧ ∀ p H2, Same H H2 → TX H2 p (xs ++ ys) → Q (.ref p) H2
theorem op_catX : OpR X (binaryOp .Add) rCatX := by
  intro pins s σ H x y v u Q J rx ry h
  obtain ⟨a, b, xs, ys, rfl, rfl, ha, hb, few, q⟩ := h
  by_cases ex : xs = []
  · subst ex
    refine op_catA pins s σ H _ _ v u Q J rx ry ⟨a, b, [], ys, rfl, rfl, ha.sq, hb.sq, few, fun _ => q b H (Same.refl H) hb, fun e => absurd rfl e, fun e => absurd rfl e⟩
  · cases rx
    cases ry
    obtain ⟨us, r1, p1, _⟩ := J.tuple (ha.sq (K := X.K))
    obtain ⟨ws, r2, p2, _⟩ := J.tuple (hb.sq (K := X.K))
    refine HT.cat_tup p1 p2 (fun z => ex (r1.nil_iff.mp z)) (fun z => ?_) (fun z => ?_) (by rw [← r1.length, ← r2.length]; exact few)
    · have ey := r2.nil_iff.mp z
      subst ey
      exact ⟨.ref a, H, J, rfl, q a H (Same.refl H) (by rw [List.append_nil]; exact ha)⟩
    · obtain ⟨G2, J2, fresh, same, tx⟩ := laid_tup J (r1.append r2) (by rw [List.length_append]; exact few)
      exact ⟨.ref s.heap.objs.size, G2, J2, rfl, q _ _ same tx⟩
/-- t + u, what is new is plain -/
def rCatY (K : PySem.W.Frag) : R2 := fun x y H Q => ∃ a b xs ys, x = .ref a ∧ y = .ref b ∧ SqT K H a xs ∧ SqT K H b ys ∧ xs.length + ys.length ≤ sizeLine ∧
  (xs = [] → Q (.ref b) H) ∧ (xs ≠ [] → ys = [] → Q (.ref a) H) ∧ ∀ p H2, H p = none → Same H H2 → TX H2 p (xs ++ ys) → Q (.ref p) H2
theorem op_catY : OpR X (binaryOp .Add) (rCatY X.K) := by
  intro pins s σ H x y v u Q J rx ry h
  obtain ⟨a, b, xs, ys, rfl, rfl, ha, hb, few, q0, q1, q2⟩ := h
  by_cases ex : xs = []
  · subst ex
    exact op_catA pins s σ H _ _ v u Q J rx ry ⟨a, b, [], ys, rfl, rfl, ha, hb, few, q0, fun e => absurd rfl e, fun e => absurd rfl e⟩
  by_cases ey : ys = []
  · subst ey
    exact op_catA pins s σ H _ _ v u Q J rx ry ⟨a, b, xs, [], rfl, rfl, ha, hb, few, fun e => absurd e ex, q1, fun _ e => absurd rfl e⟩
  · cases rx
    cases ry
    obtain ⟨us, r1, p1, _⟩ := J.tuple ha
    obtain ⟨ws, r2, p2, _⟩ := J.tuple hb
    refine HT.cat_tup p1 p2 (fun z => ex (r1.nil_iff.mp z)) (fun z => absurd (r2.nil_iff.mp z) ey) (fun _ => ?_) (by rw [← r1.length, ← r2.length]; exact few)
    obtain ⟨G2, J2, fresh, same, tx⟩ := laid_tup J (r1.append r2) (by rw [List.length_append]; exact few)
    exact ⟨.ref s.heap.objs.size, G2, J2, rfl, q2 _ _ fresh same tx⟩
/-- t[lo:hi] -/
def rSlX : V → Option Int → Option Int → Hp → VK → Prop := fun x lo hi H Q => ∃ a xs, x = .ref a ∧ TX H a xs ∧ ∀ p H2, Same H H2 → TX H2 p (cutV xs lo hi) → Q (.ref p) H2
theorem cut_whole {xs : List V} {lo hi : Option Int} (h : HT.sIx xs.length 0 lo = 0 ∧ HT.sIx xs.length xs.length hi = xs.length) : cutV xs lo hi = xs := by
  unfold cutV
  rw [h.1, h.2, List.drop_zero, Nat.sub_zero, List.take_length]
theorem sl_tupX : SlR X rSlX := by
  intro pins s σ H x v vl vu lo hi sl Q J rx hs pl pu h
  obtain ⟨a, xs, rfl, hx, q⟩ := h
  cases rx
  obtain ⟨us, rel, tt, few⟩ := J.tuple (hx.sq (K := X.K))
  have len : us.toArray.size = xs.length := by rw [List.size_toArray]; exact rel.length.symm
  refine ⟨"tuple", _, PyProof.Rows.slot_tuple_getitem.lookup, tt.typeIs, ?_⟩
  by_cases whole : HT.sIx xs.length 0 lo = 0 ∧ HT.sIx xs.length xs.length hi = xs.length
  · refine getItem_tuple_whole tt hs pl pu (by rw [len]; exact whole) ⟨.ref a, H, J, rfl, q a H (Same.refl H) ?_⟩
    rw [cut_whole whole]
    exact hx
  · refine HT.getItem_tuple_cut tt hs pl pu (by rw [len]; exact whole) ?_ (by rw [len]; exact few)
    rw [len]
    obtain ⟨G2, J2, fresh, same, tx⟩ := laid_tup J ((rel.drop (HT.sIx xs.length 0 lo)).take (HT.sIx xs.length xs.length hi - HT.sIx xs.length 0 lo)) (Nat.le_trans (cutV_length xs lo hi) few)
    exact ⟨.ref s.heap.objs.size, G2, J2, rfl, q _ _ same tx⟩
/-- tuple(xs) of a list -/
theorem call_tupX : CallR X (.type "tuple") (fun xs H Q => ∃ p ys, xs = [.ref p] ∧ SqL X.K H p ys ∧ ∀ q H2, H q = none → Same H H2 → TX H2 q ys → Q (.ref q) H2) := by
  intro pins s σ H xs us Q J r h
  obtain ⟨p, ys, rfl, hq, q⟩ := h
  obtain ⟨u, rfl, rx⟩ := vals1 r
  cases rx
  obtain ⟨its, rel, pl, few⟩ := J.list hq
  have len := rel.length
  refine call_tuple_list pl.isList (fun h2 keep => ?_) (by simp only [List.size_toArray]; omega)
  have J1 : Inv X pins σ H { s with heap := h2 } := J.kept (t' := s.toks) keep
  obtain ⟨G2, J2, fresh, same, tx⟩ := laid_tup J1 rel few
  exact ⟨.ref h2.objs.size, G2, J2, rfl, q _ _ fresh same tx⟩
/-- t.name(..) -/
def tTM (r : V → List V → Hp → VK → Prop) (to : TE) (t : TA) : TE := fun σ H Q => to σ H fun x H1 => (∃ a xs, x = .ref a ∧ TX H1 a xs) ∧ t σ H1 fun vs H2 => r x vs H2 Q
variable {o e : Expr} {es : List Expr} {name : Str} {id : String} {apos cpos : Pos} {r : V → List V → Hp → VK → Prop} {to : TE} {t : TA}
theorem pe_tm (slot : Slot "tuple" name id) (hty : typeOf (.builtin id) = pure (.type "method_descriptor")) (hm : MtR X id r) (ho : PE X o to) (ha : PA X (e :: es) t)
    (hbase : attributeBase o name X.env (eval o X.env) = eval o X.env := by rfl)
    (few : ((backTo cpos (starEach (e :: es) X.env)).all (fun x => !x.1) && (backToKw cpos (keywordEach [] X.env)).all (fun x => x.1.isSome)
      && decide ((e :: es).length + ([] : List Keyword).length + (if ([] : List Keyword).isEmpty then 0 else 1) < 30)) = true := by rfl)
    (line : (apos.endLine == cpos.line) = true := by rfl) (st : starEach (e :: es) X.env = (false, eval e X.env) :: starEach es X.env := by rfl) (plain : (backTo cpos (starEach es X.env)).any (·.1) = false := by rfl) :
    PE X (.Call (.Attribute o name apos) (e :: es) [] cpos) (tTM r to t) := by
  refine ⟨fun pins s0 σ G0 Q J0 q0 => ?_⟩
  refine wpAny_Call_method_late hbase few line rfl (thn (ho.run pins s0 σ G0 _ J0 q0) fun v s1 ⟨x, G1, J1, r1, ⟨a, xs, ex, tx⟩, q1⟩ => ?_)
  subst ex
  obtain rfl : v = Value.ref a := r1
  obtain ⟨ob, at_, nod⟩ := tx
  obtain ⟨here, _, us, rel, tt⟩ := J1.hok a _ at_
  refine ⟨"tuple", id, F.plainAttrs_tuple, slot, hty, tt.typeIs, fun b eb => ?_, ?_⟩
  · cases eb
    exact ⟨ob, here, nod⟩
  have run := ha.run cpos pins s1 σ G1 _ J1 q1
  rw [st] at run ⊢
  refine Calls.callWith_builtin (by show (false || (backTo cpos (starEach es X.env)).any (·.1)) = false; rw [plain]; rfl) (Calls.evalArgs_plain ?_)
  exact thn run fun us2 s2 ⟨vs, G2, J2, r2, q2⟩ => hm pins s2 σ G2 (.ref a) vs _ us2 Q J2 rfl r2 q2
end
end Tx
/-! ### repr of what is tracked: None, bools, ints, texts, lists, tuples and dicts of them -/
namespace Gd
open PySem PySem.Spec PyProof.Rows L2 PySem.Builtin.List
def keyText : Key → Str
  | .inl i => ((toString i : String) : Str)
  | .inr x => reprText x
def keyFits : Key → Prop
  | .inl i => i.natAbs.log2 < 1920
  | .inr x => (reprText x).length ≤ sizeLine
/-- a plain value and its text -/
inductive Sc : V → Str → Prop where
  | non : Sc .non "None"
  | bl (b : Bool) : Sc (.bl b) (if b then "True" else "False")
  | int (i : Int) (h : i.natAbs.log2 < 1920) : Sc (.int i) ((toString i : String) : Str)
  | str (x : Str) (h : (reprText x).length ≤ sizeLine) : Sc (.str x) (reprText x)
/-- v is shown as t: nested at most n deep -/
def Sh (H : Hp) : Nat → V → Str → Prop
  | 0, v, t => Sc v t
  | n + 1, v, t => Sc v t ∨ (∃ a xs ts, v = .ref a ∧ H a = some (.lst xs) ∧ Paired (Sh H n) xs ts ∧ t = listText ts) ∨
      (∃ a xs ts, v = .ref a ∧ Tx.TX H a xs ∧ Paired (Sh H n) xs ts ∧ t = tupleText ts) ∨
      ∃ a kvs ts, v = .ref a ∧ H a = some (.dK kvs) ∧ Paired (fun (p : Key × V) t => keyFits p.1 ∧ Sh H n p.2 t) kvs ts ∧ t = dictText (List.zipWith (fun (p : Key × V) t => keyText p.1 ++ ": " ++ t) kvs ts)
theorem Sh.sc {H : Hp} {n : Nat} {v : V} {t : Str} (h : Sc v t) : Sh H n v t := by
  cases n with
  | zero => exact h
  | succ n => exact .inl h
theorem Sh.lst {H : Hp} {n : Nat} {a : Addr} {xs : List V} {ts : List Str} (e : H a = some (.lst xs)) (h : Paired (Sh H n) xs ts) : Sh H (n + 1) (.ref a) (listText ts) := .inr (.inl ⟨a, xs, ts, rfl, e, h, rfl⟩)
theorem Sh.tup {H : Hp} {n : Nat} {a : Addr} {xs : List V} {ts : List Str} (e : Tx.TX H a xs) (h : Paired (Sh H n) xs ts) : Sh H (n + 1) (.ref a) (tupleText ts) := .inr (.inr (.inl ⟨a, xs, ts, rfl, e, h, rfl⟩))
theorem Sh.dK {H : Hp} {n : Nat} {a : Addr} {kvs : List (Key × V)} {ts : List Str} (e : H a = some (.dK kvs)) (h : Paired (fun (p : Key × V) t => keyFits p.1 ∧ Sh H n p.2 t) kvs ts) :
    Sh H (n + 1) (.ref a) (dictText (List.zipWith (fun (p : Key × V) t => keyText p.1 ++ ": " ++ t) kvs ts)) := .inr (.inr (.inr ⟨a, kvs, ts, rfl, e, h, rfl⟩))
theorem Sc.det {v : V} {t t' : Str} (h : Sc v t) (h' : Sc v t') : t = t' := by
  cases h <;> cases h' <;> rfl
theorem Sc.noRef {a : Addr} {t : Str} (h : Sc (.ref a) t) : False := nomatch h
theorem paired_det {α : Type} {F G : α → Str → Prop} (k : ∀ a t t', F a t → G a t' → t = t') : ∀ {xs : List α} {ts ts' : List Str}, Paired F xs ts → Paired G xs ts' → ts = ts'
  | _, _, _, .nil, .nil => rfl
  | _, _, _, .cons h r, .cons h' r' => by rw [k _ _ _ h h', paired_det k r r']
/-- the text is one -/
theorem Sh.det {H : Hp} : ∀ (n : Nat) (v : V) (t : Str), Sh H n v t → ∀ (m : Nat) (t' : Str), Sh H m v t' → t = t'
  | 0, v, t, h, 0, t', h' => Sc.det h h'
  | 0, v, t, h, m + 1, t', h' => by
    rcases h' with h' | ⟨a, _, _, rfl, _⟩ | ⟨a, _, _, rfl, _⟩ | ⟨a, _, _, rfl, _⟩
    · exact Sc.det h h'
    all_goals exact (Sc.noRef h).elim
  | n + 1, v, t, h, 0, t', h' => by
    rcases h with h | ⟨a, _, _, rfl, _⟩ | ⟨a, _, _, rfl, _⟩ | ⟨a, _, _, rfl, _⟩
    · exact Sc.det h h'
    all_goals exact (Sc.noRef h').elim
  | n + 1, v, t, h, m + 1, t', h' => by
    rcases h with h | ⟨a, xs, ts, rfl, e, p, rfl⟩ | ⟨a, xs, ts, rfl, ⟨ob, e, od⟩, p, rfl⟩ | ⟨a, xs, ts, rfl, e, p, rfl⟩
    · rcases h' with h' | ⟨a, _, _, rfl, _⟩ | ⟨a, _, _, rfl, _⟩ | ⟨a, _, _, rfl, _⟩
      · exact Sc.det h h'
      all_goals exact (Sc.noRef h).elim
    · rcases h' with h' | ⟨b, xs', ts', eb, e', p', rfl⟩ | ⟨b, xs', ts', eb, ⟨ob', e', od'⟩, p', rfl⟩ | ⟨b, xs', ts', eb, e', p', rfl⟩
      · exact (Sc.noRef h').elim
      all_goals
        cases eb
        rw [e] at e'
        cases e'
      rw [paired_det (fun a t t' q q' => Sh.det n a t q m t' q') p p']
    · rcases h' with h' | ⟨b, xs', ts', eb, e', p', rfl⟩ | ⟨b, xs', ts', eb, ⟨ob', e', od'⟩, p', rfl⟩ | ⟨b, xs', ts', eb, e', p', rfl⟩
      · exact (Sc.noRef h').elim
      all_goals
        cases eb
        rw [e] at e'
        cases e'
      rw [paired_det (fun a t t' q q' => Sh.det n a t q m t' q') p p']
    · rcases h' with h' | ⟨b, xs', ts', eb, e', p', rfl⟩ | ⟨b, xs', ts', eb, ⟨ob', e', od'⟩, p', rfl⟩ | ⟨b, xs', ts', eb, e', p', rfl⟩
      · exact (Sc.noRef h').elim
      all_goals
        cases eb
        rw [e] at e'
        cases e'
      rw [paired_det (fun a t t' q q' => Sh.det n a.2 t q.2 m t' q'.2) p p']
theorem Sh.keep {H H' : Hp} (k : ∀ a o, H a = some o → H' a = some o) : ∀ (n : Nat) (v : V) (t : Str), Sh H n v t → Sh H' n v t
  | 0, _, _, h => h
  | n + 1, _, _, h => by
    rcases h with h | ⟨a, xs, ts, rfl, e, p, rfl⟩ | ⟨a, xs, ts, rfl, e, p, rfl⟩ | ⟨a, xs, ts, rfl, e, p, rfl⟩
    · exact .inl h
    · exact Sh.lst (k _ _ e) (L2.Paired.mapP p fun x t q => Sh.keep k n x t q)
    · exact Sh.tup (Tx.TX.same e k) (L2.Paired.mapP p fun x t q => Sh.keep k n x t q)
    · exact Sh.dK (k _ _ e) (L2.Paired.mapP p fun x t q => ⟨q.1, Sh.keep k n x.2 t q.2⟩)
section
variable {P : Program} {w : World} {H : Hp} {h : Heap}
def Below (H : Hp) (n : Nat) (b : Addr) : Prop := ∃ m, m ≤ n ∧ ∃ t, Sh H m (.ref b) t
theorem all_repr {n : Nat} (ih : ∀ (v : V) (t : Str) (u : Value), Sh H n v t → RelV v u → ∃ bs : List Addr, (∀ b ∈ bs, Below H n b) ∧ ReprK P w bs h n u t) :
    ∀ {xs : List V} {ts : List Str} {us : List Value}, Paired (Sh H n) xs ts → Vals xs us → ∃ bs : List Addr, (∀ b ∈ bs, Below H n b) ∧ ReprAllK P w bs h n us ts
  | _, _, _, .nil, .nil => ⟨[], (fun _ m => nomatch m), .nil⟩
  | _, _, _, .cons p q, .cons r s => by
    obtain ⟨b1, h1, k1⟩ := ih _ _ _ p r
    obtain ⟨b2, h2, k2⟩ := all_repr ih q s
    exact ⟨b1 ++ b2, fun b m => (List.mem_append.mp m).elim (h1 b) (h2 b), .cons (k1.more fun b m => List.mem_append_left _ m) (k2.more_le (fun b m => List.mem_append_right _ m) (Nat.le_refl _))⟩
theorem key_repr {k : Key} {v : Value} (e : keyIs k v = true) (f : keyFits k) (bs : List Addr) (n : Nat) : ReprK P w bs h n v (keyText k) := by
  rcases keyIs_shape e with ⟨i, t, rfl, rfl⟩ | ⟨x, t, rfl, rfl⟩
  · exact .of_is (ReprIs.int t f) _ _ _
  · exact .of_is (ReprIs.str x t f) _ _ _
theorem ReprEntriesK.wider {as as' : List Addr} {d : Nat} (sub : ∀ b ∈ as, b ∈ as') : ∀ {l : List DictEntry} {ts : List Str}, ReprEntriesK P w as h d l ts → ReprEntriesK P w as' h d l ts
  | _, _, .nil => .nil
  | _, _, .cons a b r => .cons (a.more sub) (b.more sub) (ReprEntriesK.wider sub r)
theorem entries_repr {n : Nat} (ih : ∀ (v : V) (t : Str) (u : Value), Sh H n v t → RelV v u → ∃ bs : List Addr, (∀ b ∈ bs, Below H n b) ∧ ReprK P w bs h n u t) :
    ∀ {kvs : List (Key × V)} {ts : List Str} {ws : List (Key × Value)} {es : List DictEntry}, Paired (fun (p : Key × V) t => keyFits p.1 ∧ Sh H n p.2 t) kvs ts → KV kvs ws → Pairs (mixKind P w) es ws →
      ∃ bs : List Addr, (∀ b ∈ bs, Below H n b) ∧ ReprEntriesK P w bs h n es (List.zipWith (fun (p : Key × V) t => keyText p.1 ++ ": " ++ t) kvs ts)
  | _, _, _, _, .nil, .nil, .nil => ⟨[], (fun _ m => nomatch m), .nil⟩
  | _, _, _, _, .cons p q, .cons r s, .cons (e := e) a b c => by
    obtain ⟨b1, h1, k1⟩ := ih _ _ _ p.2 r.2
    obtain ⟨b2, h2, k2⟩ := entries_repr ih q s c
    refine ⟨b1 ++ b2, fun b m => (List.mem_append.mp m).elim (h1 b) (h2 b), ?_⟩
    refine .cons (key_repr (by rw [r.1]; exact a) p.1 _ _) ?_ (ReprEntriesK.wider (fun b m => List.mem_append_right _ m) k2)
    rw [b]
    exact k1.more fun b m => List.mem_append_left _ m
/-- whatever is tracked and is shown as t gives t to repr -/
theorem repr_sh (ok : HOk P w H h) (n : Nat) : ∀ (v : V) (t : Str) (u : Value), Sh H n v t → RelV v u → ∃ bs : List Addr, (∀ b ∈ bs, Below H n b) ∧ ReprK P w bs h n u t := by
  induction n using Nat.strongRecOn with
  | ind n IH =>
    intro v t u hv r
    have plain : Sc v t → ∃ bs : List Addr, (∀ b ∈ bs, Below H n b) ∧ ReprK P w bs h n u t := fun c => by
      refine ⟨[], (fun _ m => nomatch m), ?_⟩
      cases c with
      | non =>
        cases (show u = Value.none from r)
        exact .of_is ReprIs.none _ _ _
      | bl b =>
        cases (show u = Value.bool b from r)
        exact .of_is (ReprIs.bool b) _ _ _
      | int i f =>
        obtain ⟨t, rfl⟩ := (show ∃ t, u = Value.int i t from r)
        exact .of_is (ReprIs.int t f) _ _ _
      | str x f =>
        obtain ⟨t, rfl⟩ := (show ∃ t, u = Value.str x t from r)
        exact .of_is (ReprIs.str x t f) _ _ _
    cases n with
    | zero => exact plain hv
    | succ n =>
      have ih := IH n (Nat.lt_succ_self n)
      -- a ring can't be: what is below has the same text at a lower level
      have ring : ∀ (a : Addr) (bs : List Addr), v = .ref a → (∀ b ∈ bs, Below H n b) → a ∈ bs → ∃ bs : List Addr, (∀ b ∈ bs, Below H (n + 1) b) ∧ ReprK P w bs h (n + 1) u t := fun a bs e hb m => by
        obtain ⟨m, hm, t', ht⟩ := hb a m
        subst e
        have et : t = t' := Sh.det _ _ _ hv _ _ ht
        subst et
        obtain ⟨cs, hc, k⟩ := IH m (by omega) _ _ _ ht r
        exact ⟨cs, fun b q => let ⟨l, hl, x⟩ := hc b q; ⟨l, by omega, x⟩, k.level_le (by omega)⟩
      rcases id hv with c | ⟨a, xs, ts, rfl, e, p, rfl⟩ | ⟨a, xs, ts, rfl, e, p, rfl⟩ | ⟨a, kvs, ts, rfl, e, p, rfl⟩
      · exact plain c
      · cases (show u = Value.ref a from r)
        obtain ⟨_, its, m, rv, ho⟩ := (show ObjOk P w H h a (.lst xs) from ok a _ e)
        obtain ⟨bs, hb, hk⟩ := all_repr ih p rv
        by_cases c : a ∈ bs
        · exact ring a bs rfl hb c
        · refine ⟨a :: bs, fun b q => ?_, ?_⟩
          · rcases List.mem_cons.mp q with rfl | q
            · exact ⟨n + 1, Nat.le_refl _, _, hv⟩
            · obtain ⟨l, hl, x⟩ := hb b q
              exact ⟨l, by omega, x⟩
          · cases its with
            | nil =>
              cases hk
              rw [listText_nil]
              exact ReprK.listEmpty ho rfl rfl
            | cons x l => exact ReprK.list ho rfl rfl c (by simpa using hk.length_eq) (fun i y q => hk.item i y (by simpa using q))
      · cases (show u = Value.ref a from r)
        obtain ⟨ob, e, od⟩ := e
        obtain ⟨_, _, its, rv, o, ho, hc, m, hd⟩ := (show ObjOk P w H h a (.frz ob (.tup xs)) from ok a _ e)
        obtain ⟨bs, hb, hk⟩ := all_repr ih p rv
        by_cases c : a ∈ bs
        · exact ring a bs rfl hb c
        · refine ⟨a :: bs, fun b q => ?_, ReprK.tuple ho hc hd c (by simpa using hk)⟩
          rcases List.mem_cons.mp q with rfl | q
          · exact ⟨n + 1, Nat.le_refl _, _, hv⟩
          · obtain ⟨l, hl, x⟩ := hb b q
            exact ⟨l, by omega, x⟩
      · cases (show u = Value.ref a from r)
        obtain ⟨_, ys, ws, rv, o, es, ep, ho, hc, hd, _, hp, _⟩ := (show ObjOk P w H h a (.dK kvs) from ok a _ e)
        obtain ⟨bs, hb, hk⟩ := entries_repr ih p rv hp
        by_cases c : a ∈ bs
        · exact ring a bs rfl hb c
        · refine ⟨a :: bs, fun b q => ?_, ReprK.dict ho hc.1 hd ys c hk⟩
          rcases List.mem_cons.mp q with rfl | q
          · exact ⟨n + 1, Nat.le_refl _, _, hv⟩
          · obtain ⟨l, hl, x⟩ := hb b q
            exact ⟨l, by omega, x⟩
/-- repr(v) -/
theorem call_sh (ok : HOk P w H h) (n : Nat) : ∀ (v : V) (t : Str) (u : Value), Sh H n v t → RelV v u → t.length ≤ sizeLine → ∀ (A : Around) (E : Value → Shared → Prop) (s : Shared) (Q : Value → Shared → Prop), A.guards = some [] → A.units + (n + 1) < cLine → s.heap = h →
    (∀ h' z tk, (∀ b o, s.heap.get? b = some o → h'.get? b = some o) → Q (.str t z) { s with heap := h', toks := tk }) → wpAny (model P w) A (call (.builtin "repr") [u]) Q E s := by
  induction n using Nat.strongRecOn with
  | ind n IH =>
    intro v t u hv r hz A E s Q hg hu eh hQ
    subst eh
    have plain : Sc v t → wpAny (model P w) A (call (.builtin "repr") [u]) Q E s := fun c => by
      cases c with
      | non =>
        cases (show u = Value.none from r)
        exact PySem.P.repr_of_none (hQ s.heap _ _ fun _ _ e => e)
      | bl b =>
        cases (show u = Value.bool b from r)
        exact PySem.P.repr_of_bool (by
          have q := hQ s.heap s.toks (s.toks + 1) fun _ _ e => e
          cases b <;> exact q)
      | int i f =>
        obtain ⟨t, rfl⟩ := (show ∃ t, u = Value.int i t from r)
        exact PySem.P.repr_of_int f (hQ s.heap _ _ fun _ _ e => e)
      | str x f =>
        obtain ⟨t, rfl⟩ := (show ∃ t, u = Value.str x t from r)
        exact PySem.P.repr_of_str (hQ s.heap _ _ fun _ _ e => e) f
    cases n with
    | zero => exact plain hv
    | succ n =>
      have ih := fun v t u => repr_sh (P := P) (w := w) ok n v t u
      have ring : ∀ (a : Addr) (bs : List Addr), v = .ref a → (∀ b ∈ bs, Below H n b) → a ∈ bs → wpAny (model P w) A (call (.builtin "repr") [u]) Q E s := fun a bs e hb m => by
        obtain ⟨m, hm, t', ht⟩ := hb a m
        subst e
        have et : t = t' := Sh.det _ _ _ hv _ _ ht
        subst et
        exact IH m (by omega) _ _ _ ht r hz A E s Q hg (by omega) rfl hQ
      have hu1 : A.in1.units + (n + 1) < cLine := by
        show A.units + 1 + (n + 1) < cLine
        omega
      have hk0 : ∀ b o, s.heap.get? b = some o → s.heap.get? b = some o := fun _ _ e => e
      rcases id hv with c | ⟨a, xs, ts, rfl, e, p, rfl⟩ | ⟨a, xs, ts, rfl, e, p, rfl⟩ | ⟨a, kvs, ts, rfl, e, p, rfl⟩
      · exact plain c
      · cases (show u = Value.ref a from r)
        obtain ⟨_, its, m, rv, ho⟩ := (show ObjOk P w H s.heap a (.lst xs) from ok a _ e)
        obtain ⟨bs, hb, hk⟩ := all_repr ih p rv
        by_cases c : a ∈ bs
        · exact ring a bs rfl hb c
        · refine call_repr_slot (by omega) (T := "list") ⟨_, ho, rfl⟩ F.slot_list_repr.toG ?_
          cases its with
          | nil =>
            cases hk
            rw [listText_nil] at hQ
            exact call_list_repr_empty ⟨_, ho, rfl⟩ ho rfl ⟨_, _, rfl, hQ s.heap _ _ fun _ _ e => e⟩
          | cons x l =>
            exact call_list_reprK ho rfl rfl c (by simpa using hk.length_eq) (fun i y q => hk.item i y (by simpa using q)) (A := A.in1) hg (fun b _ => Clear.nil b) hu1 hk0 (fun h' z tk k => ⟨_, _, rfl, hQ h' z tk k⟩) hz
      · cases (show u = Value.ref a from r)
        obtain ⟨ob, e, od⟩ := e
        obtain ⟨_, _, its, rv, o, ho, hc, m, hd⟩ := (show ObjOk P w H s.heap a (.frz ob (.tup xs)) from ok a _ e)
        obtain ⟨bs, hb, hk⟩ := all_repr ih p rv
        by_cases c : a ∈ bs
        · exact ring a bs rfl hb c
        · exact call_repr_slot (by omega) (T := "tuple") ⟨_, ho, hc⟩ F.slot_tuple_repr (call_tuple_reprK ho hc hd c (by simpa using hk) (A := A.in1) hg (fun b _ => Clear.nil b) hu1 hk0 (fun h' z tk k => ⟨_, _, rfl, hQ h' z tk k⟩) hz)
      · cases (show u = Value.ref a from r)
        obtain ⟨_, ys, ws, rv, o, es, ep, ho, hc, hd, _, hp, _⟩ := (show ObjOk P w H s.heap a (.dK kvs) from ok a _ e)
        obtain ⟨bs, hb, hk⟩ := entries_repr ih p rv hp
        by_cases c : a ∈ bs
        · exact ring a bs rfl hb c
        · exact call_repr_slot (by omega) (T := "dict") ⟨_, ho, hc.1⟩ F.slot_dict_repr (call_dict_reprK ho hc.1 hd ys c hk (A := A.in1) hg (fun b _ => Clear.nil b) hu1 hk0 (fun h' z tk k => ⟨_, _, rfl, hQ h' z tk k⟩) hz)
end
section
variable {X : Cx}
def rRepr : List V → Hp → VK → Prop := fun vs H Q => ∃ (v : V) (n : Nat) (t : Str), vs = [v] ∧ Sh H n v t ∧ n ≤ 50 ∧ t.length ≤ sizeLine ∧ Q (.str t) H
theorem call_repr (gd : X.A.guards = some []) (hu : X.A.units + 64 < cLine) : CallR X (.builtin "repr") rRepr := by
  intro pins s σ H vs us Q I r h
  obtain ⟨v, n, t, rfl, hv, hn, hz, q⟩ := h
  obtain ⟨u, rfl, ru⟩ := vals1 r
  exact call_sh I.hok n v t u hv ru hz X.A _ s _ gd (by omega) rfl fun h' z tk k => ⟨.str t, H, I.kept k, ⟨z, rfl⟩, q⟩
end
end Gd
/-! ### {**d, k: v} -/
namespace Du
theorem twice {R A : Prop} (f : R → A) (r : R) : A := f r
open PySem PySem.Spec PyProof.Rows L2
section
variable {prog : Program} {w : World} {K : Type} [DecidableEq K] {knd : KeyKind prog w K} {A : Around} {E : Value → Shared → Prop} {s : Shared}
/-- a key that isn't there goes to the end -/
theorem put_fresh {d : Addr} {old : List (K × Value)} {k : K} {kv vv : Value} {Q : Unit → Shared → Prop} (is : knd.is k kv = true) (at_ : s.heap.DictOf knd d old) (few : old.length ≤ sizeLine) (fresh : k ∉ old.map (·.1))
    (then_ : ∀ h2, h2.DictOf knd d (old ++ [(k, vv)]) → Heap.SameBut d s.heap h2 → Q () { s with heap := h2 }) : wpAny (model prog w) A (dictPut d (knd.hash k) kv vv) Q E s := by
  obtain ⟨ob, rows, age, there, exact_, dat, ks, prs, ndk⟩ := at_
  have sz : rows.size ≤ sizeLine := by
    have e := prs.length
    rw [Array.length_toList] at e
    omega
  have no : (rows.findIdx? fun e => knd.is k e.key) = none := by
    have e1 := prs.findIdx k
    have e2 : (old.findIdx? fun kv => decide (kv.1 = k)) = none := by
      rw [List.findIdx?_eq_none_iff]
      intro x hx
      exact decide_eq_false fun e => fresh (e ▸ List.mem_map_of_mem hx)
    rw [e2] at e1
    rw [← e1]
    obtain ⟨l⟩ := rows
    simp
  unfold dictPut
  refine wpAny_bind (wpAny_dictFind_of is there dat ks ?_)
  rw [no]
  refine wpAny_updateDictKeys (hz := sz) there dat (then_ _ ⟨_, _, age + 1, Heap.get?_update_self _ there (Obj.isFreed_of_dict (Obj.data_mapDictKeys dat _)), exact_.mapDictKeys _,
    Obj.data_mapDictKeys dat _, ks.push is _, ?_, ?_⟩ (Heap.SameBut.update ..))
  · have := prs.append is (knd.hash k) vv
    obtain ⟨l⟩ := rows
    simpa using this
  · rw [List.map_append, List.nodup_append]
    refine ⟨ndk, by simp, fun x hx y hy e => ?_⟩
    rw [List.map_cons, List.map_nil, List.mem_singleton] at hy
    rw [e, hy] at hx
    exact fresh hx
/-- all of one dict behind what another one has -/
theorem merge_fresh {d a : Addr} {acc more : List (K × Value)} {Q : Unit → Shared → Prop} (da : d ≠ a) (sys : (a == sysModules) = false) (hd : s.heap.DictOf knd d acc) (ha : s.heap.DictOf knd a more) (nodup : ((acc ++ more).map (·.1)).Nodup)
    (few : acc.length + more.length ≤ sizeLine) (byV : ∀ (k : K) (v : Value), knd.is k v = true → ∀ b, v ≠ .ref b)
    (then_ : ∀ h2, h2.DictOf knd d (acc ++ more) → Heap.SameBut d s.heap h2 → Q () { s with heap := h2 }) : wpAny (model prog w) A (mergeMapping d (.ref a) false) Q E s := by
  have tyA := ha.typeIs
  obtain ⟨od, rd, gd, atd, exd, datd, ksd, prd, ndd⟩ := id hd
  obtain ⟨oa, ra, ga, ata, exa, data_, ksa, pra, nda⟩ := id ha
  have len : more.length = ra.size := by
    rw [← pra.length]
    simp
  unfold mergeMapping
  refine wpAny_bind (wpAny_isInstance (T := "dict") (U := "dict") (b := true) tyA (by rw [isSubtype_type]; kernel_rfl) ?_)
  rw [if_pos rfl]
  refine wpAny_bind (wpAny_specialOf tyA F.slot_dict_iter.lookup ?_)
  refine wpAny_bind (wpAny_pure ?_)
  have e : (some (Value.builtin "dict.__iter__") == some (Value.builtin "dict.__iter__")) = true := by decide +kernel
  rw [e]
  dsimp only
  rw [if_neg (by rw [sys]; exact Bool.false_ne_true)]
  refine wpAny_bind (wpAny_dictEntries atd datd ?_)
  apply twice
  · intro rest
    refine wpAny_ite_split (fun _ => ?_) (fun _ => ?_)
    · refine wpAny_bind (wpAny_dictEntries ata data_ ?_)
      refine wpAny_bind ?_
      rw [← Array.forIn_toList]
      refine wpAny_forIn_list _ (fun l _ s' => s' = s ∧ ∀ e ∈ l, e ∈ ra) _ ?_ ?_ _ _ ⟨rfl, fun e he => Array.mem_toList_iff.mp he⟩
      · rintro e l b s' ⟨es, hin⟩
        rw [es]
        obtain ⟨k, hk, _⟩ := ksa e (hin e List.mem_cons_self)
        have no := byV k e.key hk
        split
        · rename_i b eb
          exact absurd eb (no b)
        · exact wpAny_pure ⟨rfl, fun x hx => hin x (List.mem_cons_of_mem _ hx)⟩
      · rintro b s' ⟨es, _⟩
        rw [es]
        exact rest
    · exact rest
  refine wpAny_bind (wpAny_dictEntries ata data_ ?_)
  refine wpAny_bind (wpAny_dictEpoch ata data_ ?_)
  refine wpAny_bind ?_
  refine wpAny_forIn_list _ (fun l _ s' => ∃ (h2 : Heap) (i : Nat), s' = { s with heap := h2 } ∧ l = List.range' i (ra.size - i) ∧ i ≤ ra.size ∧ h2.DictOf knd d (acc ++ more.take i) ∧ h2.get? a = some oa ∧ Heap.SameBut d s.heap h2) _ ?_ ?_ _ _
    ⟨s.heap, 0, rfl, by rw [List.range_eq_range', Nat.sub_zero], Nat.zero_le _, by rw [List.take_zero, List.append_nil]; exact hd, ata, Heap.SameBut.refl _ _⟩
  · rintro x l b s' ⟨h2, i, rfl, el, hi, hd2, ata2, same⟩
    have lt : i < ra.size := by
      rcases Nat.lt_or_ge i ra.size with h | h
      · exact h
      · rw [Nat.sub_eq_zero_of_le h] at el
        cases el
    have e1 : ra.size - i = (ra.size - (i + 1)) + 1 := by omega
    rw [e1, List.range'_succ] at el
    injection el with ex el
    subst ex
    refine wpAny_bind (wpAny_dictEntries ata2 data_ ?_)
    rw [Array.getElem?_eq_getElem lt]
    have ltm : x < more.length := by omega
    obtain ⟨hk, hv⟩ := pra.get? (i := x) (e := ra[x]) (k := more[x].1) (v := more[x].2) (by rw [Array.getElem?_toList, Array.getElem?_eq_getElem lt]) (List.getElem?_eq_getElem ltm)
    obtain ⟨k2, hk2, hh⟩ := ksa ra[x] (Array.getElem_mem lt)
    have ek : k2 = more[x].1 := knd.inj _ _ _ hk2 hk
    subst ek
    have split_ : more = more.take x ++ more[x] :: more.drop (x + 1) := by rw [List.getElem_cons_drop, List.take_append_drop]
    have fresh : more[x].1 ∉ (acc ++ more.take x).map (·.1) := fun m => by
      have nd2 := nodup
      rw [split_, ← List.append_assoc, List.map_append, List.nodup_append] at nd2
      exact nd2.2.2 _ m _ (List.mem_map_of_mem List.mem_cons_self) rfl
    refine wpAny_bind (wpAny_holding ?_)
    rw [if_neg Bool.false_ne_true, hh, hv]
    have few2 : (acc ++ more.take x).length ≤ sizeLine := by
      rw [List.length_append, List.length_take]
      omega
    refine put_fresh hk hd2 few2 fresh fun h3 hd3 same3 => ?_
    have ata3 : h3.get? a = some oa := (same3.2 a (Ne.symm da)).trans ata2
    refine wpAny_bind (wpAny_dictEpoch ata3 data_ ?_)
    rw [if_neg (by simp)]
    refine wpAny_pure ⟨h3, x + 1, rfl, el, lt, ?_, ata3, same.trans same3⟩
    rw [List.take_add_one, List.getElem?_eq_getElem ltm, ← List.append_assoc]
    exact hd3
  · rintro b s' ⟨h2, i, rfl, el, hi, hd2, ata2, same⟩
    have ei : i = ra.size := by
      rcases Nat.lt_or_ge i ra.size with h | h
      · have e1 : ra.size - i = (ra.size - (i + 1)) + 1 := by omega
        rw [e1, List.range'_succ] at el
        cases el
      · omega
    rw [ei, ← len, List.take_length] at hd2
    exact wpAny_pure (then_ h2 hd2 same)
end
/-- {**d, k: v}: a new dict with all of d and, at its end, one key more -/
def tDunp (t0 tk tv : TE) : TE := fun σ H Q => ∀ p, H p = none → t0 σ (upd H p (.dK [])) fun x H1 => ∃ (a : Addr) (kvs : List (Key × V)), x = .ref a ∧ a ≠ p ∧ H1 p = some (.dK []) ∧ H1 a = some (.dK kvs) ∧
  ∀ q, (upd H1 p (.dK kvs)) q = none → tk σ (upd (upd H1 p (.dK kvs)) q (.dK [])) fun y H2 => tv σ H2 fun z H3 => ∃ k : Key, y = kV k ∧ H3 q = some (.dK []) ∧ H3 p = some (.dK kvs) ∧ k ∉ kvs.map (·.1) ∧ kvs.length < 1000 ∧
    Q (.ref p) (upd (upd H3 q (.dK [(k, z)])) p (.dK (kvs ++ [(k, z)])))
theorem key_byV {prog : Program} {w : World} (k : Key) (v : Value) (h : (mixKind prog w).is k v = true) (b : Addr) : v ≠ .ref b := by
  rcases keyIs_shape (k := k) (v := v) h with ⟨i, t, _, rfl⟩ | ⟨x, t, _, rfl⟩ <;> intro e <;> cases e
theorem KV.keys {kvs : List (Key × V)} {vs : List (Key × Value)} (r : KV kvs vs) : vs.map (·.1) = kvs.map (·.1) := by
  unfold KV at r
  induction r with
  | nil => rfl
  | cons h t ih => rw [List.map_cons, List.map_cons, ih, h.1]
theorem KV.app {kvs ks2 : List (Key × V)} {vs vs2 : List (Key × Value)} (r : KV kvs vs) (r2 : KV ks2 vs2) : KV (kvs ++ ks2) (vs ++ vs2) := by
  unfold KV at r
  induction r with
  | nil => exact r2
  | cons h t ih => exact .cons h ih
section
variable {X : Cx} {pos : Pos} {e0 k v : Expr} {t0 tk tv : TE}
theorem pe_dunp (h0 : PE X e0 t0) (hk : PE X k tk) (hv : PE X v tv) : PE X (.Dict [none, some k] [e0, v] pos) (tDunp t0 tk tv) := by
  refine ⟨fun pins s σ H Q I q => ?_⟩
  have hn := I.hok.fresh (Nat.le_refl s.heap.objs.size)
  have I1 := I.laid (a := s.heap.objs.size) (o := .dK []) (h' := s.heap.push { cls := .type "dict", data := .dict #[] }) (t' := s.toks) (fun _ _ q => Heap.get?_push_of_some _ q) (Nat.le_refl _) (dk_empty s.heap I.big)
  rw [arm_eval_Dict]
  refine wpAny_bind (wpAny_standAt ?_)
  have items : (evalEachOpt [none, some k] X.env).zip ((evalEach [e0, v] X.env).map fun v => do let x ← v; standAt pos; pure x) =
    [(none, do let x ← eval e0 X.env; standAt pos; pure x), (some (eval k X.env), do let x ← eval v X.env; standAt pos; pure x)] := rfl
  rw [items]
  unfold dictDisplay
  simp only [List.forIn_cons, List.forIn_nil]
  refine wpAny_bind (wpAny_bind ?_)
  refine wpAny_bind (wpAny_of_eq (a := none) rfl ?_)
  dsimp only
  refine wpAny_bind (wpAny_alloc ?_)
  refine wpAny_bind (wpAny_holding (wpAny_bind (thn (h0.run pins _ σ _ _ I1 (q _ hn)) fun u s1 ⟨x, H1, I2, rx, a, kvs, ex, ap, hp1, ha1, q1⟩ => wpAny_bind (wpAny_standAt (wpAny_pure ?_)))))
  subst ex
  obtain rfl : u = Value.ref a := rx
  obtain ⟨za, sysa, va, ra, da⟩ := dk_of I2.hok ha1
  obtain ⟨zp, sysp, vp, rp, dp⟩ := dk_of I2.hok hp1
  cases rp
  have nda : ((([] : List (Key × Value)) ++ va).map fun (x : Key × Value) => x.1).Nodup := by
    obtain ⟨_, _, _, _, _, _, _, _, nd⟩ := da
    rw [List.nil_append]
    exact nd
  have lva : kvs.length = va.length := Paired.length ra
  refine wpAny_bind (wpAny_onRaise (wpAny_tryCatch (wpAny_onRaise (wpAny_holding (merge_fresh (knd := mixKind X.prog X.w) (Ne.symm ap) sysa dp da nda (by rw [List.length_nil]; omega) key_byV fun h2 dp2 same2 => wpAny_pure (wpAny_pure ?_))))))
  rw [List.nil_append] at dp2
  have hpe : ∃ q, h2.get? s.heap.objs.size = some q := let ⟨q, _, _, hq, _⟩ := dp2; ⟨q, hq⟩
  have I3 := d_write (t' := s1.toks) I2 (a := s.heap.objs.size) (ob := .dK kvs) (by rw [hp1]; exact True.intro) same2 hpe (dk_new za sysp ra dp2)
  dsimp only
  refine wpAny_bind ?_
  show wpAny _ _ (holding [.ref s.heap.objs.size] (subDict (pairTrees [some k] [v] X.env pos)) >>= _) _ _ _
  have nq : (upd H1 s.heap.objs.size (.dK kvs)) h2.objs.size = none := I3.hok.fresh (Nat.le_refl _)
  have I4 := I3.laid (a := h2.objs.size) (o := .dK []) (h' := h2.push { cls := .type "dict", data := .dict #[] }) (t' := s1.toks) (fun _ _ q => Heap.get?_push_of_some _ q) (Nat.le_refl _) (dk_empty h2 I3.big)
  refine wpAny_bind (wpAny_holding (wpAny_subDict (knd := mixKind X.prog X.w) (by rw [pairTrees_length _ _ _ _ rfl rfl]; show 1 ≤ 15; decide) ?_))
  refine pairTrees_cons_walk (thn (hk.run pins _ σ _ _ I4 (q1 _ nq)) fun kv s2 ⟨y, H2, I5, ry, q2⟩ => thn (hv.run pins s2 σ H2 _ I5 q2) fun vv s3 ⟨z, H3, I6, rz, key, ey, hq3, hp3, fresh, few, q3⟩ => pairTrees_nil_walk ?_)
  subst ey
  obtain ⟨zq, sysq, vq, rq, dq⟩ := dk_of I6.hok hq3
  cases rq
  refine ⟨[(key, vv)], ⟨kV_is ry, rfl, True.intro⟩, dq, fun h4 dq4 same4 => ?_⟩
  have dq5 : h4.DictOf (mixKind X.prog X.w) h2.objs.size [(key, vv)] := dq4
  have hqe : ∃ q, h4.get? h2.objs.size = some q := let ⟨q, _, _, hq, _⟩ := dq5; ⟨q, hq⟩
  have I7 := d_write (t' := s3.toks + 1) I6 (a := h2.objs.size) (ob := .dK [(key, z)]) (by rw [hq3]; exact True.intro) same4 hqe (dk_new (by show 1 ≤ sizeLine; decide) sysq (.cons ⟨rfl, rz⟩ .nil) dq5)
  have pq : s.heap.objs.size ≠ h2.objs.size := fun e => by
    rw [← e, upd_same] at nq
    cases nq
  have hp7 : (upd H3 h2.objs.size (.dK [(key, z)])) s.heap.objs.size = some (.dK kvs) := by
    rw [upd_ne pq]
    exact hp3
  obtain ⟨zp7, sysp7, vp7, rp7, dp7⟩ := dk_of I7.hok hp7
  have nd7 : ((vp7 ++ [(key, vv)]).map fun (x : Key × Value) => x.1).Nodup := by
    obtain ⟨_, _, _, _, _, _, _, _, nd⟩ := id dp7
    rw [List.map_append, List.nodup_append]
    refine ⟨nd, by simp, fun x hx y hy e => ?_⟩
    rw [KV.keys rp7] at hx
    rw [List.map_cons, List.map_nil, List.mem_singleton] at hy
    rw [e, hy] at hx
    exact fresh hx
  have lv7 : kvs.length = vp7.length := Paired.length rp7
  refine wpAny_bind (wpAny_onRaise (wpAny_holding (merge_fresh (knd := mixKind X.prog X.w) pq sysq dp7 dq5 nd7 (by rw [sizeLine_eq, ← lv7]; simp only [List.length_cons, List.length_nil]; omega) key_byV fun h5 dp8 same5 => wpAny_pure ?_)))
  have hpe5 : ∃ q, h5.get? s.heap.objs.size = some q := let ⟨q, _, _, hq, _⟩ := dp8; ⟨q, hq⟩
  have I8 := d_write (t' := s3.toks + 1) I7 (a := s.heap.objs.size) (ob := .dK (kvs ++ [(key, z)])) (by rw [hp7]; exact True.intro) same5 hpe5
    (dk_new (by rw [List.length_append, sizeLine_eq]; simp only [List.length_cons, List.length_nil]; omega) sysp7 (KV.app rp7 (.cons ⟨rfl, rz⟩ .nil)) dp8)
  exact wpAny_pure ⟨.ref s.heap.objs.size, _, I8, rfl, q3⟩
end
end Du
/-! ### tuple.count; t[:h:-1]; list.extend(t) -/
namespace Tb
open PySem PySem.Spec PyProof.Rows L2
/-- how often a flat value stands in a tuple of flat values -/
def rTCnt (K : PySem.W.Frag) : V → List V → Hp → VK → Prop := fun x xs H Q => ∃ (p : Addr) (ys : List V) (z : V), x = .ref p ∧ xs = [z] ∧ SqT K H p ys ∧ flatV z = true ∧ ys.all flatV = true ∧ Q (.int (ys.countP fun y => eqV y z : Nat)) H
theorem count_eqU {x : V} : ∀ {xs : List V} {us : List Value}, Vals xs us → xs.all flatV = true → us.countP (eqU x) = xs.countP fun y => eqV y x
  | _, _, .nil, _ => rfl
  | y :: xs, u :: us, .cons r t, f => by
    rw [List.all_cons, Bool.and_eq_true] at f
    rw [List.countP_cons, List.countP_cons, eqU_of r f.1, count_eqU t f.2]
theorem mt_tcount {X : Cx} : MtR X "tuple.count" (rTCnt X.K) := by
  intro pins s σ H x xs v us Q I rx rxs h
  obtain ⟨p, ys, z, rfl, rfl, ht, fz, fs, q⟩ := h
  cases rx
  obtain ⟨u, rfl, ru⟩ := rxs.one
  obtain ⟨its, rel, ⟨⟨ocl, odi, oda, osl⟩, hat, hcl, cnt, hda⟩, _⟩ := I.tuple ht
  dsimp only at hcl hda
  subst hcl hda
  have each : ∀ y, y ∈ its.toArray → SeqAt.EqAt X.A.in1 s y u (eqU z y) := fun y hy => mem_eqAt ru fz rel fs y (by simpa using hy)
  refine call_meets PySem.F.slot_tuple_count ⟨_, hat, rfl⟩
    PySem.F.entry_tuple_count (PySem.F.args_tuple_count_2 _ _)
    (SeqAt.tuple_countAt p its.toArray cnt odi osl u (eqU z)) ⟨hat, each, ?_⟩
  have e : its.toArray.toList.countP (eqU z) = ys.countP fun y => eqV y z := count_eqU rel fs
  refine ⟨.int (ys.countP fun y => eqV y z : Nat), H, I.tok _, ⟨s.toks, ?_⟩, q⟩
  show Value.int ((its.toArray.toList.countP (eqU z) : Nat) : Int) s.toks = _
  rw [e]
theorem fm_congr {α β : Type} {f g : α → Option β} : ∀ {l : List α}, (∀ x ∈ l, f x = g x) → l.filterMap f = l.filterMap g
  | [], _ => rfl
  | x :: l, h => by rw [List.filterMap_cons, List.filterMap_cons, h x List.mem_cons_self, fm_congr fun y m => h y (List.mem_cons_of_mem _ m)]
theorem back_pick (xs : Array Value) {h : Nat} (hh : h < xs.size) : ((List.range (xs.size - 1 - h)).filterMap fun (k : Nat) => xs[(((xs.size : Int) - 1) + (k : Int) * (-1)).toNat]?).toArray = ((xs.toList.drop (h + 1)).reverse).toArray := by
  congr 1
  have len : (xs.toList.drop (h + 1)).reverse.length = xs.size - 1 - h := by
    rw [List.length_reverse, List.length_drop, Array.length_toList]
    omega
  have all : ∀ l : List Value, (List.range l.length).filterMap (fun k => l[k]?) = l := fun l => by
    induction l with
    | nil => rfl
    | cons a l ih =>
      rw [List.length_cons, List.range_succ_eq_map, List.filterMap_cons]
      show a :: ((List.range l.length).map Nat.succ).filterMap (fun k => (a :: l)[k]?) = a :: l
      rw [List.filterMap_map]
      exact congrArg (a :: ·) ih
  have e := all (xs.toList.drop (h + 1)).reverse
  rw [len] at e
  refine Eq.trans ?_ e
  refine fm_congr fun k hk => ?_
  have hk := List.mem_range.mp hk
  rw [List.getElem?_reverse (by rw [List.length_drop, Array.length_toList]; omega), List.getElem?_drop, List.length_drop, Array.length_toList, Array.getElem?_toList]
  congr 1
  omega
section
variable {prog : Program} {w : World} {A : Around} {E : Value → Shared → Prop} {s : Shared}
theorem applied_back {sl : Addr} {vl vu vs : Value} {h n : Nat} {Q : Int × Int × Nat → Shared → Prop} (so : s.heap.IsSliceOf sl vl vu vs) (p0 : IsPart vl none) (p1 : IsPart vu (some (h : Int))) (p2 : IsPart vs (some (-1))) (hn : h < n)
    (k : Q ((n : Int) - 1, -1, n - 1 - h) s) : wpAny (model prog w) A (Builtin.Slice.sliceApplied (.ref sl) (pure (n : Int))) Q E s := by
  obtain ⟨ob, at_, _, dat⟩ := id so
  unfold Builtin.Slice.sliceApplied Builtin.Slice.sliceFields
  refine wpAny_bind (wpAny_bind (wpAny_field at_ dat (x := vl) rfl ?_))
  refine wpAny_bind (wpAny_field at_ dat (x := vu) rfl ?_)
  refine wpAny_bind (wpAny_field at_ dat (x := vs) rfl (wpAny_pure ?_))
  refine wpAny_bind (HT.slicePart_ p2 ?_)
  show wpAny _ _ (if ((-1 : Int) == 0) = true then _ else _) _ _ s
  rw [if_neg (by decide)]
  refine wpAny_bind (HT.slicePart_ p0 ?_)
  refine wpAny_bind (HT.slicePart_ p1 ?_)
  refine wpAny_bind (wpAny_pure ?_)
  have adj : Builtin.Slice.sliceAdjust none (some (h : Int)) (-1) (n : Int) = ((n : Int) - 1, (h : Int)) := by
    unfold Builtin.Slice.sliceAdjust
    have e : ¬ ((h : Int) < 0) := by omega
    have e2 : min (h : Int) ((n : Int) - 1) = h := by omega
    simp [e, e2]
  have pl : Builtin.Slice.slicePlaces ((n : Int) - 1) (h : Int) (-1) = n - 1 - h := by
    unfold Builtin.Slice.slicePlaces
    rw [if_neg (by decide)]
    by_cases c : (n : Int) - 1 > (h : Int)
    · rw [if_pos c]
      have e : ((n : Int) - 1 - (h : Int) - 1) / (- -1) = (n : Int) - 1 - (h : Int) - 1 := by
        rw [show (- -1 : Int) = 1 by decide, Int.ediv_one]
      rw [e]
      omega
    · rw [if_neg c]
      omega
  show wpAny _ _ (match Builtin.Slice.sliceAdjust none (some (h : Int)) (-1) (n : Int) with | (lo, hi) => pure (lo, (-1 : Int), Builtin.Slice.slicePlaces lo hi (-1))) _ _ s
  rw [adj]
  show wpAny _ _ (pure ((n : Int) - 1, (-1 : Int), Builtin.Slice.slicePlaces ((n : Int) - 1) (h : Int) (-1))) _ _ s
  rw [pl]
  exact wpAny_pure k
theorem item_back {t sl : Addr} {items : Array Value} {vl vu vs : Value} {h : Nat} {Q : Value → Shared → Prop} (tt : IsTup s.heap t items) (so : s.heap.IsSliceOf sl vl vu vs) (p0 : IsPart vl none) (p1 : IsPart vu (some (h : Int))) (p2 : IsPart vs (some (-1))) (hn : h < items.size) (few : items.size ≤ sizeLine)
    (k : Q (.ref s.heap.objs.size) { s with heap := s.heap.push { cls := .type "tuple", data := .seq ((items.toList.drop (h + 1)).reverse).toArray } }) : wpAny (model prog w) A (getItem (.ref t) (.ref sl)) Q E s := by
  have okSize : sizeOk (.seq ((items.toList.drop (h + 1)).reverse).toArray) := by
    show ((items.toList.drop (h + 1)).reverse).toArray.size ≤ sizeLine
    rw [List.size_toArray, List.length_reverse, List.length_drop, Array.length_toList]
    omega
  obtain ⟨ob, at_, cl, dat⟩ := id so
  have tyS : s.TypeIs (.ref sl) "slice" := ⟨ob, at_, cl⟩
  unfold getItem
  refine wpAny_holding ?_
  refine wpAny_bind (wpAny_sequenceKey tt.typeIs (by decide) ?_)
  refine wpAny_bind (wpAny_callSpecial?_slot (name := Str.ofString "__getitem__") tt.typeIs PyProof.Rows.slot_tuple_getitem
    (wpAny_call_entry PyProof.Rows.slot_tuple_getitem tt.typeIs PyProof.Rows.entry_tuple_getitem ?_ (PyProof.Rows.args_tuple_getitem _ _)))
  show wpAny _ _ (Builtin.Tuple.tupleItemsOf (.ref t) >>= _) _ _ s
  refine wpAny_bind (PyProof.Rows.tupleItemsOf_ tt ?_)
  refine wpAny_bind (wpAny_typeOf tyS ?_)
  rw [if_pos (by decide)]
  refine wpAny_bind (applied_back so p0 p1 p2 hn ?_)
  show wpAny _ _ (if (((items.size : Int) - 1) == 0 && (-1 : Int) == 1 && (items.size - 1 - h) == items.size) = true then _ else _) _ _ s
  have no : ¬ ((((items.size : Int) - 1) == 0 && (-1 : Int) == 1 && (items.size - 1 - h) == items.size) = true) := by
    rw [show ((-1 : Int) == 1) = false by decide, Bool.and_false, Bool.false_and]
    exact Bool.false_ne_true
  rw [if_neg no, back_pick items hn]
  exact wpAny_bind (m := Builtin.Tuple.tupleExact _) (wpAny_newObj_type (wpAny_pure ⟨_, rfl, wpAny_pure k⟩) okSize)
end
/-- t[:h:-1] -/
def tRevUp (K : PySem.W.Frag) (te th : TE) : TE := fun σ H Q => te σ H fun x H1 => tPart th σ H1 fun y H2 => ∃ (a : Addr) (xs : List V) (h : Nat), x = .ref a ∧ y = some (h : Int) ∧ SqT K H2 a xs ∧ h < xs.length ∧ ∀ p, H2 p = none → Q (.ref p) (upd H2 p (.tup (xs.drop (h + 1)).reverse))
section
variable {X : Cx}
theorem pe_revUp {e eh : Expr} {te th : TE} {c : Nat} {p1 p2 p3 pos : Pos} (he : PE X e te) (hh : PE X eh th) : PE X (.Subscript e (.Slice none (some eh) (some (.UnaryOp .USub (.Constant (.int 1) c p1) p2)) p3) pos) (tRevUp X.K te th) := by
  refine ⟨fun pins s0 σ G0 Q J0 q0 => ?_⟩
  refine Subscript_ (thn (he.run pins s0 σ G0 _ J0 q0) fun v0 s1 ⟨x, G1, J1, r0, q1⟩ => ?_)
  refine wpAny_Slice (thn (po_none.run pins s1 σ G1 (fun o G => o = none ∧ G = G1) J1 ⟨rfl, rfl⟩) fun vl s2 ⟨l, G2, J2, pl, el, e2⟩ => ?_)
  subst el e2
  have up : PO X (some eh) (tPart th) := po_some hh
  refine thn (up.run pins s2 σ G2 _ J2 q1) fun vu s3 ⟨u, G3, J3, pu, a, xs, h, ex, eu, hx, hl, q2⟩ => ?_
  subst ex eu
  cases r0
  have back : PO X (some (.UnaryOp .USub (.Constant (.int 1) c p1) p2)) (tPart (tUn (rU fun i => .int (-i)) (tC (.int 1)))) := po_some (pe_un un_neg pe_int)
  refine thn (back.run pins s3 σ G3 (fun o G => o = some (-1) ∧ G = G3) J3 ⟨1, rfl, -1, rfl, rfl, rfl⟩) fun vs s4 ⟨o, G4, J4, ps, eo, e4⟩ => ?_
  subst eo e4
  have J5 : Inv X pins σ G4 { s4 with heap := s4.heap.push { cls := .type "slice", data := .fields #[vl, vu, vs] } } := J4.kept (t' := s4.toks) fun b ob z => Heap.get?_push_of_some _ z
  obtain ⟨its, rel, tt, few⟩ := J5.tuple hx
  have len := rel.length
  show wpAny (model X.prog X.w) X.A (subscriptTail e (.Slice none (some eh) (some (.UnaryOp .USub (.Constant (.int 1) c p1) p2)) p3) (.ref a) (.ref s4.heap.objs.size)) (EP X pins σ Q) X.xe { s4 with heap := s4.heap.push { cls := .type "slice", data := .fields #[vl, vu, vs] } }
  refine tail_any (ops := [.ref a, .ref s4.heap.objs.size]) tt.typeIs
    PyProof.Rows.slot_tuple_getitem.lookup ?_ (by with_unfolding_all rfl)
  refine item_back (h := h) tt (Heap.IsSliceOf.new _ vl vu vs) pl pu ps (by rw [List.size_toArray]; omega) (by rw [List.size_toArray]; omega) ?_
  refine ⟨.ref _, _, J5.laid (t' := s4.toks) (o := .tup (xs.drop (h + 1)).reverse) (fun b ob z => Heap.get?_push_of_some _ z) (Nat.le_refl _) ?_, rfl, q2 _ (J5.hok.fresh (Nat.le_refl _))⟩
  refine ⟨by rw [List.length_reverse, List.length_drop]; omega, (its.drop (h + 1)).reverse, ?_, IsTup.new _ _⟩
  exact (rel.drop (h + 1)).reverse
end
end Tb
/-! ### the dice: the law's own drawn numbers -/
namespace Pr
open PySem PySem.Spec PyProof.Rows L2
/-- all that was tracked, but the object at d, is as it was -/
def Kp (d : Addr) (H H' : Hp) : Prop := ∀ b o, b ≠ d → H b = some o → H' b = some o
theorem Kp.refl (d : Addr) (H : Hp) : Kp d H H := fun _ _ _ h => h
theorem Kp.trans {d : Addr} {H H1 H2 : Hp} (a : Kp d H H1) (b : Kp d H1 H2) : Kp d H H2 := fun c o n h => b c o n (a c o n h)
theorem Kp.upd {d : Addr} {H : Hp} {o : HO} : Kp d H (upd H d o) := fun b u n h => by rw [upd_ne n]; exact h
theorem Kp.new {d p : Addr} {H : Hp} {o : HO} (n : H p = none) : Kp d H (L2.upd H p o) := fun b u _ h => by rw [upd_ne (ne_of_none h n)]; exact h
theorem Kp.same {d : Addr} {H H' : Hp} (s : Same H H') : Kp d H H' := fun b o _ h => s b o h
theorem Same.new {p : Addr} {H : Hp} {o : HO} (n : H p = none) : Same H (L2.upd H p o) := fun b u h => by rw [upd_ne (ne_of_none h n)]; exact h
/-- d is new and then written -/
theorem Kp.over {d : Addr} {H H1 H2 : Hp} (n : H d = none) (s : Same H H1) (k : Kp d H1 H2) : Same H H2 := fun b o h => k b o (ne_of_none h n) (s b o h)
theorem Kp.seq {K : PySem.W.Frag} {d a : Addr} {H H' : Hp} {xs : List V} (k : Kp d H H') (n : a ≠ d) (h : SqL K H a xs) : SqL K H' a xs := by
  rcases h with (h | ⟨o, h⟩) | h
  · exact .inl (.inl (k _ _ n h))
  · exact .inl (.inr ⟨o, k _ _ n h⟩)
  · exact .inr h
/-- the dice that stand at d: what is left of the cell's number, the seed, the number of draws (at most n) -/
structure Dice (H : Hp) (d : Addr) (n : Nat) : Prop where
  at_ : ∃ x y c : Int, H d = some (.lst [.int x, .int y, .int c]) ∧ 0 ≤ x ∧ x < 2 ^ 400 ∧ 0 ≤ y ∧ y < 2 ^ 40 ∧ 0 ≤ c ∧ c ≤ n
  few : n ≤ 1000000
theorem Dice.kept {H H' : Hp} {d : Addr} {n : Nat} (D : Dice H d n) (s : ∀ o, H d = some o → H' d = some o) : Dice H' d n := by
  obtain ⟨⟨x, y, c, e, r⟩, f⟩ := D
  exact ⟨⟨x, y, c, s _ e, r⟩, f⟩
theorem Dice.same {H H' : Hp} {d : Addr} {n : Nat} (D : Dice H d n) (s : Same H H') : Dice H' d n := D.kept fun o e => s _ o e
theorem Dice.more {H : Hp} {d : Addr} {n m : Nat} (D : Dice H d n) (h : n ≤ m) (hm : m ≤ 1000000) : Dice H d m := by
  obtain ⟨⟨x, y, c, e, r1, r2, r3, r4, r5, r6⟩, f⟩ := D
  exact ⟨⟨x, y, c, e, r1, r2, r3, r4, r5, by omega⟩, hm⟩
theorem Dice.there {H : Hp} {d : Addr} {n : Nat} (D : Dice H d n) : ∃ xs, H d = some (.lst xs) := by
  obtain ⟨⟨x, y, c, e, _⟩, _⟩ := D
  exact ⟨_, e⟩
def spDice (K : PySem.W.Frag) : Sp := fun vs H Q _ => ∃ (a : Addr) (ns : List Int) (i : Nat), vs = [.ref a, .int i] ∧ SqL K H a (ns.map V.int) ∧ i < 64 ∧
  ∀ (d : Addr) (H' : Hp), H d = none → Same H H' → Dice H' d 0 → Q (.ref d) H'
def spRoll : Sp := fun vs H Q _ => ∃ (d : Addr) (t : Int) (n : Nat), vs = [.ref d, .int t] ∧ Dice H d n ∧ n < 1000000 ∧ 0 < t ∧ t < 2 ^ 400 ∧
  ∀ (r : Int) (o : HO), 0 ≤ r → r < t → Dice (upd H d o) d (n + 1) → Q (.int r) (upd H d o)
def spPick (K : PySem.W.Frag) : Sp := fun vs H Q _ => ∃ (d p : Addr) (n : Nat) (xs : List V), vs = [.ref d, .ref p] ∧ p ≠ d ∧ (SqL K H p xs ∨ SqT K H p xs) ∧ xs ≠ [] ∧ xs.length ≤ 1000 ∧ Dice H d n ∧ n < 1000000 ∧
  ∀ (v : V) (o : HO), v ∈ xs → Dice (upd H d o) d (n + 1) → Q v (upd H d o)
def spMixed (K : PySem.W.Frag) : Sp := fun vs H Q _ => ∃ (d p : Addr) (n : Nat) (xs : List V), vs = [.ref d, .ref p] ∧ p ≠ d ∧ SqL K H p xs ∧ xs.length ≤ 1000 ∧ Dice H d n ∧ n + xs.length < 1000000 ∧
  ∀ (q : Addr) (ys : List V) (H' : Hp), q ≠ d → H q = none → Kp d H H' → H' q = some (.lst ys) → ys.Perm xs → Dice H' d (n + xs.length) → Q (.ref q) H'
theorem fmod_pos {i j : Int} (h : 0 < j) : 0 ≤ i.fmod j ∧ i.fmod j < j := ⟨Int.fmod_nonneg_of_pos _ h, Int.fmod_lt_of_pos _ h⟩
theorem emod_pos {i j : Int} (h : 0 < j) : 0 ≤ i % j ∧ i % j < j := ⟨Int.emod_nonneg _ (by omega), Int.emod_lt_of_pos _ h⟩
theorem c10 {k : Nat} (h : k ≤ 1000000) : CPow 10 (k : Int) := ⟨by omega, by omega, by decide⟩
end Pr
namespace Pr
open PySem PySem.Spec PyProof.Rows L2
/-! ### the text by places -/
def topS (i : Nat) : Stmt := PySem.Challenge.pw_munchbehind_k03_trees_and_contexts_judge.main.body.getD i (.Pass ⟨0, 0, 0, 0⟩)
abbrev sInteger : Stmt := topS 6
abbrev sName : Stmt := topS 7
abbrev sAre : Stmt := topS 13
abbrev sWhole : Stmt := topS 14
abbrev sDice : Stmt := topS 17
abbrev sRoll : Stmt := topS 18
abbrev sPick : Stmt := topS 19
abbrev sMixed : Stmt := topS 20
abbrev sEndL : Stmt := topS 21
abbrev sDrawn : Stmt := topS 22
abbrev sOdd : Stmt := topS 23
abbrev sArs : Stmt := topS 24
abbrev sOpen : Stmt := topS 25
abbrev sIsT : Stmt := topS 26
abbrev sIsC : Stmt := topS 27
abbrev sDCtx : Stmt := topS 28
abbrev sNear : Stmt := topS 29
abbrev sRight : Stmt := topS 30
abbrev sTold : Stmt := topS 31
abbrev sLong : Stmt := topS 32
abbrev sLaw : Stmt := topS 33
/-- the methods of the class -/
def inS (i : Nat) : Stmt := match topS 15 with
  | .ClassDef _ _ _ body _ _ _ _ _ _ _ => body.getD i (.Pass ⟨0, 0, 0, 0⟩)
  | _ => .Pass ⟨0, 0, 0, 0⟩
abbrev mInit : Stmt := inS 0
abbrev mArities : Stmt := inS 2
abbrev mNames : Stmt := inS 3
abbrev mConstants : Stmt := inS 4
abbrev mIsTree : Stmt := inS 6
abbrev mIsCtx : Stmt := inS 7
abbrev mLen : Stmt := inS 20
abbrev mContains : Stmt := inS 21
abbrev mStr : Stmt := inS 24
/-- the built-in names that the module leaves alone -/
structure Free (mg : Str → Option Value) : Prop where
  len : mg "len" = none
  int : mg "int" = none
  abs : mg "abs" = none
  max : mg "max" = none
  min : mg "min" = none
  list : mg "list" = none
  range : mg "range" = none
  isi : mg "isinstance" = none
  bool : mg "bool" = none
  tuple : mg "tuple" = none
  str : mg "str" = none
  dict : mg "dict" = none
  sorted : mg "sorted" = none
  all : mg "all" = none
  sum : mg "sum" = none
  repr : mg "repr" = none
end Pr
namespace Pr
open PySem PySem.Spec PyProof.Rows L2
theorem dice_end (l g : Int) (b : Int) {i : Nat} (hi : i < 64) (hb : 0 ≤ b ∧ b ≤ 1) :
    0 ≤ l.fmod (10 ^ (60 : Int).toNat * 10 ^ (60 : Int).toNat) ∧ l.fmod (10 ^ (60 : Int).toNat * 10 ^ (60 : Int).toNat) < 2 ^ 400 ∧
    0 ≤ g % 2147483563 * 41 + 613 * (i : Int) + 17 * b + 7 ∧ g % 2147483563 * 41 + 613 * (i : Int) + 17 * b + 7 < 2 ^ 40 ∧ (0 : Int) ≤ 0 ∧ (0 : Int) ≤ (0 : Nat) := by
  have h1 := fmod_pos (i := l) (j := 10 ^ (60 : Int).toNat * 10 ^ (60 : Int).toNat) (by decide +kernel)
  have h2 : (10 ^ (60 : Int).toNat * 10 ^ (60 : Int).toNat : Int) < 2 ^ 400 := by decide +kernel
  have h3 := emod_pos (i := g) (j := 2147483563) (by decide)
  refine ⟨h1.1, Int.lt_trans h1.2 h2, by omega, by omega, by omega, by omega⟩
section
variable {P : Program} {w : World} {K : PySem.W.Frag} {mg : Str → Option Value} {base : Heap}
theorem scDice : FnScope ["script", "spot", "cell", "great", "left"] ["script", "spot"] (defScope sDice) := ⟨rfl, rfl, rfl, by decide +kernel, rfl, by decide +kernel, by decide +kernel⟩
theorem ok_dice {f : Addr} {fd : FuncData} (F : Fun K "_law_dice" "_law_dice" sDice f fd) (T : Free mg) : FnOk P w K mg base CX0 1 f fd ["script", "spot"] (spDice K) := by
  refine F.ok scDice (fun vs H Q E h => ?_) (fun cdv A outer s H vs Q E hr h => ?_)
  · obtain ⟨a, ns, i, rfl, _⟩ := h
    rfl
  · obtain ⟨a, ns, i, rfl, hS, hi, k⟩ := h
    refine ⟨_, pss_cons (ps_set (i := 2) scDice.nd rfl (.inl rfl) (pe_ifExp (pt_cmpR op_lt (pv 1) (pe_callB call_len_seq (by rfl) T.len PySem.boot_len (pa_cons (pv 0) pa_nil)) (nomark _))
        (pe_callTy call_int1 (by rfl) T.int (by decide +kernel) (pa_cons (pe_ix ix_list (pv 0) (pv 1) (fun _ _ => rfl)) pa_nil)) (pe_op op_add (pe_op op_mul pe_int (pv 1)) pe_int)))
      (pss_cons (ps_set (i := 3) scDice.nd rfl (.inl rfl) (pe_op op_modN (pe_callB call_abs (by rfl) T.abs (by decide +kernel) (pa_cons (pv 2) pa_nil)) (pe_op op_pow pe_int pe_int)))
      (pss_cons (ps_set (i := 4) scDice.nd rfl (.inl rfl) (pe_callB (call_max2 rfl) (by rfl) T.max (by decide +kernel) (pa_cons pe_int (pa_cons (pe_op op_sub (pe_callB call_abs (by rfl) T.abs (by decide +kernel) (pa_cons (pv 2) pa_nil)) (pe_op op_pow pe_int pe_int)) pa_nil))))
      (pss_one (ps_ret (pe_lst (pa_cons (pe_op op_modN (pv 4) (pe_op op_mulW (pe_op op_pow pe_int pe_int) (pe_op op_pow pe_int pe_int)))
        (pa_cons (pe_op op_add (pe_op op_add (pe_op op_add (pe_op op_mul (pe_op op_mod (pv 3) pe_int) pe_int) (pe_op op_mul pe_int (pv 1)))
          (pe_op op_mul pe_int (pe_callTy call_int1 (by rfl) T.int (by decide +kernel) (pa_cons (pe_cmpR op_lt (pv 2) pe_int (nomark _)) pa_nil)))) pe_int) (pa_cons pe_int pa_nil)))))))), ?_⟩
    refine ⟨_, rfl, _, rfl, a, _, rfl, .inl hS, _, _, rfl, rfl, _, rfl, ?_⟩
    refine ite2 (fun c => ?_) (fun c => ?_)
    · have hlt : i < ns.length := by
        have c' := of_decide_eq_true c
        rw [List.length_map] at c'
        omega
      have g : (ns.map V.int)[i]? = some (.int ns[i]) := by
        rw [List.getElem?_map, List.getElem?_eq_getElem hlt]
        rfl
      refine ⟨_, rfl, _, rfl, a, _, _, _, rfl, rfl, hS, atI_nat g, .inl ⟨_, rfl, ?_⟩⟩
      refine ⟨_, rfl, _, rfl, 10, 59, rfl, rfl, c10 (k := 59) (by decide), _, _, rfl, rfl, (by dsimp only; decide +kernel), ?_⟩
      refine ⟨_, rfl, _, rfl, 10, 17, rfl, rfl, c10 (k := 17) (by decide), _, _, rfl, rfl, _, _, rfl, ?_⟩
      refine ⟨_, rfl, 10, 60, rfl, rfl, c10 (k := 60) (by decide), 10, 60, rfl, rfl, c10 (k := 60) (by decide), _, _, rfl, rfl, wide_mul (a := 400) (b := 400) (by decide +kernel) (by decide +kernel) (by decide) (by decide) (by decide), _, _, rfl, rfl, (by dsimp only; decide +kernel), ?_⟩
      refine ⟨_, rfl, _, _, rfl, rfl, (by dsimp only; decide), _, _, rfl, rfl, .inr ⟨by decide, by decide⟩, _, rfl, _, _, rfl, rfl, .inl ⟨by decide, by decide⟩, _, _, rfl, rfl, _, rfl, _, _, rfl, rfl, .inr ⟨_, rfl, ?_⟩⟩
      refine ⟨_, _, rfl, rfl, .inl ⟨by decide, by decide⟩, _, _, rfl, rfl, _, _, rfl, rfl, (by show 3 ≤ sizeLine; decide), fun d hd => ?_⟩
      refine k d _ hd (Same.new hd) ⟨⟨_, _, 0, upd_same, ?_⟩, by decide⟩
      refine dice_end _ _ _ hi ?_
      split <;> omega
    · refine ⟨_, rfl, _, _, rfl, rfl, .inl ⟨by decide, by decide⟩, _, _, rfl, rfl, ?_⟩
      refine ⟨_, rfl, _, rfl, 10, 59, rfl, rfl, c10 (k := 59) (by decide), _, _, rfl, rfl, (by dsimp only; decide +kernel), ?_⟩
      refine ⟨_, rfl, _, rfl, 10, 17, rfl, rfl, c10 (k := 17) (by decide), _, _, rfl, rfl, _, _, rfl, ?_⟩
      refine ⟨_, rfl, 10, 60, rfl, rfl, c10 (k := 60) (by decide), 10, 60, rfl, rfl, c10 (k := 60) (by decide), _, _, rfl, rfl, wide_mul (a := 400) (b := 400) (by decide +kernel) (by decide +kernel) (by decide) (by decide) (by decide), _, _, rfl, rfl, (by dsimp only; decide +kernel), ?_⟩
      refine ⟨_, rfl, _, _, rfl, rfl, (by dsimp only; decide), _, _, rfl, rfl, .inr ⟨by decide, by decide⟩, _, rfl, _, _, rfl, rfl, .inl ⟨by decide, by decide⟩, _, _, rfl, rfl, _, rfl, _, _, rfl, rfl, .inr ⟨_, rfl, ?_⟩⟩
      refine ⟨_, _, rfl, rfl, .inl ⟨by decide, by decide⟩, _, _, rfl, rfl, _, _, rfl, rfl, (by show 3 ≤ sizeLine; decide), fun d hd => ?_⟩
      refine k d _ hd (Same.new hd) ⟨⟨_, _, 0, upd_same, ?_⟩, by decide⟩
      refine dice_end _ _ _ hi ?_
      split <;> omega
end
end Pr
namespace Pr
open PySem PySem.Spec PyProof.Rows L2
theorem div_le {x t : Int} (h0 : 0 ≤ x) (ht : 0 < t) : 0 ≤ x / t ∧ x / t ≤ x := ⟨Int.ediv_nonneg h0 (by omega), Int.ediv_le_self _ h0⟩
theorem mod2 {x y : Int} (h : 0 ≤ x) (a : 0 < y) : 0 ≤ x.fmod y ∧ x.fmod y < y := fmod_pos a
section
variable {P : Program} {w : World} {K : PySem.W.Frag} {mg : Str → Option Value} {base : Heap}
theorem scRoll : FnScope ["dice", "total", "found", "one", "two"] ["dice", "total"] (defScope sRoll) := ⟨rfl, rfl, rfl, by decide +kernel, rfl, by decide +kernel, by decide +kernel⟩
theorem ok_roll {f : Addr} {fd : FuncData} (F : Fun K "_law_roll" "_law_roll" sRoll f fd) (T : Free mg) : FnOk P w K mg base CX0 1 f fd ["dice", "total"] spRoll := by
  refine F.ok scRoll (fun vs H Q E h => ?_) (fun cdv A outer s H vs Q E hr h => ?_)
  · obtain ⟨d, t, n, rfl, _⟩ := h
    rfl
  · obtain ⟨d, t, n, rfl, ⟨⟨x, y, c, e, x0, x1, y0, y1, c0, c1⟩, fw⟩, hn, t0, t1, k⟩ := h
    have sq : SqL K H d [.int x, .int y, .int c] := SqL.of e
    refine ⟨_, pss_cons (ps_if (pt_cmpR op_gt (pe_ix ix_list (pv 0) pe_int (fun _ _ => rfl)) pe_int (nomark _))
        (pss_cons (ps_set (i := 2) scRoll.nd rfl (.inl rfl) (pe_op op_modN (pe_callTy call_int1 (by rfl) T.int (by decide +kernel) (pa_cons (pe_ix ix_list (pv 0) pe_int (fun _ _ => rfl)) pa_nil)) (pv 1)))
        (pss_cons (ps_asg (pe_op op_fdivW (pe_ix ix_list (pv 0) pe_int (fun _ _ => rfl)) (pv 1)) (pg_sub (pv 0) pe_int set_list))
        (pss_one (ps_ret (pv 2))))) pss_nil)
      (pss_cons (ps_asg (pe_op op_add (pe_ix ix_list (pv 0) pe_int (fun _ _ => rfl)) pe_int) (pg_sub (pv 0) pe_int set_list))
      (pss_cons (ps_set (i := 3) scRoll.nd rfl (.inl rfl) (pe_op op_mod (pe_callTy call_int1 (by rfl) T.int (by decide +kernel)
        (pa_cons (pe_op op_add (pe_ix ix_list (pv 0) pe_int (fun _ _ => rfl)) (pe_op op_mul pe_int (pe_ix ix_list (pv 0) pe_int (fun _ _ => rfl)))) pa_nil)) pe_int))
      (pss_cons (ps_set (i := 4) scRoll.nd rfl (.inl rfl) (pe_op op_add (pe_op op_mul (pe_op op_mod (pe_callTy call_int1 (by rfl) T.int (by decide +kernel)
        (pa_cons (pe_op op_add (pe_op op_mul (pv 3) (pv 3)) (pe_op op_mul pe_int (pe_ix ix_list (pv 0) pe_int (fun _ _ => rfl)))) pa_nil)) pe_int) pe_int) (pv 3)))
      (pss_one (ps_ret (pe_op op_modN (pe_callTy call_int1 (by rfl) T.int (by decide +kernel) (pa_cons (pe_op op_fdiv (pv 4) pe_int) pa_nil)) (pv 1))))))), ?_⟩
    refine ⟨_, rfl, d, _, 0, _, rfl, rfl, sq, rfl, _, _, rfl, rfl, _, rfl, ite2 (fun cx => ?_) (fun cx => ?_)⟩
    · -- what is left of the cell's number
      have r := fmod_pos (i := x) t0
      have q := div_le x0 t0
      refine ⟨_, rfl, d, _, 0, _, rfl, rfl, sq, rfl, .inl ⟨_, rfl, _, rfl, _, _, rfl, rfl, (by dsimp only; omega), ?_⟩⟩
      refine ⟨_, rfl, d, _, 0, _, rfl, rfl, sq, rfl, _, rfl, _, _, rfl, rfl, wide_div (b := 400) t0 (by omega) (by decide) (by decide), _, rfl, d, _, 0, 0, rfl, rfl, e, rfl, _, rfl, ?_⟩
      exact k _ _ r.1 r.2 ⟨⟨_, _, _, upd_same, q.1, by omega, y0, y1, c0, by omega⟩, by omega⟩
    · refine ⟨_, rfl, d, _, 2, _, rfl, rfl, sq, rfl, _, _, rfl, rfl, _, rfl, d, _, 2, 2, rfl, rfl, e, rfl, ?_⟩
      have sq2 : SqL K (upd H d (.lst [.int x, .int y, .int (c + 1)])) d [.int x, .int y, .int (c + 1)] := SqL.of upd_same
      have m1 := emod_pos (i := y + 7901 * (c + 1)) (j := 2305843009213693907) (by decide)
      refine ⟨_, rfl, d, _, 1, _, rfl, rfl, sq2, rfl, _, rfl, d, _, 2, _, rfl, rfl, sq2, rfl, _, _, rfl, rfl, .inl ⟨by decide, by decide⟩, _, _, rfl, rfl, .inl ⟨_, rfl, _, _, rfl, rfl, (by dsimp only; decide), ?_⟩⟩
      have m2 := emod_pos (i := (y + 7901 * (c + 1)) % 2305843009213693907 * ((y + 7901 * (c + 1)) % 2305843009213693907) + 71 * (c + 1)) (j := 2305843009213693921) (by decide)
      refine ⟨_, rfl, _, rfl, _, _, rfl, rfl, .inl ⟨by omega, by omega⟩, _, rfl, d, _, 2, _, rfl, rfl, sq2, rfl, _, _, rfl, rfl, .inl ⟨by decide, by decide⟩, _, _, rfl, rfl, .inl ⟨_, rfl, _, _, rfl, rfl, (by dsimp only; decide), ?_⟩⟩
      refine ⟨_, _, rfl, rfl, .inl ⟨by omega, by omega⟩, _, rfl, _, _, rfl, rfl, ?_⟩
      refine ⟨_, rfl, _, _, rfl, rfl, ⟨by decide, by decide⟩, .inl ⟨_, rfl, _, rfl, _, _, rfl, rfl, (by dsimp only; omega), ?_⟩⟩
      exact k _ _ (fmod_pos t0).1 (fmod_pos t0).2 ⟨⟨_, _, _, upd_same, x0, x1, y0, y1, by omega, by omega⟩, by omega⟩
end
end Pr
namespace Pr
open PySem PySem.Spec PyProof.Rows L2
/-- the law's drawing defs, as they stand behind the top -/
structure Draws (K : PySem.W.Frag) (mg : Str → Option Value) (fR fP fM : Addr) (dR dP dM : FuncData) : Prop where
  FR : Fun K "_law_roll" "_law_roll" sRoll fR dR
  bR : Binds K dR ["dice", "total"] []
  gR : mg "_law_roll" = some (.ref fR)
  FP : Fun K "_law_pick" "_law_pick" sPick fP dP
  bP : Binds K dP ["dice", "items"] []
  gP : mg "_law_pick" = some (.ref fP)
  FM : Fun K "_law_mixed" "_law_mixed" sMixed fM dM
  bM : Binds K dM ["dice", "items"] []
  gM : mg "_law_mixed" = some (.ref fM)
theorem erase_perm {α : Type} : ∀ (l : List α) (i : Nat) (h : i < l.length), (l[i] :: l.eraseIdx i).Perm l
  | [], _, h => absurd h (Nat.not_lt_zero _)
  | a :: l, 0, _ => List.Perm.refl _
  | a :: l, i + 1, h => (List.Perm.swap a (l[i]'(Nat.lt_of_succ_lt_succ h)) (l.eraseIdx i)).trans (List.Perm.cons a (erase_perm l i (Nat.lt_of_succ_lt_succ h)))
section
variable {P : Program} {w : World} {K : PySem.W.Frag} {mg : Str → Option Value} {base : Heap} {fR fP fM : Addr} {dR dP dM : FuncData}
theorem scPick : FnScope ["dice", "items"] ["dice", "items"] (defScope sPick) := ⟨rfl, rfl, rfl, by decide +kernel, rfl, by decide +kernel, by decide +kernel⟩
theorem ok_pick (D : Draws K mg fR fP fM dR dP dM) (T : Free mg) : FnOk P w K mg base CX0 2 fP dP ["dice", "items"] (spPick K) := by
  have GR : FnOk P w K mg base CX0 1 fR dR ["dice", "total"] spRoll := ok_roll D.FR T
  refine D.FP.ok scPick (fun vs H Q E h => ?_) (fun cdv A outer s H vs Q E hr h => ?_)
  · obtain ⟨d, p, n, xs, rfl, _⟩ := h
    rfl
  · obtain ⟨d, p, n, xs, rfl, npd, hS, ne, few, di, hn, k⟩ := h
    refine ⟨_, pss_one (ps_ret (pe_ix ix_seq (pv 1) (pe_call GR hr (by rfl) D.gR D.FR.kp D.bR .nil pass0 (pa_cons (pv 0) (pa_cons (pe_callB call_len_seq (by rfl) T.len PySem.boot_len (pa_cons (pv 1) pa_nil)) pa_nil))) (fun _ _ => rfl))), ?_⟩
    have pos : 0 < xs.length := List.length_pos_iff.mpr ne
    refine ⟨_, rfl, _, rfl, _, rfl, p, xs, rfl, hS, d, _, n, rfl, di, hn, by omega, by omega, fun r o r0 r1 di' => ?_⟩
    have hlt : r.toNat < xs.length := by omega
    have g : atI xs r = some xs[r.toNat] := at_of (j := r.toNat) (by omega) (List.getElem?_eq_getElem hlt)
    have kp : Kp d H (upd H d o) := Kp.upd
    rcases hS with hS | hS
    · exact .inl ⟨p, xs, r, _, rfl, rfl, kp.seq npd hS, g, k _ o (List.getElem_mem hlt) di'⟩
    · have hT : SqT K (upd H d o) p xs := by
        rcases hS with (h | ⟨u, h⟩) | h
        · exact .inl (.inl (kp _ _ npd h))
        · exact .inl (.inr ⟨u, kp _ _ npd h⟩)
        · exact .inr h
      exact .inr (.inl ⟨p, xs, r, _, rfl, rfl, hT, g, k _ o (List.getElem_mem hlt) di'⟩)
theorem scMixed : FnScope ["dice", "items", "left", "found", "turn"] ["dice", "items"] (defScope sMixed) := ⟨rfl, rfl, rfl, by decide +kernel, rfl, by decide +kernel, by decide +kernel⟩
theorem ok_mixed (D : Draws K mg fR fP fM dR dP dM) (T : Free mg) : FnOk P w K mg base CX0 2 fM dM ["dice", "items"] (spMixed K) := by
  have GR : FnOk P w K mg base CX0 1 fR dR ["dice", "total"] spRoll := ok_roll D.FR T
  refine D.FM.ok scMixed (fun vs H Q E h => ?_) (fun cdv A outer s H vs Q E hr h => ?_)
  · obtain ⟨d, p, n, xs, rfl, _⟩ := h
    rfl
  · obtain ⟨d, p, n, xs, rfl, npd, hS, few, di, hn, k⟩ := h
    refine ⟨_, pss_cons (ps_par (i := 2) (j := 3) (by rfl) scMixed.nd rfl rfl (by decide) rfl rfl (pa_cons (pe_callTy call_list_of (by rfl) T.list (by decide +kernel) (pa_cons (pv 1) pa_nil)) (pa_cons (pe_lst pa_nil) pa_nil)) (by rfl))
      (pss_cons (ps_for PassesOwn.never rfl (pi_range1 rfl T.range (pa_cons (pe_callB call_len_seq (by rfl) T.len PySem.boot_len (pa_cons (pv 1) pa_nil)) pa_nil)) (pg_name (i := 4) scMixed.nd rfl (.inl rfl))
        (pss_one (ps_expr (pe_bm PySem.F.plainAttrs_list PySem.F.slot_list_append PySem.F.type_list_append mt_append (pv 3)
          (pa_cons (pe_bm PySem.F.plainAttrs_list PySem.F.slot_list_pop PySem.F.type_list_pop mt_popAt (pv 2)
            (pa_cons (pe_call GR hr (by rfl) D.gR D.FR.kp D.bR .nil pass0 (pa_cons (pv 0) (pa_cons (pe_callB call_len_seq (by rfl) T.len PySem.boot_len (pa_cons (pv 2) pa_nil)) pa_nil))) pa_nil)) pa_nil)))))
      (pss_one (ps_ret (pv 3)))), ?_⟩
    obtain ⟨ds, hd⟩ := di.there
    -- left = list(items); found = []
    refine ⟨_, rfl, p, xs, rfl, .inl hS, fun l nl => ⟨Nat.zero_le _, fun q nq => ?_⟩⟩
    refine ⟨_, _, rfl, ?_⟩
    have ndl : d ≠ l := ne_of_none hd nl
    have nql : q ≠ l := fun e => by
      rw [e, upd_same] at nq
      cases nq
    have nHq : H q = none := by
      rw [upd_ne nql] at nq
      exact nq
    have ndq : d ≠ q := ne_of_none hd nHq
    have s1 : Same H (upd (upd H l (.lst xs)) q (.lst [])) := (Same.new nl).trans (Same.new nq)
    have hS1 := s1.seq hS
    -- the loop
    refine ⟨_, rfl, p, xs, rfl, .inl hS1, xs.length, rfl, by omega, by omega, ?_⟩
    refine for_range (lo := 0) (n := ((xs.length : Int)).toNat) (fun i σ H' => ∃ (v : Option V) (rem done : List V), σ = [some (.ref d), some (.ref p), some (.ref l), some (.ref q), v] ∧ Kp d H H' ∧
      H' l = some (.lst rem) ∧ H' q = some (.lst done) ∧ rem.length + i = xs.length ∧ (done ++ rem).Perm xs ∧ Dice H' d (n + i))
      ⟨none, xs, [], rfl, Kp.same s1, by rw [upd_ne nql.symm, upd_same], upd_same, by omega, List.Perm.refl _, di.same s1⟩ ?_ ?_
    · rintro i σ H' hi ⟨v, rem, done, rfl, kp, hl, hq, len, pm, di'⟩
      have hi' : i < xs.length := by omega
      have dl : done.length = i := by
        have := pm.length_eq
        rw [List.length_append] at this
        omega
      refine ⟨_, rfl, .inl ⟨rfl, _, SqL.of hq⟩, _, rfl, .inl ⟨rfl, _, SqL.of hl⟩, _, rfl, _, rfl, l, rem, rfl, .inl (SqL.of hl), d, _, n + i, rfl, di', by omega, by omega, by omega, fun r o r0 r1 di2 => ?_⟩
      have hlt : r.toNat < rem.length := by omega
      have k2 : Kp d H' (upd H' d o) := Kp.upd
      have hl2 := k2 _ _ ndl.symm hl
      have hq2 := k2 _ _ ndq.symm hq
      refine ⟨l, rem, r, r.toNat, rem[r.toNat], rfl, rfl, hl2, by omega, by omega, seqIndex_of r0 (by omega), List.getElem?_eq_getElem hlt, ?_⟩
      have hq3 : (upd (upd H' d o) l (.lst (rem.eraseIdx r.toNat))) q = some (.lst done) := by
        rw [upd_ne nql]
        exact hq2
      refine ⟨q, done, _, rfl, rfl, hq3, small1000 (by omega), ?_⟩
      refine ⟨_, rem.eraseIdx r.toNat, _, rfl, fun b u nb e => ?_, ?_, upd_same, ?_, ?_, ?_⟩
      · rw [upd_ne (ne_of_none e nHq), upd_ne (ne_of_none e nl)]
        exact k2 _ _ nb (kp _ _ nb e)
      · rw [upd_ne nql.symm, upd_same]
      · rw [List.length_eraseIdx_of_lt hlt]
        omega
      · have e1 := erase_perm rem r.toNat hlt
        rw [List.append_assoc]
        exact (List.Perm.append_left done e1).trans pm
      · refine (di2.kept fun u e => ?_).more (by omega) (by omega)
        rw [upd_ne ndq, upd_ne ndl]
        exact e
    · rintro σ H' ⟨v, rem, done, rfl, kp, hl, hq, len, pm, di'⟩
      have e0 : rem = [] := List.length_eq_zero_iff.mp (by omega)
      subst e0
      rw [List.append_nil] at pm
      refine ⟨_, rfl, k q done H' ndq.symm nHq kp hq pm (di'.more (by omega) (by omega))⟩
end
end Pr
namespace Pr
open PySem PySem.Spec PyProof.Rows L2 Gd
/-! ### values that can be judged and shown; all tuples are plain -/
/-- the heap without the dice -/
def Hm (d : Addr) (H : Hp) : Hp := fun b => if b = d then none else H b
theorem Hm.some_of {d b : Addr} {H : Hp} {o : HO} (h : Hm d H b = some o) : H b = some o ∧ b ≠ d := by
  unfold Hm at h
  by_cases e : b = d
  · rw [if_pos e] at h
    cases h
  · rw [if_neg e] at h
    exact ⟨h, e⟩
theorem Hm.of {d b : Addr} {H : Hp} {o : HO} (h : H b = some o) (e : b ≠ d) : Hm d H b = some o := by
  unfold Hm
  rw [if_neg e]
  exact h
theorem Kp.hm {d : Addr} {H H' : Hp} (k : Kp d H H') : Same (Hm d H) (Hm d H') := fun b o h => Hm.of (k b o (Hm.some_of h).2 (Hm.some_of h).1) (Hm.some_of h).2
theorem Same.hm {d : Addr} {H H' : Hp} (s : Same H H') : Same (Hm d H) (Hm d H') := (Kp.same (d := d) s).hm
theorem TX.hm {d a : Addr} {H : Hp} {xs : List V} (h : Tx.TX H a xs) (n : a ≠ d) : Tx.TX (Hm d H) a xs := let ⟨o, e, x⟩ := h; ⟨o, Hm.of e n, x⟩
theorem TX.un {a d : Addr} {H : Hp} {xs : List V} (h : Tx.TX (Hm d H) a xs) : Tx.TX H a xs ∧ a ≠ d := let ⟨o, e, x⟩ := h; ⟨⟨o, (Hm.some_of e).1, x⟩, (Hm.some_of e).2⟩
theorem TX.eq {a : Addr} {H : Hp} {xs ys : List V} (h : Tx.TX H a xs) (k : Tx.TX H a ys) : xs = ys := by
  obtain ⟨o, e, _⟩ := h
  obtain ⟨o2, e2, _⟩ := k
  rw [e] at e2
  cases e2
  rfl
/-- the type of a value that is no instance -/
inductive Kd (H : Hp) : V → String → Prop where
  | non : Kd H .non "NoneType"
  | bl (b : Bool) : Kd H (.bl b) "bool"
  | int (i : Int) : Kd H (.int i) "int"
  | str (z : Str) : Kd H (.str z) "str"
  | lst {a : Addr} {xs : List V} (e : H a = some (.lst xs)) : Kd H (.ref a) "list"
  | tup {a : Addr} {xs : List V} (e : Tx.TX H a xs) : Kd H (.ref a) "tuple"
  | dK {a : Addr} {kvs : List (Key × V)} (e : H a = some (.dK kvs)) : Kd H (.ref a) "dict"
theorem Kd.same {H H' : Hp} {v : V} {t : String} (k : Kd H v t) (s : Same H H') : Kd H' v t := by
  cases k with
  | non => exact .non
  | bl b => exact .bl b
  | int i => exact .int i
  | str z => exact .str z
  | lst e => exact .lst (s _ _ e)
  | tup e => exact .tup (Tx.TX.same e s)
  | dK e => exact .dK (s _ _ e)
theorem Sh.more {H : Hp} : ∀ (n : Nat) (v : V) (t : Str), Sh H n v t → Sh H (n + 1) v t
  | 0, _, _, h => .inl h
  | n + 1, _, _, h => by
    rcases h with h | ⟨a, xs, ts, rfl, e, p, rfl⟩ | ⟨a, xs, ts, rfl, e, p, rfl⟩ | ⟨a, xs, ts, rfl, e, p, rfl⟩
    · exact .inl h
    · exact Sh.lst e (L2.Paired.mapP p fun x t q => Sh.more n x t q)
    · exact Sh.tup e (L2.Paired.mapP p fun x t q => Sh.more n x t q)
    · exact Sh.dK e (L2.Paired.mapP p fun x t q => ⟨q.1, Sh.more n x.2 t q.2⟩)
theorem Sh.le {H : Hp} {n m : Nat} {v : V} {t : Str} (h : n ≤ m) (s : Sh H n v t) : Sh H m v t := by
  induction h with
  | refl => exact s
  | step _ ih => exact Sh.more _ _ _ ih
theorem Sc.kd {H : Hp} {v : V} {t : Str} (h : Sc v t) : ∃ ty, Kd H v ty := by
  cases h with
  | non => exact ⟨_, .non⟩
  | bl b => exact ⟨_, .bl b⟩
  | int i _ => exact ⟨_, .int i⟩
  | str z _ => exact ⟨_, .str z⟩
theorem Sh.kd {H : Hp} {n : Nat} {v : V} {t : Str} (h : Sh H n v t) : ∃ ty, Kd H v ty := by
  cases n with
  | zero => exact Sc.kd h
  | succ n =>
    rcases h with h | ⟨a, xs, ts, rfl, e, p, rfl⟩ | ⟨a, xs, ts, rfl, e, p, rfl⟩ | ⟨a, xs, ts, rfl, e, p, rfl⟩
    · exact Sc.kd h
    · exact ⟨_, .lst e⟩
    · exact ⟨_, .tup e⟩
    · exact ⟨_, .dK e⟩
theorem paired_all {α : Type} {F : α → Str → Prop} {xs : List α} {ts : List Str} (p : Paired F xs ts) : ∀ x ∈ xs, ∃ t, F x t := by
  induction p with
  | nil => intro x m; cases m
  | cons h r ih =>
    intro x m
    rcases List.mem_cons.mp m with e | m
    · rw [e]
      exact ⟨_, h⟩
    · exact ih x m
/-- what can stand in a tuple that is judged -/
def Ji (H : Hp) (v : V) : Prop := ∃ ty, Kd H v ty ∧ ty ≠ "dict"
theorem Ji.same {H H' : Hp} {v : V} (h : Ji H v) (s : Same H H') : Ji H' v := let ⟨ty, k, n⟩ := h; ⟨ty, k.same s, n⟩
theorem Ji.non {H : Hp} : Ji H .non := ⟨_, .non, by decide⟩
theorem Ji.int {H : Hp} (i : Int) : Ji H (.int i) := ⟨_, .int i, by decide⟩
theorem Ji.str {H : Hp} (z : Str) : Ji H (.str z) := ⟨_, .str z, by decide⟩
theorem Ji.lst {H : Hp} {a : Addr} {xs : List V} (e : H a = some (.lst xs)) : Ji H (.ref a) := ⟨_, .lst e, by decide⟩
theorem Ji.tup {H : Hp} {a : Addr} {xs : List V} (e : Tx.TX H a xs) : Ji H (.ref a) := ⟨_, .tup e, by decide⟩
/-- a value that can be shown: its text has at most m signs; what it holds, if it is a tuple, can be judged -/
structure Vd (H : Hp) (n m : Nat) (v : V) : Prop where
  sm : ∃ t, Sh H n v t ∧ t.length ≤ m
  items : ∀ a xs, v = .ref a → Tx.TX H a xs → xs.length ≤ 1000 ∧ ∀ x ∈ xs, Ji H x
theorem Vd.kd {H : Hp} {n m : Nat} {v : V} (h : Vd H n m v) : ∃ t, Kd H v t := let ⟨_, s, _⟩ := h.sm; Sh.kd s
theorem Vd.le {H : Hp} {n m n' m' : Nat} {v : V} (h : Vd H n m v) (a : n ≤ n') (b : m ≤ m') : Vd H n' m' v :=
  ⟨let ⟨t, s, l⟩ := h.sm; ⟨t, Sh.le a s, by omega⟩, h.items⟩
theorem Vd.same {H H' : Hp} {n m : Nat} {v : V} (h : Vd H n m v) (s : Same H H') : Vd H' n m v := by
  obtain ⟨ty, hk⟩ := h.kd
  refine ⟨let ⟨t, q, l⟩ := h.sm; ⟨t, Sh.keep s n v t q, l⟩, fun a xs e q => ?_⟩
  subst e
  obtain ⟨ob, e', od⟩ := id q
  cases hk with
  | lst e =>
    rw [s _ _ e] at e'
    cases e'
  | tup e =>
    rw [← TX.eq (Tx.TX.same e s) q]
    exact ⟨(h.items a _ rfl e).1, fun x m => ((h.items a _ rfl e).2 x m).same s⟩
  | dK e =>
    rw [s _ _ e] at e'
    cases e'
theorem Vd.plain {H : Hp} {m : Nat} {v : V} {t : Str} (h : Sc v t) (l : t.length ≤ m) (n : ∀ a, v ≠ .ref a) : Vd H 0 m v := ⟨⟨t, h, l⟩, fun a xs e => absurd e (n a)⟩
theorem Vd.non {H : Hp} : Vd H 0 100 .non := .plain Sc.non (by decide) (fun a e => (nomatch e))
theorem Vd.bl {H : Hp} (b : Bool) : Vd H 0 100 (.bl b) := .plain (Sc.bl b) (by cases b <;> decide) (fun a e => (nomatch e))
theorem Vd.int {H : Hp} (i : Int) (h : i.natAbs < 2 ^ 1900) : Vd H 0 2000 (.int i) := by
  have hl : i.natAbs.log2 < 1920 := Nat.lt_of_lt_of_le (PySem.Flt.log2_lt_of (by decide) h) (by decide)
  exact .plain (Sc.int i hl) (Nat.le_trans (PyProof.Rows.int_text_len_1921 hl) (by decide)) (fun a e => (nomatch e))
theorem Vd.zero {H : Hp} : Vd H 0 100 (.int 0) := .plain (Sc.int 0 (by decide)) (by decide +kernel) (fun a e => (nomatch e))
/-- a text of at most m signs -/
def SOk (m : Nat) (z : Str) : Prop := z.length ≤ m ∧ ∀ c ∈ z.cps.toList, c < 16 ^ 8
theorem SOk.le {m n : Nat} {z : Str} (h : SOk m z) (l : m ≤ n) : SOk n z := ⟨by have := h.1; omega, h.2⟩
theorem Vd.text {H : Hp} {k : Nat} {z : Str} (h : SOk k z) (hk : k ≤ 100000) : Vd H 0 (10 * k + 2) (.str z) := by
  have l := StrLaws.reprText_len z h.2
  have l2 := h.1
  exact .plain (Sc.str z (by rw [sizeLine_eq]; omega)) (by omega) (fun a e => (nomatch e))
theorem paired_of {H : Hp} {n m : Nat} : ∀ {xs : List V}, (∀ x ∈ xs, Vd H n m x) → ∃ ts, Paired (Sh H n) xs ts ∧ (ts.map (·.length)).sum ≤ xs.length * m ∧ ts.length = xs.length
  | [], _ => ⟨[], .nil, by simp, rfl⟩
  | x :: xs, h => by
    obtain ⟨ts, p, s, l⟩ := paired_of (xs := xs) fun y m => h y (List.mem_cons_of_mem _ m)
    obtain ⟨t, q, lt⟩ := (h x List.mem_cons_self).sm
    refine ⟨t :: ts, .cons q p, ?_, by simp [l]⟩
    rw [List.map_cons, List.sum_cons, List.length_cons, Nat.succ_mul]
    omega
theorem Vd.lst {H : Hp} {n m k : Nat} {a : Addr} {xs : List V} (e : H a = some (.lst xs)) (h : ∀ x ∈ xs, Vd H n m x) (hl : xs.length ≤ k) : Vd H (n + 1) (k * (m + 2) + 3) (.ref a) := by
  obtain ⟨ts, p, s, l⟩ := paired_of h
  refine ⟨⟨_, Sh.lst e p, ?_⟩, fun b ys eb q => ?_⟩
  case refine_2 =>
    cases eb
    obtain ⟨ob, e', od⟩ := q
    rw [e] at e'
    cases e'
  have := listText_len_le ts
  have h2 : xs.length * (m + 2) ≤ k * (m + 2) := Nat.mul_le_mul_right _ hl
  rw [Nat.mul_add] at h2
  omega
theorem Vd.tup {H : Hp} {n m k : Nat} {a : Addr} {xs : List V} (e : Tx.TX H a xs) (h : ∀ x ∈ xs, Vd H n m x) (hj : ∀ x ∈ xs, Ji H x) (hl : xs.length ≤ k) (hk : k ≤ 1000 := by decide) : Vd H (n + 1) (k * (m + 2) + 3) (.ref a) := by
  obtain ⟨ts, p, s, l⟩ := paired_of h
  refine ⟨⟨_, Sh.tup e p, ?_⟩, fun b ys eb q => ?_⟩
  case refine_2 =>
    cases eb
    rw [← TX.eq e q]
    exact ⟨Nat.le_trans hl hk, hj⟩
  have := tupleText_len_le ts
  have h2 : xs.length * (m + 2) ≤ k * (m + 2) := Nat.mul_le_mul_right _ hl
  rw [Nat.mul_add] at h2
  omega
theorem Vd.dK0 {H : Hp} {a : Addr} (e : H a = some (.dK [])) : Vd H 1 100 (.ref a) := ⟨⟨_, Sh.dK e .nil, by decide +kernel⟩, fun b ys eb q => by
  cases eb
  obtain ⟨ob, e', od⟩ := q
  rw [e] at e'
  cases e'⟩
theorem Vd.dK1 {H : Hp} {a : Addr} {x : Str} {i : Int} (e : H a = some (.dK [(.inr x, .int i)])) (hx : SOk 10 x) (hi : i.natAbs.log2 < 1920) : Vd H 1 3000 (.ref a) := by
  have l := StrLaws.reprText_len x hx.2
  have l2 := hx.1
  have l3 := PyProof.Rows.int_text_len_1921 hi
  refine ⟨⟨_, Sh.dK (n := 0) (ts := [((toString i : String) : Str)]) e (.cons ⟨by show (reprText x).length ≤ sizeLine; rw [sizeLine_eq]; omega, Sc.int i hi⟩ .nil), ?_⟩, fun b ys eb q => ?_⟩
  case refine_2 =>
    cases eb
    obtain ⟨ob, e', od⟩ := q
    rw [e] at e'
    cases e'
  have h := dictText_len_le (List.zipWith (fun (p : Key × V) t => keyText p.1 ++ ": " ++ t) [((.inr x : Key), V.int i)] [((toString i : String) : Str)])
  have e2 : ((keyText (.inr x) ++ ": " ++ ((toString i : String) : Str)) : Str).length = (reprText x).length + 2 + ((toString i : String) : Str).length := by
    rw [strLen_append, strLen_append]
    rfl
  have e3 : (List.zipWith (fun (p : Key × V) t => keyText p.1 ++ ": " ++ t) [((.inr x : Key), V.int i)] [((toString i : String) : Str)]) = [keyText (.inr x) ++ ": " ++ ((toString i : String) : Str)] := rfl
  rw [e3] at h ⊢
  rw [List.map_cons, List.map_nil, List.sum_cons, List.sum_nil, e2, List.length_singleton] at h
  omega
/-- a value as the judges see it: what stands in it, if it is a tuple -/
inductive Vw (H : Hp) : V → Option (List V) → Prop where
  | not {v : V} {ty : String} (k : Kd H v ty) (ne : ty ≠ "tuple") : Vw H v none
  | tup {a : Addr} {xs : List V} (t : Tx.TX H a xs) (j : ∀ x ∈ xs, Ji H x) : Vw H (.ref a) (some xs)
theorem Vw.same {H H' : Hp} {v : V} {o : Option (List V)} (h : Vw H v o) (s : Same H H') : Vw H' v o := by
  cases h with
  | not k ne => exact .not (k.same s) ne
  | tup t j => exact .tup (Tx.TX.same t s) fun x m => (j x m).same s
theorem Vd.vw {H : Hp} {n m : Nat} {v : V} (h : Vd H n m v) : ∃ o, Vw H v o ∧ ∀ xs, o = some xs → xs.length < 100000 := by
  obtain ⟨ty, k⟩ := h.kd
  cases k with
  | tup e => exact ⟨_, .tup e (h.items _ _ rfl e).2, fun xs q => by cases q; have := (h.items _ _ rfl e).1; omega⟩
  | non => exact ⟨_, .not .non (by decide), fun xs q => (nomatch q)⟩
  | bl b => exact ⟨_, .not (.bl b) (by decide), fun xs q => (nomatch q)⟩
  | int i => exact ⟨_, .not (.int i) (by decide), fun xs q => (nomatch q)⟩
  | str z => exact ⟨_, .not (.str z) (by decide), fun xs q => (nomatch q)⟩
  | lst e => exact ⟨_, .not (.lst e) (by decide), fun xs q => (nomatch q)⟩
  | dK e => exact ⟨_, .not (.dK e) (by decide), fun xs q => (nomatch q)⟩
end Pr
namespace Pr
open PySem PySem.Spec PyProof.Rows L2 Gd
/-! ### drawn operators -/
def pool : List Str := ["c", "v", "p", "s", "add", "operator", "aa", "z", "op", "goal"]
/-- names with arities, as a dict -/
def dkv (l : List (Str × Nat)) : List (Key × V) := l.map fun p => (.inr p.1, .int (p.2 : Int))
structure Ars (l : List (Str × Nat)) : Prop where
  few : 1 ≤ l.length ∧ l.length ≤ 4
  nd : (l.map (·.1)).Nodup
  pool : ∀ p ∈ l, p.1 ∈ pool
  two : ∀ p ∈ l, p.2 ≤ 2
  const : ∃ p ∈ l, p.2 = 0
theorem Ars.perm {l l' : List (Str × Nat)} (h : Ars l) (p : l'.Perm l) : Ars l' :=
  ⟨by rw [p.length_eq]; exact h.few, (p.map _).nodup_iff.mpr h.nd, fun x m => h.pool x (p.mem_iff.mp m), fun x m => h.two x (p.mem_iff.mp m), let ⟨x, m, e⟩ := h.const; ⟨x, p.mem_iff.mpr m, e⟩⟩
theorem val_none {z : Str} : ∀ {l : List (Str × Nat)}, z ∉ l.map (·.1) → valV (dkv l) (.inr z : Key) = none
  | [], _ => rfl
  | p :: l, h => by
    show valV ((.inr p.1, .int (p.2 : Int)) :: dkv l) (.inr z : Key) = none
    rw [valV_neg (fun e => h (by
      have e' : p.1 = z := Sum.inr.inj e
      rw [← e']
      exact List.mem_cons_self))]
    exact val_none fun m => h (List.mem_cons_of_mem _ m)
theorem put_end {l : List (Str × Nat)} {z : Str} {k : Nat} (h : z ∉ l.map (·.1)) : putK (dkv l) (.inr z) (.int (k : Int)) = dkv (l ++ [(z, k)]) := by
  rw [putK_new _ (val_none h)]
  unfold dkv
  rw [List.map_append]
  rfl
theorem merge_end : ∀ (l2 l : List (Str × Nat)), ((l ++ l2).map (·.1)).Nodup → mergeK (dkv l) (dkv l2) = dkv (l ++ l2)
  | [], l, _ => by rw [List.append_nil]; rfl
  | (z, k) :: l2, l, h => by
    have n : z ∉ l.map (·.1) := by
      rw [List.map_append, List.nodup_append] at h
      exact fun m => h.2.2 z m z (by simp) rfl
    show mergeK (putK (dkv l) (.inr z) (.int (k : Int))) (dkv l2) = _
    rw [put_end n, merge_end l2 (l ++ [(z, k)]) (by rw [List.append_assoc]; exact h), List.append_assoc]
    rfl
theorem merge_all {l : List (Str × Nat)} (h : (l.map (·.1)).Nodup) : mergeK [] (dkv l) = dkv l := merge_end l [] h
theorem paired_perm {α β : Type} {F : α → β → Prop} {xs ys : List α} (p : xs.Perm ys) : ∀ {bs : List β}, Paired F ys bs → ∃ cs, cs.Perm bs ∧ Paired F xs cs := by
  induction p with
  | nil => exact fun {bs} h => ⟨bs, .refl _, h⟩
  | cons a p ih =>
    intro bs h
    cases h with
    | cons h r =>
      obtain ⟨cs, q, k⟩ := ih r
      exact ⟨_, q.cons _, .cons h k⟩
  | swap a b l =>
    intro bs h
    cases h with
    | cons h r =>
      cases r with
      | cons k r => exact ⟨_, .swap _ _ _, .cons k (.cons h r)⟩
  | trans p q ih1 ih2 =>
    intro bs h
    obtain ⟨cs, q1, k1⟩ := ih2 h
    obtain ⟨ds, q2, k2⟩ := ih1 k1
    exact ⟨ds, q2.trans q1, k2⟩
theorem paired_of_map {α β : Type} (g : β → α) : ∀ l : List β, Paired (fun a b => a = g b) (l.map g) l
  | [] => .nil
  | _ :: l => .cons rfl (paired_of_map g l)
theorem map_of_paired {α β : Type} {g : β → α} : ∀ {xs : List α} {l : List β}, Paired (fun a b => a = g b) xs l → xs = l.map g
  | _, _, .nil => rfl
  | _, _, .cons h r => by rw [h, map_of_paired r]; rfl
theorem perm_map {α β : Type} {g : β → α} {xs : List α} {l : List β} (p : xs.Perm (l.map g)) : ∃ l' : List β, l'.Perm l ∧ xs = l'.map g := by
  obtain ⟨l', q, k⟩ := paired_perm p (paired_of_map g l)
  exact ⟨l', q, map_of_paired k⟩
theorem Kp.free {d b : Addr} {H H' : Hp} (k : Kp d H H') (n : b ≠ d) (h : H' b = none) : H b = none := by
  cases e : H b with
  | none => rfl
  | some o =>
    rw [k b o n e] at h
    cases h
theorem paired_and {α β : Type} {F : α → β → Prop} {P : α → Prop} : ∀ {xs : List α} {ys : List β}, (∀ a ∈ xs, P a) → Paired F xs ys → Paired (fun a b => P a ∧ F a b) xs ys
  | _, _, _, .nil => .nil
  | _, _, h, .cons k r => .cons ⟨h _ List.mem_cons_self, k⟩ (paired_and (fun a m => h a (List.mem_cons_of_mem _ m)) r)
theorem paired_map {α β : Type} {F G : α → β → Prop} (k : ∀ a b, F a b → G a b) : ∀ {xs : List α} {ys : List β}, Paired F xs ys → Paired G xs ys
  | _, _, .nil => .nil
  | _, _, .cons h r => .cons (k _ _ h) (paired_map k r)
theorem cut_one {x : V} {xs : List V} {r : Int} (h0 : 0 ≤ r) (h1 : r.toNat ≤ xs.length) : cutV (x :: xs) (some 1) (some (1 + r)) = xs.take r.toNat := by
  have a1 : HT.sIx (x :: xs).length 0 (some 1) = 1 := by
    simp [HT.sIx]
  have a2 : HT.sIx (x :: xs).length (x :: xs).length (some (1 + r)) = 1 + r.toNat := by
    show (if 1 + r < 0 then (1 + r + ((xs.length + 1 : Nat) : Int)).toNat else min (1 + r).toNat (xs.length + 1)) = 1 + r.toNat
    rw [if_neg (by omega)]
    omega
  unfold cutV
  rw [a1, a2, List.drop_one, List.tail_cons, Nat.add_sub_cancel_left]
def spArs : Sp := fun vs H Q _ => ∃ (d : Addr) (n : Nat), vs = [.ref d] ∧ Dice H d n ∧ n + 40 < 1000000 ∧
  ∀ (q : Addr) (l : List (Str × Nat)) (H' : Hp), q ≠ d → H q = none → Kp d H H' → H' q = some (.dK (dkv l)) → Ars l → Dice H' d (n + 40) → Q (.ref q) H'
section
variable {P : Program} {w : World} {K : PySem.W.Frag} {mg : Str → Option Value} {base : Heap} {fR fP fM : Addr} {dR dP dM : FuncData}
theorem scArs : FnScope ["dice", "names", "found", "name"] ["dice"] (defScope sArs) := ⟨rfl, rfl, rfl, by decide +kernel, rfl, by decide +kernel, by decide +kernel⟩
theorem ok_ars {f : Addr} {fd : FuncData} (F : Fun K "_law_arities" "_law_arities" sArs f fd) (D : Draws K mg fR fP fM dR dP dM) (T : Free mg) : FnOk P w K mg base CX0 3 f fd ["dice"] spArs := by
  have GR : FnOk P w K mg base CX0 1 fR dR ["dice", "total"] spRoll := ok_roll D.FR T
  have GM : FnOk P w K mg base CX0 2 fM dM ["dice", "items"] (spMixed K) := ok_mixed D T
  refine F.ok scArs (fun vs H Q E h => ?_) (fun cdv A outer s H vs Q E hr h => ?_)
  · obtain ⟨d, n, rfl, _⟩ := h
    rfl
  · obtain ⟨d, n, rfl, di, hn, q⟩ := h
    have r1 : Room 1 _ := hr.mono (by decide)
    have hu := hr.units
    refine ⟨_, pss_cons (ps_set (i := 1) scArs.nd rfl (.inl rfl) (pe_call GM hr (by rfl) D.gM D.FM.kp D.bM .nil pass0 (pa_cons (pv 0) (pa_cons (pe_lst (pa_cons pe_str (pa_cons pe_str (pa_cons pe_str (pa_cons pe_str (pa_cons pe_str (pa_cons pe_str (pa_cons pe_str (pa_cons pe_str (pa_cons pe_str (pa_cons pe_str pa_nil))))))))))) pa_nil)))) (pss_cons (ps_set (i := 2) scArs.nd rfl (.inl rfl) (pe_disp (pps_cons (pe_ix ix_list (pv 1) pe_int (fun _ _ => rfl)) pe_int pps_nil) (by rfl) (by rfl) (fun z => by cases z) (by decide))) (pss_cons (ps_for PassesOwn.never rfl (pi_list (pe_slice sl_list (pv 1) (po_some pe_int) (po_some (pe_op op_add pe_int (pe_call GR r1 (by rfl) D.gR D.FR.kp D.bR .nil pass0 (pa_cons (pv 0) (pa_cons pe_int pa_nil))))))) (pg_name (i := 3) scArs.nd rfl (.inl rfl)) (pss_one (ps_asg (pe_call GR r1 (by rfl) D.gR D.FR.kp D.bR .nil pass0 (pa_cons (pv 0) (pa_cons pe_int pa_nil))) (pg_sub (pv 2) (pv 3) (set_dict (Nat.lt_of_le_of_lt (Nat.add_le_add_left (by decide : 1 ≤ 64) _) hu)))))) (pss_one (ps_ret (pe_callTy (call_dictP rfl) (by rfl) T.dict (by decide +kernel) (pa_cons (pe_call GM hr (by rfl) D.gM D.FM.kp D.bM .nil pass0 (pa_cons (pv 0) (pa_cons (LiI.pe_listItems (by rfl) (pv 2) (by rfl) T.list (by decide +kernel)) pa_nil))) pa_nil)))))), ?_⟩
    obtain ⟨ds, hd⟩ := di.there
    -- names
    refine ⟨_, rfl, by show 10 ≤ sizeLine; decide, fun lp nlp => ?_⟩
    have dlp : d ≠ lp := ne_of_none hd nlp
    refine ⟨d, lp, n, pool.map V.str, rfl, dlp.symm, SqL.of upd_same, by show 10 ≤ 1000; decide, di.same (Same.new nlp), by show n + 10 < 1000000; omega, fun b ys H1 nbd nb kp hb pm di1 => ?_⟩
    obtain ⟨zs, pz, rfl⟩ := perm_map pm
    have lz : zs.length = 10 := pz.length_eq
    have ndz : zs.Nodup := pz.nodup_iff.mpr (by decide +kernel)
    have di1' : Dice H1 d (n + 10) := di1
    -- found
    refine fun f nf => ?_
    have bf : b ≠ f := ne_of_none hb nf
    obtain ⟨ds1, hd1⟩ := di1'.there
    have df : d ≠ f := ne_of_none hd1 nf
    cases zs with
    | nil => cases lz
    | cons z0 zr =>
    have lr : zr.length = 9 := Nat.succ.inj lz
    refine ⟨_, rfl, b, _, _, _, rfl, rfl, SqL.of (by rw [upd_ne bf]; exact hb), atI_nat (j := 0) (v := V.str z0) rfl, upd_same, [(.inr z0, .int 0)], rfl, Nat.le_of_ble_eq_true rfl, ?_⟩
    rw [upd_upd]
    have hf : (upd H1 f (.dK (dkv [(z0, 0)]))) f = some (.dK (dkv [(z0, 0)])) := upd_same
    have di2 : Dice (upd H1 f (.dK (dkv [(z0, 0)]))) d (n + 10) := di1'.same (Same.new nf)
    have kp2 : Kp d H (upd H1 f (.dK (dkv [(z0, 0)]))) := ((Kp.new nlp).trans kp).trans (Kp.new nf)
    have hb2 : (upd H1 f (.dK (dkv [(z0, 0)]))) b = some (.lst ((z0 :: zr).map V.str)) := by rw [upd_ne bf]; exact hb
    have nHf : H f = none := Kp.free ((Kp.new nlp).trans kp) df.symm nf
    have hpz : ∀ z ∈ z0 :: zr, z ∈ pool := fun z m => pz.mem_iff.mp m
    -- the names behind the first one
    refine ⟨_, rfl, 1, rfl, _, rfl, d, 4, n + 10, rfl, di2, by omega, by decide, by decide +kernel, fun r o r0 r1' di3 => ⟨_, _, rfl, rfl, _, rfl, b, _, rfl, SqL.of ((Kp.upd (d := d)) _ _ nbd hb2), fun p np => ?_⟩⟩
    have cut : cutV ((z0 :: zr).map V.str) (some 1) (some (1 + r)) = (zr.take r.toNat).map V.str := by
      rw [List.map_cons, cut_one (by omega) (by rw [List.length_map]; omega), List.map_take]
    rw [cut]
    refine ⟨p, rfl, ⟨_, SqL.of upd_same⟩, ?_⟩
    have hf3 : (upd (upd H1 f (.dK (dkv [(z0, 0)]))) d o) f = some (.dK (dkv [(z0, 0)])) := (Kp.upd (d := d)) _ _ df.symm hf
    obtain ⟨ds3, hd3⟩ := di3.there
    have dp : d ≠ p := ne_of_none hd3 np
    have fp : f ≠ p := ne_of_none hf3 np
    have k3 : Kp d H (upd (upd H1 f (.dK (dkv [(z0, 0)]))) d o) := kp2.trans Kp.upd
    refine for_list (K := K) (a := p) (xs := (zr.take r.toNat).map V.str) (fun i σ H' => ∃ (v3 : Option V) (l : List (Str × Nat)), σ = [some (.ref d), some (.ref b), some (.ref f), v3] ∧ Kp d H H' ∧ H' p = some (.lst ((zr.take r.toNat).map V.str)) ∧
        H' f = some (.dK (dkv l)) ∧ l.map (·.1) = z0 :: zr.take i ∧ (∀ x ∈ l, x.2 ≤ 2) ∧ (z0, 0) ∈ l ∧ Dice H' d (n + 11 + i))
      ⟨none, [(z0, 0)], rfl, k3.trans (Kp.new np), upd_same, (Same.new np) _ _ hf3, rfl, by simp, by simp, di3.same (Same.new np)⟩ (fun i σ H' _ ⟨_, _, _, _, hp, _⟩ => SqL.of hp) ?_ ?_
    · rintro i x σ H' hx ⟨v3, l, rfl, kp', hp, hf', keys, two, c0, di'⟩
      have hx2 := List.getElem?_eq_some_iff.mp hx
      obtain ⟨hi, ex⟩ := hx2
      rw [List.length_map, List.length_take] at hi
      have hi9 : i < zr.length := by omega
      have ex2 : x = V.str zr[i] := by
        rw [← ex]
        simp
      subst ex2
      refine ⟨_, rfl, d, 3, n + 11 + i, rfl, di', by omega, by decide, by decide +kernel, fun r2 o2 r20 r21 di4 => ⟨_, rfl, _, rfl, f, _, rfl, DPut.k (k := .inr zr[i]) ((Kp.upd (d := d)) _ _ df.symm hf') ?_, ?_⟩⟩
      · have : l.length = (l.map (·.1)).length := (List.length_map _).symm
        rw [keys, List.length_cons, List.length_take] at this
        have e : (dkv l).length = l.length := List.length_map _
        rw [e, sizeLine_eq]
        omega
      · have nz : zr[i] ∉ l.map (·.1) := by
          rw [keys]
          have nd2 := (List.nodup_cons.mp ndz)
          intro m
          rcases List.mem_cons.mp m with m | m
          · exact nd2.1 (m ▸ List.getElem_mem hi9)
          · obtain ⟨j, hj, e⟩ := List.mem_iff_getElem.mp m
            rw [List.length_take] at hj
            rw [List.getElem_take] at e
            have := (List.getElem_inj nd2.2).mp e
            omega
        have er : r2 = ((r2.toNat : Nat) : Int) := (Int.toNat_of_nonneg r20).symm
        rw [er, put_end nz]
        have fd : f ≠ d := df.symm
        refine ⟨_, l ++ [(zr[i], r2.toNat)], rfl, fun c u nc e => ?_, ?_, upd_same, ?_, fun x m => ?_, List.mem_append_left _ c0, (di4.kept fun u e => ?_).more (by omega) (by omega)⟩
        · rw [upd_ne (ne_of_none e nHf), upd_ne nc]
          exact kp' c u nc e
        · rw [upd_ne fp.symm, upd_ne dp.symm]
          exact hp
        · rw [List.map_append, keys, List.take_add_one, List.getElem?_eq_getElem hi9]
          rfl
        · rcases List.mem_append.mp m with m | m
          · exact two x m
          · rw [List.mem_singleton.mp m]
            show r2.toNat ≤ 2
            omega
        · rw [upd_ne df]
          exact e
    · rintro σ H' ⟨v3, l, rfl, kp', hp, hf', keys, two, c0, di'⟩
      rw [List.length_map, List.length_take] at keys di'
      have lm : Nat.min r.toNat zr.length = r.toNat := Nat.min_eq_left (by omega)
      have ll : l.length = r.toNat + 1 := by
        have := (List.length_map (as := l) (·.1))
        rw [keys, List.length_cons, List.length_take] at this
        omega
      have ars : Ars l := by
        refine ⟨by omega, ?_, fun x m => ?_, two, _, c0, rfl⟩
        · rw [keys]
          have nd2 := List.nodup_cons.mp ndz
          exact List.nodup_cons.mpr ⟨fun m => nd2.1 (List.mem_of_mem_take m), (List.take_sublist _ _).nodup nd2.2⟩
        · have : x.1 ∈ l.map (·.1) := List.mem_map_of_mem m
          rw [keys] at this
          rcases List.mem_cons.mp this with e | m2
          · rw [e]
            exact hpz z0 List.mem_cons_self
          · exact hpz _ (List.mem_cons_of_mem _ (List.mem_of_mem_take m2))
      refine ⟨_, rfl, _, rfl, f, dkv l, rfl, hf', fun H5 p2 ts sm np2 nts pts h2 pr => ?_⟩
      have lts : ts.length = l.length := by
        have e : (dkv l).length = l.length := List.length_map _
        rw [pr.length, e]
      obtain ⟨ds5, hd5⟩ := di'.there
      refine ⟨d, p2, n + 11 + min r.toNat zr.length, ts.map V.ref, rfl, (ne_of_none hd5 np2).symm, SqL.of h2, by rw [List.length_map]; omega, di'.same sm, by rw [List.length_map]; omega, fun q2 ys H6 nqd nq2 kp6 hq2 pm2 di6 => ?_⟩
      obtain ⟨ps, pps, rfl⟩ := perm_map pm2
      obtain ⟨kvs, pk, pr2⟩ := paired_perm pps (paired_and (P := fun t => t ≠ d) (fun t m => (ne_of_none hd5 (nts t m)).symm) pr)
      obtain ⟨l2, pl, rfl⟩ := perm_map pk
      refine ⟨q2, ps, dkv l2, rfl, SqL.of hq2, paired_map (fun t k h => SqT.of (kp6 _ _ h.1 h.2)) pr2, fun p9 np9 => ?_⟩
      have a2 := ars.perm pl
      rw [merge_all a2.nd]
      obtain ⟨ds6, hd6⟩ := di6.there
      have k9 : Kp d H (upd H6 p9 (.dK (dkv l2))) := ((kp'.trans (Kp.same sm)).trans kp6).trans (Kp.new np9)
      have p9d : p9 ≠ d := (ne_of_none hd6 np9).symm
      refine q p9 l2 _ p9d (Kp.free ((kp'.trans (Kp.same sm)).trans kp6) p9d np9) k9 upd_same a2 ((di6.same (Same.new np9)).more ?_ ?_)
      · rw [List.length_map]
        omega
      · omega
end
end Pr

namespace Pr
open PySem PySem.Spec PyProof.Rows L2 Gd
theorem if_true_of {c : Bool} {A B : Prop} (hc : c = true) (h : A) : if c = true then A else B := by rw [if_pos hc]; exact h
theorem if_false_of {c : Bool} {A B : Prop} (hc : c = false) (h : B) : if c = true then A else B := by rw [hc, if_neg Bool.false_ne_true]; exact h
/-! ### drawn trees -/
/-- zs is a row of n trees over the operators l -/
inductive Fo (l : List (Str × Nat)) : Nat → List Str → Prop where
  | nil : Fo l 0 []
  | cons {z : Str} {a n : Nat} {zs : List Str} (m : (z, a) ∈ l) (h : Fo l (n + a) zs) : Fo l (n + 1) (z :: zs)
theorem val_some {z : Str} {a : Nat} : ∀ {l : List (Str × Nat)}, (l.map (·.1)).Nodup → (z, a) ∈ l → valV (dkv l) (.inr z : Key) = some (.int (a : Int))
  | p :: l, nd, h => by
    show valV ((.inr p.1, .int (p.2 : Int)) :: dkv l) (.inr z : Key) = some (.int (a : Int))
    have nd' := List.nodup_cons.mp nd
    rcases List.mem_cons.mp h with e | h
    · subst e
      rw [valV_pos rfl]
    · rw [valV_neg (fun e => nd'.1 (by
        have e' : p.1 = z := Sum.inr.inj e
        have m : (z, a).1 ∈ l.map (·.1) := List.mem_map_of_mem h
        exact (show p.1 ∈ l.map (·.1) from e' ▸ m)))]
      exact val_some nd'.2 h
def constB (l : List (Str × Nat)) (z : Str) : Bool := decide ((z, 0) ∈ l)
theorem filt_more {p : Str → Bool} {zs : List Str} {i : Nat} {z : Str} (h : zs[i]? = some z) : (zs.take (i + 1)).filter p = (zs.take i).filter p ++ (if p z then [z] else []) := by
  rw [List.take_add_one, h, List.filter_append]
  cases e : p z <;> simp [e]
theorem pe_imp {X : Cx} {e : Expr} {t t' : TE} (h : PE X e t) (k : ∀ σ H Q, t' σ H Q → t σ H Q) : PE X e t' := ⟨fun pins s σ H Q I q => h.run pins s σ H Q I (k σ H Q q)⟩
/-- a name is drawn -/
abbrev t_pk (K : PySem.W.Frag) : TE := tCall (spPick K) [] E0 (tCons (tVar 0) (tCons (tIf (tTest (tOp (rI0 fun i j => V.bl (decide (i < j))) (tOp (rI0 fun i j => V.int (i + j)) (tCB (fun xs H1 Q => ∃ p ys, xs = [V.ref p] ∧ (SqL K H1 p ys ∨ SqT K H1 p ys) ∧ Q (V.int (ys.length : Int)) H1) (tCons (tVar 3) tNil)) (tVar 4)) (tVar 2))) (tVar 5) (tVar 6)) tNil))
def t_pkB : TE := fun σ H Q => ∃ (d f ns cs : Addr) (cap o : Int) (ws ks cl : List Str) (n : Nat), σ[0]? = some (some (.ref d)) ∧ σ[2]? = some (some (.int cap)) ∧ σ[3]? = some (some (.ref f)) ∧ σ[4]? = some (some (.int o)) ∧ σ[5]? = some (some (.ref ns)) ∧ σ[6]? = some (some (.ref cs)) ∧ ns ≠ d ∧ cs ≠ d ∧
  H f = some (.lst (ws.map V.str)) ∧ H ns = some (.lst (ks.map V.str)) ∧ H cs = some (.lst (cl.map V.str)) ∧ ks ≠ [] ∧ cl ≠ [] ∧ ks.length ≤ 4 ∧ cl.length ≤ 4 ∧ Dice H d n ∧ n < 1000000 ∧
  ∀ z o2, (z ∈ ks ∧ (ws.length : Int) + o < cap) ∨ z ∈ cl → Dice (upd H d o2) d (n + 1) → Q (.str z) (upd H d o2)
theorem pk_imp {K : PySem.W.Frag} : ∀ σ H Q, t_pkB σ H Q → t_pk K σ H Q := by
  rintro σ H Q ⟨d, f, ns, cs, cap, o, ws, ks, cl, n, h0, h2, h3, h4, h5, h6, n1, n2, hf, hn, hc, kn, cn, k4, c4, di, hl, q⟩
  refine ⟨_, h0, _, h3, f, _, rfl, .inl (SqL.of hf), _, h4, _, _, rfl, rfl, _, h2, _, _, rfl, rfl, _, rfl, ?_⟩
  rw [List.length_map]
  by_cases c : (ws.length : Int) + o < cap
  · refine if_true_of (decide_eq_true c) ⟨_, h5, d, ns, n, _, rfl, n1, .inl (SqL.of hn), fun e => kn (List.map_eq_nil_iff.mp e), by rw [List.length_map]; omega, di, hl, fun v o2 mv di2 => ?_⟩
    obtain ⟨z, m, rfl⟩ := List.mem_map.mp mv
    exact q z o2 (.inl ⟨m, c⟩) di2
  · refine if_false_of (decide_eq_false c) ⟨_, h6, d, cs, n, _, rfl, n2, .inl (SqL.of hc), fun e => cn (List.map_eq_nil_iff.mp e), by rw [List.length_map]; omega, di, hl, fun v o2 mv di2 => ?_⟩
    obtain ⟨z, m, rfl⟩ := List.mem_map.mp mv
    exact q z o2 (.inr m) di2
def spDrawn : Sp := fun vs H Q _ => ∃ (d p : Addr) (cap n : Nat) (l : List (Str × Nat)), vs = [.ref d, .ref p, .int (cap : Int)] ∧ p ≠ d ∧ H p = some (.dK (dkv l)) ∧ Ars l ∧ 1 ≤ cap ∧ cap ≤ 400 ∧ Dice H d n ∧ n + 2 * cap + 3 < 1000000 ∧
  ∀ (q : Addr) (zs : List Str) (H' : Hp), q ≠ d → H q = none → Kp d H H' → Tx.TX H' q (zs.map V.str) → Fo l 1 zs → zs.length ≤ cap + 1 → Dice H' d (n + 2 * cap + 3) → Q (.ref q) H'
section
variable {P : Program} {w : World} {K : PySem.W.Frag} {mg : Str → Option Value} {base : Heap} {fR fP fM : Addr} {dR dP dM : FuncData}
theorem scDrawn : FnScope ["dice", "arities", "cap", "found", "open_ends", "names", "constants", "turn", "name"] ["dice", "arities", "cap"] (defScope sDrawn) := ⟨rfl, rfl, rfl, by decide +kernel, rfl, by decide +kernel, by decide +kernel⟩
theorem ok_drawn {f : Addr} {fd : FuncData} (F : Fun K "_law_drawn_tree" "_law_drawn_tree" sDrawn f fd) (D : Draws K mg fR fP fM dR dP dM) (T : Free mg) : FnOk P w K mg base CX0 3 f fd ["dice", "arities", "cap"] spDrawn := by
  have GP : FnOk P w K mg base CX0 2 fP dP ["dice", "items"] (spPick K) := ok_pick D T
  refine F.ok scDrawn (fun vs H Q E h => ?_) (fun cdv A outer s H vs Q E hr h => ?_)
  · obtain ⟨d, p, cap, n, l, rfl, _⟩ := h
    rfl
  · obtain ⟨d, p, cap, n, l, rfl, npd, hp, ars, c1, c4, di, hn, q⟩ := h
    have hu := hr.units
    have hu1 : ∀ {u : Nat}, u + 64 < cLine → u + 1 < cLine := fun h => by omega
    refine ⟨_, pss_cons (ps_par3 (i := 3) (j := 4) (l := 5) (by rfl) scDrawn.nd rfl rfl rfl (by decide) (by decide) (by decide) rfl rfl rfl (pa_cons (pe_lst pa_nil) (pa_cons pe_int (pa_cons (pe_callB (call_sortedD (by rfl)) (by rfl) T.sorted (by decide +kernel) (pa_cons (pv 1) pa_nil)) pa_nil))) (by rfl)) (pss_cons (ps_setLc (i := 6) (own := [("name", 8)]) (g := gName 8) (by rfl) scDrawn.nd rfl rfl (sw_true rfl rfl rfl (by decide +kernel)) (pi_list (pv 5)) (blkOk_by (own := [("name", 8)]) (N := ["dice", "arities", "cap", "found", "open_ends", "names", "constants", "turn", "name"]) (sc := defScope sDrawn) (by decide +kernel)) (fun _ _ _ _ _ => pg_name (i := 8) scDrawn.nd rfl (Or.inl rfl)) (fun _ _ _ _ _ => pts_one (pt_cmpR op_eq (pe_dget (hu1 hu) (pv 1) (pv 8) (fun _ _ => rfl)) pe_int (nomark _))) (fun _ _ _ _ _ => pv 8)) (pss_cons (ps_for PassesOwn.never rfl (pi_range1 rfl T.range (pa_cons (pe_op op_add (pe_op op_mul pe_int (pv 2)) pe_int) pa_nil)) (pg_name (i := 7) scDrawn.nd rfl (.inl rfl)) (pss_cons (ps_if (pt_cmpR op_eq (pv 4) pe_int (nomark _)) (pss_one ps_break) pss_nil) (pss_cons (ps_set (i := 8) scDrawn.nd rfl (.inl rfl) (pe_imp (pe_call GP (hr.mono (by decide)) (by rfl) D.gP D.FP.kp D.bP .nil pass0 (pa_cons (pv 0) (pa_cons (pe_ifExp (pt_cmpR op_lt (pe_op op_add (pe_callB call_len_seq (by rfl) T.len PySem.boot_len (pa_cons (pv 3) pa_nil)) (pv 4)) (pv 2) (nomark _)) (pv 5) (pv 6)) pa_nil))) pk_imp)) (pss_cons (ps_expr (pe_bm PySem.F.plainAttrs_list PySem.F.slot_list_append PySem.F.type_list_append mt_append (pv 3) (pa_cons (pv 8) pa_nil))) (pss_one (ps_set (i := 4) scDrawn.nd rfl (.inl rfl) (pe_op op_add (pe_op op_sub (pv 4) pe_int) (pe_dget (hu1 hu) (pv 1) (pv 8) (fun _ _ => rfl))))))))) (pss_one (ps_ret (pe_callTy Tx.call_tupX (by rfl) T.tuple (by decide +kernel) (pa_cons (pv 3) pa_nil)))))), ?_⟩
    obtain ⟨ds, hd⟩ := di.there
    -- found, open_ends, names
    refine ⟨by show 0 ≤ sizeLine; decide, fun f nf => ?_⟩
    have hp1 := (Same.new nf (o := .lst [])) _ _ hp
    refine ⟨_, rfl, p, dkv l, l.map (·.1), rfl, Rd.of hp1, by unfold dkv; rw [List.map_map, List.map_map]; rfl, by rw [List.length_map]; have := ars.few; omega, fun ks ns pk _ nns => ⟨_, _, _, rfl, ?_⟩⟩
    have s1 := (Same.new nf (o := .lst [])).trans (Same.new nns (o := .lst (ks.map V.str)))
    have hf1 : (upd (upd H f (.lst [])) ns (.lst (ks.map V.str))) f = some (.lst []) := (Same.new nns) _ _ upd_same
    have hns1 : (upd (upd H f (.lst [])) ns (.lst (ks.map V.str))) ns = some (.lst (ks.map V.str)) := upd_same
    have nfn : f ≠ ns := ne_of_none (upd_same (H := H) (a := f) (o := .lst [])) nns
    have dns : d ≠ ns := ne_of_none ((Same.new nf (o := .lst [])) _ _ hd) nns
    have nHns : H ns = none := (Same.new nf (o := .lst [])).free nns
    generalize upd (upd H f (.lst [])) ns (.lst (ks.map V.str)) = H1 at s1 hf1 hns1 ⊢
    have lk : ks.length = l.length := by rw [pk.length_eq, List.length_map]
    have ark : ∀ z ∈ ks, ∃ a, (z, a) ∈ l := fun z m => by
      obtain ⟨x, m2, e⟩ := List.mem_map.mp (pk.mem_iff.mp m)
      exact ⟨x.2, by rw [← e]; exact m2⟩
    -- constants
    refine ⟨_, rfl, ns, rfl, ⟨_, SqL.of hns1⟩, fun cs ncs => ?_⟩
    refine lc_list (K := K) (a := ns) (xs := ks.map V.str) (fun i G => G cs = some (.lst (((ks.take i).filter (constB l)).map V.str)) ∧ Same H1 G) ⟨upd_same, Same.new ncs⟩ (fun i G _ ⟨_, s⟩ => SqL.of (s _ _ hns1)) ?_ ?_
    · rintro i x G hx ⟨eD, s⟩
      obtain ⟨z, hz, rfl⟩ : ∃ z, ks[i]? = some z ∧ V.str z = x := by
        rw [List.getElem?_map] at hx
        cases e : ks[i]? with
        | none => rw [e] at hx; cases hx
        | some b => rw [e] at hx; exact ⟨b, rfl, Option.some.inj hx⟩
      obtain ⟨a, ma⟩ := ark z (List.mem_of_getElem? hz)
      have hpG := s _ _ (s1 _ _ hp)
      have vz := val_some ars.nd ma
      refine ⟨rfl, _, rfl, _, rfl, p, _, rfl, vz ▸ DGet.k (k := .inr z) hpG, rfl, _, rfl, ?_⟩
      have more := filt_more (p := constB l) hz
      have uq : ∀ a2, (z, a2) ∈ l → a2 = a := fun a2 m2 => by
        have e := (val_some ars.nd m2).symm.trans vz
        have e2 := V.int.inj (Option.some.inj e)
        omega
      have fewc : ((ks.take i).filter (constB l)).length ≤ 4 := by
        have a1 := List.length_filter_le (constB l) (ks.take i)
        rw [List.length_take] at a1
        have := ars.few
        omega
      cases a with
      | zero =>
        have cb : constB l z = true := decide_eq_true ma
        rw [cb, if_pos rfl] at more
        refine if_true_of (by decide) ⟨_, rfl, _, eD, by rw [List.length_map, sizeLine_eq]; omega, ?_, fun a o x => by rw [upd_ne (ne_of_none x ncs)]; exact s a o x⟩
        rw [upd_same, more, List.map_append]
        rfl
      | succ a =>
        have cb : constB l z = false := decide_eq_false fun m0 => by
          have := uq 0 m0
          omega
        rw [cb, if_neg Bool.false_ne_true, List.append_nil] at more
        refine if_false_of (decide_eq_false fun e => ?_) ⟨by rw [eD, more], s⟩
        have := V.int.inj e
        omega
    rintro G ⟨eD, s2⟩
    have eD2 : G cs = some (.lst ((ks.filter (constB l)).map V.str)) := by
      have t0 := List.take_of_length_le (l := ks) (i := (ks.map V.str).length) (by rw [List.length_map]; exact Nat.le_refl _)
      rw [t0] at eD
      exact eD
    generalize ecl : ks.filter (constB l) = cl at eD2
    have cln : cl ≠ [] := fun e => by
      obtain ⟨x, m, e0⟩ := ars.const
      have mk : x.1 ∈ ks := pk.mem_iff.mpr (List.mem_map_of_mem m)
      have cb : constB l x.1 = true := decide_eq_true (by
        have : x = (x.1, 0) := by rw [← e0]
        exact this ▸ m)
      have : x.1 ∈ ks.filter (constB l) := List.mem_filter.mpr ⟨mk, cb⟩
      rw [ecl, e] at this
      cases this
    have cl0 : ∀ z ∈ cl, (z, 0) ∈ l := fun z m => by
      rw [← ecl] at m
      exact of_decide_eq_true (List.mem_filter.mp m).2
    have cl4 : cl.length ≤ 4 := by
      rw [← ecl]
      have a1 := List.length_filter_le (constB l) ks
      have := ars.few
      omega
    have ksn : ks ≠ [] := fun e => by
      rw [e] at lk
      have := ars.few
      exact absurd lk (by simp; omega)
    have nHf : H f = none := nf
    have dG := (di.same s1).same s2
    have hpG := s2 _ _ (s1 _ _ hp)
    have hfG := s2 _ _ hf1
    have hnG := s2 _ _ hns1
    have df : d ≠ f := ne_of_none hd nf
    have pf : p ≠ f := ne_of_none hp nf
    have dcs : d ≠ cs := ne_of_none (s1 _ _ hd) ncs
    have fcs : f ≠ cs := ne_of_none hf1 ncs
    have nHcs : H cs = none := s1.free ncs
    refine ⟨_, rfl, 2, (cap : Int), rfl, rfl, .inl ⟨by decide, by decide⟩, _, _, rfl, rfl, _, rfl, by omega, by omega, ?_⟩
    refine for_range (lo := 0) (n := (2 * (cap : Int) + 3).toNat) (fun i σ H' => ∃ (v7 v8 : Option V) (ws : List Str) (o : Nat), σ = [some (.ref d), some (.ref p), some (.int (cap : Int)), some (.ref f), some (.int (o : Int)), some (.ref ns), some (.ref cs), v7, v8] ∧ Kp d H H' ∧
        H' f = some (.lst (ws.map V.str)) ∧ H' ns = some (.lst (ks.map V.str)) ∧ H' cs = some (.lst (cl.map V.str)) ∧ ws.length = i ∧ i + o ≤ cap + 1 ∧ (∀ zs, Fo l o zs → Fo l 1 (ws ++ zs)) ∧ Dice H' d (n + i))
      ⟨none, none, [], 1, rfl, Kp.same (s1.trans s2), hfG, hnG, eD2, rfl, by omega, fun zs h => h, dG⟩ ?_ ?_
    · rintro i σ H' hi ⟨v7, v8, ws, o, rfl, kp, hf', hn', hc', lw, io, fo, di'⟩
      refine ⟨_, rfl, rfl, _, rfl, ?_⟩
      cases o with
      | zero =>
        refine if_true_of (by decide) ⟨_, rfl, f, _, rfl, SqL.of hf', fun t H2 nt st tx => ?_⟩
        have f1 := fo [] .nil
        rw [List.append_nil] at f1
        obtain ⟨ds', hd'⟩ := di'.there
        have td : t ≠ d := (ne_of_none hd' nt).symm
        exact q t ws _ td (Kp.free kp td nt) (kp.trans (Kp.same st)) tx f1 (by omega) ((di'.same st).more (by omega) (by omega))
      | succ o =>
        refine if_false_of (decide_eq_false fun e => ?_) ?_
        · have := V.int.inj e
          omega
        have kl4 : ks.length ≤ 4 := by
          have := ars.few
          omega
        refine ⟨d, f, ns, cs, (cap : Int), ((o + 1 : Nat) : Int), ws, ks, cl, n + i, rfl, rfl, rfl, rfl, rfl, rfl, dns.symm, dcs.symm, hf', hn', hc', ksn, cln, kl4, cl4, di', by omega, fun z o2 hz di2 => ?_⟩
        obtain ⟨a, ma, ha⟩ : ∃ a, (z, a) ∈ l ∧ ws.length + 1 + (o + a) ≤ cap + 1 := by
          rcases hz with ⟨m, c⟩ | m
          · obtain ⟨a, ma⟩ := ark z m
            have := ars.two _ ma
            exact ⟨a, ma, by omega⟩
          · exact ⟨0, cl0 z m, by omega⟩
        have k2 : Kp d H' (upd H' d o2) := Kp.upd
        have vz := val_some ars.nd ma
        have hf2 := k2 _ _ df.symm hf'
        have hp2 : (upd H' d o2) p = some (.dK (dkv l)) := k2 _ _ npd (kp _ _ npd hp)
        refine ⟨_, rfl, .inl ⟨rfl, _, SqL.of hf2⟩, _, rfl, f, _, _, rfl, rfl, hf2, by rw [List.length_map, sizeLine_eq]; omega, ?_⟩
        have hp3 : (upd (upd H' d o2) f (.lst (ws.map V.str ++ [.str z]))) p = some (.dK (dkv l)) := by
          rw [upd_ne pf]
          exact hp2
        refine ⟨_, rfl, _, _, rfl, rfl, _, rfl, _, rfl, p, _, rfl, vz ▸ DGet.k (k := .inr z) hp3, _, _, rfl, rfl, ?_⟩
        refine ⟨some (.int (0 + (i : Int))), some (.str z), ws ++ [z], o + a, ?_, fun b u nb e => ?_, by rw [upd_same, List.map_append]; rfl, ?_, ?_, by simp [lw], by omega, fun zs h => ?_, (di2.kept fun u e => ?_).more (by omega) (by omega)⟩
        · have e : ((o + 1 : Nat) : Int) - 1 + (a : Int) = ((o + a : Nat) : Int) := by omega
          show ([some (V.ref d), some (V.ref p), some (V.int (cap : Int)), some (V.ref f), some (V.int (((o + 1 : Nat) : Int) - 1 + (a : Int))), some (V.ref ns), some (V.ref cs), some (V.int (0 + (i : Int))), some (V.str z)] : L2.St) = _
          rw [e]
        · rw [upd_ne (ne_of_none e nHf)]
          exact k2 _ _ nb (kp _ _ nb e)
        · rw [upd_ne nfn.symm]
          exact k2 _ _ dns.symm hn'
        · rw [upd_ne fcs.symm]
          exact k2 _ _ dcs.symm hc'
        · rw [List.append_assoc]
          exact fo _ (.cons ma h)
        · rw [upd_ne df]
          exact e
    · rintro σ H' ⟨v7, v8, ws, o, rfl, kp, hf', hn', hc', lw, io, fo, di'⟩
      omega
end
end Pr

namespace Pr
open PySem PySem.Spec PyProof.Rows L2
/-! ### integers, counts, coprime pairs -/
theorem Kd.ty {K : PySem.W.Frag} {H : Hp} {v : V} {t : String} (k : Kd H v t) : TyX K H v (.type t) := by
  cases k with
  | non => exact .base .non
  | bl b => exact .base (.bl b)
  | int i => exact .base (.int i)
  | str z => exact .base (.str z)
  | lst e => exact .base (.lst e)
  | tup e => exact (let ⟨_, h, _⟩ := e; .fTuple h)
  | dK e => exact .base (.dK e)
/-- is it an int (a bool is one); is it a bool -/
def isI : V → Bool
  | .bl _ => true
  | .int _ => true
  | _ => false
def isB : V → Bool
  | .bl _ => true
  | _ => false
theorem kit_int {K : PySem.W.Frag} {H : Hp} {v : V} {t : String} (k : Kd H v t) : PySem.W.kitOne K (.type t) (.type "int") = some (isI v) := by
  cases k <;> first | exact kit_ty (r := true) (by decide +kernel) | exact kit_ty (r := false) (by decide +kernel)
theorem kit_bool {K : PySem.W.Frag} {H : Hp} {v : V} {t : String} (k : Kd H v t) : PySem.W.kitOne K (.type t) (.type "bool") = some (isB v) := by
  cases k <;> first | exact kit_ty (r := true) (by decide +kernel) | exact kit_ty (r := false) (by decide +kernel)
/-- an integer of at most sixty digits; a count -/
def isInt : V → Bool
  | .int i => decide ((if i < 0 then -i else i) < 10 ^ (60 : Int).toNat)
  | _ => false
def isCount : V → Bool
  | .int i => decide ((if i < 0 then -i else i) < 10 ^ (60 : Int).toNat) && decide (0 ≤ i)
  | _ => false
theorem count_nat {v : V} (h : isCount v = true) : ∃ n : Nat, v = .int n ∧ n < 10 ^ 60 := by
  cases v with
  | int i =>
    have h' : (decide ((if i < 0 then -i else i) < 10 ^ (60 : Int).toNat) && decide (0 ≤ i)) = true := h
    rw [Bool.and_eq_true] at h'
    have h1 := of_decide_eq_true h'.1
    have h2 := of_decide_eq_true h'.2
    rw [if_neg (by omega)] at h1
    have e : ((10 : Int) ^ (60 : Int).toNat) = ((10 ^ 60 : Nat) : Int) := by decide +kernel
    rw [e] at h1
    exact ⟨i.toNat, by rw [Int.toNat_of_nonneg h2], by omega⟩
  | _ => cases h
theorem nat_count {n : Nat} (h : n < 10 ^ 60) : isCount (.int n) = true := by
  show (decide ((if (n : Int) < 0 then -(n : Int) else n) < 10 ^ (60 : Int).toNat) && decide ((0 : Int) ≤ n)) = true
  have e : ((10 : Int) ^ (60 : Int).toNat) = ((10 ^ 60 : Nat) : Int) := by decide +kernel
  rw [if_neg (by omega), e, decide_eq_true (by omega), decide_eq_true (by omega)]
  rfl
def spInt : Sp := fun vs H Q _ => ∃ (v : V) (t : String), vs = [v] ∧ Kd H v t ∧ Q (.bl (isInt v)) H
def spCount : Sp := fun vs H Q _ => ∃ (v : V) (t : String), vs = [v] ∧ Kd H v t ∧ Q (.bl (isCount v)) H
section
variable {P : Program} {w : World} {K : PySem.W.Frag} {mg : Str → Option Value} {base : Heap}
theorem scInteger : FnScope ["value"] ["value"] (defScope sInteger) := ⟨rfl, rfl, rfl, by decide +kernel, rfl, by decide +kernel, by decide +kernel⟩
theorem ok_integer {f : Addr} {fd : FuncData} (F : Fun K "is_integer" "is_integer" sInteger f fd) (T : Free mg) : FnOk P w K mg base CX0 1 f fd ["value"] spInt := by
  refine F.ok scInteger (fun vs H Q E h => ?_) (fun cdv A outer s H vs Q E hr h => ?_)
  · obtain ⟨v, t, rfl, _⟩ := h
    rfl
  · obtain ⟨v, t, rfl, kd, q⟩ := h
    refine ⟨_, pss_one (ps_ret (pe_and (pe_callB call_isi (by rfl) T.isi (by decide +kernel) (pa_cons (pv 0) (pa_cons (pe_bltn (v := .ty "int") (by rfl) T.int (by decide +kernel) rfl) pa_nil)))
      (pe_and (pe_not (pe_callB call_isi (by rfl) T.isi (by decide +kernel) (pa_cons (pv 0) (pa_cons (pe_bltn (v := .ty "bool") (by rfl) T.bool (by decide +kernel) rfl) pa_nil))))
        (pe_one (pe_cmpR op_lt (pe_callB call_abs (by rfl) T.abs (by decide +kernel) (pa_cons (pv 0) pa_nil)) (pe_op op_pow pe_int pe_int) (nomark _)))))), ?_⟩
    refine ⟨_, rfl, v, _, _, _, _, rfl, .ty "int", kd.ty, kit_int kd, _, rfl, ?_⟩
    cases kd with
    | int i => exact iteT ⟨_, rfl, _, _, _, _, _, rfl, .ty "bool", (Kd.int i).ty, kit_bool (Kd.int (H := H) i), _, rfl, _, rfl, iteT ⟨_, rfl, i, rfl, 10, 60, rfl, rfl, c10 (k := 60) (by decide), _, _, rfl, rfl, q⟩⟩
    | bl b => exact iteT ⟨_, rfl, _, _, _, _, _, rfl, .ty "bool", (Kd.bl b).ty, kit_bool (Kd.bl (H := H) b), _, rfl, _, rfl, iteF q⟩
    | _ => exact iteF q
end
end Pr
namespace Pr
open PySem PySem.Spec PyProof.Rows L2
/-! ### the same judge, as a name that is never unfolded -/
theorem there_int : ∃ p : V → Bool, p = isInt := ⟨_, rfl⟩
noncomputable def isIntO : V → Bool := Classical.choose there_int
theorem isIntO_eq : isIntO = isInt := Classical.choose_spec there_int
def spIntO : Sp := fun vs H Q _ => ∃ (v : V) (t : String), vs = [v] ∧ Kd H v t ∧ Q (.bl (isIntO v)) H
theorem spIntO_eq : spIntO = spInt := by
  unfold spIntO spInt
  rw [isIntO_eq]
section
variable {P : Program} {w : World} {K : PySem.W.Frag} {mg : Str → Option Value} {base : Heap}
theorem ok_integerO {f : Addr} {fd : FuncData} (F : Fun K "is_integer" "is_integer" sInteger f fd) (T : Free mg) : FnOk P w K mg base CX0 1 f fd ["value"] spIntO := by
  rw [spIntO_eq]
  exact ok_integer F T
end
end Pr
namespace Pr
open PySem PySem.Spec PyProof.Rows L2 Gd
/-! ### names: by the text's methods, and sign by sign -/
def azC (c : Nat) : Bool := decide (97 ≤ c) && decide (c ≤ 122)
def azB (z : Str) : Bool := decide (1 ≤ z.length) && decide (z.length ≤ 8) && z.cps.toList.all azC
def nameB : V → Bool
  | .str z => azB z
  | _ => false
theorem az_table : ((List.range 128).all fun c => ((Unicode.isAlpha c && !(Unicode.isUpper c || Unicode.isTitle c)) == azC c) && (!azC c || Unicode.isLower c)) = true := by decide +kernel
theorem az_at {c : Nat} (h : c < 128) : (Unicode.isAlpha c && !(Unicode.isUpper c || Unicode.isTitle c)) = azC c ∧ (azC c = true → Unicode.isLower c = true) := by
  have q := List.all_eq_true.mp az_table c (List.mem_range.mpr h)
  rw [Bool.and_eq_true] at q
  refine ⟨eq_of_beq q.1, fun e => ?_⟩
  have q2 := q.2
  rw [e] at q2
  simpa using q2
theorem az_lt {c : Nat} (h : azC c = true) : c < 128 := by
  unfold azC at h
  rw [Bool.and_eq_true] at h
  have := of_decide_eq_true h.2
  omega
/-- the three methods say what the signs say -/
theorem by_methods {z : Str} (h8 : z.length ≤ 8) : (Txt.isascii z && (Txt.isalpha z && Txt.islower z)) = azB z := by
  obtain ⟨⟨l⟩⟩ := z
  have hl : l.length ≤ 8 := h8
  have e1 : Txt.isascii ⟨⟨l⟩⟩ = l.all (· < 128) := by simp [Txt.isascii]
  have e2 : Txt.isalpha ⟨⟨l⟩⟩ = (decide (0 < l.length) && l.all Unicode.isAlpha) := by
    unfold Txt.isalpha
    simp [Str.length]
  have e3 : Txt.islower ⟨⟨l⟩⟩ = (l.any Unicode.isLower && !l.any fun c => Unicode.isUpper c || Unicode.isTitle c) := by simp [Txt.islower]
  have e4 : azB ⟨⟨l⟩⟩ = (decide (1 ≤ l.length) && decide (l.length ≤ 8) && l.all azC) := rfl
  rw [e1, e2, e3, e4, decide_eq_true hl, Bool.and_true]
  apply Bool.eq_iff_iff.mpr
  simp only [Bool.and_eq_true, List.all_eq_true, decide_eq_true_eq, Bool.not_eq_true', List.any_eq_false, List.any_eq_true]
  constructor
  · rintro ⟨a, ⟨b, c⟩, d, e⟩
    refine ⟨b, fun x m => ?_⟩
    rw [← (az_at (a x m)).1, c x m, Bool.true_and]
    have := e x m
    simpa using this
  · rintro ⟨a, b⟩
    have lt : ∀ x ∈ l, x < 128 := fun x m => az_lt (b x m)
    have both : ∀ x ∈ l, Unicode.isAlpha x = true ∧ (Unicode.isUpper x || Unicode.isTitle x) = false := fun x m => by
      have q := (az_at (lt x m)).1
      rw [b x m, Bool.and_eq_true] at q
      exact ⟨q.1, by simpa using q.2⟩
    refine ⟨lt, ⟨a, fun x m => (both x m).1⟩, ?_, fun x m => by rw [(both x m).2]; simp⟩
    cases l with
    | nil => simp at a
    | cons x r => exact ⟨x, List.mem_cons_self, (az_at (lt x List.mem_cons_self)).2 (b x List.mem_cons_self)⟩
def spName : Sp := fun vs H Q _ => ∃ (v : V) (t : String), vs = [v] ∧ Kd H v t ∧ (∀ z, v = .str z → z.length ≤ 1000000) ∧ Q (.bl (nameB v)) H
theorem kit_str {K : PySem.W.Frag} {H : Hp} {v : V} {t : String} (k : Kd H v t) : PySem.W.kitOne K (.type t) (.type "str") = some (match v with | .str _ => true | _ => false) := by
  cases k <;> first | exact kit_ty (r := true) (by decide +kernel) | exact kit_ty (r := false) (by decide +kernel)
/-- a list's address (or any other's) is no text -/
theorem nameB_not {H : Hp} {v : V} {t : String} (k : Kd H v t) (h : ∀ z, v ≠ .str z) : nameB v = false := by
  cases k with
  | str z => exact absurd rfl (h z)
  | _ => rfl
section
variable {P : Program} {w : World} {K : PySem.W.Frag} {mg : Str → Option Value} {base : Heap}
theorem scName : FnScope ["value"] ["value"] (defScope sName) := ⟨rfl, rfl, rfl, by decide +kernel, rfl, by decide +kernel, by decide +kernel⟩
theorem ok_name {f : Addr} {fd : FuncData} {tk : Tok} (F : Fun K "is_name" "is_name" sName f fd) (T : Free mg) (gm : mg "MAX_LETTERS" = some (.int 8 tk)) : FnOk P w K mg base CX0 1 f fd ["value"] spName := by
  refine F.ok scName (fun vs H Q E h => ?_) (fun cdv A outer s H vs Q E hr h => ?_)
  · obtain ⟨v, t, rfl, _⟩ := h
    rfl
  · obtain ⟨v, t, rfl, kd, hz, q⟩ := h
    refine ⟨_, pss_cons (ps_if (PW.pt (pw_or (pt_not (pt_val (pe_callB call_isi (by rfl) T.isi (by decide +kernel) (pa_cons (pv 0) (pa_cons (pe_bltn (v := .ty "str") (by rfl) T.str (by decide +kernel) rfl) pa_nil)))))
        (pw_or1 (pt_cmpR op_gt (pe_callB call_len_str (by rfl) T.len PySem.boot_len (pa_cons (pv 0) pa_nil)) (pe_glob (v := .int 8) (by rfl) gm ⟨_, rfl⟩) (nomark _))))) (pss_one (ps_ret pe_bl)) pss_nil)
      (pss_one (ps_ret (pe_and (pe_bm0 PySem.F.plainAttrs_str PySem.F.slot_str_isascii PySem.F.type_str_isascii mt_isascii (pv 0))
        (pe_and (pe_bm0 PySem.F.plainAttrs_str PySem.F.slot_str_isalpha PySem.F.type_str_isalpha mt_isalpha (pv 0))
          (pe_one (pe_bm0 PySem.F.plainAttrs_str PySem.F.slot_str_islower PySem.F.type_str_islower mt_islower (pv 0))))))), ?_⟩
    refine ⟨_, rfl, v, _, _, _, _, rfl, .ty "str", kd.ty, kit_str kd, _, rfl, ?_⟩
    cases kd with
    | str z =>
      have l := hz z rfl
      refine iteF ⟨_, rfl, z, rfl, by rw [sizeLine_eq]; omega, _, _, rfl, rfl, _, rfl, ite2 (fun c => ?_) (fun c => ?_)⟩
      · have e : nameB (.str z) = false := by
          have c' := of_decide_eq_true c
          show (_ && _ && _) = false
          rw [decide_eq_false (show ¬ z.length ≤ 8 by omega), Bool.and_false, Bool.false_and]
        rw [e] at q
        exact q
      · have c' : ¬ (8 : Int) < z.length := fun h => c (decide_eq_true h)
        have e : nameB (.str z) = (Txt.isascii z && (Txt.isalpha z && Txt.islower z)) := (by_methods (by omega)).symm
        rw [e] at q
        refine ⟨_, rfl, rfl, z, rfl, rfl, trivial, _, rfl, ite2 (fun c1 => ?_) (fun c1 => ?_)⟩
        · rw [c1, Bool.true_and] at q
          refine ⟨_, rfl, rfl, z, rfl, rfl, trivial, _, rfl, ite2 (fun c2 => ?_) (fun c2 => ?_)⟩
          · rw [c2, Bool.true_and] at q
            exact ⟨_, rfl, rfl, z, rfl, rfl, trivial, q⟩
          · rw [Bool.eq_false_iff.mpr c2, Bool.false_and] at q
            exact q
        · rw [Bool.eq_false_iff.mpr c1, Bool.false_and] at q
          exact q
    | _ => exact iteT (iteT q)
end
/-! ### a list beside the empty one -/
def rEqE (K : PySem.W.Frag) : R2 := fun x y H Q => ∃ a b xs, x = .ref a ∧ y = .ref b ∧ SqL K H a xs ∧ SqL K H b [] ∧ Q (.bl xs.isEmpty) H
theorem op_eqE {X : Cx} (hu : X.A.units + 64 < cLine) : OpR X (compareOp .Eq) (rEqE X.K) := by
  intro pins s σ H x y v u Q I rx ry h
  obtain ⟨a, b, xs, rfl, rfl, ha, hb, q⟩ := h
  cases (show v = Value.ref a from rx)
  cases (show u = Value.ref b from ry)
  obtain ⟨us, r1, p1, _⟩ := I.list ha
  obtain ⟨ws, r2, p2, _⟩ := I.list hb
  have l2 : ws.length = 0 := r2.length.symm
  have l1 : us.length = xs.length := r1.length.symm
  cases xs with
  | nil =>
    have hsz : us.toArray.size = ws.toArray.size := by
      rw [List.size_toArray, List.size_toArray, l1, l2]
      rfl
    have z := SeqAt.RcAt.lists (e := fun _ => true) p1.isList p2.isList hsz (A := X.A) (s := s) (by omega) (fun j h1 h2 => by
      rw [List.size_toArray, l1] at h1
      exact absurd h1 (Nat.not_lt_zero _))
    rw [show ((List.range us.toArray.size).all fun _ => true) = true from List.all_eq_true.mpr fun _ _ => rfl] at z
    exact z X.prog X.w _ _ ⟨.bl true, H, I, rfl, q⟩
  | cons x r =>
    have hsz : (us.toArray.size != ws.toArray.size) = true := by
      rw [List.size_toArray, List.size_toArray, l1, l2]
      rfl
    exact SeqAt.RcAt.lists_lengths p1.isList p2.isList hsz (A := X.A) (s := s) (by omega) X.prog X.w _ _ ⟨.bl false, H, I, rfl, q⟩
/-- a comprehension over the signs of a text -/
theorem lc_signs {x : Str} {g : TG} {tt : TT} {te : TE} {vs : List Nat} {σ : L2.St} {H1 : Hp} {D : Addr} {Qd : Hp → Prop} (Pv : Nat → Hp → Prop) (h0 : Pv 0 (upd H1 D (.lst [])))
    (hs : ∀ i c H, x.cps[i]? = some c → Pv i H → g (.str ⟨#[c]⟩) (wipe σ vs) H fun σ2 H2 => wipe σ2 vs = wipe σ vs ∧ tt σ2 H2 fun b H3 =>
      if b = true then te σ2 H3 fun y H4 => ∃ acc, H4 D = some (.lst acc) ∧ acc.length < sizeLine ∧ Pv (i + 1) (upd H4 D (.lst (acc ++ [y]))) else Pv (i + 1) H3) (hd : ∀ H, Pv x.cps.size H → Qd H) :
    ∃ W : Nat → Nat → Hp → Prop, (∃ m, W 0 m (upd H1 D (.lst []))) ∧ ∀ i m H, W i m H →
      ((Its x).stop i H ∧ Qd H) ∨ ((Its x).go i H ∧ ∃ Nx : Hp → Prop, (∀ H', Nx H' → ∃ m', m' < m ∧ W (i + 1) m' H') ∧ ∀ y H', (Its x).yld i H y H' → g y (wipe σ vs) H' fun σ2 H2 => wipe σ2 vs = wipe σ vs ∧ tt σ2 H2 fun b H3 =>
        if b = true then te σ2 H3 fun y H4 => ∃ acc, H4 D = some (.lst acc) ∧ acc.length < sizeLine ∧ Nx (upd H4 D (.lst (acc ++ [y]))) else Nx H3) := by
  refine ⟨fun i m H => m = x.cps.size - i ∧ i ≤ x.cps.size ∧ Pv i H, ⟨x.cps.size, by simp, Nat.zero_le _, h0⟩, ?_⟩
  rintro i m H ⟨rfl, hi, p⟩
  rcases Nat.lt_or_ge i x.cps.size with lt | ge
  · refine .inr ⟨lt, Pv (i + 1), fun H' p' => ⟨x.cps.size - (i + 1), by omega, rfl, lt, p'⟩, fun y H' h => ?_⟩
    obtain ⟨rfl, c, hc, rfl⟩ := h
    exact hs i c _ hc p
  · obtain rfl : i = x.cps.size := Nat.le_antisymm hi ge
    exact .inl ⟨Nat.le_refl _, hd H p⟩
end Pr
namespace Pr
open PySem PySem.Spec PyProof.Rows L2 Gd
theorem tyR {K : PySem.W.Frag} {H : Hp} {a : Addr} {xs : List V} (h : Rd H a (.tup xs)) : TyX K H (.ref a) (.type "tuple") := by
  rcases h with h | ⟨o, h⟩
  · exact .base (.tup h)
  · exact .fTuple h
theorem Rd.same {H H' : Hp} {a : Addr} {u : HO} (h : Rd H a u) (s : Same H H') : Rd H' a u := by
  rcases h with h | ⟨o, h⟩
  · exact .inl (s _ _ h)
  · exact .inr ⟨o, s _ _ h⟩
theorem TXr {H : Hp} {a : Addr} {xs : List V} (h : Tx.TX H a xs) : Rd H a (.tup xs) := let ⟨o, e, _⟩ := h; .inr ⟨o, e⟩
end Pr
namespace Pr
open PySem PySem.Spec PyProof.Rows L2 Gd
/-! ### is_whole -/
/-- the arity of a word that is one -/
def arity (l : List (Str × Nat)) : V → Option Int
  | .str z => (match valV (dkv l) (.inr z : Key) with
    | some (.int a) => some a
    | _ => none)
  | _ => none
/-- whether xs are n trees, one behind the other -/
def wgo (l : List (Str × Nat)) : Int → List V → Bool
  | n, [] => decide (n = 0)
  | n, x :: xs => if n = 0 then false else match arity l x with
    | some a => wgo l (n + (a - 1)) xs
    | none => false
theorem wgo_zero {l : List (Str × Nat)} {n : Int} {x : V} {xs : List V} (h : n = 0) : wgo l n (x :: xs) = false := if_pos h
theorem wgo_none {l : List (Str × Nat)} {n : Int} {x : V} {xs : List V} (h : arity l x = none) : wgo l n (x :: xs) = false := by
  show (if n = 0 then false else match arity l x with | some a => wgo l (n + (a - 1)) xs | none => false) = false
  rw [h]
  exact ite_self _
theorem wgo_some {l : List (Str × Nat)} {n a : Int} {x : V} {xs : List V} (h0 : n ≠ 0) (h : arity l x = some a) : wgo l n (x :: xs) = wgo l (n + (a - 1)) xs := by
  show (if n = 0 then false else match arity l x with | some a => wgo l (n + (a - 1)) xs | none => false) = _
  rw [if_neg h0, h]
theorem val_int {z : Str} {v : V} : ∀ {l : List (Str × Nat)}, valV (dkv l) (.inr z : Key) = some v → ∃ a, v = .int a
  | [], h => nomatch h
  | p :: l, h => by
    have h' : valV ((.inr p.1, .int (p.2 : Int)) :: dkv l) (.inr z : Key) = some v := h
    by_cases e : (.inr p.1 : Key) = .inr z
    · rw [valV_pos e] at h'
      exact ⟨_, (Option.some.inj h').symm⟩
    · rw [valV_neg e] at h'
      exact val_int h'
def spWhole : Sp := fun vs H Q _ => ∃ (t a : Addr) (xs : List V) (l : List (Str × Nat)), vs = [.ref t, .ref a] ∧ Rd H t (.tup xs) ∧ (∀ x ∈ xs, ∃ ty, Kd H x ty) ∧ H a = some (.dK (dkv l)) ∧ Q (.bl (wgo l 1 xs)) H
section
variable {P : Program} {w : World} {K : PySem.W.Frag} {mg : Str → Option Value} {base : Heap}
theorem scWhole : FnScope ["words", "arities", "awaited", "word"] ["words", "arities"] (defScope sWhole) := ⟨rfl, rfl, rfl, by decide +kernel, rfl, by decide +kernel, by decide +kernel⟩
theorem ok_whole {f : Addr} {fd : FuncData} (F : Fun K "is_whole" "is_whole" sWhole f fd) (T : Free mg) : FnOk P w K mg base CX0 1 f fd ["words", "arities"] spWhole := by
  refine F.ok scWhole (fun vs H Q E h => ?_) (fun cdv A outer s H vs Q E hr h => ?_)
  · obtain ⟨t, a, xs, l, rfl, _⟩ := h
    rfl
  · obtain ⟨t, a, xs, l, rfl, ht, all, ha, q⟩ := h
    have hu := hr.units
    have hu1 : ∀ {u : Nat}, u + 64 < cLine → u + 1 < cLine := fun h => by omega
    refine ⟨_, pss_cons (ps_set (i := 2) scWhole.nd rfl (.inl rfl) pe_int) (pss_cons (ps_for PassesOwn.never rfl (pi_tup (pv 0)) (pg_name (i := 3) scWhole.nd rfl (.inl rfl)) (pss_cons (ps_if (PW.pt (pw_or (pt_cmpR op_eq (pv 2) pe_int (nomark _)) (pw_or (pt_not (pt_val (pe_callB call_isi (by rfl) T.isi (by decide +kernel) (pa_cons (pv 3) (pa_cons (pe_bltn (v := .ty "str") (by rfl) T.str (by decide +kernel) rfl) pa_nil))))) (pw_or1 (pt_cmp (pc_dnotin (hu1 hu) (pv 3) (pv 1))))))) (pss_one (ps_ret pe_bl)) pss_nil) (pss_one (ps_aug (i := 2) scWhole.nd rfl (.inl rfl) (pe_op op_sub (pe_dget (hu1 hu) (pv 1) (pv 3) (fun _ _ => rfl)) pe_int) ip_add)))) (pss_one (ps_ret (pe_cmpR op_eq (pv 2) pe_int (nomark _))))), ?_⟩
    refine ⟨_, rfl, t, rfl, ⟨_, Or.inl ht⟩, ?_⟩
    refine for_tup (K := K) (a := t) (xs := xs) (fun i σ H' => H' = H ∧ ∃ (n : Int) (v3 : Option V), σ = [some (.ref t), some (.ref a), some (.int n), v3] ∧ wgo l 1 xs = wgo l n (xs.drop i))
      ⟨rfl, 1, none, rfl, rfl⟩ (fun i σ H' _ ⟨e, _⟩ => by rw [e]; exact Or.inl ht) ?_ ?_
    · rintro i x σ H' hx ⟨rfl, n, v3, rfl, hw⟩
      have hd : xs.drop i = x :: xs.drop (i + 1) := by
        obtain ⟨hi, e⟩ := List.getElem?_eq_some_iff.mp hx
        rw [← e]
        exact List.drop_eq_getElem_cons hi
      obtain ⟨ty, kd⟩ := all x (List.mem_of_getElem? hx)
      rw [hd] at hw
      refine ⟨_, rfl, rfl, _, rfl, ?_⟩
      by_cases c : n = 0
      · refine if_true_of (decide_eq_true (by rw [c])) ?_
        rw [hw, wgo_zero c] at q
        exact q
      · refine if_false_of (decide_eq_false fun z => c (V.int.inj z)) ⟨_, rfl, x, _, _, _, _, rfl, .ty "str", kd.ty, kit_str kd, _, rfl, ?_⟩
        cases kd with
        | str z =>
          refine if_false_of rfl ⟨_, rfl, _, rfl, a, _, rfl, DGet.k (k := .inr z) ha, _, rfl, ?_⟩
          cases e : valV (dkv l) (.inr z : Key) with
          | none =>
            refine if_true_of rfl ?_
            have an : arity l (.str z) = none := by
              show (match valV (dkv l) (.inr z : Key) with | some (.int a) => some a | _ => none) = none
              rw [e]
            rw [hw, wgo_none an] at q
            exact q
          | some v =>
            obtain ⟨a1, rfl⟩ := val_int e
            have an : arity l (.str z) = some a1 := by
              show (match valV (dkv l) (.inr z : Key) with | some (.int a) => some a | _ => none) = some a1
              rw [e]
            refine if_false_of rfl ⟨_, rfl, _, rfl, _, rfl, a, _, rfl, e ▸ DGet.k (k := .inr z) ha, _, _, rfl, rfl, _, _, rfl, rfl, rfl, _, _, rfl, ?_⟩
            rw [hw, wgo_some c an]
        | _ =>
          refine if_true_of rfl ?_
          rw [hw, wgo_none rfl] at q
          exact q
    · rintro σ H' ⟨rfl, n, v3, rfl, hw⟩
      rw [List.drop_of_length_le (Nat.le_refl _)] at hw
      refine ⟨_, rfl, rfl, ?_⟩
      have e : decide (V.int n = V.int 0) = wgo l 1 xs := by
        rw [hw]
        show _ = decide (n = 0)
        rw [dec_int]
        by_cases c : n = 0 <;> simp [c]
      rw [e]
      exact q
end
end Pr

namespace Pr
open PySem PySem.Spec PyProof.Rows L2 Gd
/-! ### operators that are let -/
structure OpsOk (l : List (Str × Nat)) : Prop where
  few : 1 ≤ l.length ∧ l.length ≤ 8
  nd : (l.map (·.1)).Nodup
  name : ∀ p ∈ l, azB p.1 = true
  two : ∀ p ∈ l, p.2 ≤ 2
theorem Ars.ok {l : List (Str × Nat)} (h : Ars l) : OpsOk l := by
  refine ⟨by have := h.few; omega, h.nd, fun p m => ?_, h.two⟩
  have t : ∀ z ∈ Pr.pool, azB z = true := by decide +kernel
  exact t _ (h.pool p m)
theorem val_at {l : List (Str × Nat)} {i : Nat} {k : Key} {v : V} (h : (dkv l)[i]? = some (k, v)) : ∃ p, l[i]? = some p ∧ k = .inr p.1 ∧ v = .int (p.2 : Int) := by
  unfold dkv at h
  rw [List.getElem?_map] at h
  cases e : l[i]? with
  | none => rw [e] at h; cases h
  | some p =>
    rw [e] at h
    cases (Option.some.inj h)
    exact ⟨p, rfl, rfl, rfl⟩
theorem isInt_small {n : Nat} (h : n ≤ 2) : isIntO (.int (n : Int)) = true := by
  rw [isIntO_eq]
  show decide ((if (n : Int) < 0 then -(n : Int) else n) < 10 ^ (60 : Int).toNat) = true
  have e : ((10 : Int) ^ (60 : Int).toNat) = ((10 ^ 60 : Nat) : Int) := by decide +kernel
  rw [if_neg (by omega), e, decide_eq_true (by omega)]
def spAre : Sp := fun vs H Q _ => ∃ (a : Addr) (l : List (Str × Nat)), vs = [.ref a] ∧ H a = some (.dK (dkv l)) ∧ OpsOk l ∧ ∀ H', Same H H' → Q (.bl true) H'
section
variable {P : Program} {w : World} {K : PySem.W.Frag} {mg : Str → Option Value} {base : Heap} {fI fN : Addr} {dI dN : FuncData} {tk tk2 : Tok}
theorem scAre : FnScope ["value", "name"] ["value"] (defScope sAre) := ⟨rfl, rfl, rfl, by decide +kernel, rfl, by decide +kernel, by decide +kernel⟩
theorem ok_are {f : Addr} {fd : FuncData} (F : Fun K "are_arities" "are_arities" sAre f fd) (T : Free mg) (gm : mg "MAX_LETTERS" = some (.int 8 tk)) (gm2 : mg "MAX_OPERATORS" = some (.int 8 tk2)) (FN : Fun K "is_name" "is_name" sName fN dN) (bN : Binds K dN ["value"] []) (gN : mg "is_name" = some (.ref fN))
    (FI : Fun K "is_integer" "is_integer" sInteger fI dI) (bI : Binds K dI ["value"] []) (gI : mg "is_integer" = some (.ref fI)) : FnOk P w K mg base CX0 2 f fd ["value"] spAre := by
  have GN : FnOk P w K mg base CX0 1 fN dN ["value"] spName := ok_name FN T gm
  have GI : FnOk P w K mg base CX0 1 fI dI ["value"] spIntO := ok_integerO FI T
  refine F.ok scAre (fun vs H Q E h => ?_) (fun cdv A outer s H vs Q E hr h => ?_)
  · obtain ⟨a, l, rfl, _⟩ := h
    rfl
  · obtain ⟨a, l, rfl, ha, ok, q⟩ := h
    have hu := hr.units
    have hu1 : ∀ {u : Nat}, u + 64 < cLine → u + 1 < cLine := fun h => by omega
    refine ⟨_, pss_cons (ps_if (PW.pt (pw_or (pt_not (pt_val (pe_callB call_isi (by rfl) T.isi (by decide +kernel) (pa_cons (pv 0) (pa_cons (pe_bltn (v := .ty "dict") (by rfl) T.dict (by decide +kernel) rfl) pa_nil))))) (pw_or1 (pt_not (pt_chain op_le op_le pe_int (pe_callB call_lenD (by rfl) T.len PySem.boot_len (pa_cons (pv 0) pa_nil)) (pe_glob (v := .int 8) (by rfl) gm2 ⟨_, rfl⟩)))))) (pss_one (ps_ret pe_bl)) pss_nil) (pss_one (ps_ret (pe_callB (cr_all rfl) (by rfl) T.all (by decide +kernel) (pa_cons (pe_lock (pe_lc (own := [("name", 1)]) (g := gName 1) (by rfl) scAre.nd (pi_keys (pv 0)) (blkOk_by (own := [("name", 1)]) (N := ["value", "name"]) (sc := defScope sAre) (by decide +kernel)) (fun _ _ _ _ _ => pg_name (i := 1) scAre.nd rfl (Or.inl rfl)) (fun _ _ _ _ _ => pts_nil) (fun _ _ _ _ _ => pe_and (pe_call GN hr (by rfl) gN FN.kp bN .nil pass0 (pa_cons (pv 1) pa_nil)) (pe_and (pe_call GI hr (by rfl) gI FI.kp bI .nil pass0 (pa_cons (pe_dget (hu1 hu) (pv 0) (pv 1) (fun _ _ => rfl)) pa_nil)) (pe_one (pe_chain op_le op_le pe_int (pe_dget (hu1 hu) (pv 0) (pv 1) (fun _ _ => rfl)) pe_int)))))) pa_nil)))), ?_⟩
    have few := ok.few
    have ln : (dkv l).length = l.length := List.length_map _
    refine ⟨_, rfl, .ref a, _, _, _, true, rfl, .ty "dict", (Kd.dK ha).ty, kit_ty (r := true) (by decide +kernel), _, rfl, iteF ⟨_, rfl, a, _, rfl, ha, _, _, rfl, rfl, _, rfl, ?_⟩⟩
    refine if_true_of (decide_eq_true (by rw [ln]; omega)) ⟨_, _, rfl, rfl, _, rfl, ?_⟩
    have e8 : decide (((dkv l).length : Int) ≤ 8) = true := decide_eq_true (by rw [ln]; omega)
    rw [e8]
    refine if_false_of rfl ?_
    refine ⟨a, _, ha, trivial, fun od => ⟨_, rfl, a, od, rfl, .inl ⟨dkv l, upd_same, fun D nD => ?_⟩⟩⟩
    have aD : a ≠ D := ne_of_none upd_same nD
    have nHD : H D = none := by
      rw [upd_ne aD.symm] at nD
      exact nD
    refine lc_it walk_keys (fun i G => G D = some (.lst ((l.take i).map fun _ => V.bl true)) ∧ G a = some (.frz od (.dK (dkv l))) ∧ ∀ b u, b ≠ a → H b = some u → G b = some u) ⟨upd_same, by rw [upd_ne aD, upd_same], fun b u nb e => by rw [upd_ne (ne_of_none e nHD), upd_ne nb]; exact e⟩
      (fun i G _ ⟨_, h, _⟩ => h) ?_ ?_
    · rintro i x G G' hi ⟨eD, eA, sm⟩ ⟨rfl, k, v, hk, rfl⟩
      obtain ⟨p, hp, rfl, rfl⟩ := val_at hk
      have mp := List.mem_of_getElem? hp
      have vz := val_some ok.nd (show (p.1, p.2) ∈ l from mp)
      have dg : DGet G' a (kV (.inr p.1 : Key)) (some (.int (p.2 : Int))) := vz ▸ (.inl ⟨dkv l, .inr p.1, .inr ⟨od, eA⟩, rfl, rfl⟩)
      have two := ok.two p mp
      have nm : nameB (.str p.1) = true := ok.name p mp
      have z8 : p.1.length ≤ 1000000 := by
        have h := ok.name p mp
        have h2 : (decide (1 ≤ p.1.length) && decide (p.1.length ≤ 8) && p.1.cps.toList.all azC) = true := h
        simp only [Bool.and_eq_true, decide_eq_true_eq] at h2
        omega
      have isi := isInt_small two
      have e2 : decide ((p.2 : Int) ≤ 2) = true := decide_eq_true (by omega)
      refine ⟨rfl, _, rfl, .str p.1, "str", rfl, .str p.1, fun z e => by cases e; exact z8, _, rfl, if_true_of nm ⟨_, rfl, _, rfl, a, _, rfl, dg, .int (p.2 : Int), "int", rfl, .int _, _, rfl, if_true_of isi ⟨_, rfl, _, rfl, a, _, rfl, dg, _, _, rfl, rfl, _, rfl, if_true_of (decide_eq_true (by omega)) ⟨_, _, rfl, rfl, ?_⟩⟩⟩⟩
      refine ⟨_, eD, ?_, ?_, by rw [upd_ne aD]; exact eA, fun b u nb e => by rw [upd_ne (ne_of_none e nHD)]; exact sm b u nb e⟩
      · have := (List.getElem?_eq_some_iff.mp hp).1
        rw [List.length_map, List.length_take, sizeLine_eq]
        omega
      · rw [upd_same, List.take_add_one, hp, List.map_append]
        show some (HO.lst (_ ++ [V.bl (decide ((p.2 : Int) ≤ 2))])) = _
        rw [e2]
        rfl
    · rintro G ⟨eD, eA, sm⟩
      refine ⟨eA, D, l.map fun _ => true, rfl, SqL.of ?_, ?_⟩
      · rw [upd_ne aD.symm, eD, ln, List.take_of_length_le (Nat.le_refl _), List.map_map]
        rfl
      · have e : (l.map fun _ => true).all id = true := by simp
        rw [e]
        refine q _ fun b u hb => ?_
        by_cases c : b = a
        · rw [c] at hb ⊢
          rw [upd_same, ← ha, hb]
        · rw [upd_ne c]
          exact sm b u c hb
end
end Pr

/-! ### list(d.values()) -/
namespace Lv
open PySem PySem.Spec PyProof.Rows L2
def tListVals (te : TE) : TE := fun σ H Q => te σ H fun x H1 => ∃ (d : Addr) (kvs : List (Key × V)), x = .ref d ∧ H1 d = some (.dK kvs) ∧ ∀ p, H1 p = none → Q (.ref p) (upd H1 p (.lst (kvs.map (·.2))))
theorem vals_snd {kvs : List (Key × V)} {vs : List (Key × Value)} (r : KV kvs vs) : Vals (kvs.map (·.2)) (vs.map (·.2)) := by
  unfold KV at r
  induction r with
  | nil => exact .nil
  | cons r t ih => exact .cons r.2 ih
section
variable {X : Cx} {e : Expr} {te : TE} {p apos cpos pos : Pos}
theorem pe_listVals (hc : X.calm = true) (he : PE X e te) (hg : Gl X "list") (hm : X.mg "list" = none) (hv : bootBuiltins "list" = some (.type "list")) (hbase : attributeBase e "values" X.env (eval e X.env) = eval e X.env := by rfl) (hline : (apos.endLine == cpos.line) = true := by rfl)
    (hs : starEach [.Call (.Attribute e "values" apos) [] [] cpos] X.env = (false, eval (.Call (.Attribute e "values" apos) [] [] cpos) X.env) :: starEach [] X.env := by rfl) :
    PE X (.Call (.Name "list" p) [.Call (.Attribute e "values" apos) [] [] cpos] [] pos) (tListVals te) := by
  refine ⟨fun pins s σ H Q I hq => ?_⟩
  refine wpAny_Call_Name_kw (ld_blt I hg hm hv ?_)
  refine PyProof.Rows.callWith_type1 ?_ hs rfl
  rw [hs]
  show wpAny _ _ (spliced ((false, eval (.Call (.Attribute e "values" apos) [] [] cpos) X.env) :: backTo pos (starEach [] X.env))) _ _ s
  refine Calls.spliced_cons ?_
  refine wpAny_Call_method (T := "dict") (id := "dict.values") hbase rfl hline F.plainAttrs_dict F.slot_dict_values F.type_dict_values (thn (he.run pins s σ H _ I hq) fun u s1 ⟨x, H1, I1, rx, d, kvs, ex, hd, q⟩ => ?_)
  subst ex
  obtain rfl : u = Value.ref d := rx
  obtain ⟨hz, hs0, vs, kv, hdo⟩ := I1.hok d _ hd
  obtain ⟨ep, hat⟩ := hdo.dictAt
  have lk : kvs.length = vs.length := Paired.length kv
  have I2 : Inv X pins σ H1 { s1 with heap := s1.heap.push { cls := .type "dict_values", data := .fields #[.ref d] } } := I1.kept (t' := s1.toks) fun b ob q => Heap.get?_push_of_some _ q
  refine ⟨hdo.typeIs, hdo.mapOf.noDict, ?_⟩
  show wpAny _ _ (callWith cpos (.builtin "dict.values") [.ref d] [] []) _ X.xe s1
  refine method_meetsIn F.slot_dict_values F.entry_dict_values rfl (PySem.evalArgs_none ⟨rfl, hdo.typeIs, F.args_dict_values_1 _, _, meets_dict_values (mixKind X.prog X.w) d hs0, ⟨vs, hdo⟩, ?_⟩)
  refine Calls.spliced_nil ?_
  refine PySem.W.kdl_call (PySem.W.kdl_values (knd := mixKind X.prog X.w) (kvs := vs) (ep := ep)) (I1.ok.hd hc) ⟨⟨_, Heap.get?_push_size _ rfl, rfl, rfl⟩, hat.push _⟩ (by omega) fun h' tk acc c hk hS hacc => ?_
  have ev : acc.toList = vs.map (·.2) := PySem.W.kdl_vals_eq acc.toList (by rw [Array.length_toList]; exact hacc.1) fun j v e => hacc.2 j v (by rw [← Array.getElem?_toList]; exact e)
  refine ⟨.ref _, _, I2.laid (o := .lst (kvs.map (·.2))) (t' := tk) hk (Nat.le_refl _) ⟨by rw [List.length_map]; omega, vs.map (·.2), c, vals_snd kv, ?_⟩, rfl, q _ (I2.hok.fresh (Nat.le_refl _))⟩
  rw [← ev, Array.toArray_toList]
  exact hS
end
end Lv
namespace Pr
open PySem PySem.Spec PyProof.Rows L2 Gd
/-! ### Operators(arities) -/
/-- what is known of the class -/
structure OpF (K : PySem.W.Frag) (C : Addr) : Prop where
  cls : Cls K C
  n1 : NoAttr K C "_names"
  n2 : NoAttr K C "_arities"
  n3 : NoAttr K C "_lines"
  n4 : NoAttr K C "_many"
  n5 : NoAttr K C "_counts"
  n6 : NoAttr K C "_rows"
/-- operators over l at o -/
structure OpsAt (H : Hp) (C o : Addr) (l : List (Str × Nat)) : Prop where
  ex : ∃ (dx tn ta : Addr) (tl : Addr × Addr × Addr × Addr), H o = some (.ins C dx [("_names", .ref tn), ("_arities", .ref ta), ("_lines", .ref tl.1), ("_many", .ref tl.2.1), ("_counts", .ref tl.2.2.1), ("_rows", .ref tl.2.2.2)]) ∧ H tn = some (.tup (l.map fun p => V.str p.1)) ∧ H ta = some (.dK (dkv l))
theorem OpsAt.same {H H' : Hp} {C o : Addr} {l : List (Str × Nat)} (h : OpsAt H C o l) (s : Same H H') : OpsAt H' C o l :=
  let ⟨dx, tn, ta, tl, a, b, c⟩ := h.ex
  ⟨dx, tn, ta, tl, s _ _ a, s _ _ b, s _ _ c⟩
abbrev t_line : TE := fun σ H Q => tJs [tC (V.str "op "), tFmt (tVar 2), tC (V.str " "), tFmt (tDGet (tVar 1) (tVar 2))] Str.empty σ H fun out H1 => Q (V.str out) H1
/-- a statement that isn't met -/
def tNever : TS := fun _ _ _ => False
theorem ps_never {X : Cx} {st : Stmt} : PS X st tNever := ⟨fun _ _ _ _ _ _ h => False.elim h⟩
def spInit (C : Addr) : Sp := fun vs H Q _ => ∃ (x dx a : Addr) (l : List (Str × Nat)), vs = [.ref x, .ref a] ∧ H x = some (.ins C dx []) ∧ H a = some (.dK (dkv l)) ∧ OpsOk l ∧
  ∀ (l' : List (Str × Nat)) (H' : Hp), l'.Perm l → sortedS (l'.map (·.1)) = true → Kp x H H' → OpsAt H' C x l' → Q .non H'
section
variable {P : Program} {w : World} {K : PySem.W.Frag} {mg : Str → Option Value} {base : Heap} {C fA : Addr} {dA : FuncData}
theorem scInit : FnScope ["self", "arities", "name", "told"] ["self", "arities"] (defScope mInit) := ⟨rfl, rfl, rfl, by decide +kernel, rfl, by decide +kernel, by decide +kernel⟩
theorem ok_init {f : Addr} {fd : FuncData} (F : Fun K "__init__" "Operators.__init__" mInit f fd) (T : Free mg) (CF : OpF K C) (GA : FnOk P w K mg base CX0 2 fA dA ["value"] spAre) (FA : Fun K "are_arities" "are_arities" sAre fA dA) (bA : Binds K dA ["value"] []) (gA : mg "are_arities" = some (.ref fA)) :
    FnOk P w K mg base CX0 3 f fd ["self", "arities"] (spInit C) := by
  refine F.ok scInit (fun vs H Q E h => ?_) (fun cdv A outer s H vs Q E hr h => ?_)
  · obtain ⟨x, dx, a, l, rfl, _⟩ := h
    rfl
  · obtain ⟨x, dx, a, l, rfl, hx, ha, ok, q0⟩ := h
    have hu := hr.units
    have hu1 : ∀ {u : Nat}, u + 64 < cLine → u + 1 < cLine := fun h => by omega
    refine ⟨_, pss_cons (ps_if (pt_not (pt_val (pe_call GA hr (by rfl) gA FA.kp bA .nil pass0 (pa_cons (pv 1) pa_nil)))) (pss_one ps_never) pss_nil) (pss_cons (ps_fld (pv 0) (pe_callTy call_tuple_of (by rfl) T.tuple (by decide +kernel) (pa_cons (pe_callB (call_sortedD (by rfl)) (by rfl) T.sorted (by decide +kernel) (pa_cons (pv 1) pa_nil)) pa_nil)) rfl) (pss_cons (ps_fld (pv 0) (pe_dc (own := [("name", 2)]) (g := gName 2) (by rfl) scInit.nd (pi_tup (pe_fld (pv 0) rfl)) (blkOk_by (own := [("name", 2)]) (N := ["self", "arities", "name", "told"]) (sc := defScope mInit) (by decide +kernel)) (fun _ _ _ _ _ => pg_name (i := 2) scInit.nd rfl (Or.inl rfl)) (fun _ _ _ _ _ => pts_nil) (fun _ _ _ _ _ => pv 2) (fun _ _ _ _ _ => pe_dget (hu1 hu) (pv 1) (pv 2) (fun _ _ => rfl))) rfl) (pss_cons (ps_fld (pv 0) (pe_callTy call_tuple_of (by rfl) T.tuple (by decide +kernel) (pa_cons (pe_lc (own := [("name", 2)]) (g := gName 2) (by rfl) scInit.nd (pi_tup (pe_fld (pv 0) rfl)) (blkOk_by (own := [("name", 2)]) (N := ["self", "arities", "name", "told"]) (sc := defScope mInit) (by decide +kernel)) (fun _ _ _ _ _ => pg_name (i := 2) scInit.nd rfl (Or.inl rfl)) (fun _ _ _ _ _ => pts_nil) (fun _ _ _ _ _ => pe_joined (.cons pe_str (.cons (pe_fmt (pv 2)) (.cons pe_str (.cons (pe_fmt (pe_dget (hu1 hu) (pv 1) (pv 2) (fun _ _ => rfl))) .nil)))))) pa_nil)) rfl) (pss_cons (ps_set (i := 3) scInit.nd rfl (.inl rfl) (Lv.pe_listVals rfl (pv 1) (by rfl) T.list (by decide +kernel))) (pss_cons (ps_fld (pv 0) (pe_tup (pa_cons (pe_bm PySem.F.plainAttrs_list PySem.F.slot_list_count PySem.F.type_list_count mt_lcount (pv 3) (pa_cons pe_int pa_nil)) (pa_cons (pe_bm PySem.F.plainAttrs_list PySem.F.slot_list_count PySem.F.type_list_count mt_lcount (pv 3) (pa_cons pe_int pa_nil)) (pa_cons (pe_bm PySem.F.plainAttrs_list PySem.F.slot_list_count PySem.F.type_list_count mt_lcount (pv 3) (pa_cons pe_int pa_nil)) pa_nil)))) rfl) (pss_cons (ps_fld (pv 0) (pe_lst (pa_cons pe_int (pa_cons (pe_ix ix_tup (pe_fld (pv 0) rfl) pe_int (fun _ _ => rfl)) pa_nil))) rfl) (pss_one (ps_fld (pv 0) (pe_lst pa_nil) rfl)))))))), ?_⟩
    have few := ok.few
    have xa : x ≠ a := fun e => by
      rw [e, ha] at hx
      cases hx
    refine ⟨_, rfl, a, l, rfl, ha, ok, fun H1 s1 => ⟨_, rfl, if_false_of rfl ?_⟩⟩
    refine ⟨_, rfl, a, dkv l, l.map (·.1), rfl, Rd.of (s1 _ _ ha), by unfold dkv; rw [List.map_map, List.map_map]; rfl, by rw [List.length_map]; omega, fun ks ns pk srt nns => ?_⟩
    obtain ⟨l', pl, rfl⟩ := perm_map pk
    refine ⟨ns, _, rfl, .inl ⟨SqL.of upd_same, fun t nt => ?_⟩⟩
    have s2 := (s1.trans (Same.new nns (o := .lst ((l'.map (·.1)).map V.str)))).trans (Same.new nt (o := .tup ((l'.map (·.1)).map V.str)))
    have ht2 : (upd (upd H1 ns (.lst ((l'.map (·.1)).map V.str))) t (.tup ((l'.map (·.1)).map V.str))) t = some (.tup ((l'.map (·.1)).map V.str)) := upd_same
    generalize upd (upd H1 ns (.lst ((l'.map (·.1)).map V.str))) t (.tup ((l'.map (·.1)).map V.str)) = H2 at s2 ht2 ⊢
    have hx2 := s2 _ _ hx
    have xt : x ≠ t := fun e => by
      rw [e, ht2] at hx2
      cases hx2
    refine ⟨_, rfl, x, C, dx, [], rfl, hx2, CF.cls, CF.n1, by decide, ?_⟩
    have k3 : Kp x H (upd H2 x (.ins C dx (putF "_names" (.ref t) []))) := (Kp.same s2).trans Kp.upd
    have hx3 : (upd H2 x (.ins C dx (putF "_names" (.ref t) []))) x = some (.ins C dx [("_names", .ref t)]) := upd_same
    have ht3 : (upd H2 x (.ins C dx (putF "_names" (.ref t) []))) t = some (.tup ((l'.map (·.1)).map V.str)) := by rw [upd_ne xt.symm]; exact ht2
    have ha3 := k3 a _ xa.symm ha
    have ndl : (l'.map (·.1)).Nodup := (pl.map _).nodup_iff.mpr ok.nd
    have mem : ∀ {i : Nat} {v : V}, ((l'.map (·.1)).map V.str)[i]? = some v → ∃ p, l'[i]? = some p ∧ v = .str p.1 ∧ valV (dkv l) (.inr p.1 : Key) = some (.int (p.2 : Int)) ∧ p.2 ≤ 2 ∧ azB p.1 = true := fun {i v} h => by
      rw [List.map_map, List.getElem?_map] at h
      cases e : l'[i]? with
      | none => rw [e] at h; cases h
      | some p =>
        rw [e] at h
        have mp : p ∈ l := pl.mem_iff.mp (List.mem_of_getElem? e)
        exact ⟨p, rfl, (Option.some.inj h).symm, val_some ok.nd mp, ok.two p mp, ok.name p mp⟩
    have ll : l'.length ≤ 8 := by
      rw [pl.length_eq]
      omega
    generalize upd H2 x (.ins C dx (putF "_names" (.ref t) [])) = H3 at k3 hx3 ht3 ha3 ⊢
    -- _arities
    refine ⟨_, rfl, x, C, dx, _, _, rfl, hx3, CF.cls, CF.n1, rfl, t, rfl, ⟨_, SqT.of ht3⟩, fun D nD => ?_⟩
    refine dc_tup (K := K) (a := t) (xs := (l'.map (·.1)).map V.str) (fun i G => G D = some (.dK (dkv (l'.take i))) ∧ Same H3 G) ⟨upd_same, Same.new nD⟩ (fun i G _ ⟨_, s⟩ => SqT.of (s _ _ ht3)) ?_ ?_
    · rintro i v G hv ⟨eD, s⟩
      obtain ⟨p, hp, rfl, vz, two, _⟩ := mem hv
      have nz : p.1 ∉ (l'.take i).map (·.1) := fun m => by
        obtain ⟨j, hj, e⟩ := List.mem_iff_getElem.mp m
        rw [List.length_map, List.length_take] at hj
        obtain ⟨hi, ep⟩ := List.getElem?_eq_some_iff.mp hp
        have e2 : (l'.map (·.1))[j]'(by rw [List.length_map]; omega) = (l'.map (·.1))[i]'(by rw [List.length_map]; omega) := by
          rw [List.getElem_map, List.getElem_map, ep, ← e, List.getElem_map, List.getElem_take]
        have := (List.getElem_inj ndl).mp e2
        omega
      refine ⟨rfl, _, rfl, _, rfl, _, rfl, a, _, rfl, vz ▸ DGet.k (k := .inr p.1) (s _ _ ha3), dkv (l'.take i), .inr p.1, rfl, eD, ?_, ?_, fun b o q => by rw [upd_ne (ne_of_none q nD)]; exact s b o q⟩
      · have e : (dkv (l'.take i)).length = (l'.take i).length := List.length_map _
        rw [e, List.length_take, sizeLine_eq]
        omega
      · rw [upd_same, put_end nz, List.take_add_one, hp]
        rfl
    rintro G ⟨eD, s3⟩
    have eD : G D = some (.dK (dkv l')) := by
      have t0 := List.take_of_length_le (l := l') (i := ((l'.map (·.1)).map V.str).length) (by rw [List.length_map, List.length_map]; exact Nat.le_refl _)
      rw [t0] at eD
      exact eD
    refine ⟨_, rfl, x, C, dx, _, rfl, s3 _ _ hx3, CF.cls, CF.n2, Nat.le_of_ble_eq_true rfl, ?_⟩
    have xD : x ≠ D := ne_of_none hx3 nD
    have k4 : Kp x H (upd G x (.ins C dx (putF "_arities" (.ref D) [("_names", .ref t)]))) := (k3.trans (Kp.same s3)).trans Kp.upd
    have hx4 : (upd G x (.ins C dx (putF "_arities" (.ref D) [("_names", .ref t)]))) x = some (.ins C dx [("_names", .ref t), ("_arities", .ref D)]) := upd_same
    have ht4 : (upd G x (.ins C dx (putF "_arities" (.ref D) [("_names", .ref t)]))) t = some (.tup ((l'.map (·.1)).map V.str)) := by rw [upd_ne xt.symm]; exact s3 _ _ ht3
    have hD4 : (upd G x (.ins C dx (putF "_arities" (.ref D) [("_names", .ref t)]))) D = some (.dK (dkv l')) := by rw [upd_ne xD.symm]; exact eD
    have ha4 := k4 a _ xa.symm ha
    generalize upd G x (.ins C dx (putF "_arities" (.ref D) [("_names", .ref t)])) = H4 at k4 hx4 ht4 hD4 ha4 ⊢
    -- _lines
    refine ⟨_, rfl, x, C, dx, _, _, rfl, hx4, CF.cls, CF.n1, rfl, t, rfl, ⟨_, SqT.of ht4⟩, fun D2 nD2 => ?_⟩
    refine lc_tup (K := K) (a := t) (xs := (l'.map (·.1)).map V.str) (tt := tYes) (g := gName 2) (te := t_line) (vs := [2]) (fun i G => ∃ ss : List V, G D2 = some (.lst ss) ∧ ss.length = i ∧ Same H4 G) ⟨[], upd_same, rfl, Same.new nD2⟩ (fun i G _ ⟨_, _, _, s⟩ => SqT.of (s _ _ ht4)) ?_ ?_
    · rintro i v G2 hv ⟨ss, e2, ls, s⟩
      obtain ⟨p, hp, rfl, vz, two, az⟩ := mem hv
      have z8 : p.1.length ≤ 8 := by
        have h2 : (decide (1 ≤ p.1.length) && decide (p.1.length ≤ 8) && p.1.cps.toList.all azC) = true := az
        simp only [Bool.and_eq_true, decide_eq_true_eq] at h2
        omega
      have lg : ((p.2 : Int)).natAbs.log2 < 1920 := Nat.lt_of_le_of_lt (Nat.log2_le_self _) (by omega)
      have tl : (((toString (p.2 : Int) : String) : Str)).length ≤ 1921 := PyProof.Rows.int_text_len_1921 lg
      have il : i < 8 := by
        have := (List.getElem?_eq_some_iff.mp hp).1
        omega
      have n1 : (Str.empty ++ ("op " : Str)).length = 3 := rfl
      refine ⟨rfl, _, rfl, by rw [n1, sizeLine_eq]; decide, _, rfl, .inl ⟨p.1, rfl, by rw [sizeLine_eq]; omega, _, rfl, by rw [strLen_append, n1, sizeLine_eq]; omega, _, rfl, ?_, _, rfl, _, rfl, a, _, rfl, vz ▸ DGet.k (k := .inr p.1) (s _ _ ha4), .inr ⟨_, rfl, lg, _, rfl, ?_, ss, e2, by rw [sizeLine_eq]; omega, ss ++ [_], upd_same, by rw [List.length_append, ls]; rfl, fun b o q => by rw [upd_ne (ne_of_none q nD2)]; exact s b o q⟩⟩⟩
      · rw [strLen_append, strLen_append, n1, sizeLine_eq, show (" " : Str).length = 1 from rfl]
        omega
      · rw [strLen_append, strLen_append, strLen_append, n1, sizeLine_eq, show (" " : Str).length = 1 from rfl]
        have tl' : ((Str.ofString (toString (p.2 : Int)))).length ≤ 1921 := tl
        omega
    · rintro G2 ⟨ss, e2, ls, s⟩
      refine ⟨D2, ss, rfl, .inl ⟨SqL.of e2, fun t2 nt2 => ⟨_, rfl, x, C, dx, _, rfl, (Same.new nt2) _ _ (s _ _ hx4), CF.cls, CF.n3, Nat.le_of_ble_eq_true rfl, ?_⟩⟩⟩
      have s5 := s.trans (Same.new nt2 (o := .tup ss))
      have xt2 : x ≠ t2 := ne_of_none (s _ _ hx4) nt2
      have xa4 : a ≠ x := xa.symm
      have k5 : Kp x H (upd (upd G2 t2 (.tup ss)) x (.ins C dx (putF "_lines" (.ref t2) [("_names", .ref t), ("_arities", .ref D)]))) := (k4.trans (Kp.same s5)).trans Kp.upd
      have hx5 : (upd (upd G2 t2 (.tup ss)) x (.ins C dx (putF "_lines" (.ref t2) [("_names", .ref t), ("_arities", .ref D)]))) x = some (.ins C dx [("_names", .ref t), ("_arities", .ref D), ("_lines", .ref t2)]) := upd_same
      have ht5 : (upd (upd G2 t2 (.tup ss)) x (.ins C dx (putF "_lines" (.ref t2) [("_names", .ref t), ("_arities", .ref D)]))) t = some (.tup (l'.map fun p => V.str p.1)) := by
        rw [upd_ne xt.symm]
        have := s5 _ _ ht4
        rw [List.map_map] at this
        exact this
      have hD5 : (upd (upd G2 t2 (.tup ss)) x (.ins C dx (putF "_lines" (.ref t2) [("_names", .ref t), ("_arities", .ref D)]))) D = some (.dK (dkv l')) := by
        rw [upd_ne xD.symm]
        exact s5 _ _ hD4
      generalize upd (upd G2 t2 (.tup ss)) x (.ins C dx (putF "_lines" (.ref t2) [("_names", .ref t), ("_arities", .ref D)])) = H5 at k5 hx5 ht5 hD5 ⊢
      have ha5 := k5 a _ xa4 ha
      -- told
      refine ⟨_, rfl, a, dkv l, rfl, ha5, fun q nq => ?_⟩
      have s6 := Same.new nq (o := .lst ((dkv l).map (·.2)))
      have xq : x ≠ q := ne_of_none hx5 nq
      have hq6 : (upd H5 q (.lst ((dkv l).map (·.2)))) q = some (.lst ((l.map fun p => (p.2 : Int)).map V.int)) := by
        rw [upd_same]
        unfold dkv
        rw [List.map_map, List.map_map]
        rfl
      generalize upd H5 q (.lst ((dkv l).map (·.2))) = H6 at s6 hq6 ⊢
      have hx6 := s6 _ _ hx5
      have ht6 := s6 _ _ ht5
      have hD6 := s6 _ _ hD5
      have tyq : tyV K "list" (V.ref q) H6 := .inl ⟨rfl, _, SqL.of hq6⟩
      refine ⟨_, rfl, tyq, q, _, 0, rfl, rfl, SqL.of hq6, _, rfl, tyq, q, _, 1, rfl, rfl, SqL.of hq6, _, rfl, tyq, q, _, 2, rfl, rfl, SqL.of hq6, by show 3 ≤ sizeLine; decide, fun m nm => ?_⟩
      have s7 := Same.new nm (o := .tup [.int ((l.map fun p => (p.2 : Int)).count 0 : Nat), .int ((l.map fun p => (p.2 : Int)).count 1 : Nat), .int ((l.map fun p => (p.2 : Int)).count 2 : Nat)])
      have xm : x ≠ m := ne_of_none hx6 nm
      refine ⟨_, rfl, x, C, dx, _, rfl, s7 _ _ hx6, CF.cls, CF.n4, Nat.le_of_ble_eq_true rfl, ?_⟩
      have k7 : Kp x H (upd (upd H6 m (.tup [.int ((l.map fun p => (p.2 : Int)).count 0 : Nat), .int ((l.map fun p => (p.2 : Int)).count 1 : Nat), .int ((l.map fun p => (p.2 : Int)).count 2 : Nat)])) x (.ins C dx (putF "_many" (.ref m) [("_names", .ref t), ("_arities", .ref D), ("_lines", .ref t2)]))) := ((k5.trans (Kp.same s6)).trans (Kp.same s7)).trans Kp.upd
      have hx7 : (upd (upd H6 m (.tup [.int ((l.map fun p => (p.2 : Int)).count 0 : Nat), .int ((l.map fun p => (p.2 : Int)).count 1 : Nat), .int ((l.map fun p => (p.2 : Int)).count 2 : Nat)])) x (.ins C dx (putF "_many" (.ref m) [("_names", .ref t), ("_arities", .ref D), ("_lines", .ref t2)]))) x = some (.ins C dx [("_names", .ref t), ("_arities", .ref D), ("_lines", .ref t2), ("_many", .ref m)]) := upd_same
      have hm7 : (upd (upd H6 m (.tup [.int ((l.map fun p => (p.2 : Int)).count 0 : Nat), .int ((l.map fun p => (p.2 : Int)).count 1 : Nat), .int ((l.map fun p => (p.2 : Int)).count 2 : Nat)])) x (.ins C dx (putF "_many" (.ref m) [("_names", .ref t), ("_arities", .ref D), ("_lines", .ref t2)]))) m = some (.tup [.int ((l.map fun p => (p.2 : Int)).count 0 : Nat), .int ((l.map fun p => (p.2 : Int)).count 1 : Nat), .int ((l.map fun p => (p.2 : Int)).count 2 : Nat)]) := by rw [upd_ne xm.symm, upd_same]
      have ht7 : (upd (upd H6 m (.tup [.int ((l.map fun p => (p.2 : Int)).count 0 : Nat), .int ((l.map fun p => (p.2 : Int)).count 1 : Nat), .int ((l.map fun p => (p.2 : Int)).count 2 : Nat)])) x (.ins C dx (putF "_many" (.ref m) [("_names", .ref t), ("_arities", .ref D), ("_lines", .ref t2)]))) t = some (.tup (l'.map fun p => V.str p.1)) := by
        rw [upd_ne xt.symm]
        exact s7 _ _ ht6
      have hD7 : (upd (upd H6 m (.tup [.int ((l.map fun p => (p.2 : Int)).count 0 : Nat), .int ((l.map fun p => (p.2 : Int)).count 1 : Nat), .int ((l.map fun p => (p.2 : Int)).count 2 : Nat)])) x (.ins C dx (putF "_many" (.ref m) [("_names", .ref t), ("_arities", .ref D), ("_lines", .ref t2)]))) D = some (.dK (dkv l')) := by
        rw [upd_ne xD.symm]
        exact s7 _ _ hD6
      generalize upd (upd H6 m (.tup [.int ((l.map fun p => (p.2 : Int)).count 0 : Nat), .int ((l.map fun p => (p.2 : Int)).count 1 : Nat), .int ((l.map fun p => (p.2 : Int)).count 2 : Nat)])) x (.ins C dx (putF "_many" (.ref m) [("_names", .ref t), ("_arities", .ref D), ("_lines", .ref t2)])) = H7 at k7 hx7 hm7 ht7 hD7 ⊢
      -- _counts
      refine ⟨_, rfl, x, C, dx, _, _, rfl, hx7, CF.cls, CF.n4, rfl, m, _, _, _, rfl, rfl, SqT.of hm7, rfl, by show 2 ≤ sizeLine; decide, fun c nc => ?_⟩
      have xc : x ≠ c := ne_of_none hx7 nc
      have s8 := Same.new nc (o := .lst [.int 0, .int ((l.map fun p => (p.2 : Int)).count 0 : Nat)])
      refine ⟨_, rfl, x, C, dx, _, rfl, s8 _ _ hx7, CF.cls, CF.n5, Nat.le_of_ble_eq_true rfl, ?_⟩
      have k8 : Kp x H (upd (upd H7 c (.lst [.int 0, .int ((l.map fun p => (p.2 : Int)).count 0 : Nat)])) x (.ins C dx (putF "_counts" (.ref c) [("_names", .ref t), ("_arities", .ref D), ("_lines", .ref t2), ("_many", .ref m)]))) := (k7.trans (Kp.same s8)).trans Kp.upd
      have hx8 : (upd (upd H7 c (.lst [.int 0, .int ((l.map fun p => (p.2 : Int)).count 0 : Nat)])) x (.ins C dx (putF "_counts" (.ref c) [("_names", .ref t), ("_arities", .ref D), ("_lines", .ref t2), ("_many", .ref m)]))) x = some (.ins C dx [("_names", .ref t), ("_arities", .ref D), ("_lines", .ref t2), ("_many", .ref m), ("_counts", .ref c)]) := upd_same
      have ht8 : (upd (upd H7 c (.lst [.int 0, .int ((l.map fun p => (p.2 : Int)).count 0 : Nat)])) x (.ins C dx (putF "_counts" (.ref c) [("_names", .ref t), ("_arities", .ref D), ("_lines", .ref t2), ("_many", .ref m)]))) t = some (.tup (l'.map fun p => V.str p.1)) := by
        rw [upd_ne xt.symm]
        exact s8 _ _ ht7
      have hD8 : (upd (upd H7 c (.lst [.int 0, .int ((l.map fun p => (p.2 : Int)).count 0 : Nat)])) x (.ins C dx (putF "_counts" (.ref c) [("_names", .ref t), ("_arities", .ref D), ("_lines", .ref t2), ("_many", .ref m)]))) D = some (.dK (dkv l')) := by
        rw [upd_ne xD.symm]
        exact s8 _ _ hD7
      generalize upd (upd H7 c (.lst [.int 0, .int ((l.map fun p => (p.2 : Int)).count 0 : Nat)])) x (.ins C dx (putF "_counts" (.ref c) [("_names", .ref t), ("_arities", .ref D), ("_lines", .ref t2), ("_many", .ref m)])) = H8 at k8 hx8 ht8 hD8 ⊢
      -- _rows
      refine ⟨by show 0 ≤ sizeLine; decide, fun r nr => ?_⟩
      have s9 := Same.new nr (o := .lst [])
      refine ⟨_, rfl, x, C, dx, _, rfl, s9 _ _ hx8, CF.cls, CF.n6, Nat.le_of_ble_eq_true rfl, ?_⟩
      refine q0 l' _ pl srt ((k8.trans (Kp.same s9)).trans Kp.upd) ⟨dx, t, D, (t2, m, c, r), upd_same, ?_, ?_⟩
      · rw [upd_ne xt.symm]
        exact s9 _ _ ht8
      · rw [upd_ne xD.symm]
        exact s9 _ _ hD8
end
end Pr

/-! ### tuple.count of a text, in a tuple of plain values, lists and tuples -/
namespace Tb
open PySem PySem.Spec PyProof.Rows L2 Pr
def rTCntJ (K : PySem.W.Frag) : V → List V → Hp → VK → Prop := fun x xs H Q => ∃ (p : Addr) (ys : List V) (z : Str), x = .ref p ∧ xs = [.str z] ∧ SqT K H p ys ∧ (∀ y ∈ ys, Ji H y) ∧ Q (.int (ys.countP fun y => eqV y (.str z) : Nat)) H
theorem ji_cnt {H : Hp} {z : Str} : ∀ {xs : List V} {us : List Value}, Vals xs us → (∀ y ∈ xs, Ji H y) → us.countP (eqU (.str z)) = xs.countP fun y => eqV y (.str z)
  | _, _, .nil, _ => rfl
  | y :: xs, u :: us, .cons r t, f => by
    have e : eqU (.str z) u = eqV y (.str z) := by
      obtain ⟨ty, k, _⟩ := f y List.mem_cons_self
      cases k with
      | non => exact eqU_of r rfl
      | bl b => exact eqU_of r rfl
      | int i => exact eqU_of r rfl
      | str z => exact eqU_of r rfl
      | lst e => cases r; rfl
      | tup e => cases r; rfl
      | dK e => cases r; rfl
    rw [List.countP_cons, List.countP_cons, e, ji_cnt t fun y m => f y (List.mem_cons_of_mem _ m)]
theorem ji_eq {X : Cx} {pins : List (Addr × Obj)} {s : Shared} {σ : L2.St} {H : Hp} (I : Inv X pins σ H s) {z : Str} {v : Value} (rx : RelV (.str z) v) {A : Around} (hu : A.units < cLine) : ∀ {xs : List V} {us : List Value}, Vals xs us → (∀ y ∈ xs, Ji H y) → ∀ u ∈ us, SeqAt.EqAt A s u v (eqU (.str z) u)
  | _, _, .nil, _ => fun u hu => by cases hu
  | y :: xs, u :: us, .cons r t, f => fun u' hm => by
    rcases List.mem_cons.mp hm with rfl | hm
    · obtain ⟨tk, rfl⟩ := rx
      obtain ⟨ty, k, nd⟩ := f y List.mem_cons_self
      cases k with
      | non => rw [eqU_of r rfl]; exact eqAt_V r ⟨tk, rfl⟩ rfl rfl
      | bl b => rw [eqU_of r rfl]; exact eqAt_V r ⟨tk, rfl⟩ rfl rfl
      | int i => rw [eqU_of r rfl]; exact eqAt_V r ⟨tk, rfl⟩ rfl rfl
      | str z => rw [eqU_of r rfl]; exact eqAt_V r ⟨tk, rfl⟩ rfl rfl
      | lst e =>
        cases r
        obtain ⟨its, rel, pl, _⟩ := I.list (show SqL X.K H _ _ from SqL.of e)
        exact SeqAt.EqAt.list_str z tk pl.isList hu
      | tup e =>
        cases r
        obtain ⟨its, rel, tt, _⟩ := I.tuple (show SqT X.K H _ _ from Tx.TX.sq e)
        exact SeqAt.EqAt.tuple_str z tk tt hu
      | dK e => exact absurd rfl nd
    · exact ji_eq I rx hu t (fun y m => f y (List.mem_cons_of_mem _ m)) u' hm
theorem mt_tcountJ {X : Cx} (hu : X.A.in1.units < cLine) : MtR X "tuple.count" (rTCntJ X.K) := by
  intro pins s σ H x xs v us Q I rx rxs h
  obtain ⟨p, ys, z, rfl, rfl, ht, js, q⟩ := h
  cases rx
  obtain ⟨u, rfl, ru⟩ := rxs.one
  obtain ⟨its, rel, ⟨⟨ocl, odi, oda, osl⟩, hat, hcl, cnt, hda⟩, _⟩ := I.tuple ht
  dsimp only at hcl hda
  subst hcl hda
  have each : ∀ y, y ∈ its.toArray → SeqAt.EqAt X.A.in1 s y u (eqU (.str z) y) := fun y hy => ji_eq I ru hu rel js y (by simpa using hy)
  refine call_meets PySem.F.slot_tuple_count ⟨_, hat, rfl⟩
    PySem.F.entry_tuple_count (PySem.F.args_tuple_count_2 _ _)
    (SeqAt.tuple_countAt p its.toArray cnt odi osl u (eqU (.str z))) ⟨hat, each, ?_⟩
  have e : its.toArray.toList.countP (eqU (.str z)) = ys.countP fun y => eqV y (.str z) := ji_cnt rel js
  refine ⟨.int (ys.countP fun y => eqV y (.str z) : Nat), H, I.tok _, ⟨s.toks, ?_⟩, q⟩
  show Value.int ((its.toArray.toList.countP (eqU (.str z)) : Nat) : Int) s.toks = _
  rw [e]
end Tb
namespace Pr
open PySem PySem.Spec PyProof.Rows L2 Gd
/-! ### is_tree, is_context of any value -/
theorem neSelf {v : V} : (!decide (v = v)) = false := by rw [decide_eq_true rfl]; rfl
def hole : Str := "_"
/-- the operators and the hole -/
def lH (l : List (Str × Nat)) : List (Str × Nat) := l ++ [(hole, 0)]
theorem dkv_lH {l : List (Str × Nat)} : dkv l ++ [(.inr hole, .int 0)] = dkv (lH l) := by
  unfold lH dkv
  rw [List.map_append]
  rfl
/-- what is_tree says -/
def tB (l : List (Str × Nat)) : Option (List V) → Bool
  | none => false
  | some xs => decide (xs.length ≤ 5000) && wgo l 1 xs
def isH (v : V) : Bool := eqV v (.str hole)
/-- what is_context says -/
def cB (l : List (Str × Nat)) : Option (List V) → Bool
  | none => false
  | some xs => decide (xs.length ≤ 5000) && (decide (xs.countP isH = 1) && wgo (lH l) 1 xs)
def spTreeV (C : Addr) : Sp := fun vs H Q _ => ∃ (o : Addr) (v : V) (l : List (Str × Nat)) (x : Option (List V)), vs = [.ref o, v] ∧ OpsAt H C o l ∧ Vw H v x ∧ Q (.bl (tB l x)) H
def spCtxV (C : Addr) : Sp := fun vs H Q _ => ∃ (o : Addr) (v : V) (l : List (Str × Nat)) (x : Option (List V)), vs = [.ref o, v] ∧ OpsAt H C o l ∧ hole ∉ l.map (·.1) ∧ l.length ≤ 8 ∧ Vw H v x ∧ ∀ H2, Same H H2 → Q (.bl (cB l x)) H2
theorem Ji.kd {H : Hp} {v : V} (h : Ji H v) : ∃ ty, Kd H v ty := let ⟨ty, k, _⟩ := h; ⟨ty, k⟩
theorem kit_tup {K : PySem.W.Frag} {H : Hp} {v : V} {t : String} (k : Kd H v t) : PySem.W.kitOne K (.type t) (.type "tuple") = some (match v with | .ref _ => decide (t = "tuple") | _ => false) := by
  cases k <;> first | exact kit_ty (r := true) (by decide +kernel) | exact kit_ty (r := false) (by decide +kernel)
theorem kit_tup_not {K : PySem.W.Frag} {H : Hp} {v : V} {t : String} (k : Kd H v t) (n : t ≠ "tuple") : PySem.W.kitOne K (.type t) (.type "tuple") = some false := by
  cases k <;> first | exact absurd rfl n | exact kit_ty (r := false) (by decide +kernel)
/-- what the methods lean on -/
structure Mt (K : PySem.W.Frag) (mg : Str → Option Value) (C fW : Addr) (dW : FuncData) (tk tk2 : Tok) : Prop where
  cf : OpF K C
  FW : Fun K "is_whole" "is_whole" sWhole fW dW
  bW : Binds K dW ["words", "arities"] []
  gW : mg "is_whole" = some (.ref fW)
  gM : mg "MAX_TREE" = some (.int 5000 tk)
  gH : mg "HOLE" = some (.str hole tk2)
theorem sameU {H G : Hp} {b : Addr} {o : HO} (s : Same H G) (n : H b = none) : Same H (upd G b o) := fun a u e => by
  rw [upd_ne (ne_of_none e n)]
  exact s a u e
theorem dkv_keys {l : List (Str × Nat)} {z : Str} (h : z ∉ l.map (·.1)) : (.inr z : Key) ∉ (dkv l).map (·.1) := by
  unfold dkv
  rw [List.map_map]
  intro m
  obtain ⟨p, hp, e⟩ := List.mem_map.mp m
  have e : (.inr p.1 : Key) = .inr z := e
  exact h (Sum.inr.inj e ▸ List.mem_map_of_mem (f := fun p : Str × Nat => p.1) hp)
section
variable {P : Program} {w : World} {K : PySem.W.Frag} {mg : Str → Option Value} {base : Heap} {C fW : Addr} {dW : FuncData} {tk tk2 : Tok}
theorem scIsTree : FnScope ["self", "value"] ["self", "value"] (defScope mIsTree) := ⟨rfl, rfl, rfl, by decide +kernel, rfl, by decide +kernel, by decide +kernel⟩
theorem scIsCtx : FnScope ["self", "value"] ["self", "value"] (defScope mIsCtx) := ⟨rfl, rfl, rfl, by decide +kernel, rfl, by decide +kernel, by decide +kernel⟩
theorem ok_treeV {f : Addr} {fd : FuncData} (F : Fun K "is_tree" "Operators.is_tree" mIsTree f fd) (M : Mt K mg C fW dW tk tk2) (T : Free mg) : FnOk P w K mg base CX0 2 f fd ["self", "value"] (spTreeV C) := by
  have GW : FnOk P w K mg base CX0 1 fW dW ["words", "arities"] spWhole := ok_whole M.FW T
  refine F.ok scIsTree (fun vs H Q E h => ?_) (fun cdv A outer s H vs Q E hr h => ?_)
  · obtain ⟨o, v, l, x, rfl, _⟩ := h
    rfl
  · obtain ⟨o, v, l, x, rfl, op, vw, q⟩ := h
    refine ⟨_, pss_one (ps_ret (pe_and (pe_callB call_isi (by rfl) T.isi (by decide +kernel) (pa_cons (pv 1) (pa_cons (pe_bltn (v := .ty "tuple") (by rfl) T.tuple (by decide +kernel) rfl) pa_nil))) (pe_and (pe_cmpR op_le (pe_callB call_len_seq (by rfl) T.len PySem.boot_len (pa_cons (pv 1) pa_nil)) (pe_glob (v := .int 5000) (by rfl) M.gM ⟨_, rfl⟩) (nomark _)) (pe_one (pe_call GW (hr.mono (by decide)) (by rfl) M.gW M.FW.kp M.bW .nil pass0 (pa_cons (pv 1) (pa_cons (pe_fld (pv 0) rfl) pa_nil))))))), ?_⟩
    obtain ⟨dx, tn, ta, tl, ho, hn, ha⟩ := op.ex
    cases vw with
    | not k ne => exact ⟨_, rfl, v, _, _, _, false, rfl, .ty "tuple", k.ty, kit_tup_not k ne, _, rfl, iteF q⟩
    | @tup t xs tx js =>
      have rd : Rd H t (.tup xs) := TXr tx
      refine ⟨_, rfl, .ref t, _, _, _, true, rfl, .ty "tuple", tyR rd, kit_ty (r := true) (by decide +kernel), _, rfl, iteT ⟨_, rfl, t, _, rfl, .inr (.inl rd), _, _, rfl, rfl, _, rfl, ?_⟩⟩
      by_cases c : xs.length ≤ 5000
      · refine if_true_of (decide_eq_true (by omega)) ⟨_, rfl, _, rfl, o, C, dx, _, _, rfl, ho, M.cf.cls, M.cf.n2, rfl, t, ta, _, l, rfl, rd, fun x m => (js x m).kd, ha, ?_⟩
        have e : tB l (some xs) = wgo l 1 xs := by
          show (decide _ && _) = _
          rw [decide_eq_true c, Bool.true_and]
        rw [← e]
        exact q
      · have e : tB l (some xs) = false := by
          show (decide _ && _) = _
          rw [decide_eq_false c, Bool.false_and]
        rw [e] at q
        exact if_false_of (decide_eq_false (by omega)) q
theorem ok_ctxV {f : Addr} {fd : FuncData} (F : Fun K "is_context" "Operators.is_context" mIsCtx f fd) (M : Mt K mg C fW dW tk tk2) (T : Free mg) : FnOk P w K mg base CX0 2 f fd ["self", "value"] (spCtxV C) := by
  have GW : FnOk P w K mg base CX0 1 fW dW ["words", "arities"] spWhole := ok_whole M.FW T
  refine F.ok scIsCtx (fun vs H Q E h => ?_) (fun cdv A outer s H vs Q E hr h => ?_)
  · obtain ⟨o, v, l, x, rfl, _⟩ := h
    rfl
  · obtain ⟨o, v, l, x, rfl, op, no, few, vw, q⟩ := h
    have hu := hr.units
    have hu1 : ∀ {u : Nat}, u + 64 < cLine → u + 1 < cLine := fun h => by omega
    refine ⟨_, pss_cons (ps_if (PW.pt (pw_or (pt_not (pt_val (pe_callB call_isi (by rfl) T.isi (by decide +kernel) (pa_cons (pv 1) (pa_cons (pe_bltn (v := .ty "tuple") (by rfl) T.tuple (by decide +kernel) rfl) pa_nil)))))
        (pw_or (pt_cmpR op_gt (pe_callB call_len_seq (by rfl) T.len PySem.boot_len (pa_cons (pv 1) pa_nil)) (pe_glob (v := .int 5000) (by rfl) M.gM ⟨_, rfl⟩) (nomark _))
          (pw_or1 (pt_cmpR op_ne (Tx.pe_tm PySem.F.slot_tuple_count PySem.F.type_tuple_count (Tb.mt_tcountJ (hu1 hu)) (pv 1) (pa_cons (pe_glob (v := .str hole) (by rfl) M.gH ⟨_, rfl⟩) pa_nil)) pe_int (nomark _)))))) (pss_one (ps_ret pe_bl)) pss_nil)
      (pss_one (ps_ret (pe_call GW (hr.mono (by decide)) (by rfl) M.gW M.FW.kp M.bW .nil pass0 (pa_cons (pv 1) (pa_cons (Du.pe_dunp (pe_fld (pv 0) rfl) (pe_glob (v := .str hole) (by rfl) M.gH ⟨_, rfl⟩) pe_int) pa_nil))))), ?_⟩
    obtain ⟨dx, tn, ta, tl, ho, hn, ha⟩ := op.ex
    cases vw with
    | not k ne => exact ⟨_, rfl, v, _, _, _, false, rfl, .ty "tuple", k.ty, kit_tup_not k ne, _, rfl, iteT (q _ (Same.refl _))⟩
    | @tup t xs tx js =>
      have rd : Rd H t (.tup xs) := TXr tx
      refine ⟨_, rfl, .ref t, _, _, _, true, rfl, .ty "tuple", tyR rd, kit_ty (r := true) (by decide +kernel), _, rfl, if_false_of rfl ⟨_, rfl, t, _, rfl, .inr (.inl rd), _, _, rfl, rfl, _, rfl, ?_⟩⟩
      by_cases c : xs.length ≤ 5000
      · refine if_false_of (decide_eq_false (by omega)) ⟨_, rfl, ⟨t, _, rfl, tx⟩, t, _, hole, rfl, rfl, .inl rd, js, ?_⟩
        have ec : (xs.countP fun y => eqV y (V.str hole)) = xs.countP isH := rfl
        rw [ec]
        by_cases c2 : xs.countP isH = 1
        · refine ⟨rfl, _, rfl, if_false_of (by rw [c2]; exact neSelf) ?_⟩
          refine ⟨_, rfl, fun p np => ?_⟩
          have s1 : Same H (upd H p (.dK [])) := Same.new np
          refine ⟨_, rfl, o, C, dx, _, _, rfl, s1 _ _ ho, M.cf.cls, M.cf.n2, rfl, ta, _, rfl, fun z => ?_, upd_same, s1 _ _ ha, fun q2 nq => ?_⟩
          · rw [z, np] at ha
            cases ha
          have nHq : H q2 = none := by
            cases e : H q2 with
            | none => rfl
            | some v =>
              have ne : q2 ≠ p := ne_of_none e np
              rw [upd_ne ne, upd_ne ne, e] at nq
              cases nq
          have pq : p ≠ q2 := ne_of_none upd_same nq
          have sF : Same H (upd (upd (upd (upd (upd H p (.dK [])) p (.dK (dkv l))) q2 (.dK [])) q2 (.dK [((.inr hole : Key), V.int 0)])) p (.dK (dkv l ++ [((.inr hole : Key), V.int 0)]))) := sameU (sameU (sameU (sameU s1 np) nHq) nHq) np
          refine ⟨.inr hole, rfl, upd_same, by rw [upd_ne pq, upd_same], dkv_keys no, by unfold dkv; rw [List.length_map]; omega, t, p, xs, lH l, rfl, Rd.same rd sF, fun x m => ((js x m).same sF).kd, by rw [upd_same, dkv_lH], ?_⟩
          have e : cB l (some xs) = wgo (lH l) 1 xs := by
            show (decide _ && (decide _ && _)) = _
            rw [decide_eq_true c, decide_eq_true c2, Bool.true_and, Bool.true_and]
          rw [← e]
          exact q _ sF
        · have e : cB l (some xs) = false := by
            show (decide _ && (decide _ && _)) = _
            rw [decide_eq_false c2, Bool.false_and, Bool.and_false]
          have q := q H (Same.refl H)
          rw [e] at q
          exact ⟨rfl, _, rfl, if_true_of (by rw [decide_eq_false fun z => c2 (by have := V.int.inj z; omega)]; rfl) q⟩
      · have e : cB l (some xs) = false := by
          show (decide _ && (decide _ && _)) = _
          rw [decide_eq_false c, Bool.false_and]
        have q := q H (Same.refl H)
        rw [e] at q
        exact if_true_of (decide_eq_true (by omega)) q
end
end Pr
namespace Pr
open PySem PySem.Spec PyProof.Rows L2 Gd
/-! ### lists beside lists: the same items, or another length -/
theorem eq_self {A : Around} {s : Shared} {H : Hp} {v : V} {t : String} {u u' : Value} (k : Kd H v t) (r : RelV v u) (r' : RelV v u') : SeqAt.EqAt A s u u' true := by
  cases k with
  | non => exact eqAt_same r r' rfl
  | bl b => exact eqAt_same r r' rfl
  | int i => exact eqAt_same r r' rfl
  | str z => exact eqAt_same r r' rfl
  | _ =>
    cases (show u = Value.ref _ from r)
    cases (show u' = Value.ref _ from r')
    exact SeqAt.EqAt.same _
theorem eq_items {A : Around} {s : Shared} {H : Hp} : ∀ {xs : List V} {us ws : List Value}, (∀ v ∈ xs, ∃ t, Kd H v t) → Vals xs us → Vals xs ws → ∀ j (h1 : j < us.length) (h2 : j < ws.length), SeqAt.EqAt A s us[j] ws[j] true
  | _, _, _, _, .nil, .nil, j, h1, _ => absurd h1 (Nat.not_lt_zero j)
  | _, _, _, k, .cons r _, .cons r' _, 0, _, _ => by
    obtain ⟨t, kt⟩ := k _ List.mem_cons_self
    exact eq_self kt r r'
  | _, _, _, k, .cons _ t, .cons _ t', j + 1, h1, h2 => eq_items (fun v m => k v (List.mem_cons_of_mem _ m)) t t' j (Nat.lt_of_succ_lt_succ h1) (Nat.lt_of_succ_lt_succ h2)
def rNeL (K : PySem.W.Frag) : R2 := fun x y H Q => ∃ a b xs ys, x = .ref a ∧ y = .ref b ∧ SqL K H a xs ∧ SqL K H b ys ∧ (xs.length ≠ ys.length ∧ Q (.bl true) H ∨ xs = ys ∧ (∀ v ∈ xs, ∃ t, Kd H v t) ∧ Q (.bl false) H)
def rEqL (K : PySem.W.Frag) : R2 := fun x y H Q => ∃ a b xs ys, x = .ref a ∧ y = .ref b ∧ SqL K H a xs ∧ SqL K H b ys ∧ (xs.length ≠ ys.length ∧ Q (.bl false) H ∨ xs = ys ∧ (∀ v ∈ xs, ∃ t, Kd H v t) ∧ Q (.bl true) H)
theorem op_neL {X : Cx} (hu : X.A.units + 64 < cLine) : OpR X (compareOp .NotEq) (rNeL X.K) := by
  intro pins s σ H x y v u Q I rx ry h
  obtain ⟨a, b, xs, ys, rfl, rfl, ha, hb, q⟩ := h
  cases (show v = Value.ref a from rx)
  cases (show u = Value.ref b from ry)
  obtain ⟨us, r1, p1, _⟩ := I.list ha
  obtain ⟨ws, r2, p2, _⟩ := I.list hb
  rcases q with ⟨ne, q⟩ | ⟨rfl, k, q⟩
  · have hsz : (us.toArray.size != ws.toArray.size) = true := by
      rw [List.size_toArray, List.size_toArray, ← r1.length, ← r2.length]
      exact bne_iff_ne.mpr ne
    exact SeqAt.RcNeAt.lists_lengths p1.isList p2.isList hsz (A := X.A) (s := s) (by omega) X.prog X.w _ _ ⟨.bl true, H, I, rfl, q⟩
  · have hsz : us.toArray.size = ws.toArray.size := by
      rw [List.size_toArray, List.size_toArray, ← r1.length, ← r2.length]
    have z := SeqAt.RcNeAt.lists (e := fun _ => true) p1.isList p2.isList hsz (A := X.A) (s := s) (by omega) (fun j h1 h2 => by
      have e := eq_items (A := X.A.in1) (s := s) k r1 r2 j (by simpa using h1) (by simpa using h2)
      simpa using e)
    rw [show ((List.range us.toArray.size).all fun _ => true) = true from List.all_eq_true.mpr fun _ _ => rfl] at z
    exact z X.prog X.w _ _ ⟨.bl false, H, I, rfl, q⟩
theorem op_eqL {X : Cx} (hu : X.A.units + 64 < cLine) : OpR X (compareOp .Eq) (rEqL X.K) := by
  intro pins s σ H x y v u Q I rx ry h
  obtain ⟨a, b, xs, ys, rfl, rfl, ha, hb, q⟩ := h
  cases (show v = Value.ref a from rx)
  cases (show u = Value.ref b from ry)
  obtain ⟨us, r1, p1, _⟩ := I.list ha
  obtain ⟨ws, r2, p2, _⟩ := I.list hb
  rcases q with ⟨ne, q⟩ | ⟨rfl, k, q⟩
  · have hsz : (us.toArray.size != ws.toArray.size) = true := by
      rw [List.size_toArray, List.size_toArray, ← r1.length, ← r2.length]
      exact bne_iff_ne.mpr ne
    exact SeqAt.RcAt.lists_lengths p1.isList p2.isList hsz (A := X.A) (s := s) (by omega) X.prog X.w _ _ ⟨.bl false, H, I, rfl, q⟩
  · have hsz : us.toArray.size = ws.toArray.size := by
      rw [List.size_toArray, List.size_toArray, ← r1.length, ← r2.length]
    have z := SeqAt.RcAt.lists (e := fun _ => true) p1.isList p2.isList hsz (A := X.A) (s := s) (by omega) (fun j h1 h2 => by
      have e := eq_items (A := X.A.in1) (s := s) k r1 r2 j (by simpa using h1) (by simpa using h2)
      simpa using e)
    rw [show ((List.range us.toArray.size).all fun _ => true) = true from List.all_eq_true.mpr fun _ _ => rfl] at z
    exact z X.prog X.w _ _ ⟨.bl true, H, I, rfl, q⟩
/-! ### comprehensions that choose -/
section
variable {K : PySem.W.Frag} {a D : Addr} {xs : List V} {tt : TT} {i : Nat} {σ : L2.St} {H1 : Hp} {Qd : Hp → Prop}
theorem filt_step (p : V → Bool) {k : Nat} {x : V} (h : xs[k]? = some x) : (xs.take (k + 1)).filter p = (xs.take k).filter p ++ (if p x then [x] else []) := by
  rw [List.take_add_one, h, List.filter_append]
  cases e : p x <;> simp [e]
theorem filt_len (p : V → Bool) {k : Nat} : ((xs.take k).filter p).length ≤ xs.length := by
  refine Nat.le_trans (List.length_filter_le _ _) ?_
  rw [List.length_take]
  exact Nat.min_le_right _ _
theorem filt_turn (p : V → Bool) (hi : i < σ.length) (nD : H1 D = none) (few : xs.length < sizeLine) (hs : ∀ x ∈ xs, ∀ G, Same H1 G → ∀ R : Bool → Hp → Prop, R (p x) G → tt ((σ.set i none).set i (some x)) G R) :
    ∀ k x G, xs[k]? = some x → (G D = some (.lst ((xs.take k).filter p)) ∧ Same H1 G) → gName i x (wipe σ [i]) G fun σ2 H2 => wipe σ2 [i] = wipe σ [i] ∧ tt σ2 H2 fun b H3 =>
      if b = true then tVar i σ2 H3 fun y H4 => ∃ acc, H4 D = some (.lst acc) ∧ acc.length < sizeLine ∧ ((upd H4 D (.lst (acc ++ [y]))) D = some (.lst ((xs.take (k + 1)).filter p)) ∧ Same H1 (upd H4 D (.lst (acc ++ [y])))) else (H3 D = some (.lst ((xs.take (k + 1)).filter p)) ∧ Same H1 H3) := by
  intro k x G hx h
  obtain ⟨eD, s⟩ := h
  refine ⟨?_, ?_⟩
  · show (((σ.set i none).set i (some x)).set i none) = σ.set i none
    rw [List.set_set, List.set_set]
  · refine hs x (List.mem_of_getElem? hx) G s _ ?_
    have e := filt_step (xs := xs) p hx
    by_cases c : p x = true
    · rw [if_pos c] at e ⊢
      refine ⟨x, ?_, _, eD, Nat.lt_of_le_of_lt (filt_len p) few, ?_, ?_⟩
      · show ((σ.set i none).set i (some x))[i]? = some (some x)
        rw [List.getElem?_set_self (by rw [List.length_set]; exact hi)]
      · rw [upd_same, e]
      · exact fun b u q => by
          rw [upd_ne (ne_of_none q nD)]
          exact s b u q
    · rw [if_neg c] at e ⊢
      rw [e, List.append_nil]
      exact ⟨eD, s⟩
theorem lc_filtT (p : V → Bool) (hi : i < σ.length) (ht : ∀ G, Same H1 G → SqT K G a xs) (nD : H1 D = none) (few : xs.length < sizeLine)
    (hs : ∀ x ∈ xs, ∀ G, Same H1 G → ∀ R : Bool → Hp → Prop, R (p x) G → tt ((σ.set i none).set i (some x)) G R) (hd : ∀ G, G D = some (.lst (xs.filter p)) → Same H1 G → Qd G) :
    ∃ W : Nat → Nat → Hp → Prop, (∃ m, W 0 m (upd H1 D (.lst []))) ∧ ∀ k m H, W k m H →
      ((Itt K a).stop k H ∧ Qd H) ∨ ((Itt K a).go k H ∧ ∃ Nx : Hp → Prop, (∀ H', Nx H' → ∃ m', m' < m ∧ W (k + 1) m' H') ∧ ∀ x H', (Itt K a).yld k H x H' → gName i x (wipe σ [i]) H' fun σ2 H2 => wipe σ2 [i] = wipe σ [i] ∧ tt σ2 H2 fun b H3 =>
        if b = true then tVar i σ2 H3 fun y H4 => ∃ acc, H4 D = some (.lst acc) ∧ acc.length < sizeLine ∧ Nx (upd H4 D (.lst (acc ++ [y]))) else Nx H3) := by
  refine lc_tup (K := K) (a := a) (xs := xs) (fun k G => G D = some (.lst ((xs.take k).filter p)) ∧ Same H1 G) ⟨upd_same, Same.new nD⟩ (fun k G _ ⟨_, s⟩ => ht G s) (filt_turn p hi nD few hs) ?_
  rintro G ⟨eD, s⟩
  rw [List.take_length] at eD
  exact hd G eD s
theorem lc_filtL (p : V → Bool) (hi : i < σ.length) (ht : ∀ G, Same H1 G → SqL K G a xs) (nD : H1 D = none) (few : xs.length < sizeLine)
    (hs : ∀ x ∈ xs, ∀ G, Same H1 G → ∀ R : Bool → Hp → Prop, R (p x) G → tt ((σ.set i none).set i (some x)) G R) (hd : ∀ G, G D = some (.lst (xs.filter p)) → Same H1 G → Qd G) :
    ∃ W : Nat → Nat → Hp → Prop, (∃ m, W 0 m (upd H1 D (.lst []))) ∧ ∀ k m H, W k m H →
      ((Itl K a).stop k H ∧ Qd H) ∨ ((Itl K a).go k H ∧ ∃ Nx : Hp → Prop, (∀ H', Nx H' → ∃ m', m' < m ∧ W (k + 1) m' H') ∧ ∀ x H', (Itl K a).yld k H x H' → gName i x (wipe σ [i]) H' fun σ2 H2 => wipe σ2 [i] = wipe σ [i] ∧ tt σ2 H2 fun b H3 =>
        if b = true then tVar i σ2 H3 fun y H4 => ∃ acc, H4 D = some (.lst acc) ∧ acc.length < sizeLine ∧ Nx (upd H4 D (.lst (acc ++ [y]))) else Nx H3) := by
  refine lc_list (K := K) (a := a) (xs := xs) (fun k G => G D = some (.lst ((xs.take k).filter p)) ∧ Same H1 G) ⟨upd_same, Same.new nD⟩ (fun k G _ ⟨_, s⟩ => ht G s) (filt_turn p hi nD few hs) ?_
  rintro G ⟨eD, s⟩
  rw [List.take_length] at eD
  exact hd G eD s
end
end Pr
namespace Pr
open PySem PySem.Spec PyProof.Rows L2 Gd
/-! ### the law's own judges -/
def ar0 (l : List (Str × Nat)) (v : V) : Int := (arity l v).getD 0
/-- how many subtrees are still to come -/
def lopen (l : List (Str × Nat)) : Int → List V → Int
  | n, [] => n
  | n, x :: xs => if n = 0 then -1 else lopen l (n - 1 + ar0 l x) xs
theorem wgo_bad {l : List (Str × Nat)} : ∀ {xs : List V} {n : Int}, (∃ x ∈ xs, arity l x = none) → wgo l n xs = false
  | [], _, ⟨x, m, _⟩ => nomatch m
  | x :: xs, n, ⟨y, m, e⟩ => by
    by_cases c : n = 0
    · exact wgo_zero c
    · cases ea : arity l x with
      | none => exact wgo_none ea
      | some a =>
        rw [wgo_some c ea]
        rcases List.mem_cons.mp m with q | m
        · rw [q, ea] at e
          cases e
        · exact wgo_bad ⟨y, m, e⟩
theorem open_wgo {l : List (Str × Nat)} : ∀ {xs : List V} {n : Int}, (∀ x ∈ xs, arity l x ≠ none) → decide (lopen l n xs = 0) = wgo l n xs
  | [], n, _ => rfl
  | x :: xs, n, h => by
    by_cases c : n = 0
    · rw [wgo_zero c]
      show decide ((if n = 0 then -1 else lopen l (n - 1 + ar0 l x) xs) = 0) = false
      rw [if_pos c]
      rfl
    · cases ea : arity l x with
      | none => exact absurd ea (h x List.mem_cons_self)
      | some a =>
        rw [wgo_some c ea, ← open_wgo fun y m => h y (List.mem_cons_of_mem _ m)]
        show decide ((if n = 0 then -1 else lopen l (n - 1 + ar0 l x) xs) = 0) = _
        have e : n - 1 + ar0 l x = n + (a - 1) := by
          unfold ar0
          rw [ea]
          show n - 1 + a = _
          omega
        rw [if_neg c, e]
/-- is it a text -/
def isS : V → Bool
  | .str _ => true
  | _ => false
theorem arity_str {l : List (Str × Nat)} {z : Str} : (arity l (.str z)).isSome = (valV (dkv l) (.inr z : Key)).isSome := by
  show (match valV (dkv l) (.inr z : Key) with | some (.int a) => some a | _ => none).isSome = _
  cases e : valV (dkv l) (.inr z : Key) with
  | none => rfl
  | some v =>
    obtain ⟨a, rfl⟩ := val_int e
    rfl
theorem arity_not {l : List (Str × Nat)} {v : V} (h : isS v = false) : arity l v = none := by
  cases v <;> first | rfl | cases h
def noIn (l : List (Str × Nat)) (v : V) : Bool := !(arity l v).isSome
theorem tB_eq {l : List (Str × Nat)} {xs : List V} (l1 : 1 ≤ xs.length) (l5 : xs.length ≤ 5000) : tB l (some xs) = ((xs.filter fun x => !isS x).isEmpty && ((xs.filter (noIn l)).isEmpty && decide (lopen l 1 xs = 0))) := by
  show (decide (xs.length ≤ 5000) && wgo l 1 xs) = _
  rw [decide_eq_true l5, Bool.true_and]
  by_cases c : ∃ x ∈ xs, arity l x = none
  · rw [wgo_bad c]
    obtain ⟨x, m, e⟩ := c
    by_cases s : isS x = true
    · have h : (xs.filter (noIn l)).isEmpty = false := by
        rw [List.isEmpty_eq_false_iff_exists_mem]
        exact ⟨x, List.mem_filter.mpr ⟨m, by unfold noIn; rw [e]; rfl⟩⟩
      rw [h, Bool.false_and, Bool.and_false]
    · have h : (xs.filter fun x => !isS x).isEmpty = false := by
        rw [List.isEmpty_eq_false_iff_exists_mem]
        exact ⟨x, List.mem_filter.mpr ⟨m, by rw [Bool.eq_false_iff.mpr s]; rfl⟩⟩
      rw [h, Bool.false_and]
  · have a : ∀ x ∈ xs, arity l x ≠ none := fun x m e => c ⟨x, m, e⟩
    have h1 : xs.filter (fun x => !isS x) = [] := List.filter_eq_nil_iff.mpr fun x m e => by
      have e' : isS x = false := by simpa using e
      exact a x m (arity_not e')
    have h2 : xs.filter (noIn l) = [] := List.filter_eq_nil_iff.mpr fun x m e => by
      have e' : (arity l x).isSome = false := by simpa [noIn] using e
      exact a x m (Option.isSome_eq_false_iff.mp e' |> Option.isNone_iff_eq_none.mp)
    rw [h1, h2, open_wgo a]
    rfl
theorem open_same {l L : List (Str × Nat)} : ∀ {xs : List V} {n : Int}, (∀ x ∈ xs, ar0 l x = ar0 L x) → lopen l n xs = lopen L n xs
  | [], _, _ => rfl
  | x :: xs, n, h => by
    show (if n = 0 then -1 else lopen l (n - 1 + ar0 l x) xs) = if n = 0 then -1 else lopen L (n - 1 + ar0 L x) xs
    rw [h x List.mem_cons_self, open_same fun y m => h y (List.mem_cons_of_mem _ m)]
theorem val_lH {l : List (Str × Nat)} (no : hole ∉ l.map (·.1)) {z : Str} : valV (dkv (lH l)) (.inr z : Key) = if z = hole then some (.int 0) else valV (dkv l) (.inr z : Key) := by
  induction l with
  | nil =>
    show valV [((.inr hole : Key), V.int 0)] (.inr z : Key) = _
    by_cases c : z = hole
    · rw [if_pos c, c, valV_pos rfl]
    · rw [if_neg c, valV_neg (fun e => c (Sum.inr.inj e).symm)]
      rfl
  | cons p l ih =>
    have no' : hole ∉ l.map (·.1) := fun m => no (List.mem_cons_of_mem _ m)
    have np : p.1 ≠ hole := fun e => no (by rw [← e]; exact List.mem_cons_self)
    show valV ((.inr p.1, .int (p.2 : Int)) :: dkv (lH l)) (.inr z : Key) = if z = hole then some (.int 0) else valV ((.inr p.1, .int (p.2 : Int)) :: dkv l) (.inr z : Key)
    by_cases e : (.inr p.1 : Key) = .inr z
    · have ez : p.1 = z := Sum.inr.inj e
      rw [valV_pos e, valV_pos e, if_neg (by rw [← ez]; exact np)]
    · rw [valV_neg e, valV_neg e, ih no']
theorem ar0_lH {l : List (Str × Nat)} (no : hole ∉ l.map (·.1)) (x : V) : ar0 l x = ar0 (lH l) x := by
  cases x with
  | str z =>
    show (match valV (dkv l) (.inr z : Key) with | some (.int a) => some a | _ => none).getD 0 = (match valV (dkv (lH l)) (.inr z : Key) with | some (.int a) => some a | _ => none).getD 0
    rw [val_lH no]
    by_cases c : z = hole
    · rw [if_pos c, c, val_none no]
      rfl
    · rw [if_neg c]
  | _ => rfl
def noInH (l : List (Str × Nat)) (v : V) : Bool := noIn l v && !decide (v = .str hole)
theorem noIn_lH {l : List (Str × Nat)} (no : hole ∉ l.map (·.1)) {z : Str} : noIn (lH l) (.str z) = noInH l (.str z) := by
  unfold noInH noIn
  rw [arity_str, arity_str, val_lH no]
  by_cases c : z = hole
  · rw [if_pos c, c]
    simp
  · rw [if_neg c, decide_eq_false fun e => c (V.str.inj e)]
    simp
theorem isH_eq {z : Str} : isH (.str z) = decide ((V.str z) = V.str hole) := by
  show (z == hole) = _
  by_cases c : z = hole
  · rw [c, decide_eq_true rfl]
    exact beq_self_eq_true _
  · rw [decide_eq_false fun e => c (V.str.inj e)]
    exact beq_eq_false_iff_ne.mpr c
theorem isH_all {xs : List V} (hs : ∀ x ∈ xs, isS x = true) : xs.filter isH = List.replicate (xs.countP isH) (.str hole) := by
  induction xs with
  | nil => rfl
  | cons x xs ih =>
    have h := ih fun y m => hs y (List.mem_cons_of_mem _ m)
    have sx := hs x List.mem_cons_self
    cases x with
    | str z =>
      rw [List.countP_cons, List.filter_cons]
      by_cases c : isH (.str z) = true
      · have e := isH_eq (z := z)
        rw [c] at e
        have ez : V.str z = V.str hole := of_decide_eq_true e.symm
        rw [if_pos c, if_pos c, h, ez]
        rfl
      · rw [if_neg c, if_neg c, h]
        rfl
    | _ => cases sx
theorem cB_eq {l : List (Str × Nat)} (no : hole ∉ l.map (·.1)) {xs : List V} (l1 : 1 ≤ xs.length) (l5 : xs.length ≤ 5000) : cB l (some xs) = ((xs.filter fun x => !isS x).isEmpty && (decide (xs.countP isH = 1) && ((xs.filter (noInH l)).isEmpty && decide (lopen l 1 xs = 0)))) := by
  have h := tB_eq (l := lH l) l1 l5
  have h' : wgo (lH l) 1 xs = ((xs.filter fun x => !isS x).isEmpty && ((xs.filter (noIn (lH l))).isEmpty && decide (lopen (lH l) 1 xs = 0))) := by
    rw [← h]
    show _ = (decide (xs.length ≤ 5000) && wgo (lH l) 1 xs)
    rw [decide_eq_true l5, Bool.true_and]
  show (decide (xs.length ≤ 5000) && (decide (xs.countP isH = 1) && wgo (lH l) 1 xs)) = _
  rw [decide_eq_true l5, Bool.true_and, h', ← open_same (l := l) (L := lH l) fun x _ => ar0_lH no x]
  by_cases c : xs.filter (fun x => !isS x) = []
  · have e : xs.filter (noIn (lH l)) = xs.filter (noInH l) := List.filter_congr fun x m => by
      have sx : isS x = true := by
        have := List.filter_eq_nil_iff.mp c x m
        simpa using this
      cases x with
      | str z => exact noIn_lH no
      | _ => cases sx
    rw [c, e]
    simp
  · have e : (xs.filter fun x => !isS x).isEmpty = false := by
      cases q : xs.filter fun x => !isS x with
      | nil => exact absurd q c
      | cons _ _ => rfl
    rw [e]
    simp
end Pr
namespace Pr
open PySem PySem.Spec PyProof.Rows L2 Gd
/-! ### _law_open, _law_is_tree, _law_is_context -/
def spOpen : Sp := fun vs H Q _ => ∃ (ad t : Addr) (l : List (Str × Nat)) (xs : List V), vs = [.ref ad, .ref t] ∧ H ad = some (.dK (dkv l)) ∧ Tx.TX H t xs ∧ (∀ x ∈ xs, isS x = true) ∧ Q (.int (lopen l 1 xs)) H
theorem get_ar {l : List (Str × Nat)} {z : Str} : (valV (dkv l) (.inr z : Key)).getD (.int 0) = .int (ar0 l (.str z)) := by
  have e : arity l (.str z) = (match valV (dkv l) (.inr z : Key) with | some (.int a) => some a | _ => none) := rfl
  unfold ar0
  rw [e]
  cases q : valV (dkv l) (.inr z : Key) with
  | none => rfl
  | some v =>
    obtain ⟨a, rfl⟩ := val_int q
    rfl
section
variable {P : Program} {w : World} {K : PySem.W.Frag} {mg : Str → Option Value} {base : Heap} {fO : Addr} {dO : FuncData}
theorem scOpen : FnScope ["arities", "words", "left", "word"] ["arities", "words"] (defScope sOpen) := ⟨rfl, rfl, rfl, by decide +kernel, rfl, by decide +kernel, by decide +kernel⟩
theorem ok_open {f : Addr} {fd : FuncData} (F : Fun K "_law_open" "_law_open" sOpen f fd) (T : Free mg) : FnOk P w K mg base CX0 1 f fd ["arities", "words"] spOpen := by
  refine F.ok scOpen (fun vs H Q E h => ?_) (fun cdv A outer s H vs Q E hr h => ?_)
  · obtain ⟨ad, t, l, xs, rfl, _⟩ := h
    rfl
  · obtain ⟨ad, t, l, xs, rfl, had, ht, hs, q⟩ := h
    have hu := hr.units
    have hu1 : ∀ {u : Nat}, u + 64 < cLine → u + 1 < cLine := fun h => by omega
    refine ⟨_, pss_cons (ps_set (i := 2) scOpen.nd rfl (.inl rfl) pe_int)
      (pss_cons (ps_for PassesOwn.never rfl (pi_tup (pv 1)) (pg_name (i := 3) scOpen.nd rfl (.inl rfl))
        (pss_cons (ps_if (pt_cmpR op_eq (pv 2) pe_int (nomark _)) (pss_one (ps_ret (pe_un un_neg pe_int))) pss_nil)
          (pss_one (ps_set (i := 2) scOpen.nd rfl (.inl rfl) (pe_op op_add (pe_op op_sub (pv 2) pe_int) (pe_dget2 (hu1 hu) (pv 0) (pv 3) pe_int ⟨by rfl, by rfl, by rfl, by rfl⟩))))))
      (pss_one (ps_ret (pv 2)))), ?_⟩
    refine ⟨_, rfl, t, rfl, ⟨_, ht.sq⟩, ?_⟩
    refine for_tup (K := K) (a := t) (xs := xs) (fun i σ H' => H' = H ∧ ∃ (n : Int) (v3 : Option V), σ = [some (.ref ad), some (.ref t), some (.int n), v3] ∧ lopen l 1 xs = lopen l n (xs.drop i))
      ⟨rfl, 1, none, rfl, rfl⟩ (fun i σ H' _ ⟨e, _⟩ => by rw [e]; exact ht.sq) ?_ ?_
    · rintro i x σ H' hx ⟨rfl, n, v3, rfl, hw⟩
      have hd : xs.drop i = x :: xs.drop (i + 1) := by
        obtain ⟨hi, e⟩ := List.getElem?_eq_some_iff.mp hx
        rw [← e]
        exact List.drop_eq_getElem_cons hi
      have sx := hs x (List.mem_of_getElem? hx)
      rw [hd] at hw
      have hw : lopen l 1 xs = if n = 0 then -1 else lopen l (n - 1 + ar0 l x) (xs.drop (i + 1)) := hw
      refine ⟨_, rfl, rfl, _, rfl, ?_⟩
      by_cases c : n = 0
      · rw [if_pos c] at hw
        refine if_true_of (decide_eq_true (by rw [c])) ⟨1, rfl, ?_⟩
        rw [hw] at q
        exact q
      · rw [if_neg c] at hw
        cases x with
        | str z =>
          refine if_false_of (decide_eq_false fun z => c (V.int.inj z)) ⟨_, rfl, _, _, rfl, rfl, _, rfl, ad, rfl, .inl ⟨_, .inl had⟩, _, rfl, _, DGet.k (k := .inr z) had, ?_⟩
          rw [get_ar]
          exact ⟨_, _, rfl, rfl, rfl, _, _, rfl, hw⟩
        | _ => cases sx
    · rintro σ H' ⟨rfl, n, v3, rfl, hw⟩
      rw [List.drop_of_length_le (Nat.le_refl _)] at hw
      have hw : lopen l 1 xs = n := hw
      rw [hw] at q
      exact ⟨_, rfl, q⟩
theorem call_isiK {X : Cx} {K : PySem.W.Frag} (h : X.K = K) : CallR X (.builtin "isinstance") (rIsi K) := h ▸ call_isi
/-- a judge of the law -/
def spJ (B : List (Str × Nat) → Option (List V) → Bool) : Sp := fun vs H Q _ => ∃ (ad : Addr) (v : V) (l : List (Str × Nat)) (x : Option (List V)), vs = [.ref ad, v] ∧ H ad = some (.dK (dkv l)) ∧ hole ∉ l.map (·.1) ∧ Vw H v x ∧ (∀ xs, x = some xs → xs.length < 100000) ∧ ∀ H2, Same H H2 → Q (.bl (B l x)) H2
theorem isS_kd {H : Hp} {K : PySem.W.Frag} {v : V} {t : String} (k : Kd H v t) : PySem.W.kitOne K (.type t) (.type "str") = some (isS v) := by
  cases k <;> first | exact kit_ty (r := true) (by decide +kernel) | exact kit_ty (r := false) (by decide +kernel)
theorem kd_all {H : Hp} {xs ys : List V} (j : ∀ x ∈ xs, Ji H x) (h : ∀ x ∈ ys, x ∈ xs) : ∀ v ∈ ys, ∃ t, Kd H v t := fun v m => (j v (h v m)).kd
theorem nil_case {xs : List V} : (xs = [] ∧ xs.isEmpty = true) ∨ (xs.length ≠ ([] : List V).length ∧ xs.isEmpty = false) := by
  cases xs with
  | nil => exact .inl ⟨rfl, rfl⟩
  | cons x xs => exact .inr ⟨by simp, rfl⟩
theorem fit5 {n : Nat} (h : n < 100000) : n < sizeLine := by
  rw [sizeLine_eq]
  omega
theorem scIsT : FnScope ["arities", "value", "word"] ["arities", "value"] (defScope sIsT) := ⟨rfl, rfl, rfl, by decide +kernel, rfl, by decide +kernel, by decide +kernel⟩
theorem ok_isT {f : Addr} {fd : FuncData} (F : Fun K "_law_is_tree" "_law_is_tree" sIsT f fd) (FO : Fun K "_law_open" "_law_open" sOpen fO dO) (bO : Binds K dO ["arities", "words"] []) (gO : mg "_law_open" = some (.ref fO)) (T : Free mg) : FnOk P w K mg base CX0 2 f fd ["arities", "value"] (spJ tB) := by
  have GO : FnOk P w K mg base CX0 1 fO dO ["arities", "words"] spOpen := ok_open FO T
  refine F.ok scIsT (fun vs H Q E h => ?_) (fun cdv A outer s H vs Q E hr h => ?_)
  · obtain ⟨ad, v, l, x, rfl, _⟩ := h
    rfl
  · obtain ⟨ad, v, l, x, rfl, had, no, vw, few, q⟩ := h
    have hu := hr.units
    have hu1 : ∀ {u : Nat}, u + 64 < cLine → u + 1 < cLine := fun h => by omega
    refine ⟨_, pss_cons (ps_if (PW.pt (pw_or (pt_not (pt_val (pe_callB call_isi (by rfl) T.isi (by decide +kernel) (pa_cons (pv 1) (pa_cons (pe_bltn (v := .ty "tuple") (by rfl) T.tuple (by decide +kernel) rfl) pa_nil)))))
        (pw_or1 (pt_not (pt_chain op_le op_le pe_int (pe_callB call_len_seq (by rfl) T.len PySem.boot_len (pa_cons (pv 1) pa_nil)) pe_int))))) (pss_one (ps_ret pe_bl)) pss_nil)
      (pss_cons (ps_if (pt_cmpR (op_neL hu) (pe_lc (own := [("word", 2)]) (g := gName 2) (by rfl) scIsT.nd (pi_tup (pv 1)) (blkOk_by (own := [("word", 2)]) (N := ["arities", "value", "word"]) (sc := defScope sIsT) (by decide +kernel))
            (fun _ _ _ _ _ => pg_name (i := 2) scIsT.nd rfl (Or.inl rfl)) (fun _ _ _ _ _ => pts_one (pt_not (pt_val (pe_callB (call_isiK (K := K) rfl) (by rfl) T.isi (by decide +kernel) (pa_cons (pv 2) (pa_cons (pe_bltn (v := .ty "str") (by rfl) T.str (by decide +kernel) rfl) pa_nil)))))) (fun _ _ _ _ _ => pv 2)) (pe_lst pa_nil) (nomark _)) (pss_one (ps_ret pe_bl)) pss_nil)
      (pss_one (ps_ret (pe_and (pe_cmpR (op_eqL hu) (pe_lc (own := [("word", 2)]) (g := gName 2) (by rfl) scIsT.nd (pi_tup (pv 1)) (blkOk_by (own := [("word", 2)]) (N := ["arities", "value", "word"]) (sc := defScope sIsT) (by decide +kernel))
            (fun _ _ _ _ _ => pg_name (i := 2) scIsT.nd rfl (Or.inl rfl)) (fun _ _ _ _ _ => pts_one (pt_cmp (pc_dnotin (hu1 hu) (pv 2) (pv 0)))) (fun _ _ _ _ _ => pv 2)) (pe_lst pa_nil) (nomark _))
          (pe_one (pe_cmpR op_eq (pe_call GO hr (by rfl) gO FO.kp bO .nil pass0 (pa_cons (pv 0) (pa_cons (pv 1) pa_nil))) pe_int (nomark _))))))), ?_⟩
    cases vw with
    | not k ne => exact ⟨_, rfl, v, _, _, _, false, rfl, .ty "tuple", k.ty, kit_tup_not k ne, _, rfl, iteT (q _ (Same.refl _))⟩
    | @tup t xs tx js =>
      have rd : Rd H t (.tup xs) := TXr tx
      have few := few xs rfl
      refine ⟨_, rfl, .ref t, _, _, _, true, rfl, .ty "tuple", tyR rd, kit_ty (r := true) (by decide +kernel), _, rfl, if_false_of rfl ⟨_, rfl, t, _, rfl, .inr (.inl rd), _, _, rfl, rfl, _, rfl, ?_⟩⟩
      by_cases c1 : 1 ≤ xs.length
      · refine if_true_of (decide_eq_true (by omega)) ⟨_, _, rfl, rfl, _, rfl, ?_⟩
        by_cases c5 : xs.length ≤ 5000
        · refine if_false_of (by rw [decide_eq_true (show ((xs.length : Nat) : Int) ≤ 5000 by omega)]; rfl) ?_
          have e := tB_eq (l := l) c1 c5
          -- not all are texts?
          refine ⟨_, rfl, t, rfl, ⟨_, tx.sq⟩, fun D nD => ?_⟩
          refine lc_filtT (fun x => !isS x) (show 2 < 3 by decide) (fun G s => (Tx.TX.same tx s).sq) nD (fit5 few) (fun x m G s R r => ?_) fun G eD sG => ?_
          · obtain ⟨ty, k, _⟩ := (js x m).same s
            exact ⟨_, rfl, x, _, _, _, _, rfl, .ty "str", k.ty, isS_kd k, _, rfl, r⟩
          · refine ⟨by decide, fun p np => ⟨D, p, _, [], rfl, rfl, SqL.of ((Same.new np) _ _ eD), SqL.of upd_same, ?_⟩⟩
            have s2 := sG.trans (Same.new np (o := .lst []))
            rcases nil_case (xs := xs.filter fun x => !isS x) with ⟨n, ne⟩ | ⟨n, ne⟩
            · refine .inr ⟨n, fun v m => ?_, _, rfl, if_false_of rfl ?_⟩
              · rw [n] at m
                cases m
              · rw [ne, Bool.true_and] at e
                have hs : ∀ x ∈ xs, isS x = true := fun x m => by
                  have := List.filter_eq_nil_iff.mp n x m
                  simpa using this
                have tx2 := Tx.TX.same tx s2
                have ha2 := s2 _ _ had
                generalize upd G p (.lst []) = G2 at s2 tx2 ha2
                refine ⟨_, rfl, t, rfl, ⟨_, tx2.sq⟩, fun D2 nD2 => ?_⟩
                refine lc_filtT (noIn l) (show 2 < 3 by decide) (fun G s => (Tx.TX.same tx2 s).sq) nD2 (fit5 few) (fun x m G3 s3 R r => ?_) fun G3 eD3 sG3 => ?_
                · have sx := hs x m
                  cases x with
                  | str z =>
                    refine ⟨_, rfl, _, rfl, ad, _, rfl, DGet.k (k := .inr z) (s3 _ _ ha2), _, rfl, ?_⟩
                    have en : (!(valV (dkv l) (.inr z : Key)).isSome) = noIn l (.str z) := by
                      unfold noIn
                      rw [arity_str]
                    rw [en]
                    exact r
                  | _ => cases sx
                · refine ⟨by decide, fun p2 np2 => ⟨D2, p2, _, [], rfl, rfl, SqL.of ((Same.new np2) _ _ eD3), SqL.of upd_same, ?_⟩⟩
                  have s4 := sG3.trans (Same.new np2 (o := .lst []))
                  rcases nil_case (xs := xs.filter (noIn l)) with ⟨n2, ne2⟩ | ⟨n2, ne2⟩
                  · refine .inr ⟨n2, fun v m => ?_, _, rfl, iteT ⟨_, rfl, _, rfl, ad, t, l, xs, rfl, s4 _ _ ha2, Tx.TX.same tx2 s4, hs, rfl, ?_⟩⟩
                    · rw [n2] at m
                      cases m
                    · rw [ne2, Bool.true_and] at e
                      have q := q _ (s2.trans s4)
                      rw [e] at q
                      rw [dec_int]
                      exact q
                  · refine .inl ⟨n2, _, rfl, iteF ?_⟩
                    rw [ne2, Bool.false_and] at e
                    have q := q _ (s2.trans s4)
                    rw [e] at q
                    exact q
            · refine .inl ⟨n, _, rfl, if_true_of rfl ?_⟩
              rw [ne, Bool.false_and] at e
              have q := q _ s2
              rw [e] at q
              exact q
        · have e : tB l (some xs) = false := by
            show (decide _ && _) = _
            rw [decide_eq_false c5, Bool.false_and]
          rw [e] at q
          exact if_true_of (by rw [decide_eq_false (show ¬ ((xs.length : Nat) : Int) ≤ 5000 by omega)]; rfl) (q _ (Same.refl _))
      · have e : tB l (some xs) = false := by
          cases xs with
          | nil => rfl
          | cons x xs => exact absurd (by simp) c1
        rw [e] at q
        exact if_false_of (decide_eq_false (by omega)) ⟨_, rfl, if_true_of rfl (q _ (Same.refl _))⟩
end
end Pr
namespace Pr
open PySem PySem.Spec PyProof.Rows L2 Gd
section
variable {P : Program} {w : World} {K : PySem.W.Frag} {mg : Str → Option Value} {base : Heap} {fO : Addr} {dO : FuncData}
theorem scIsC : FnScope ["arities", "value", "word"] ["arities", "value"] (defScope sIsC) := ⟨rfl, rfl, rfl, by decide +kernel, rfl, by decide +kernel, by decide +kernel⟩
theorem rep_one {n : Nat} {z : V} : n ≠ 1 → (List.replicate n z).length ≠ [z].length := fun h => by
  rw [List.length_replicate]
  exact h
theorem ok_isC {f : Addr} {fd : FuncData} (F : Fun K "_law_is_context" "_law_is_context" sIsC f fd) (FO : Fun K "_law_open" "_law_open" sOpen fO dO) (bO : Binds K dO ["arities", "words"] []) (gO : mg "_law_open" = some (.ref fO)) (T : Free mg) : FnOk P w K mg base CX0 2 f fd ["arities", "value"] (spJ cB) := by
  have GO : FnOk P w K mg base CX0 1 fO dO ["arities", "words"] spOpen := ok_open FO T
  refine F.ok scIsC (fun vs H Q E h => ?_) (fun cdv A outer s H vs Q E hr h => ?_)
  · obtain ⟨ad, v, l, x, rfl, _⟩ := h
    rfl
  · obtain ⟨ad, v, l, x, rfl, had, no, vw, few, q⟩ := h
    have hu := hr.units
    have hu1 : ∀ {u : Nat}, u + 64 < cLine → u + 1 < cLine := fun h => by omega
    refine ⟨_, pss_cons (ps_if (PW.pt (pw_or (pt_not (pt_val (pe_callB call_isi (by rfl) T.isi (by decide +kernel) (pa_cons (pv 1) (pa_cons (pe_bltn (v := .ty "tuple") (by rfl) T.tuple (by decide +kernel) rfl) pa_nil)))))
        (pw_or1 (pt_not (pt_chain op_le op_le pe_int (pe_callB call_len_seq (by rfl) T.len PySem.boot_len (pa_cons (pv 1) pa_nil)) pe_int))))) (pss_one (ps_ret pe_bl)) pss_nil)
      (pss_cons (ps_if (pt_cmpR (op_neL hu) (pe_lc (own := [("word", 2)]) (g := gName 2) (by rfl) scIsC.nd (pi_tup (pv 1)) (blkOk_by (own := [("word", 2)]) (N := ["arities", "value", "word"]) (sc := defScope sIsC) (by decide +kernel))
            (fun _ _ _ _ _ => pg_name (i := 2) scIsC.nd rfl (Or.inl rfl)) (fun _ _ _ _ _ => pts_one (pt_not (pt_val (pe_callB (call_isiK (K := K) rfl) (by rfl) T.isi (by decide +kernel) (pa_cons (pv 2) (pa_cons (pe_bltn (v := .ty "str") (by rfl) T.str (by decide +kernel) rfl) pa_nil)))))) (fun _ _ _ _ _ => pv 2)) (pe_lst pa_nil) (nomark _)) (pss_one (ps_ret pe_bl)) pss_nil)
      (pss_cons (ps_if (pt_cmpR (op_neL hu) (pe_lc (own := [("word", 2)]) (g := gName 2) (by rfl) scIsC.nd (pi_tup (pv 1)) (blkOk_by (own := [("word", 2)]) (N := ["arities", "value", "word"]) (sc := defScope sIsC) (by decide +kernel))
            (fun _ _ _ _ _ => pg_name (i := 2) scIsC.nd rfl (Or.inl rfl)) (fun _ _ _ _ _ => pts_one (pt_cmpR op_eq (pv 2) pe_str (nomark _))) (fun _ _ _ _ _ => pv 2)) (pe_lst (pa_cons pe_str pa_nil)) (nomark _)) (pss_one (ps_ret pe_bl)) pss_nil)
      (pss_one (ps_ret (pe_and (pe_cmpR (op_eqL hu) (pe_lc (own := [("word", 2)]) (g := gName 2) (by rfl) scIsC.nd (pi_tup (pv 1)) (blkOk_by (own := [("word", 2)]) (N := ["arities", "value", "word"]) (sc := defScope sIsC) (by decide +kernel))
            (fun _ _ _ _ _ => pg_name (i := 2) scIsC.nd rfl (Or.inl rfl)) (fun _ _ _ _ _ => pts_one (PW.pt (pw_and (pt_cmp (pc_dnotin (hu1 hu) (pv 2) (pv 0))) (pw_and1 (pt_cmpR op_ne (pv 2) pe_str (nomark _)))))) (fun _ _ _ _ _ => pv 2)) (pe_lst pa_nil) (nomark _))
          (pe_one (pe_cmpR op_eq (pe_call GO hr (by rfl) gO FO.kp bO .nil pass0 (pa_cons (pv 0) (pa_cons (pv 1) pa_nil))) pe_int (nomark _)))))))), ?_⟩
    cases vw with
    | not k ne => exact ⟨_, rfl, v, _, _, _, false, rfl, .ty "tuple", k.ty, kit_tup_not k ne, _, rfl, iteT (q _ (Same.refl _))⟩
    | @tup t xs tx js =>
      have rd : Rd H t (.tup xs) := TXr tx
      have few := few xs rfl
      refine ⟨_, rfl, .ref t, _, _, _, true, rfl, .ty "tuple", tyR rd, kit_ty (r := true) (by decide +kernel), _, rfl, if_false_of rfl ⟨_, rfl, t, _, rfl, .inr (.inl rd), _, _, rfl, rfl, _, rfl, ?_⟩⟩
      by_cases c1 : 1 ≤ xs.length
      · refine if_true_of (decide_eq_true (by omega)) ⟨_, _, rfl, rfl, _, rfl, ?_⟩
        by_cases c5 : xs.length ≤ 5000
        · refine if_false_of (by rw [decide_eq_true (show ((xs.length : Nat) : Int) ≤ 5000 by omega)]; rfl) ?_
          have e := cB_eq no c1 c5
          -- not all are texts?
          refine ⟨_, rfl, t, rfl, ⟨_, tx.sq⟩, fun D nD => ?_⟩
          refine lc_filtT (fun x => !isS x) (show 2 < 3 by decide) (fun G s => (Tx.TX.same tx s).sq) nD (fit5 few) (fun x m G s R r => ?_) fun G eD sG => ?_
          · obtain ⟨ty, k, _⟩ := (js x m).same s
            exact ⟨_, rfl, x, _, _, _, _, rfl, .ty "str", k.ty, isS_kd k, _, rfl, r⟩
          · refine ⟨by decide, fun p np => ⟨D, p, _, [], rfl, rfl, SqL.of ((Same.new np) _ _ eD), SqL.of upd_same, ?_⟩⟩
            have s2 := sG.trans (Same.new np (o := .lst []))
            rcases nil_case (xs := xs.filter fun x => !isS x) with ⟨n, ne⟩ | ⟨n, ne⟩
            · refine .inr ⟨n, fun v m => ?_, _, rfl, if_false_of rfl ?_⟩
              · rw [n] at m
                cases m
              · rw [ne, Bool.true_and] at e
                have hs : ∀ x ∈ xs, isS x = true := fun x m => by
                  have := List.filter_eq_nil_iff.mp n x m
                  simpa using this
                have tx2 := Tx.TX.same tx s2
                have ha2 := s2 _ _ had
                generalize upd G p (.lst []) = G2 at s2 tx2 ha2
                -- the holes
                refine ⟨_, rfl, t, rfl, ⟨_, tx2.sq⟩, fun Dh nDh => ?_⟩
                refine lc_filtT isH (show 2 < 3 by decide) (fun G s => (Tx.TX.same tx2 s).sq) nDh (fit5 few) (fun x m G3 s3 R r => ?_) fun Gh eDh sGh => ?_
                · have sx := hs x m
                  cases x with
                  | str z =>
                    refine ⟨_, rfl, rfl, _, rfl, ?_⟩
                    rw [isH_eq] at r
                    exact r
                  | _ => cases sx
                · rw [isH_all hs] at eDh
                  refine ⟨by decide, fun ph nph => ⟨Dh, ph, _, [.str hole], rfl, rfl, SqL.of ((Same.new nph) _ _ eDh), SqL.of upd_same, ?_⟩⟩
                  have sh := s2.trans (sGh.trans (Same.new nph (o := .lst [.str "_"])))
                  have txh := Tx.TX.same tx sh
                  have hah := sh _ _ had
                  generalize upd Gh ph (.lst [.str "_"]) = Gi at sh txh hah ⊢
                  by_cases ch : xs.countP isH = 1
                  · rw [decide_eq_true ch, Bool.true_and] at e
                    refine .inr ⟨by rw [ch]; rfl, fun v m => ?_, _, rfl, if_false_of rfl ?_⟩
                    · rw [List.eq_of_mem_replicate m]
                      exact ⟨_, .str _⟩
                    · refine ⟨_, rfl, t, rfl, ⟨_, txh.sq⟩, fun D2 nD2 => ?_⟩
                      refine lc_filtT (noInH l) (show 2 < 3 by decide) (fun G s => (Tx.TX.same txh s).sq) nD2 (fit5 few) (fun x m G3 s3 R r => ?_) fun G3 eD3 sG3 => ?_
                      · have sx := hs x m
                        cases x with
                        | str z =>
                          refine ⟨_, rfl, _, rfl, ad, _, rfl, DGet.k (k := .inr z) (s3 _ _ hah), _, rfl, ?_⟩
                          have en : (!(valV (dkv l) (.inr z : Key)).isSome) = noIn l (.str z) := by
                            unfold noIn
                            rw [arity_str]
                          rw [en]
                          have er : noInH l (.str z) = (noIn l (.str z) && !decide (V.str z = .str hole)) := rfl
                          rw [er] at r
                          by_cases cn : noIn l (.str z) = true
                          · rw [cn, Bool.true_and] at r
                            exact if_true_of cn ⟨_, rfl, rfl, _, rfl, r⟩
                          · rw [Bool.eq_false_iff.mpr cn, Bool.false_and] at r
                            exact if_false_of (Bool.eq_false_iff.mpr cn) r
                        | _ => cases sx
                      · refine ⟨by decide, fun p2 np2 => ⟨D2, p2, _, [], rfl, rfl, SqL.of ((Same.new np2) _ _ eD3), SqL.of upd_same, ?_⟩⟩
                        have s4 := sG3.trans (Same.new np2 (o := .lst []))
                        rcases nil_case (xs := xs.filter (noInH l)) with ⟨n2, ne2⟩ | ⟨n2, ne2⟩
                        · refine .inr ⟨n2, fun v m => ?_, _, rfl, iteT ⟨_, rfl, _, rfl, ad, t, l, xs, rfl, s4 _ _ hah, Tx.TX.same txh s4, hs, rfl, ?_⟩⟩
                          · rw [n2] at m
                            cases m
                          · rw [ne2, Bool.true_and] at e
                            have q := q _ (sh.trans s4)
                            rw [e] at q
                            rw [dec_int]
                            exact q
                        · refine .inl ⟨n2, _, rfl, iteF ?_⟩
                          rw [ne2, Bool.false_and] at e
                          have q := q _ (sh.trans s4)
                          rw [e] at q
                          exact q
                  · rw [decide_eq_false ch, Bool.false_and] at e
                    refine .inl ⟨rep_one ch, _, rfl, if_true_of rfl ?_⟩
                    have q := q _ sh
                    rw [e] at q
                    exact q
            · refine .inl ⟨n, _, rfl, if_true_of rfl ?_⟩
              rw [ne, Bool.false_and] at e
              have q := q _ s2
              rw [e] at q
              exact q
        · have e : cB l (some xs) = false := by
            show (decide _ && _) = _
            rw [decide_eq_false c5, Bool.false_and]
          rw [e] at q
          exact if_true_of (by rw [decide_eq_false (show ¬ ((xs.length : Nat) : Int) ≤ 5000 by omega)]; rfl) (q _ (Same.refl _))
      · have e : cB l (some xs) = false := by
          cases xs with
          | nil => rfl
          | cons x xs => exact absurd (by simp) c1
        rw [e] at q
        exact if_false_of (decide_eq_false (by omega)) ⟨_, rfl, if_true_of rfl (q _ (Same.refl _))⟩
end
end Pr
/-! ### t * k and t[::-1], what is new is plain -/
namespace Tb
open PySem PySem.Spec PyProof.Rows L2
theorem tuple_mul0 (l : Addr) (n : Nat) (dd : Option Addr) (sl : Array (Option Value)) (x : Int) (u : Tok) (c0 : (decide (x < -(2 ^ 63)) || decide (x ≥ 2 ^ 63)) = false) :
    Meets (Builtin.«tuple.__mul__» ⟨[.ref l, .int x u], []⟩) (fun _ R s => s.heap.get? l = some { cls := .type "tuple", dict := dd, data := .seq #[] n, slots := sl } ∧ R (.ok (.ret (Value.ref l))) s) :=
  .of_wp fun prog w A R s h => by
    obtain ⟨hp, g, d, tk, os⟩ := s
    obtain ⟨hl, h⟩ := h
    have f1 := AutoSeq1.idx_int
    have tI : (⟨hp, g, d, tk, os⟩ : Shared).TypeIs (.ref l) "tuple" := ⟨_, hl, rfl⟩
    wp_walk using wpAny_loadPart' hl
    repeat (first
      | (refine wpAny_ite_false (decide_eq_false (by rw [c0]; exact Bool.false_ne_true)) ?_; wp_walk using wpAny_loadPart' hl)
      | (refine wpAny_ite_true ?_ ?_; (first | rfl | (simp; done)); wp_walk using wpAny_loadPart' hl))
    exact ⟨_, rfl, h⟩
/-- a tuple times a number -/
def rRepX (K : PySem.W.Frag) : R2 := fun x y H Q => ∃ (a : Addr) (m : Nat) (xs : List V), x = .ref a ∧ y = .int (m : Int) ∧ Tx.TX H a xs ∧ 2 ≤ m ∧ m ≤ 5000 ∧ xs.length * m ≤ 100000 ∧
  (xs = [] → Q (.ref a) H) ∧ ∀ p H2, H p = none → Same H H2 → Tx.TX H2 p (List.replicate m xs).flatten → Q (.ref p) H2
theorem op_repX {X : Cx} : OpR X (binaryOp .Mult) (rRepX X.K) := by
  intro pins s σ H x y v u Q I rx ry h
  obtain ⟨a, m, xs, rfl, rfl, tx, m2, m5, prod, q0, q⟩ := h
  have ht : SqT X.K H a xs := tx.sq
  cases rx
  obtain ⟨tk, rfl⟩ := ry
  obtain ⟨us, rel, ⟨⟨ocl, odi, oda, osl⟩, hat, hcl, cnt, hda⟩, _⟩ := I.tuple ht
  dsimp only at hcl hda
  subst hcl hda
  have eu : us.length = xs.length := rel.length.symm
  have eus : us.toArray.size = xs.length := by rw [List.size_toArray, eu]
  have g0 : (decide ((m : Int) < -(2 ^ 63)) || decide ((m : Int) ≥ 2 ^ 63)) = false := by
    have h1 : decide ((m : Int) < -(2 ^ 63)) = false := decide_eq_false (by omega)
    have h2 : decide ((m : Int) ≥ 2 ^ 63) = false := decide_eq_false (by omega)
    rw [h1, h2]
    rfl
  have other := int_rmul_tuple (m : Int) tk a us.toArray cnt odi osl
  refine wpAny_binaryOp_repeat_ref (T := "tuple")
    (U := "int") (by decide) ⟨_, hat, rfl⟩
    (fun st => typeIs_int st (m : Int) tk)
    noFill_tuple_mul
    F.fills_int_mul F.slot_int_rmul
    repeat_tuple
    F.slot_int_index.lookup ?_
  refine call_meets F.slot_int_rmul (typeIs_int s (m : Int) tk)
    F.entry_int_rmul (F.args_int_rmul_2 _ _) other ⟨hat, rfl, ⟨_, hat, rfl⟩, ?_⟩
  by_cases ex : xs = []
  · subst ex
    have e0 : us = [] := List.eq_nil_of_length_eq_zero eu
    subst e0
    refine call_meets F.slot_tuple_mul ⟨_, hat, rfl⟩
      F.entry_tuple_mul (F.args_tuple_mul_2 _ _) (tuple_mul0 a cnt odi osl (m : Int) tk g0) ⟨hat, ?_⟩
    exact ⟨.ref a, H, I, rfl, q0 rfl⟩
  · have x1 : 1 ≤ xs.length := by
      cases xs with
      | nil => exact absurd rfl ex
      | cons _ _ => simp
    have full : us.toArray.isEmpty = false := by
      cases us with
      | nil => exact absurd eu (by rw [List.length_nil]; omega)
      | cons _ _ => rfl
    have prodI : ((us.toArray.size : Nat) : Int) * (m : Int) ≤ 100000 := by
      rw [eus]
      have e : ((xs.length : Nat) : Int) * (m : Int) = ((xs.length * m : Nat) : Int) := (Int.natCast_mul _ _).symm
      rw [e]
      omega
    have lenR : ∀ {α : Type} (ys : List α), ys.length = xs.length → (List.replicate m ys).flatten.length ≤ sizeLine := fun ys hy => by
      rw [PyProof.Rows.lm_len_rep_flat, hy, sizeLine_eq, Nat.mul_comm]
      omega
    have g1 : (us.toArray.isEmpty || (m : Int) == 1) = false := by
      have h1 : ((m : Int) == 1) = false := beq_eq_false_iff_ne.mpr (by omega)
      rw [full, h1]
      rfl
    have g2 : (decide ((m : Int) ≤ 0) || us.toArray.isEmpty) = false := by
      have h1 : decide ((m : Int) ≤ 0) = false := decide_eq_false (by omega)
      rw [full, h1]
      rfl
    have g4 : Builtin.Tuple.tupleTooMany (((us.toArray.size : Nat) : Int) * (m : Int)) = false := by
      unfold Builtin.Tuple.tupleTooMany
      exact decide_eq_false (by rw [sizeLine_eq]; omega)
    have times := tuple_mulW a us.toArray cnt odi osl (m : Int) tk g0 g1 g2 (by omega) g4 (by rw [size_rep, List.size_toArray, Int.toNat_natCast]; exact lenR us eu)
    refine call_meets F.slot_tuple_mul ⟨_, hat, rfl⟩
      F.entry_tuple_mul (F.args_tuple_mul_2 _ _) times ⟨hat, ?_⟩
    rw [size_rep, Int.toNat_natCast]
    obtain ⟨G2, J2, fresh, same, tx2⟩ := Tx.laid_tup I (rel.rep m) (lenR xs rfl)
    exact ⟨.ref s.heap.objs.size, G2, J2, rfl, q _ _ fresh same tx2⟩
section
variable {prog : Program} {w : World} {A : Around} {E : Value → Shared → Prop} {s : Shared}
theorem applied_rev {sl : Addr} {vl vu vs : Value} {n : Nat} {Q : Int × Int × Nat → Shared → Prop} (so : s.heap.IsSliceOf sl vl vu vs) (p0 : IsPart vl none) (p1 : IsPart vu none) (p2 : IsPart vs (some (-1)))
    (k : Q ((n : Int) - 1, -1, n) s) : wpAny (model prog w) A (Builtin.Slice.sliceApplied (.ref sl) (pure (n : Int))) Q E s := by
  obtain ⟨ob, at_, _, dat⟩ := id so
  unfold Builtin.Slice.sliceApplied Builtin.Slice.sliceFields
  refine wpAny_bind (wpAny_bind (wpAny_field at_ dat (x := vl) rfl ?_))
  refine wpAny_bind (wpAny_field at_ dat (x := vu) rfl ?_)
  refine wpAny_bind (wpAny_field at_ dat (x := vs) rfl (wpAny_pure ?_))
  refine wpAny_bind (HT.slicePart_ p2 ?_)
  show wpAny _ _ (if ((-1 : Int) == 0) = true then _ else _) _ _ s
  rw [if_neg (by decide)]
  refine wpAny_bind (HT.slicePart_ p0 ?_)
  refine wpAny_bind (HT.slicePart_ p1 ?_)
  refine wpAny_bind (wpAny_pure ?_)
  have adj : Builtin.Slice.sliceAdjust none none (-1) (n : Int) = ((n : Int) - 1, -1) := by
    unfold Builtin.Slice.sliceAdjust
    simp
  have pl : Builtin.Slice.slicePlaces ((n : Int) - 1) (-1) (-1) = n := by
    unfold Builtin.Slice.slicePlaces
    rw [if_neg (by decide)]
    by_cases c : (n : Int) - 1 > -1
    · rw [if_pos c]
      have e : ((n : Int) - 1 - -1 - 1) / (- -1) = (n : Int) - 1 := by
        rw [show (- -1 : Int) = 1 by decide, Int.ediv_one]
        omega
      rw [e]
      omega
    · rw [if_neg c]
      omega
  show wpAny _ _ (match Builtin.Slice.sliceAdjust none none (-1) (n : Int) with | (lo, hi) => pure (lo, (-1 : Int), Builtin.Slice.slicePlaces lo hi (-1))) _ _ s
  rw [adj]
  show wpAny _ _ (pure ((n : Int) - 1, (-1 : Int), Builtin.Slice.slicePlaces ((n : Int) - 1) (-1) (-1))) _ _ s
  rw [pl]
  exact wpAny_pure k
theorem rev_pick (xs : Array Value) : ((List.range xs.size).filterMap fun (k : Nat) => xs[(((xs.size : Int) - 1) + (k : Int) * (-1)).toNat]?).toArray = (xs.toList.reverse).toArray := by
  congr 1
  have len : xs.toList.reverse.length = xs.size := by
    rw [List.length_reverse, Array.length_toList]
  have all : ∀ l : List Value, (List.range l.length).filterMap (fun k => l[k]?) = l := fun l => by
    induction l with
    | nil => rfl
    | cons a l ih =>
      rw [List.length_cons, List.range_succ_eq_map, List.filterMap_cons]
      show a :: ((List.range l.length).map Nat.succ).filterMap (fun k => (a :: l)[k]?) = a :: l
      rw [List.filterMap_map]
      exact congrArg (a :: ·) ih
  have e := all xs.toList.reverse
  rw [len] at e
  refine Eq.trans ?_ e
  refine fm_congr fun k hk => ?_
  have hk := List.mem_range.mp hk
  rw [List.getElem?_reverse (by rw [Array.length_toList]; omega), Array.length_toList, Array.getElem?_toList]
  congr 1
  omega
theorem item_rev {t sl : Addr} {items : Array Value} {vl vu vs : Value} {Q : Value → Shared → Prop} (tt : IsTup s.heap t items) (so : s.heap.IsSliceOf sl vl vu vs) (p0 : IsPart vl none) (p1 : IsPart vu none) (p2 : IsPart vs (some (-1))) (few : items.size ≤ sizeLine)
    (k : Q (.ref s.heap.objs.size) { s with heap := s.heap.push { cls := .type "tuple", data := .seq (items.toList.reverse).toArray } }) : wpAny (model prog w) A (getItem (.ref t) (.ref sl)) Q E s := by
  have okSize : sizeOk (.seq (items.toList.reverse).toArray) := by
    show (items.toList.reverse).toArray.size ≤ sizeLine
    rw [List.size_toArray, List.length_reverse, Array.length_toList]
    omega
  obtain ⟨ob, at_, cl, dat⟩ := id so
  have tyS : s.TypeIs (.ref sl) "slice" := ⟨ob, at_, cl⟩
  unfold getItem
  refine wpAny_holding ?_
  refine wpAny_bind (wpAny_sequenceKey tt.typeIs (by decide) ?_)
  refine wpAny_bind (wpAny_callSpecial?_slot (name := Str.ofString "__getitem__") tt.typeIs PyProof.Rows.slot_tuple_getitem
    (wpAny_call_entry PyProof.Rows.slot_tuple_getitem tt.typeIs PyProof.Rows.entry_tuple_getitem ?_ (PyProof.Rows.args_tuple_getitem _ _)))
  show wpAny _ _ (Builtin.Tuple.tupleItemsOf (.ref t) >>= _) _ _ s
  refine wpAny_bind (PyProof.Rows.tupleItemsOf_ tt ?_)
  refine wpAny_bind (wpAny_typeOf tyS ?_)
  rw [if_pos (by decide)]
  refine wpAny_bind (applied_rev so p0 p1 p2 ?_)
  show wpAny _ _ (if (((items.size : Int) - 1) == 0 && (-1 : Int) == 1 && items.size == items.size) = true then _ else _) _ _ s
  have no : ¬ ((((items.size : Int) - 1) == 0 && (-1 : Int) == 1 && items.size == items.size) = true) := by
    rw [show ((-1 : Int) == 1) = false by decide, Bool.and_false, Bool.false_and]
    exact Bool.false_ne_true
  rw [if_neg no, rev_pick items]
  exact wpAny_bind (m := Builtin.Tuple.tupleExact _) (wpAny_newObj_type (wpAny_pure ⟨_, rfl, wpAny_pure k⟩) okSize)
end
/-- t[::-1] -/
def tRevX (K : PySem.W.Frag) (te : TE) : TE := fun σ H Q => te σ H fun x H1 => ∃ (a : Addr) (xs : List V), x = .ref a ∧ SqT K H1 a xs ∧ ∀ p H2, H1 p = none → Same H1 H2 → Tx.TX H2 p xs.reverse → Q (.ref p) H2
section
variable {X : Cx}
theorem pe_revX {e : Expr} {te : TE} {c : Nat} {p1 p2 p3 pos : Pos} (he : PE X e te) : PE X (.Subscript e (.Slice none none (some (.UnaryOp .USub (.Constant (.int 1) c p1) p2)) p3) pos) (tRevX X.K te) := by
  refine ⟨fun pins s0 σ G0 Q J0 q0 => ?_⟩
  refine Subscript_ (thn (he.run pins s0 σ G0 _ J0 q0) fun v0 s1 ⟨x, G1, J1, r0, q1⟩ => ?_)
  refine wpAny_Slice (thn (po_none.run pins s1 σ G1 (fun o G => o = none ∧ G = G1) J1 ⟨rfl, rfl⟩) fun vl s2 ⟨l, G2, J2, pl, el, e2⟩ => ?_)
  subst el e2
  refine thn (po_none.run pins s2 σ G2 (fun o G => o = none ∧ G = G2) J2 ⟨rfl, rfl⟩) fun vu s3 ⟨u, G3, J3, pu, eu, e3⟩ => ?_
  subst eu e3
  obtain ⟨a, xs, ex, hx, q2⟩ := q1
  subst ex
  cases r0
  have back : PO X (some (.UnaryOp .USub (.Constant (.int 1) c p1) p2)) (tPart (tUn (rU fun i => .int (-i)) (tC (.int 1)))) := po_some (pe_un un_neg pe_int)
  refine thn (back.run pins s3 σ G3 (fun o G => o = some (-1) ∧ G = G3) J3 ⟨1, rfl, -1, rfl, rfl, rfl⟩) fun vs s4 ⟨o, G4, J4, ps, eo, e4⟩ => ?_
  subst eo e4
  have J5 : Inv X pins σ G4 { s4 with heap := s4.heap.push { cls := .type "slice", data := .fields #[vl, vu, vs] } } := J4.kept (t' := s4.toks) fun b ob z => Heap.get?_push_of_some _ z
  obtain ⟨its, rel, tt, few⟩ := J5.tuple hx
  have len := rel.length
  show wpAny (model X.prog X.w) X.A (subscriptTail e (.Slice none none (some (.UnaryOp .USub (.Constant (.int 1) c p1) p2)) p3) (.ref a) (.ref s4.heap.objs.size)) (EP X pins σ Q) X.xe { s4 with heap := s4.heap.push { cls := .type "slice", data := .fields #[vl, vu, vs] } }
  refine tail_any (ops := [.ref a, .ref s4.heap.objs.size]) tt.typeIs
    PyProof.Rows.slot_tuple_getitem.lookup ?_ (by with_unfolding_all rfl)
  refine item_rev tt (Heap.IsSliceOf.new _ vl vu vs) pl pu ps (by rw [List.size_toArray]; omega) ?_
  obtain ⟨G6, J6, fresh, same, tx⟩ := Tx.laid_tup J5 rel.reverse (by rw [List.length_reverse]; omega)
  exact ⟨.ref _, _, J6, rfl, q2 _ _ fresh same tx⟩
end
end Tb
namespace Pr
open PySem PySem.Spec PyProof.Rows L2 Gd
/-! ### the odd values -/
/-- values made so far: each can be judged, none is the dice -/
structure Good (d : Addr) (H0 H : Hp) (xs : List V) : Prop where
  same : Same H0 H
  there : ∃ o, H0 d = some o
  all : ∀ v ∈ xs, Vd (Hm d H) 4 100000 v
theorem Good.nil {d : Addr} {H : Hp} (h : ∃ o, H d = some o) : Good d H H [] := ⟨Same.refl H, h, fun v m => nomatch m⟩
theorem hm_new {d p : Addr} {H : Hp} {o : HO} (n : H p = none) : Same (Hm d H) (Hm d (upd H p o)) := (Kp.same (d := d) (Same.new n)).hm
theorem hm_fresh {d p : Addr} {H : Hp} {o : HO} (_ : H p = none) (ne : p ≠ d) : Hm d (upd H p o) p = some o := Hm.of upd_same ne
theorem Good.step {d : Addr} {H0 H H2 : Hp} {xs : List V} (g : Good d H0 H xs) (s : Same H H2) : Good d H0 H2 xs := ⟨g.same.trans s, g.there, fun v m => (g.all v m).same (Same.hm s)⟩
theorem Good.new {d p : Addr} {H0 H : Hp} {xs : List V} {o : HO} (g : Good d H0 H xs) (n : H p = none) : Good d H0 (upd H p o) xs := g.step (Same.new n)
theorem Good.ne {d p : Addr} {H0 H : Hp} {xs : List V} (g : Good d H0 H xs) (n : H p = none) : p ≠ d := by
  obtain ⟨u, hu⟩ := g.there
  exact (ne_of_none (g.same _ _ hu) n).symm
theorem Good.put {d : Addr} {H0 H : Hp} {xs : List V} {v : V} {n m : Nat} (g : Good d H0 H xs) (h : Vd (Hm d H) n m v) (hn : n ≤ 4) (hm : m ≤ 100000) : Good d H0 H (xs ++ [v]) := by
  refine ⟨g.same, g.there, fun u q => ?_⟩
  rcases List.mem_append.mp q with q | q
  · exact g.all u q
  · rw [List.mem_singleton.mp q]
    exact h.le hn hm
theorem all1 {P : V → Prop} {x : V} (h : P x) : ∀ y ∈ [x], P y := fun y m => by
  rw [List.mem_singleton.mp m]
  exact h
theorem all2 {P : V → Prop} {x y : V} (h : P x) (k : P y) : ∀ z ∈ [x, y], P z := fun z m => by
  rcases List.mem_cons.mp m with e | m
  · rw [e]
    exact h
  · rw [List.mem_singleton.mp m]
    exact k
theorem all0 {P : V → Prop} : ∀ z ∈ ([] : List V), P z := fun z m => nomatch m
def repS (z : Str) (k : Nat) : Str := ⟨(List.replicate k z.cps).foldl (· ++ ·) #[]⟩
/-- a text times a small number -/
def rRepS : R2 := fun x y H Q => ∃ z k, x = .str z ∧ y = .int k ∧ 2 ≤ k ∧ k ≤ 5000 ∧ z.length = 1 ∧ Q (.str (repS z k.toNat)) H
section
variable {X : Cx}
theorem foldl_size (c : Array Nat) : ∀ (k : Nat) (a : Array Nat), ((List.replicate k c).foldl (· ++ ·) a).size = a.size + k * c.size
  | 0, a => by simp
  | k + 1, a => by
    rw [List.replicate_succ, List.foldl_cons, foldl_size c k (a ++ c), Array.size_append, Nat.succ_mul]
    omega
theorem op_repS : OpR X (binaryOp .Mult) rRepS := by
  intro pins s σ H x y v u Q I rx ry h
  obtain ⟨z, k, rfl, rfl, h2, h5, hz, q⟩ := h
  obtain ⟨t, rfl⟩ := rx
  obtain ⟨t', rfl⟩ := ry
  have k1 : ¬ k < 1 := by omega
  have e1 : (k == 1 || z.length == 0) = false := by
    have a1 : (k == 1) = false := by rw [beq_eq_false_iff_ne]; omega
    have a2 : (z.length == 0) = false := by rw [beq_eq_false_iff_ne]; omega
    rw [a1, a2]
    rfl
  have hk : (k.toNat : Int) = k := Int.toNat_of_nonneg (by omega)
  have es : (repS z k.toNat).length ≤ sizeLine := by
    show ((List.replicate k.toNat z.cps).foldl (· ++ ·) #[]).size ≤ sizeLine
    have hc : z.cps.size = 1 := hz
    rw [foldl_size, hc, sizeLine_eq]
    simp
    omega
  refine PySem.P.mul_str ?_ (fun _ _ => ?_) (fun _ _ => ?_) ?_
  · rw [decide_eq_false (by omega), decide_eq_false (by omega)]
    rfl
  · rw [hz]
    have := Int.le_ediv_of_mul_le (a := 1) (b := 2 ^ 63 - 1) (c := k) (by omega) (by omega)
    omega
  · rw [hz]
    show decide (_ > sizeLine) = false
    exact decide_eq_false (by rw [sizeLine_eq]; omega)
  · rw [if_neg k1, e1, if_neg Bool.false_ne_true]
    exact ⟨es, .str (repS z k.toNat), H, I.tok _, ⟨_, rfl⟩, q⟩
end
theorem foldl_mem (c : Array Nat) : ∀ (k : Nat) (a : Array Nat) (x : Nat), x ∈ ((List.replicate k c).foldl (· ++ ·) a).toList → x ∈ a.toList ∨ x ∈ c.toList
  | 0, a, x, h => .inl h
  | k + 1, a, x, h => by
    rw [List.replicate_succ, List.foldl_cons] at h
    rcases foldl_mem c k (a ++ c) x h with h | h
    · rw [Array.toList_append] at h
      exact (List.mem_append.mp h).imp id id
    · exact .inr h
theorem sok_rep {k : Nat} {z : Str} (hz : SOk 1 z) : SOk k (repS z k) := by
  have h1 := hz.1
  have h2 : z.cps.size ≤ 1 := h1
  refine ⟨?_, fun c h => ?_⟩
  · show ((List.replicate k z.cps).foldl (· ++ ·) #[]).size ≤ k
    rw [foldl_size]
    have := Nat.mul_le_mul_left k h2
    simp
    omega
  · rcases foldl_mem z.cps k #[] c h with h | h
    · simp at h
    · exact hz.2 c h
/-- the law's odd values: each is odd, none is the dice -/
def spOdd : Sp := fun vs H Q _ => ∃ (d : Addr) (n : Nat), vs = [.ref d] ∧ Dice H d n ∧ n + 26 < 1000000 ∧
  ∀ (q : Addr) (ys : List V) (H' : Hp), q ≠ d → H q = none → Kp d H H' → H' q = some (.lst ys) → ys.length = 26 → (∀ y ∈ ys, Vd (Hm d H') 4 100000 y) → Dice H' d (n + 26) → Q (.ref q) H'
section
variable {P : Program} {w : World} {K : PySem.W.Frag} {mg : Str → Option Value} {base : Heap} {fR fP fM : Addr} {dR dP dM : FuncData}
theorem scOdd : FnScope ["dice", "some"] ["dice"] (defScope sOdd) := ⟨rfl, rfl, rfl, by decide +kernel, rfl, by decide +kernel, by decide +kernel⟩
theorem ok_odd {f : Addr} {fd : FuncData} (F : Fun K "_law_odd_values" "_law_odd_values" sOdd f fd) (D : Draws K mg fR fP fM dR dP dM) (T : Free mg) : FnOk P w K mg base CX0 3 f fd ["dice"] spOdd := by
  have GM : FnOk P w K mg base CX0 2 fM dM ["dice", "items"] (spMixed K) := ok_mixed D T
  refine F.ok scOdd (fun vs H Q E h => ?_) (fun cdv A outer s H vs Q E hr h => ?_)
  · obtain ⟨d, n, rfl, _⟩ := h
    rfl
  · obtain ⟨d, n, rfl, di, hn, k⟩ := h
    obtain ⟨ds, hd⟩ := di.there
    refine ⟨_, pss_cons (ps_set (i := 1) scOdd.nd rfl (.inl rfl) (pe_lst (pa_cons pe_non (pa_cons pe_int (pa_cons pe_int (pa_cons (pe_un un_neg pe_int) (pa_cons pe_bl (pa_cons pe_bl (pa_cons pe_str (pa_cons pe_str (pa_cons pe_str
        (pa_cons (Tx.pe_tupX pa_nil) (pa_cons (Tx.pe_tupX (pa_cons pe_str pa_nil)) (pa_cons (pe_lst pa_nil) (pa_cons (pe_lst (pa_cons pe_str pa_nil)) (pa_cons pe_dnewK (pa_cons (pe_disp (pps_cons pe_str pe_int pps_nil) (by rfl) (by rfl) (fun z => by cases z) (by decide))
        (pa_cons (Tx.pe_tupX (pa_cons (Tx.pe_tupX pa_nil) pa_nil)) (pa_cons (pe_op op_pow pe_int pe_int) (pa_cons pe_str pa_nil))))))))))))))))))))
      (pss_cons (ps_set (i := 1) scOdd.nd rfl (.inl rfl) (pe_op op_cat (pv 1) (pe_lst (pa_cons (pe_op op_repS pe_str pe_int) (pa_cons (pe_op Tb.op_repX (Tx.pe_tupX (pa_cons pe_str pa_nil)) pe_int) (pa_cons (Tx.pe_tupX (pa_cons pe_int (pa_cons pe_int pa_nil)))
        (pa_cons (Tx.pe_tupX (pa_cons pe_non pa_nil)) (pa_cons (Tx.pe_tupX (pa_cons (Tx.pe_tupX (pa_cons (Tx.pe_tupX (pa_cons pe_str pa_nil)) pa_nil)) pa_nil)) (pa_cons pe_str (pa_cons (pe_op op_mulW (pe_op op_pow pe_int pe_int) (pe_op op_pow pe_int pe_int)) pa_nil))))))))))
      (pss_one (ps_ret (pe_call GM hr (by rfl) D.gM D.FM.kp D.bM .nil pass0 (pa_cons (pv 0) (pa_cons (pe_op op_cat (pv 1) (pe_lst (pa_cons (pe_op op_sub pe_int (pe_op op_pow pe_int pe_int)) pa_nil))) pa_nil)))))), ?_⟩
    have z : ∀ {m : Nat}, m ≤ 64 → m ≤ sizeLine := fun h => Nat.le_trans h (by decide)
    have g0 : Good d H H [] := Good.nil ⟨_, hd⟩
    have L : ∀ {H : Hp}, Vd H 0 2000 (.str "c") := (Vd.text (k := 100) ⟨by decide, by decide +kernel⟩ (by decide)).le (Nat.le_refl _) (by decide)
    have T : ∀ {H : Hp} (z : Str), SOk 5 z → Vd H 0 2000 (.str z) := fun z h => (Vd.text (k := 100) (h.le (by decide)) (by decide)).le (Nat.le_refl _) (by decide)
    have I : ∀ {H : Hp} (i : Int), i.natAbs < 2 ^ 1900 → Vd H 0 2000 (.int i) := fun i h => Vd.int i h
    have g1 := ((((((((g0.put Vd.non (by decide) (by decide)).put (I 0 (by decide +kernel)) (by decide) (by decide)).put (I 1 (by decide +kernel)) (by decide) (by decide)).put (I (-1) (by decide +kernel)) (by decide) (by decide)).put (Vd.bl true) (by decide) (by decide)).put (Vd.bl false) (by decide) (by decide)).put (T "" ⟨by decide, by decide +kernel⟩) (by decide) (by decide)).put (T "a" ⟨by decide, by decide +kernel⟩) (by decide) (by decide)).put (T "A b" ⟨by decide, by decide +kernel⟩) (by decide) (by decide)
    refine ⟨_, rfl, z (Nat.le_of_ble_eq_true rfl), fun t1 H1 n1 s1 x1 => ?_⟩
    have g2 := (g1.step s1).put (Vd.tup (n := 0) (m := 2000) (k := 0) (TX.hm x1 (g1.ne n1)) all0 all0 (by decide)) (by decide) (by decide)
    refine ⟨z (Nat.le_of_ble_eq_true rfl), fun t2 H2 n2 s2 x2 => ?_⟩
    have g3 := (g2.step s2).put (Vd.tup (n := 0) (m := 2000) (k := 1) (TX.hm x2 (g2.ne n2)) (all1 L) (all1 (Ji.str _)) (by decide)) (by decide) (by decide)
    refine ⟨z (Nat.le_of_ble_eq_true rfl), fun t3 n3 => ?_⟩
    have g4 := (g3.new n3 (o := .lst [])).put (Vd.lst (n := 0) (m := 2000) (k := 0) (hm_fresh n3 (g3.ne n3)) all0 (by decide)) (by decide) (by decide)
    refine ⟨z (Nat.le_of_ble_eq_true rfl), fun t4 n4 => ?_⟩
    have g5 := (g4.new n4 (o := .lst [.str "c"])).put (Vd.lst (n := 0) (m := 2000) (k := 1) (hm_fresh n4 (g4.ne n4)) (all1 L) (by decide)) (by decide) (by decide)
    intro t5 n5
    have g6 := (g5.new n5 (o := .dK [])).put (Vd.dK0 (hm_fresh n5 (g5.ne n5))) (by decide) (by decide)
    refine fun t6 n6 => ⟨upd_same, [(Sum.inr "c", .int 0)], rfl, by decide, ?_⟩
    have g7 := (g6.new (o := .dK (mergeK [] [((Sum.inr "c" : Key), V.int 0)])) n6).put (Vd.dK1 (x := "c") (i := 0) (hm_fresh n6 (g6.ne n6)) ⟨by decide, by decide +kernel⟩ (by decide)) (by decide) (by decide)
    have g7b := g7
    rw [← upd_upd (H := upd _ t5 _) (a := t6) (o := .dK [])] at g7b
    refine ⟨z (Nat.le_of_ble_eq_true rfl), fun t7 H7 n7 s7 x7 => ⟨z (Nat.le_of_ble_eq_true rfl), fun t8 H8 n8 s8 x8 => ?_⟩⟩
    have g7c := g7b.step s7
    have v7 : Vd (Hm d _) 1 2000 (.ref t7) := (Vd.tup (n := 0) (m := 2000) (k := 0) (xs := []) (TX.hm x7 (g7b.ne n7)) all0 all0 (by decide)).le (by decide) (by decide)
    have x7b := TX.hm (Tx.TX.same x7 s8) (g7b.ne n7)
    have g8 := (g7c.step s8).put (Vd.tup (n := 1) (m := 2000) (k := 1) (TX.hm x8 (g7c.ne n8)) (all1 (v7.same (Same.hm s8))) (all1 (Ji.tup x7b)) (Nat.le_refl 1)) (by decide) (by decide)
    refine ⟨10, 60, rfl, rfl, c10 (k := 60) (by decide), ?_⟩
    have g9 := (g8.put (I (10 ^ (60 : Int).toNat) (by decide +kernel)) (by decide) (by decide)).put (T "_" ⟨by decide, by decide +kernel⟩) (by decide) (by decide)
    -- the list itself
    refine ⟨z (Nat.le_of_ble_eq_true rfl), fun l1 m1 => ?_⟩
    have g10 := g9.new m1 (o := .lst [V.non, .int 0, .int 1, .int (-1), .bl true, .bl false, .str "", .str "a", .str "A b", .ref t1, .ref t2, .ref t3, .ref t4, .ref t5, .ref t6, .ref t8, .int (10 ^ (60 : Int).toNat), .str "_"])
    -- some + [..]
    refine ⟨_, rfl, _, _, rfl, rfl, by decide, by decide, by decide +kernel, ?_⟩
    have V4 : ∀ {H : Hp}, Vd H 0 40002 (.str (repS "x" (4000 : Int).toNat)) := Vd.text (k := 4000) (sok_rep ⟨by decide, by decide +kernel⟩) (by decide)
    have h0 := g10.put V4 (by decide) (by decide)
    refine ⟨z (Nat.le_of_ble_eq_true rfl), fun t9 H9 n9 s9 x9 => ⟨_, 30, _, rfl, rfl, x9, by decide, by decide, by decide, (fun e => nomatch e), fun t10 H10 n10 s10 x10 => ?_⟩⟩
    have h0b := h0.step s9
    have inr : ∀ y ∈ (List.replicate 30 [V.str "c"]).flatten, y = V.str "c" := fun y m => by
      obtain ⟨l, hl, hy⟩ := List.mem_flatten.mp m
      rw [List.eq_of_mem_replicate hl] at hy
      exact List.mem_singleton.mp hy
    have h1 := (h0b.step s10).put (Vd.tup (n := 0) (m := 2000) (k := 30) (TX.hm x10 (h0b.ne n10)) (fun y m => by
      rw [inr y m]
      exact L) (fun y m => by
      rw [inr y m]
      exact Ji.str _) (by decide)) (by decide) (by decide)
    refine ⟨z (Nat.le_of_ble_eq_true rfl), fun t11 H11 n11 s11 x11 => ?_⟩
    have h2 := (h1.step s11).put (Vd.tup (n := 0) (m := 2000) (k := 2) (TX.hm x11 (h1.ne n11)) (all2 (I 1 (by decide +kernel)) (I 2 (by decide +kernel))) (all2 (Ji.int _) (Ji.int _)) (by decide)) (by decide) (by decide)
    refine ⟨z (Nat.le_of_ble_eq_true rfl), fun t12 H12 n12 s12 x12 => ?_⟩
    have h3 := (h2.step s12).put (Vd.tup (n := 0) (m := 2000) (k := 1) (TX.hm x12 (h2.ne n12)) (all1 (Vd.non.le (by decide) (by decide))) (all1 Ji.non) (by decide)) (by decide) (by decide)
    refine ⟨z (Nat.le_of_ble_eq_true rfl), fun t13 H13 n13 s13 x13 => ⟨z (Nat.le_of_ble_eq_true rfl), fun t14 H14 n14 s14 x14 => ⟨z (Nat.le_of_ble_eq_true rfl), fun t15 H15 n15 s15 x15 => ?_⟩⟩⟩
    have h3b := h3.step s13
    have v13 : Vd (Hm d _) 1 3000 (.ref t13) := (Vd.tup (n := 0) (m := 2000) (k := 1) (xs := [.str "c"]) (TX.hm x13 (h3.ne n13)) (all1 L) (all1 (Ji.str _)) (by decide)).le (by decide) (by decide)
    have x13b := TX.hm (Tx.TX.same x13 s14) (h3.ne n13)
    have h3c := h3b.step s14
    have v14 : Vd (Hm d _) 2 4000 (.ref t14) := (Vd.tup (n := 1) (m := 3000) (k := 1) (xs := [.ref t13]) (TX.hm x14 (h3b.ne n14)) (all1 (v13.same (Same.hm s14))) (all1 (Ji.tup x13b)) (Nat.le_refl 1)).le (by decide) (by decide)
    have x14b := TX.hm (Tx.TX.same x14 s15) (h3b.ne n14)
    have h4 := (h3c.step s15).put (Vd.tup (n := 2) (m := 4000) (k := 1) (TX.hm x15 (h3c.ne n15)) (all1 (v14.same (Same.hm s15))) (all1 (Ji.tup x14b)) (Nat.le_refl 1)) (by decide) (by decide)
    refine ⟨10, 60, rfl, rfl, c10 (k := 60) (by decide), 10, 39, rfl, rfl, c10 (k := 39) (by decide), _, _, rfl, rfl, wide_mul (a := 400) (b := 400) (by decide +kernel) (by decide +kernel) (by decide) (by decide) (by decide), ?_⟩
    have h5 := (h4.put (T "\n" ⟨by decide, by decide +kernel⟩) (by decide) (by decide)).put (I (10 ^ (60 : Int).toNat * 10 ^ (39 : Int).toNat) (by decide +kernel)) (by decide) (by decide)
    refine ⟨z (Nat.le_of_ble_eq_true rfl), fun l2 m2 => ?_⟩
    refine ⟨l1, l2, _, _, rfl, rfl, (((((((s9.trans s10).trans s11).trans s12).trans s13).trans s14).trans s15).trans (Same.new m2)) _ _ upd_same, upd_same, z (Nat.le_of_ble_eq_true rfl), fun p m3 => ?_⟩
    refine ⟨_, rfl, _, rfl, 10, 60, rfl, rfl, c10 (k := 60) (by decide), 0, _, rfl, rfl, z (Nat.le_of_ble_eq_true rfl), fun l3 m4 => ?_⟩
    refine ⟨p, l3, _, _, rfl, rfl, (Same.new m4) _ _ upd_same, upd_same, z (Nat.le_of_ble_eq_true rfl), fun p2 m5 => ?_⟩
    have h6 := fun o : HO => Good.new (o := o) (Good.put (Good.new (Good.new h5 m2) m3) (I (0 - 10 ^ (60 : Int).toNat) (by decide +kernel)) (by decide) (by decide)) m4
    have h7 := fun o : HO => Good.new (o := o) (h6 _) m5
    simp only [List.nil_append, List.cons_append] at h7
    have hd2 := fun o : HO => (h6 o).same _ _ hd
    refine ⟨d, p2, n, _, rfl, (ne_of_none (hd2 _) m5).symm, SqL.of upd_same, Nat.le_of_ble_eq_true rfl, di.same (h7 _).same, hn, fun q ys H' nqd nq kp hq pm di2 => ?_⟩
    · refine k q ys H' nqd ((h7 _).same.free nq) (fun b o nb e => kp b o nb ((h7 _).same b o e)) hq pm.length_eq (fun y m => ((h7 _).all y (pm.subset m)).same kp.hm) di2
end
end Pr
namespace Pr
open PySem PySem.Spec PyProof.Rows L2 Gd PySem.Builtin PySem.Builtin.Str
/-! ### texts whose signs are small enough -/
def Ok16 (z : Str) : Prop := ∀ c ∈ z.cps.toList, c < 16 ^ 8
theorem Ok16.app {a b : Str} (h : Ok16 a) (k : Ok16 b) : Ok16 (a ++ b) := fun c m => by
  have e : (a ++ b).cps = a.cps ++ b.cps := rfl
  rw [e, Array.toList_append] at m
  exact (List.mem_append.mp m).elim (h c) (k c)
theorem char_small (c : Char) : c.toNat < 16 ^ 8 := by
  exact Nat.lt_of_lt_of_le c.val.toNat_lt (by decide)
theorem Ok16.of (s : String) : Ok16 (Str.ofString s) := fun c m => by
  rw [Str.ofString_eq_toList] at m
  have m' : c ∈ s.toList.map Char.toNat := by simpa using m
  obtain ⟨x, _, rfl⟩ := List.mem_map.mp m'
  exact char_small x
theorem reprChar_ok {q c : Nat} (hc : c < 16 ^ 8) : ∀ x ∈ reprChar q c, x < 16 ^ 8 := by
  have hex : ∀ (k : Nat), ∀ x ∈ List.replicate (k - ((Nat.toDigits 16 c).map Char.toNat).length) 48 ++ (Nat.toDigits 16 c).map Char.toNat, x < 16 ^ 8 := fun k x m => by
    rcases List.mem_append.mp m with m | m
    · rw [List.eq_of_mem_replicate m]
      decide
    · obtain ⟨y, _, rfl⟩ := List.mem_map.mp m
      exact char_small y
  have two : ∀ {a b : Nat}, a < 16 ^ 8 → b < 16 ^ 8 → ∀ x ∈ [a, b], x < 16 ^ 8 := fun ha hb x m => by
    rcases List.mem_cons.mp m with rfl | m
    · exact ha
    · rw [List.mem_singleton.mp m]
      exact hb
  have both : ∀ {a b : List Nat}, (∀ x ∈ a, x < 16 ^ 8) → (∀ x ∈ b, x < 16 ^ 8) → ∀ x ∈ a ++ b, x < 16 ^ 8 := fun ha hb x m => (List.mem_append.mp m).elim (ha x) (hb x)
  unfold reprChar
  dsimp only
  split
  · exact two (by decide) hc
  · split
    · exact two (by decide) (by decide)
    · split
      · exact two (by decide) (by decide)
      · split
        · exact two (by decide) (by decide)
        · split
          · intro x m
            rw [List.mem_singleton.mp m]
            exact hc
          · split
            · exact both (two (by decide) (by decide)) (hex 2)
            · split
              · exact both (two (by decide) (by decide)) (hex 4)
              · exact both (two (by decide) (by decide)) (hex 8)
theorem foldl_ok (q : Nat) : ∀ (l : List Nat) (acc : Array Nat), (∀ c ∈ l, c < 16 ^ 8) → (∀ c ∈ acc.toList, c < 16 ^ 8) → ∀ c ∈ (l.foldl (fun out c => out ++ (reprChar q c).toArray) acc).toList, c < 16 ^ 8
  | [], acc, _, h => h
  | c :: r, acc, hl, h => by
    rw [List.foldl_cons]
    refine foldl_ok q r _ (fun d m => hl d (List.mem_cons_of_mem _ m)) fun d m => ?_
    rw [Array.toList_append] at m
    exact (List.mem_append.mp m).elim (h d) (fun m => reprChar_ok (hl c List.mem_cons_self) d (by simpa using m))
theorem reprQuote_ok (x : Str) : reprQuote x < 16 ^ 8 := by
  have : reprQuote x = 34 ∨ reprQuote x = 39 := by
    unfold reprQuote
    split <;> simp
  rcases this with h | h <;> rw [h] <;> decide
theorem Ok16.repr {x : Str} (h : Ok16 x) : Ok16 (reprText x) := fun c m => by
  unfold reprText at m
  have m : c ∈ ((x.cps.foldl (fun out c => out ++ (reprChar (reprQuote x) c).toArray) #[reprQuote x]).push (reprQuote x)).toList := m
  rw [Array.toList_push, ← Array.foldl_toList] at m
  rcases List.mem_append.mp m with m | m
  · exact foldl_ok _ _ _ h (fun d q => by
      have e : d = reprQuote x := by simpa using q
      rw [e]
      exact reprQuote_ok x) c m
  · rw [List.mem_singleton.mp m]
    exact reprQuote_ok x
theorem Ok16.join {sep : Str} (hs : Ok16 sep) : ∀ {ts : List Str}, (∀ t ∈ ts, Ok16 t) → Ok16 (Str.join sep ts)
  | [], _ => Ok16.of ""
  | [x], h => h x List.mem_cons_self
  | x :: y :: r, h => ((h x List.mem_cons_self).app hs).app (Ok16.join hs fun t m => h t (List.mem_cons_of_mem _ m))
theorem Ok16.from : ∀ (ts : List Str) (k : Nat) (acc : Str), Ok16 acc → (∀ t ∈ ts, Ok16 t) → Ok16 (textFrom k acc ts)
  | [], _, _, h, _ => h
  | t :: ts, k, acc, h, ht => Ok16.from ts (k + 1) _ ((h.app (by split <;> exact Ok16.of _)).app (ht t List.mem_cons_self)) fun x m => ht x (List.mem_cons_of_mem _ m)
theorem Ok16.list {ts : List Str} (h : ∀ t ∈ ts, Ok16 t) : Ok16 (listText ts) := (Ok16.from ts 0 _ (Ok16.of "[") h).app (Ok16.of "]")
theorem Ok16.tuple {ts : List Str} (h : ∀ t ∈ ts, Ok16 t) : Ok16 (tupleText ts) := by
  unfold tupleText
  exact ((Ok16.of "(").app (Ok16.join (Ok16.of ", ") h)).app (by split <;> exact Ok16.of _)
theorem txt_join (sep : Str) (ts : List Str) : Txt.join sep ts = Str.join sep ts := by
  have h := PyProof.Rows.join_closes (sep := sep) (sep' := sep) (ys := ts) rfl
  exact eq_of_beq h
end Pr
/-! ### str of what is tracked -/
namespace Gd
open PySem PySem.Spec PyProof.Rows L2 PySem.Builtin.List
section
variable {P : Program} {w : World} {H : Hp} {h : Heap}
/-- what is known of a list or a tuple that is shown as t -/
def ShowsR (P : Program) (w : World) (h : Heap) (n : Nat) (a : Addr) (t : Str) : Prop := ∃ T idr : String, SlotG T "__repr__" idr ∧ Slot T "__str__" "object.__str__" ∧ (∀ s : Shared, (∀ b o, h.get? b = some o → s.heap.get? b = some o) → s.TypeIs (.ref a) T) ∧
      ∀ (A : Around) (E : Value → Shared → Prop) (s : Shared) (Q : Value → Shared → Prop), A.guards = some [] → A.units + n < cLine → (∀ b o, h.get? b = some o → s.heap.get? b = some o) →
        (∀ h' u tk, (∀ b o, s.heap.get? b = some o → h'.get? b = some o) → Q (.str t u) { s with heap := h', toks := tk }) → wpAny (model P w) A (call (.builtin idr) [.ref a]) Q E s
theorem shows_ref (ok : HOk P w H h) (n : Nat) : ∀ (a : Addr) (t : Str), Sh H n (.ref a) t → t.length ≤ sizeLine → (∀ kvs, H a ≠ some (.dK kvs)) →
    ShowsR P w h n a t := by
  induction n using Nat.strongRecOn with
  | ind n IH =>
    intro a t hv hz nd
    cases n with
    | zero => exact (Sc.noRef hv).elim
    | succ n =>
      have ih := fun v t u => repr_sh (P := P) (w := w) ok n v t u
      have ring : ∀ (bs : List Addr), (∀ b ∈ bs, Below H n b) → a ∈ bs → ShowsR P w h (n + 1) a t := fun bs hb m => by
        obtain ⟨m, hm, t', ht⟩ := hb a m
        have et : t = t' := Sh.det _ _ _ hv _ _ ht
        subst et
        obtain ⟨T, idr, s1, s2, s3, k⟩ := IH m (by omega) a t ht hz nd
        exact ⟨T, idr, s1, s2, s3, fun A E s Q hg hu => k A E s Q hg (by omega)⟩
      rcases id hv with c | ⟨b, xs, ts, eb, e, p, rfl⟩ | ⟨b, xs, ts, eb, e, p, rfl⟩ | ⟨b, kvs, ts, eb, e, p, rfl⟩
      · exact (Sc.noRef c).elim
      · cases eb
        obtain ⟨_, its, m, rv, ho⟩ := (show ObjOk P w H h a (.lst xs) from ok a _ e)
        obtain ⟨bs, hb, hk⟩ := all_repr ih p rv
        by_cases c : a ∈ bs
        · exact ring bs hb c
        · refine ⟨"list", "list.__repr__", F.slot_list_repr.toG, F.slot_list_str, fun s hk0 => ⟨_, hk0 _ _ ho, rfl⟩, fun A E s Q hg hu hk0 hQ => ?_⟩
          cases its with
          | nil =>
            cases hk
            rw [listText_nil] at hQ
            exact call_list_repr_empty ⟨_, hk0 _ _ ho, rfl⟩ (hk0 _ _ ho) rfl (hQ s.heap _ _ fun _ _ e => e)
          | cons x l =>
            exact call_list_reprK ho rfl rfl c (by simpa using hk.length_eq) (fun i y q => hk.item i y (by simpa using q)) hg (fun b _ => Clear.nil b) hu hk0 hQ hz
      · cases eb
        obtain ⟨ob, e, od⟩ := e
        obtain ⟨_, _, its, rv, o, ho, hc, m, hd⟩ := (show ObjOk P w H h a (.frz ob (.tup xs)) from ok a _ e)
        obtain ⟨bs, hb, hk⟩ := all_repr ih p rv
        by_cases c : a ∈ bs
        · exact ring bs hb c
        · exact ⟨"tuple", "tuple.__repr__", F.slot_tuple_repr, F.slot_tuple_str, fun s hk0 => ⟨_, hk0 _ _ ho, hc⟩, fun A E s Q hg hu hk0 hQ => call_tuple_reprK ho hc hd c (by simpa using hk) hg (fun b _ => Clear.nil b) hu hk0 hQ hz⟩
      · cases eb
        exact absurd e (nd kvs)
/-- what str gives -/
def strT : V → Str → Str
  | .str z, _ => z
  | _, t => t
theorem call_str_sh (ok : HOk P w H h) (n : Nat) (v : V) (t : Str) (u : Value) (hv : Sh H n v t) (r : RelV v u) (hz : t.length ≤ sizeLine) (nd : ∀ a kvs, v = .ref a → H a ≠ some (.dK kvs)) (A : Around) (E : Value → Shared → Prop) (s : Shared) (Q : Value → Shared → Prop)
    (hg : A.guards = some []) (hu : A.units + (n + 3) < cLine) (eh : s.heap = h)
    (hQ : ∀ h' z tk, (∀ b o, s.heap.get? b = some o → h'.get? b = some o) → Q (.str (strT v t) z) { s with heap := h', toks := tk }) : wpAny (model P w) A (call (.type "str") [u]) Q E s := by
  subst eh
  have plain : Sc v t → wpAny (model P w) A (call (.type "str") [u]) Q E s := fun c => by
    cases c with
    | non =>
      cases (show u = Value.none from r)
      exact PySem.P.str_of_none (hQ s.heap _ _ fun _ _ e => e)
    | bl b =>
      cases (show u = Value.bool b from r)
      exact PySem.P.str_of_bool (by
        have q := hQ s.heap s.toks (s.toks + 1) fun _ _ e => e
        cases b <;> exact q)
    | int i f =>
      obtain ⟨t, rfl⟩ := (show ∃ t, u = Value.int i t from r)
      exact PySem.P.str_of_int f (hQ s.heap _ _ fun _ _ e => e)
    | str x f =>
      obtain ⟨t, rfl⟩ := (show ∃ t, u = Value.str x t from r)
      exact PySem.P.str_of_str (hQ s.heap _ _ fun _ _ e => e)
  by_cases isr : ∃ a, v = .ref a
  · obtain ⟨a, rfl⟩ := isr
    cases (show u = Value.ref a from r)
    obtain ⟨T, idr, s1, s2, s3, k⟩ := shows_ref (P := P) (w := w) ok n a t hv hz (fun kvs => nd a kvs rfl)
    have key : wpAny (model P w) A.in1.in1 (Builtin.Str.strOf (.ref a)) (fun r s₁ => ∃ y u, r = .str y u ∧ Q r s₁) E s :=
      wpAny_strOf_slot rfl (by show A.units + 1 + 1 + 1 < cLine; omega) (s3 s fun _ _ e => e) s2 s1 (k A.in1.in1.in1 E s _ hg (by show A.units + 1 + 1 + 1 + n < cLine; omega) (fun _ _ e => e) fun h' u tk hk => ⟨_, _, rfl, _, _, rfl, hQ h' u tk hk⟩)
    refine callType_codes (T := "str") (Bi := Builtin.«object.__init__») (Q₁ := fun r s₁ => ∃ y u, r = .str y u ∧ Q r s₁) PySem.F.called_str (PySem.F.typeCall_str_1 _) PySem.F.entry_object_init ?_ ?_
    · refine codeAny_of_tree ?_
      show wpAny _ A.in1.in1 (do checkBuiltinCall "str.__new__" ⟨[.type "str", .ref a], []⟩; again (.builtin "str.__new__" ⟨[.type "str", .ref a], []⟩)) _ _ s
      refine wpAny_bind (wpAny_of_eq (PySem.F.newCall_str_1 _) (wpAny_pure ⟨plainId_quiet (by decide +kernel) _, codeAny_builtin PySem.F.entry_str_new ?_⟩))
      rw [Around.under_plainId (by decide +kernel) _]
      rw [PySem.str_new_tree]
      refine wpAny_bind (wpAny_pure ?_)
      refine wpAny_bind (wpAny_of_eq isSubtype_str_str ?_)
      exact wpAny_bind (wpAny_mono key (fun r s₁ hr => wpAny_pure hr) fun _ _ y => y)
    · rintro obj s₁ ⟨y, u, rfl, hq⟩
      exact ⟨typeIs_str _ _ _, PySem.F.args_object_init_2 _ _, object_init_meets PySem.F.called_str.init.lookup PySem.F.called_str.made (by decide) P w A.in1 _ s₁ ⟨typeIs_str _ _ _, rfl, hq⟩⟩
  · cases n with
    | zero => exact plain hv
    | succ n =>
      rcases hv with c | ⟨a, _, _, rfl, _⟩ | ⟨a, _, _, rfl, _⟩ | ⟨a, _, _, rfl, _⟩
      · exact plain c
      all_goals exact absurd ⟨_, rfl⟩ isr
end
section
variable {X : Cx}
def rStrV : List V → Hp → VK → Prop := fun vs H Q => ∃ (v : V) (n : Nat) (t : Str), vs = [v] ∧ Sh H n v t ∧ n ≤ 50 ∧ t.length ≤ sizeLine ∧ (∀ a kvs, v = .ref a → H a ≠ some (.dK kvs)) ∧ Q (.str (strT v t)) H
theorem call_strV (gd : X.A.guards = some []) (hu : X.A.units + 64 < cLine) : CallR X (.type "str") rStrV := by
  intro pins s σ H vs us Q I r h
  obtain ⟨v, n, t, rfl, hv, hn, hz, nd, q⟩ := h
  obtain ⟨u, rfl, ru⟩ := vals1 r
  exact call_str_sh I.hok n v t u hv ru hz nd X.A _ s _ gd (by omega) rfl fun h' z tk k => ⟨.str (strT v t), H, I.kept k, ⟨z, rfl⟩, q⟩
end
end Gd
namespace Pr
open PySem PySem.Spec PyProof.Rows L2 Gd
/-! ### rows that are drawn and spoilt -/
/-- what stands in a row: shown in at most m signs -/
structure Tk (H : Hp) (n m : Nat) (v : V) : Prop where
  sm : ∃ t, Sh H n v t ∧ t.length ≤ m ∧ Ok16 t
  str : ∀ z, v = .str z → z.length ≤ 10 ∧ Ok16 z
  ji : Ji H v
  items : ∀ a xs, v = .ref a → Tx.TX H a xs → xs.length ≤ 1000 ∧ ∀ x ∈ xs, Ji H x
theorem Tk.vd {H : Hp} {n m : Nat} {v : V} (h : Tk H n m v) : Vd H n m v := ⟨let ⟨t, s, l, _⟩ := h.sm; ⟨t, s, l⟩, h.items⟩
theorem Tk.le {H : Hp} {n m n' m' : Nat} {v : V} (h : Tk H n m v) (a : n ≤ n') (b : m ≤ m') : Tk H n' m' v := ⟨let ⟨t, s, l, o⟩ := h.sm; ⟨t, Sh.le a s, by omega, o⟩, h.str, h.ji, h.items⟩
theorem Tk.same {H H' : Hp} {n m : Nat} {v : V} (h : Tk H n m v) (s : Same H H') : Tk H' n m v := ⟨let ⟨t, q, l, o⟩ := h.sm; ⟨t, Sh.keep s n v t q, l, o⟩, h.str, h.ji.same s, (h.vd.same s).items⟩
theorem Tk.word {H : Hp} {z : Str} (l : z.length ≤ 9) (o : Ok16 z) : Tk H 0 100 (.str z) := by
  have r := StrLaws.reprText_len z o
  exact ⟨⟨_, Sc.str z (by rw [sizeLine_eq]; omega), by omega, o.repr⟩, fun y e => by cases e; exact ⟨by omega, o⟩, Ji.str z, (fun a xs e => (nomatch e))⟩
theorem Tk.non {H : Hp} : Tk H 0 100 .non := ⟨⟨_, Sc.non, by decide, Ok16.of _⟩, (fun y e => (nomatch e)), Ji.non, (fun a xs e => (nomatch e))⟩
theorem Tk.zero {H : Hp} : Tk H 0 100 (.int 0) := ⟨⟨_, Sc.int 0 (by decide), by decide +kernel, Ok16.of _⟩, (fun y e => (nomatch e)), Ji.int 0, (fun a xs e => (nomatch e))⟩
theorem paired_tk {H : Hp} {n m : Nat} : ∀ {xs : List V}, (∀ x ∈ xs, Tk H n m x) → ∃ ts, Paired (Sh H n) xs ts ∧ (ts.map (·.length)).sum ≤ xs.length * m ∧ ts.length = xs.length ∧ ∀ t ∈ ts, Ok16 t
  | [], _ => ⟨[], .nil, by simp, rfl, fun t m => nomatch m⟩
  | x :: xs, h => by
    obtain ⟨ts, p, s, l, o⟩ := paired_tk (xs := xs) fun y m => h y (List.mem_cons_of_mem _ m)
    obtain ⟨t, q, lt, ot⟩ := (h x List.mem_cons_self).sm
    refine ⟨t :: ts, .cons q p, ?_, by simp [l], fun y m => ?_⟩
    · rw [List.map_cons, List.sum_cons, List.length_cons, Nat.succ_mul]
      omega
    · rcases List.mem_cons.mp m with rfl | m
      · exact ot
      · exact o y m
theorem Tk.lst {H : Hp} {n m k : Nat} {a : Addr} {xs : List V} (e : H a = some (.lst xs)) (h : ∀ x ∈ xs, Tk H n m x) (hl : xs.length ≤ k) : Tk H (n + 1) (k * (m + 2) + 3) (.ref a) := by
  obtain ⟨ts, p, s, l, o⟩ := paired_tk h
  refine ⟨⟨_, Sh.lst e p, ?_, Ok16.list o⟩, (fun z e => (nomatch e)), Ji.lst e, fun b ys eb q => ?_⟩
  · have := listText_len_le ts
    have h2 : xs.length * (m + 2) ≤ k * (m + 2) := Nat.mul_le_mul_right _ hl
    rw [Nat.mul_add] at h2
    omega
  · cases eb
    obtain ⟨ob, e', od⟩ := q
    rw [e] at e'
    cases e'
theorem Tk.tup {H : Hp} {n m k : Nat} {a : Addr} {xs : List V} (e : Tx.TX H a xs) (h : ∀ x ∈ xs, Tk H n m x) (hl : xs.length ≤ k) (hk : k ≤ 1000 := by decide) : Tk H (n + 1) (k * (m + 2) + 3) (.ref a) := by
  obtain ⟨ts, p, s, l, o⟩ := paired_tk h
  refine ⟨⟨_, Sh.tup e p, ?_, Ok16.tuple o⟩, (fun z e => (nomatch e)), Ji.tup e, fun b ys eb q => ?_⟩
  · have := tupleText_len_le ts
    have h2 : xs.length * (m + 2) ≤ k * (m + 2) := Nat.mul_le_mul_right _ hl
    rw [Nat.mul_add] at h2
    omega
  · cases eb
    rw [← TX.eq e q]
    exact ⟨Nat.le_trans hl hk, fun x m => (h x m).ji⟩
/-- a row: a plain tuple of at most L such -/
structure Rw (H : Hp) (n m L : Nat) (a : Addr) (xs : List V) : Prop where
  tx : Tx.TX H a xs
  all : ∀ x ∈ xs, Tk H n m x
  few : xs.length ≤ L
theorem Rw.same {H H' : Hp} {n m L : Nat} {a : Addr} {xs : List V} (h : Rw H n m L a xs) (s : Same H H') : Rw H' n m L a xs := ⟨Tx.TX.same h.tx s, fun x m => (h.all x m).same s, h.few⟩
theorem Rw.le {H : Hp} {n m L n' m' L' : Nat} {a : Addr} {xs : List V} (h : Rw H n m L a xs) (e1 : n ≤ n') (e2 : m ≤ m') (e3 : L ≤ L') : Rw H n' m' L' a xs := ⟨h.tx, fun x q => (h.all x q).le e1 e2, Nat.le_trans h.few e3⟩
theorem Rw.tk {H : Hp} {n m L : Nat} {a : Addr} {xs : List V} (h : Rw H n m L a xs) (hL : L ≤ 1000) : Tk H (n + 1) (L * (m + 2) + 3) (.ref a) := Tk.tup h.tx h.all h.few hL
/-- the words of drawn rows -/
def wpool : List Str := hole :: pool
theorem wpool_ok : ∀ z ∈ wpool, z.length ≤ 9 ∧ Ok16 z := by
  show ∀ z ∈ wpool, z.length ≤ 9 ∧ ∀ c ∈ z.cps.toList, c < 16 ^ 8
  decide +kernel
theorem Tk.pool {H : Hp} {z : Str} (h : z ∈ wpool) : Tk H 0 100 (.str z) := Tk.word (wpool_ok z h).1 (wpool_ok z h).2
theorem Fo.words {l : List (Str × Nat)} (ar : Ars l) : ∀ {n : Nat} {zs : List Str}, Fo l n zs → ∀ z ∈ zs, z ∈ wpool
  | _, _, .nil, z, h => nomatch h
  | _, _, .cons m f, z, h => by
    rcases List.mem_cons.mp h with rfl | h
    · exact List.mem_cons_of_mem _ (ar.pool _ m)
    · exact f.words ar z h
theorem Rw.pool {H : Hp} {a : Addr} {zs : List Str} {L : Nat} (t : Tx.TX H a (zs.map V.str)) (h : ∀ z ∈ zs, z ∈ wpool) (l : zs.length ≤ L) : Rw H 0 100 L a (zs.map V.str) :=
  ⟨t, fun x m => by
    obtain ⟨z, hz, rfl⟩ := List.mem_map.mp m
    exact Tk.pool (h z hz), by rw [List.length_map]; exact l⟩
/-! ### slices of plain tuples -/
theorem cut_from {xs : List V} {p : Nat} : cutV xs (some (p : Int)) none = xs.drop p := by
  unfold cutV
  rw [HT.sIx_nat, show HT.sIx xs.length xs.length none = xs.length from rfl]
  rcases Nat.lt_or_ge xs.length p with h | h
  · rw [Nat.min_eq_right (by omega), List.drop_of_length_le (Nat.le_refl _), List.drop_of_length_le (by omega), List.take_nil]
  · rw [Nat.min_eq_left h]
    exact List.take_of_length_le (by rw [List.length_drop]; omega)
theorem cut_to {xs : List V} {p : Nat} (h : p ≤ xs.length) : cutV xs none (some (p : Int)) = xs.take p := by
  unfold cutV
  rw [HT.sIx_nat, show HT.sIx xs.length 0 none = 0 from rfl, Nat.min_eq_left h, List.drop_zero, Nat.sub_zero]
theorem TX.sh {K : PySem.W.Frag} {H : Hp} {a : Addr} {xs : List V} (h : Tx.TX H a xs) : SqT K H a xs := h.sq
end Pr
namespace Pr
open PySem PySem.Spec PyProof.Rows L2 Gd
/-! ### _law_end, _law_drawn_context: a row of words again -/
def spEndS : Sp := fun vs H Q _ => ∃ (ad t : Addr) (l : List (Str × Nat)) (zs : List Str) (p : Nat), vs = [.ref ad, .ref t, .int (p : Int)] ∧ H ad = some (.dK (dkv l)) ∧ Tx.TX H t (zs.map V.str) ∧ p ≤ zs.length ∧ ∀ (e : Nat) H', p ≤ e → e ≤ zs.length → Same H H' → Q (.int (e : Int)) H'
theorem noPart {σ : L2.St} {H : Hp} {k : Option Int → Hp → Prop} (h : k none H) : tNoPart σ H k := h
theorem slF {H : Hp} {a : Addr} {xs : List V} {p : Nat} {Q : VK} (h : Tx.TX H a xs) (q : ∀ b H2, Same H H2 → Tx.TX H2 b (xs.drop p) → Q (.ref b) H2) : Tx.rSlX (.ref a) (some (p : Int)) none H Q :=
  ⟨a, xs, rfl, h, fun b H2 s t => q b H2 s (by rw [cut_from] at t; exact t)⟩
theorem slT {H : Hp} {a : Addr} {xs : List V} {p : Nat} {Q : VK} (h : Tx.TX H a xs) (hp : p ≤ xs.length) (q : ∀ b H2, Same H H2 → Tx.TX H2 b (xs.take p) → Q (.ref b) H2) : Tx.rSlX (.ref a) none (some (p : Int)) H Q :=
  ⟨a, xs, rfl, h, fun b H2 s t => q b H2 s (by rw [cut_to hp] at t; exact t)⟩
theorem TX.kp {d a : Addr} {H H' : Hp} {xs : List V} (h : Tx.TX H a xs) (k : Kp d H H') (n : a ≠ d) : Tx.TX H' a xs := let ⟨o, e, x⟩ := h; ⟨o, k _ _ n e, x⟩
theorem TX.ne {d a : Addr} {H : Hp} {xs ys : List V} (h : Tx.TX H a xs) (e : H d = some (.lst ys)) : a ≠ d := fun q => by
  obtain ⟨o, e', _⟩ := h
  rw [q, e] at e'
  cases e'
def spDCtx3 : Sp := fun vs H Q _ => ∃ (d p : Addr) (cap n : Nat) (l : List (Str × Nat)), vs = [.ref d, .ref p, .int (cap : Int)] ∧ p ≠ d ∧ H p = some (.dK (dkv l)) ∧ Ars l ∧ 1 ≤ cap ∧ cap ≤ 400 ∧ Dice H d n ∧ n + 2 * cap + 4 < 1000000 ∧
  ∀ (q : Addr) (zs : List Str) (H' : Hp), q ≠ d → Kp d H H' → Tx.TX H' q (zs.map V.str) → (∀ z ∈ zs, z ∈ wpool) → zs.length ≤ cap + 2 → Dice H' d (n + 2 * cap + 4) → Q (.ref q) H'
section
variable {P : Program} {w : World} {K : PySem.W.Frag} {mg : Str → Option Value} {base : Heap} {fR fP fM : Addr} {dR dP dM : FuncData} {fD fE : Addr} {dD dE : FuncData}
theorem scEndL : FnScope ["arities", "tree", "place", "left", "there", "name"] ["arities", "tree", "place"] (defScope sEndL) := ⟨rfl, rfl, rfl, by decide +kernel, rfl, by decide +kernel, by decide +kernel⟩
theorem ok_endS {f : Addr} {fd : FuncData} (F : Fun K "_law_end" "_law_end" sEndL f fd) (T : Free mg) : FnOk P w K mg base CX0 1 f fd ["arities", "tree", "place"] spEndS := by
  refine F.ok scEndL (fun vs H Q E h => ?_) (fun cdv A outer s H vs Q E hr h => ?_)
  · obtain ⟨ad, t, l, zs, p, rfl, _⟩ := h
    rfl
  · obtain ⟨ad, t, l, zs, p, rfl, had, ht, hp, q⟩ := h
    have hu := hr.units
    have hu1 : ∀ {u : Nat}, u + 64 < cLine → u + 1 < cLine := fun h => by omega
    refine ⟨_, pss_cons (ps_par (i := 3) (j := 4) (by rfl) scEndL.nd rfl rfl (by decide) rfl rfl (pa_cons pe_int (pa_cons (pv 2) pa_nil)) (by rfl))
      (pss_cons (ps_for PassesOwn.never rfl (pi_tup (pe_slice Tx.sl_tupX (pv 1) (po_some (pv 2)) po_none)) (pg_name (i := 5) scEndL.nd rfl (.inl rfl))
        (pss_cons (ps_par (i := 3) (j := 4) (by rfl) scEndL.nd rfl rfl (by decide) rfl rfl (pa_cons (pe_op op_add (pe_op op_sub (pv 3) pe_int) (pe_dget2 (hu1 hu) (pv 0) (pv 5) pe_int ⟨by rfl, by rfl, by rfl, by rfl⟩)) (pa_cons (pe_op op_add (pv 4) pe_int) pa_nil)) (by rfl))
        (pss_one (ps_if (pt_cmpR op_eq (pv 3) pe_int (nomark _)) (pss_one ps_break) pss_nil))))
      (pss_one (ps_ret (pv 4)))), ?_⟩
    have ed : ((zs.map V.str).drop p).length = zs.length - p := by rw [List.length_drop, List.length_map]
    refine ⟨_, rfl, _, _, rfl, _, rfl, _, rfl, _, rfl, noPart (slF ht fun b1 H1 s1 w1 => ?_)⟩
    refine ⟨b1, rfl, ⟨_, w1.sq⟩, ?_⟩
    refine for_tup (K := K) (a := b1) (xs := (zs.map V.str).drop p) (fun i σ H' => H' = H1 ∧ ∃ (k : Int) (v5 : Option V), σ = [some (.ref ad), some (.ref t), some (.int (p : Int)), some (.int k), some (.int ((p + i : Nat) : Int)), v5])
      ⟨rfl, 1, none, rfl⟩ (fun i σ H' _ ⟨e, _⟩ => by rw [e]; exact w1.sq) ?_ ?_
    · rintro i x σ H' hx ⟨rfl, k, v5, rfl⟩
      have hi := (List.getElem?_eq_some_iff.mp hx).1
      rw [ed] at hi
      obtain ⟨z, _, rfl⟩ := List.mem_map.mp (List.mem_of_mem_drop (List.mem_of_getElem? hx))
      have ha1 := s1 _ _ had
      refine ⟨_, rfl, _, _, rfl, rfl, _, rfl, ad, rfl, .inl ⟨_, .inl ha1⟩, _, rfl, _, DGet.k (k := .inr z) ha1, ?_⟩
      rw [get_ar]
      have e2 : ((p + i : Nat) : Int) + 1 = ((p + (i + 1) : Nat) : Int) := by omega
      refine ⟨_, _, rfl, rfl, _, rfl, _, _, rfl, rfl, _, _, rfl, ?_⟩
      refine ⟨_, rfl, rfl, _, rfl, ?_⟩
      by_cases c : k - 1 + ar0 l (.str z) = 0
      · refine if_true_of (decide_eq_true (congrArg V.int c)) ⟨_, rfl, ?_⟩
        show Q (.int (((p + i : Nat) : Int) + 1)) H'
        rw [e2]
        exact q _ _ (by omega) (by omega) s1
      · refine if_false_of (decide_eq_false fun z => c (V.int.inj z)) ⟨rfl, k - 1 + ar0 l (.str z), some (.str z), ?_⟩
        show ([some (V.ref ad), some (V.ref t), some (V.int (p : Int)), some (V.int (k - 1 + ar0 l (.str z))), some (V.int (((p + i : Nat) : Int) + 1)), some (V.str z)] : L2.St) = _
        rw [e2]
    · rintro σ H' ⟨rfl, k, v5, rfl⟩
      rw [ed]
      exact ⟨_, rfl, q _ _ (by omega) (by omega) s1⟩
theorem scDCtx : FnScope ["dice", "arities", "cap", "tree", "at"] ["dice", "arities", "cap"] (defScope sDCtx) := ⟨rfl, rfl, rfl, by decide +kernel, rfl, by decide +kernel, by decide +kernel⟩
theorem ok_dctx {f : Addr} {fd : FuncData} (F : Fun K "_law_drawn_context" "_law_drawn_context" sDCtx f fd) (D : Draws K mg fR fP fM dR dP dM) (FD : Fun K "_law_drawn_tree" "_law_drawn_tree" sDrawn fD dD) (bD : Binds K dD ["dice", "arities", "cap"] []) (gD : mg "_law_drawn_tree" = some (.ref fD))
    (FE : Fun K "_law_end" "_law_end" sEndL fE dE) (bE : Binds K dE ["arities", "tree", "place"] []) (gE : mg "_law_end" = some (.ref fE)) (T : Free mg) : FnOk P w K mg base CX0 4 f fd ["dice", "arities", "cap"] spDCtx3 := by
  have GR : FnOk P w K mg base CX0 1 fR dR ["dice", "total"] spRoll := ok_roll D.FR T
  have GD : FnOk P w K mg base CX0 3 fD dD ["dice", "arities", "cap"] spDrawn := ok_drawn FD D T
  have GE : FnOk P w K mg base CX0 1 fE dE ["arities", "tree", "place"] spEndS := ok_endS FE T
  refine F.ok scDCtx (fun vs H Q E h => ?_) (fun cdv A outer s H vs Q E hr h => ?_)
  · obtain ⟨d, p, cap, n, l, rfl, _⟩ := h
    rfl
  · obtain ⟨d, p, cap, n, l, rfl, npd, hp, ars, c1, c4, di, hn, q⟩ := h
    refine ⟨_, pss_cons (ps_set (i := 3) scDCtx.nd rfl (.inl rfl) (pe_call GD (hr.mono (by decide)) (by rfl) gD FD.kp bD .nil pass0 (pa_cons (pv 0) (pa_cons (pv 1) (pa_cons (pv 2) pa_nil)))))
      (pss_cons (ps_set (i := 4) scDCtx.nd rfl (.inl rfl) (pe_call GR (hr.mono (by decide)) (by rfl) D.gR D.FR.kp D.bR .nil pass0 (pa_cons (pv 0) (pa_cons (pe_callB call_len_seq (by rfl) T.len PySem.boot_len (pa_cons (pv 3) pa_nil)) pa_nil))))
      (pss_one (ps_ret (pe_op Tx.op_catX (pe_op Tx.op_catX (pe_slice Tx.sl_tupX (pv 3) po_none (po_some (pv 4))) (Tx.pe_tupX (pa_cons pe_str pa_nil))) (pe_slice Tx.sl_tupX (pv 3) (po_some (pe_call GE (hr.mono (by decide)) (by rfl) gE FE.kp bE .nil pass0 (pa_cons (pv 1) (pa_cons (pv 3) (pa_cons (pv 4) pa_nil))))) po_none))))), ?_⟩
    refine ⟨_, rfl, _, rfl, _, rfl, d, p, cap, n, l, rfl, npd, hp, ars, c1, c4, di, by omega, fun t zs H1 td tn k1 ht fo lz di1 => ?_⟩
    have lzv : (zs.map V.str).length = zs.length := List.length_map _
    have pos : 0 < zs.length := by
      cases zs with
      | nil => cases fo
      | cons _ _ => simp
    refine ⟨_, rfl, _, rfl, t, _, rfl, .inr ht.sq, d, _, _, rfl, di1, by omega, by rw [lzv]; omega, by rw [lzv]; omega, fun r o1 r0 r1 di2 => ?_⟩
    obtain ⟨a, rfl⟩ := Int.eq_ofNat_of_zero_le r0
    rw [lzv] at r1
    have ha : a < zs.length := by omega
    have k2 : Kp d H1 (upd H1 d o1) := Kp.upd
    have w0 : Tx.TX (upd H1 d o1) t (zs.map V.str) := TX.kp ht k2 td
    have hp2 := k2 _ _ npd (k1 _ _ npd hp)
    have k02 := k1.trans k2
    obtain ⟨ds2, hd2⟩ := di2.there
    generalize upd H1 d o1 = H2 at w0 hp2 k02 di2 hd2 ⊢
    refine ⟨_, rfl, _, rfl, _, rfl, slT w0 (by rw [lzv]; omega) fun b1 H3 s3 w3 => ?_⟩
    refine ⟨by show 1 ≤ sizeLine; decide, fun b2 H4 n4 s4 w4 => ?_⟩
    refine ⟨b1, b2, _, _, rfl, rfl, Tx.TX.same w3 s4, w4, by rw [List.length_take, lzv, sizeLine_eq]; simp; omega, fun b3 H5 s5 w5 => ?_⟩
    have s25 := (s3.trans s4).trans s5
    refine ⟨_, rfl, _, rfl, _, rfl, _, rfl, p, t, l, zs, a, rfl, s25 _ _ hp2, Tx.TX.same w0 s25, by omega, fun e H6 e1 e2 s6 => ?_⟩
    have s26 := s25.trans s6
    refine ⟨_, rfl, noPart (slF (Tx.TX.same w0 s26) fun b4 H7 s7 w7 => ?_)⟩
    refine ⟨b3, b4, _, _, rfl, rfl, Tx.TX.same w5 (s6.trans s7), w7, by rw [List.length_append, List.length_take, List.length_drop, lzv, sizeLine_eq]; simp; omega, fun b5 H8 s8 w8 => ?_⟩
    have s28 := (s26.trans s7).trans s8
    have ex : (zs.map V.str).take a ++ [V.str "_"] ++ (zs.map V.str).drop e = ((zs.take a ++ [hole] ++ zs.drop e).map V.str) := by
      rw [List.map_append, List.map_append, List.map_take, List.map_drop]
      rfl
    rw [ex] at w8
    refine q b5 _ H8 (TX.ne w8 (s28 _ _ hd2)) (k02.trans (Kp.same s28)) w8 (fun z m => ?_) ?_ ((di2.same s28).more (by omega) (by omega))
    · have words := fo.words ars
      rcases List.mem_append.mp m with m | m
      · rcases List.mem_append.mp m with m | m
        · exact words z (List.mem_of_mem_take m)
        · rw [List.mem_singleton.mp m]
          exact List.mem_cons_self
      · exact words z (List.mem_of_mem_drop m)
    · rw [List.length_append, List.length_append, List.length_take, List.length_drop]
      simp
      omega
end
end Pr
namespace Pr
open PySem PySem.Spec PyProof.Rows L2 Gd
/-! ### _law_near_row -/
section
variable {P : Program} {w : World} {K : PySem.W.Frag} {mg : Str → Option Value} {base : Heap} {fR fP fM : Addr} {dR dP dM : FuncData}
theorem scNear : FnScope ["dice", "arities", "row", "at", "way", "names", "word", "text"] ["dice", "arities", "row"] (defScope sNear) := ⟨rfl, rfl, rfl, by decide +kernel, rfl, by decide +kernel, by decide +kernel⟩
/-- what comes of a row -/
def Out (H : Hp) (n m L : Nat) (v : V) : Prop := Vd H 8 10000000 v ∧ ∀ q, v = .ref q → (∃ ys, Rw H (n + 1) (L * (m + 2) + 3) (3 * L + 1) q ys) ∨ ∃ ty, Kd H v ty ∧ ty ≠ "tuple"
def spNear : Sp := fun vs H Q _ => ∃ (d p r : Addr) (l : List (Str × Nat)) (xs : List V) (n m L k : Nat), vs = [.ref d, .ref p, .ref r] ∧ p ≠ d ∧ r ≠ d ∧ H p = some (.dK (dkv l)) ∧ Ars l ∧ Rw (Hm d H) n m L r xs ∧ 1 ≤ n ∧ n ≤ 5 ∧ 105 ≤ m ∧ m ≤ 1501 ∧ 1 ≤ L ∧ L ≤ 43 ∧ Dice H d k ∧ k + 3 < 1000000 ∧
  ∀ (v : V) (H' : Hp), Kp d H H' → v ≠ .ref d → Out (Hm d H') n m L v → Dice H' d (k + 3) → Q v H'
theorem bnd {m L : Nat} (m5 : m ≤ 1501) (l5 : L ≤ 43) : (3 * L + 1) * ((L * (m + 2) + 3) + 2) + 3 ≤ 10000000 ∧ L * (m + 2) ≤ 64629 := by
  have a : L * (m + 2) ≤ 43 * 1503 := Nat.mul_le_mul l5 (by omega)
  have b : (3 * L + 1) * ((L * (m + 2) + 3) + 2) ≤ 130 * 64634 := Nat.mul_le_mul (by omega) (by omega)
  omega
theorem outR {H : Hp} {n m L : Nat} {b : Addr} {ys : List V} (n5 : n ≤ 5) (m5 : m ≤ 1501) (l5 : L ≤ 43) (h : Rw H (n + 1) (L * (m + 2) + 3) (3 * L + 1) b ys) : Out H n m L (.ref b) :=
  ⟨(h.tk (by omega)).vd.le (by omega) (bnd m5 l5).1, fun q e => by cases e; exact .inl ⟨ys, h⟩⟩
theorem mle {m L : Nat} (l1 : 1 ≤ L) : m ≤ L * (m + 2) + 3 := by
  have := Nat.le_mul_of_pos_left (m + 2) (show 0 < L by omega)
  omega
/-- a row of what stood in the row, and of other things -/
theorem outI {H : Hp} {n m L : Nat} {b : Addr} {ys : List V} (n5 : n ≤ 5) (m5 : m ≤ 1501) (l1 : 1 ≤ L) (l5 : L ≤ 43) (t : Tx.TX H b ys) (h : ∀ y ∈ ys, Tk H n m y) (l : ys.length ≤ 3 * L + 1) : Out H n m L (.ref b) :=
  outR n5 m5 l5 ⟨t, fun y q => (h y q).le (by omega) (mle l1), l⟩
theorem Tk.c1 {H : Hp} {a : Addr} (t : Tx.TX H a [.str "c"]) : Tk H 1 105 (.ref a) := (Tk.tup (n := 0) (m := 100) (k := 1) t (fun x q => by
  rw [List.mem_singleton.mp q]
  exact Tk.pool (by decide)) (by decide)).le (by decide) (by decide)
theorem Tk.c2 {H : Hp} {a : Addr} (t : H a = some (.lst [.str "c"])) : Tk H 1 105 (.ref a) := (Tk.lst (n := 0) (m := 100) (k := 1) t (fun x q => by
  rw [List.mem_singleton.mp q]
  exact Tk.pool (by decide)) (by decide)).le (by decide) (by decide)
theorem Ars.words {l : List (Str × Nat)} {ks : List Str} (ars : Ars l) (pk : ks.Perm (l.map (·.1))) : ∀ v ∈ ks.map V.str ++ [V.str "_"], ∃ z, z ∈ wpool ∧ v = .str z := fun v q => by
  rcases List.mem_append.mp q with q | q
  · obtain ⟨z, hz, rfl⟩ := List.mem_map.mp q
    obtain ⟨y, hy, rfl⟩ := List.mem_map.mp (pk.mem_iff.mp hz)
    exact ⟨_, List.mem_cons_of_mem _ (ars.pool y hy), rfl⟩
  · exact ⟨hole, List.mem_cons_self, List.mem_singleton.mp q⟩
theorem Out.same {H H' : Hp} {n m L : Nat} {v : V} (h : Out H n m L v) (s : Same H H') : Out H' n m L v :=
  ⟨h.1.same s, fun q e => (h.2 q e).elim (fun ⟨ys, r⟩ => .inl ⟨ys, r.same s⟩) fun ⟨ty, k, ne⟩ => .inr ⟨ty, k.same s, ne⟩⟩
theorem Ji.nd {H : Hp} {v : V} (h : Ji H v) : ∀ a kvs, v = .ref a → H a ≠ some (.dK kvs) := fun a kvs e q => by
  obtain ⟨ty, k, ne⟩ := h
  subst e
  cases k with
  | lst e =>
    rw [e] at q
    cases q
  | tup e =>
    obtain ⟨o, e, _⟩ := e
    rw [e] at q
    cases q
  | dK e => exact ne rfl
theorem strT_ok {H : Hp} {n m : Nat} {v : V} {t : Str} (k : Tk H n m v) (l : t.length ≤ m) (o : Ok16 t) : (strT v t).length ≤ m + 10 ∧ Ok16 (strT v t) := by
  cases v with
  | str z =>
    obtain ⟨a, b⟩ := k.str z rfl
    exact ⟨by show z.length ≤ _; omega, b⟩
  | _ => exact ⟨by show t.length ≤ _; omega, o⟩
theorem joinR {H : Hp} {T R : Addr → Hp → Prop} {A : Prop} (f : (∀ p H2, Same H H2 → T p H2 → R p H2) → A) (g : ∀ p H2, Same H H2 → T p H2 → R p H2) : A := f g
theorem flat_nil {m : Nat} {xs : List V} (e : xs = []) : xs = (List.replicate m xs).flatten := by
  rw [e]
  simp
theorem sum_snoc (ys : List Str) (y : Str) : ((ys ++ [y]).map (·.length)).sum = (ys.map (·.length)).sum + y.length := by
  simp
theorem ok_near {f : Addr} {fd : FuncData} (F : Fun K "_law_near_row" "_law_near_row" sNear f fd) (D : Draws K mg fR fP fM dR dP dM) (T : Free mg) : FnG P w K mg base CX0 3 f fd ["dice", "arities", "row"] spNear := by
  have GR : FnOk P w K mg base CX0 1 fR dR ["dice", "total"] spRoll := ok_roll D.FR T
  have GP : FnOk P w K mg base CX0 2 fP dP ["dice", "items"] (spPick K) := ok_pick D T
  refine FnG.ok F scNear (fun vs H Q E h => ?_) (fun cdv A outer s H vs Q E hr gd h => ?_)
  · obtain ⟨d, p, r, l, xs, n, m, L, k, rfl, _⟩ := h
    rfl
  · obtain ⟨d, p, r, l, xs, n, m, L, k, rfl, pd, rd, hp, ars, rw_, n1, n5, m1, m5, l1, l5, di, hk, q⟩ := h
    have hu := hr.units
    refine ⟨_, pss_cons (ps_par3 (i := 3) (j := 4) (l := 5) (by rfl) scNear.nd rfl rfl rfl (by decide) (by decide) (by decide) rfl rfl rfl
        (pa_cons (pe_call GR (hr.mono (by decide)) (by rfl) D.gR D.FR.kp D.bR .nil pass0 (pa_cons (pv 0) (pa_cons (pe_op op_add (pe_callB call_len_seq (by rfl) T.len PySem.boot_len (pa_cons (pv 2) pa_nil)) pe_int) pa_nil)))
        (pa_cons (pe_call GR (hr.mono (by decide)) (by rfl) D.gR D.FR.kp D.bR .nil pass0 (pa_cons (pv 0) (pa_cons pe_int pa_nil)))
        (pa_cons (pe_op op_cat (pe_callB (call_sortedD (by rfl)) (by rfl) T.sorted (by decide +kernel) (pa_cons (pv 1) pa_nil)) (pe_lst (pa_cons pe_str pa_nil))) pa_nil))) (by rfl))
      (pss_cons (ps_if (pt_cmpR op_eq (pv 4) pe_int (nomark _)) (pss_one (ps_ret (pe_op Tx.op_catX (pe_slice Tx.sl_tupX (pv 2) po_none (po_some (pv 3))) (pe_slice Tx.sl_tupX (pv 2) (po_some (pe_op op_add (pv 3) pe_int)) po_none)))) pss_nil)
      (pss_cons (ps_if (pt_cmpR op_lt (pv 4) pe_int (nomark _)) (pss_one (ps_ret (pe_op Tx.op_catX (pe_op Tx.op_catX (pe_slice Tx.sl_tupX (pv 2) po_none (po_some (pv 3)))
          (Tx.pe_tupX (pa_cons (pe_call GP (hr.mono (by decide)) (by rfl) D.gP D.FP.kp D.bP .nil pass0 (pa_cons (pv 0) (pa_cons (pv 5) pa_nil))) pa_nil))) (pe_slice Tx.sl_tupX (pv 2) (po_some (pv 3)) po_none)))) pss_nil)
      (pss_cons (ps_if (pt_cmpR op_lt (pv 4) pe_int (nomark _)) (pss_cons (ps_set (i := 6) scNear.nd rfl (.inl rfl) (pe_call GP (hr.mono (by decide)) (by rfl) D.gP D.FP.kp D.bP .nil pass0 (pa_cons (pv 0) (pa_cons (pe_op op_cat (pv 5)
            (pe_lst (pa_cons pe_str (pa_cons pe_str (pa_cons pe_str (pa_cons pe_str (pa_cons pe_int (pa_cons pe_non (pa_cons (Tx.pe_tupX (pa_cons pe_str pa_nil)) (pa_cons (pe_lst (pa_cons pe_str pa_nil)) pa_nil)))))))))) pa_nil))))
          (pss_one (ps_ret (pe_op Tx.op_catX (pe_op Tx.op_catX (pe_slice Tx.sl_tupX (pv 2) po_none (po_some (pv 3))) (Tx.pe_tupX (pa_cons (pv 6) pa_nil))) (pe_slice Tx.sl_tupX (pv 2) (po_some (pe_op op_add (pv 3) pe_int)) po_none))))) pss_nil)
      (pss_cons (ps_if (pt_cmpR op_eq (pv 4) pe_int (nomark _))
        (pss_cons (ps_set (i := 7) scNear.nd rfl (.inl rfl) (pe_bm PySem.F.plainAttrs_str PySem.F.slot_str_join PySem.F.type_str_join mt_join pe_str (pa_cons (pe_lc (own := [("word", 6)]) (g := gName 6) (by rfl) scNear.nd (pi_tup (pv 2)) (blkOk_by (own := [("word", 6)]) (N := ["dice", "arities", "row", "at", "way", "names", "word", "text"]) (sc := defScope sNear) (by decide +kernel))
            (fun _ _ _ _ _ => pg_name (i := 6) scNear.nd rfl (Or.inl rfl)) (fun _ _ _ _ _ => pts_nil) (fun _ _ _ _ _ => pe_callTy (call_strV gd hu) (by rfl) T.str (by decide +kernel) (pa_cons (pv 6) pa_nil))) pa_nil)))
          (pss_one (ps_ret (pe_call GP (hr.mono (by decide)) (by rfl) D.gP D.FP.kp D.bP .nil pass0 (pa_cons (pv 0) (pa_cons (pe_lst (pa_cons (pe_callTy call_list_of (by rfl) T.list (by decide +kernel) (pa_cons (pv 2) pa_nil)) (pa_cons (pe_op Tx.op_catX (pv 2) (pv 2))
            (pa_cons (Tx.pe_tupX (pa_cons (pv 2) pa_nil)) (pa_cons (pv 7) (pa_cons (Tb.pe_revX (pv 2)) (pa_cons pe_dnewK (pa_cons pe_non (pa_cons (pe_op Tb.op_repX (pv 2) pe_int) pa_nil))))))))) pa_nil)))))) pss_nil)
      (pss_one (ps_ret (pv 2))))))), ?_⟩
    have tx := (TX.un rw_.tx).1
    have lx := rw_.few
    refine ⟨_, rfl, _, rfl, r, _, rfl, .inr tx.sq, _, _, rfl, rfl, d, _, k, rfl, di, by omega, by omega, by omega, fun a0 o1 r0 r1 di1 => ?_⟩
    refine ⟨_, rfl, d, 9, k + 1, rfl, di1, by omega, by omega, by omega, fun w0 o2 w1 w2 di2 => ?_⟩
    obtain ⟨a, rfl⟩ := Int.eq_ofNat_of_zero_le r0
    have ha : a ≤ xs.length := by omega
    have k2 : Kp d H (upd (upd H d o1) d o2) := Kp.upd.trans Kp.upd
    have hp2 := k2 _ _ pd hp
    have tx2 := TX.kp tx k2 rd
    have few := ars.few
    generalize upd (upd H d o1) d o2 = H2 at k2 hp2 tx2 di2 ⊢
    obtain ⟨ds2, hd2⟩ := di2.there
    refine ⟨_, rfl, p, dkv l, l.map (·.1), rfl, .inl hp2, by unfold dkv; rw [List.map_map, List.map_map]; rfl, by rw [List.length_map]; omega, fun ks nsA pk srt nns => ?_⟩
    refine ⟨by show 1 ≤ sizeLine; decide, fun nb nnb => ⟨nsA, nb, _, _, rfl, rfl, (Same.new nnb) _ _ upd_same, upd_same, by rw [List.length_map, pk.length_eq, List.length_map, sizeLine_eq]; simp; omega, fun na nna => ?_⟩⟩
    have sN : Same H2 (upd (upd (upd H2 nsA (.lst (ks.map V.str))) nb (.lst [.str "_"])) na (.lst (ks.map V.str ++ [.str "_"]))) := ((Same.new nns).trans (Same.new nnb)).trans (Same.new nna)
    have hN : (upd (upd (upd H2 nsA (.lst (ks.map V.str))) nb (.lst [.str "_"])) na (.lst (ks.map V.str ++ [.str "_"]))) na = some (.lst (ks.map V.str ++ [V.str "_"])) := upd_same
    refine ⟨_, _, _, rfl, ?_⟩
    generalize upd (upd (upd H2 nsA (.lst (ks.map V.str))) nb (.lst [.str "_"])) na (.lst (ks.map V.str ++ [.str "_"])) = H5 at sN hN ⊢
    have nad : na ≠ d := fun e => by
      have s12 := ((Same.new nns (o := HO.lst (ks.map V.str))).trans (Same.new nnb (o := HO.lst [.str "_"]))) _ _ hd2
      rw [e, s12] at nna
      cases nna
    have k5 : Kp d H H5 := k2.trans (Kp.same sN)
    have tx5 := Tx.TX.same tx2 sN
    have di5 := di2.same sN
    have rw5 := rw_.same k5.hm
    have hd5 := sN _ _ hd2
    have wN := ars.words pk
    have lN : (ks.map V.str ++ [V.str "_"]).length ≤ 5 := by
      rw [List.length_append, List.length_map, pk.length_eq, List.length_map]
      simp
      omega
    clear hp2 tx2 di2
    have e1 : ((a : Nat) : Int) + 1 = ((a + 1 : Nat) : Int) := by omega
    refine ⟨_, rfl, rfl, _, rfl, ?_⟩
    by_cases c0 : w0 = 0
    · refine if_true_of (decide_eq_true (congrArg V.int c0)) ?_
      refine ⟨_, rfl, _, rfl, _, rfl, slT tx5 ha fun b1 G1 s1 y1 => ?_⟩
      refine ⟨_, rfl, _, rfl, _, _, rfl, rfl, _, rfl, ?_⟩
      rw [e1]
      refine noPart (slF (Tx.TX.same tx5 s1) fun b2 G2 s2 y2 => ?_)
      refine ⟨b1, b2, _, _, rfl, rfl, Tx.TX.same y1 s2, y2, by rw [List.length_take, List.length_drop, sizeLine_eq]; omega, fun b3 G3 s3 y3 => ?_⟩
      have s13 := (s1.trans s2).trans s3
      have nb3 := TX.ne y3 (s13 _ _ hd5)
      refine q _ _ (k5.trans (Kp.same s13)) (fun e => nb3 (V.ref.inj e)) (outI n5 m5 l1 l5 (TX.hm y3 nb3) (fun y hy => ?_) ?_) ((di5.same s13).more (by omega) (by omega))
      · have rw6 := rw5.same (Same.hm s13)
        rcases List.mem_append.mp hy with hy | hy
        · exact rw6.all y (List.mem_of_mem_take hy)
        · exact rw6.all y (List.mem_of_mem_drop hy)
      · rw [List.length_append, List.length_take, List.length_drop]
        omega
    · refine if_false_of (decide_eq_false fun e => c0 (V.int.inj e)) ⟨_, rfl, _, _, rfl, rfl, _, rfl, ?_⟩
      by_cases c3 : w0 < 3
      · refine if_true_of (decide_eq_true c3) ?_
        refine ⟨_, rfl, _, rfl, _, rfl, slT tx5 ha fun b1 G1 s1 y1 => ?_⟩
        refine ⟨_, rfl, _, rfl, d, na, k + 2, _, rfl, nad, .inl (SqL.of (s1 _ _ hN)), by simp, by omega, di5.same s1, by omega, fun v o3 mv di6 => ?_⟩
        have nb1 := TX.ne y1 (s1 _ _ hd5)
        have k6 : Kp d G1 (upd G1 d o3) := Kp.upd
        have y1b := TX.kp y1 k6 nb1
        have tx6 := TX.kp (Tx.TX.same tx5 s1) k6 rd
        obtain ⟨ds6, hd6⟩ := di6.there
        have k56 := (k5.trans (Kp.same s1)).trans k6
        generalize upd G1 d o3 = G2 at y1b tx6 hd6 k56 di6 ⊢
        refine ⟨by show 1 ≤ sizeLine; decide, fun b2 G3 nb2 s3 y3 => ?_⟩
        refine ⟨b1, b2, _, _, rfl, rfl, Tx.TX.same y1b s3, y3, by rw [List.length_take, sizeLine_eq]; simp; omega, fun b4 G4 s4 y4 => ?_⟩
        refine ⟨_, rfl, _, rfl, _, rfl, noPart (slF (Tx.TX.same tx6 (s3.trans s4)) fun b5 G5 s5 y5 => ?_)⟩
        refine ⟨b4, b5, _, _, rfl, rfl, Tx.TX.same y4 s5, y5, by rw [List.length_append, List.length_take, List.length_drop, sizeLine_eq]; simp; omega, fun b6 G6 s6 y6 => ?_⟩
        have s26 := ((s3.trans s4).trans s5).trans s6
        have nb6 := TX.ne y6 (s26 _ _ hd6)
        refine q _ _ (k56.trans (Kp.same s26)) (fun e => nb6 (V.ref.inj e)) (outI n5 m5 l1 l5 (TX.hm y6 nb6) (fun y hy => ?_) ?_) ((di6.same s26).more (by omega) (by omega))
        · have rw6 := (rw_.same k56.hm).same (Same.hm s26)
          rcases List.mem_append.mp hy with hy | hy
          · rcases List.mem_append.mp hy with hy | hy
            · exact rw6.all y (List.mem_of_mem_take hy)
            · rw [List.mem_singleton.mp hy]
              obtain ⟨z, hz, rfl⟩ := wN v mv
              exact (Tk.pool hz).le (by omega) (by omega)
          · exact rw6.all y (List.mem_of_mem_drop hy)
        · rw [List.length_append, List.length_append, List.length_take, List.length_drop]
          simp
          omega
      · refine if_false_of (decide_eq_false c3) ⟨_, rfl, _, _, rfl, rfl, _, rfl, ?_⟩
        by_cases c6 : w0 < 6
        · refine if_true_of (decide_eq_true c6) ?_
          -- word
          refine ⟨_, rfl, _, rfl, by show 1 ≤ sizeLine; decide, fun t1 G1 nt1 s1 y1 => ⟨by show 1 ≤ sizeLine; decide, fun t2 nt2 => ⟨by show 8 ≤ sizeLine; decide, fun t3 nt3 => ?_⟩⟩⟩
          have s3 := (s1.trans (Same.new nt2 (o := .lst [.str "c"]))).trans (Same.new nt3 (o := .lst [.str "q", .str "", .str "C", .str "c ", .int 0, .non, .ref t1, .ref t2]))
          refine ⟨na, t3, _, _, rfl, rfl, s3 _ _ hN, upd_same, by rw [sizeLine_eq]; simp only [List.length_cons, List.length_nil]; omega, fun t4 nt4 => ?_⟩
          have s4 := s3.trans (Same.new nt4 (o := .lst ((ks.map V.str ++ [V.str "_"]) ++ [.str "q", .str "", .str "C", .str "c ", .int 0, .non, .ref t1, .ref t2])))
          have nt4d : t4 ≠ d := (ne_of_none (s3 _ _ hd5) nt4).symm
          have nt1d : t1 ≠ d := (ne_of_none hd5 nt1).symm
          have hd1 := s1 _ _ hd5
          have nt2d : t2 ≠ d := (ne_of_none hd1 nt2).symm
          refine ⟨d, t4, k + 2, _, rfl, nt4d, .inl (SqL.of upd_same), by simp, by rw [List.length_append]; simp only [List.length_cons, List.length_nil]; omega, di5.same s4, by omega, fun v o3 mv di6 => ?_⟩
          have s14 := ((Same.new nt2 (o := .lst [.str "c"])).trans (Same.new nt3 (o := .lst [.str "q", .str "", .str "C", .str "c ", .int 0, .non, .ref t1, .ref t2]))).trans (Same.new nt4 (o := .lst ((ks.map V.str ++ [V.str "_"]) ++ [.str "q", .str "", .str "C", .str "c ", .int 0, .non, .ref t1, .ref t2])))
          have y14 := Tx.TX.same y1 s14
          have hl2 := ((Same.new nt3 (o := .lst [.str "q", .str "", .str "C", .str "c ", .int 0, .non, .ref t1, .ref t2])).trans (Same.new nt4 (o := .lst ((ks.map V.str ++ [V.str "_"]) ++ [.str "q", .str "", .str "C", .str "c ", .int 0, .non, .ref t1, .ref t2])))) _ _ (upd_same (H := G1) (a := t2) (o := .lst [.str "c"]))
          have y16 := TX.kp y14 (Kp.upd (o := o3)) nt1d
          have k56 := (k5.trans (Kp.same s4)).trans (Kp.upd (o := o3))
          have tx6 := TX.kp (Tx.TX.same tx5 s4) (Kp.upd (o := o3)) rd
          have hl26 := (Kp.upd (d := d) (o := o3)) _ _ nt2d hl2
          obtain ⟨ds6, hd6⟩ := di6.there
          have tkv : ∀ G6, Tx.TX G6 t1 [.str "c"] → G6 t2 = some (.lst [.str "c"]) → Tk (Hm d G6) n m v := fun G6 y16 hl26 => by
            rcases List.mem_append.mp mv with mv | mv
            · obtain ⟨z, hz, rfl⟩ := wN v mv
              exact (Tk.pool hz).le (by omega) (by omega)
            · have wd : ∀ (z : Str), z.length ≤ 9 → Ok16 z → Tk (Hm d G6) n m (.str z) := fun z a b => (Tk.word a b).le (by omega) (by omega)
              simp only [List.mem_cons, List.not_mem_nil, or_false] at mv
              rcases mv with rfl | rfl | rfl | rfl | rfl | rfl | rfl | rfl
              · exact wd _ (by decide) (Ok16.of _)
              · exact wd _ (by decide) (Ok16.of _)
              · exact wd _ (by decide) (Ok16.of _)
              · exact wd _ (by decide) (Ok16.of _)
              · exact Tk.zero.le (by omega) (by omega)
              · exact Tk.non.le (by omega) (by omega)
              · exact (Tk.c1 (TX.hm y16 nt1d)).le n1 m1
              · exact (Tk.c2 (Hm.of hl26 nt2d)).le n1 m1
          refine ⟨_, rfl, _, rfl, _, rfl, slT tx6 ha fun b1 G7 s7 y7 => ?_⟩
          refine ⟨_, rfl, by show 1 ≤ sizeLine; decide, fun b2 G8 nb2 s8 y8 => ?_⟩
          refine ⟨b1, b2, _, _, rfl, rfl, Tx.TX.same y7 s8, y8, by rw [List.length_take, sizeLine_eq]; simp; omega, fun b4 G9 s9 y9 => ?_⟩
          refine ⟨_, rfl, _, rfl, _, _, rfl, rfl, _, rfl, ?_⟩
          rw [e1]
          refine noPart (slF (Tx.TX.same tx6 ((s7.trans s8).trans s9)) fun b5 G10 s10 y10 => ?_)
          refine ⟨b4, b5, _, _, rfl, rfl, Tx.TX.same y9 s10, y10, by rw [List.length_append, List.length_take, List.length_drop, sizeLine_eq]; simp; omega, fun b6 G11 s11 y11 => ?_⟩
          have s611 := (((s7.trans s8).trans s9).trans s10).trans s11
          have nb6 := TX.ne y11 (s611 _ _ hd6)
          refine q _ _ (k56.trans (Kp.same s611)) (fun e => nb6 (V.ref.inj e)) (outI n5 m5 l1 l5 (TX.hm y11 nb6) (fun y hy => ?_) ?_) ((di6.same s611).more (by omega) (by omega))
          · have rw6 := (rw_.same k56.hm).same (Same.hm s611)
            rcases List.mem_append.mp hy with hy | hy
            · rcases List.mem_append.mp hy with hy | hy
              · exact rw6.all y (List.mem_of_mem_take hy)
              · rw [List.mem_singleton.mp hy]
                exact (tkv _ y16 hl26).same (Same.hm s611)
            · exact rw6.all y (List.mem_of_mem_drop hy)
          · rw [List.length_append, List.length_append, List.length_take, List.length_drop]
            simp
            omega
        · refine if_false_of (decide_eq_false c6) ⟨_, rfl, rfl, _, rfl, ?_⟩
          by_cases c7 : w0 = 6
          · refine if_true_of (decide_eq_true (congrArg V.int c7)) ?_
            refine ⟨rfl, _, rfl, r, rfl, ⟨_, tx5.sq⟩, fun D nD => ?_⟩
            refine lc_tup (K := K) (a := r) (xs := xs) (fun i G => ∃ ys : List Str, G D = some (.lst (ys.map V.str)) ∧ ys.length = i ∧ (ys.map (·.length)).sum ≤ i * (m + 10) ∧ (∀ y ∈ ys, Ok16 y) ∧ Same H5 G)
              ⟨[], upd_same, rfl, by simp, fun y q => (nomatch q), Same.new nD⟩ (fun i G _ ⟨_, _, _, _, _, s⟩ => (Tx.TX.same tx5 s).sq) ?_ ?_
            · rintro i x G hx ⟨ys, eD, ly, sy, oy, sG⟩
              have hi := (List.getElem?_eq_some_iff.mp hx).1
              have tk := rw5.all x (List.mem_of_getElem? hx)
              obtain ⟨t, sh, lt, ot⟩ := tk.sm
              obtain ⟨g1, g2⟩ := strT_ok tk lt ot
              have sh2 : Sh G n x t := Sh.keep (fun a o e => sG _ _ (Hm.some_of e).1) n x t sh
              have jx : Ji G x := tk.ji.same fun a o e => sG _ _ (Hm.some_of e).1
              refine ⟨rfl, _, rfl, x, n, t, rfl, sh2, by omega, by rw [sizeLine_eq]; omega, jx.nd, _, eD, by rw [List.length_map, sizeLine_eq]; omega, ys ++ [strT x t], ?_, by simp [ly], ?_, fun y m => ?_, fun b u e => ?_⟩
              · rw [upd_same, List.map_append]
                rfl
              · rw [sum_snoc, Nat.succ_mul]
                omega
              · rcases List.mem_append.mp m with m | m
                · exact oy y m
                · rw [List.mem_singleton.mp m]
                  exact g2
              · rw [upd_ne (ne_of_none e nD)]
                exact sG b u e
            · rintro G ⟨ys, eD, ly, sy, oy, sG⟩
              have b1 : xs.length * (m + 10) ≤ 43 * 1511 := Nat.mul_le_mul (by omega) (by omega)
              refine ⟨" ", D, ys, rfl, rfl, .inl (SqL.of eD), by rw [show ((" " : Str)).length = 1 from rfl]; omega, ?_⟩
              have lz : (Txt.join " " ys).length ≤ 100000 := by
                rw [txt_join]
                have := StrLaws.join_length_le " " ys
                rw [show ((" " : Str)).length = 1 from rfl] at this
                omega
              have oz : Ok16 (Txt.join " " ys) := by
                rw [txt_join]
                exact Ok16.join (Ok16.of _) oy
              have vz : ∀ H, Vd H 0 (10 * 100000 + 2) (.str (Txt.join " " ys)) := fun H => Vd.text ⟨lz, oz⟩ (by decide)
              generalize Txt.join " " ys = text at vz ⊢
              have txG := Tx.TX.same tx5 sG
              refine ⟨_, rfl, _, rfl, r, xs, rfl, .inr txG.sq, fun q1 nq1 => ?_⟩
              have s1 := Same.new nq1 (o := .lst xs)
              refine ⟨_, rfl, _, rfl, r, r, _, _, rfl, rfl, Tx.TX.same txG s1, Tx.TX.same txG s1, by rw [sizeLine_eq]; omega, fun q2 G2 s2 y2 => ?_⟩
              have s02 := s1.trans s2
              refine ⟨_, rfl, by show 1 ≤ sizeLine; decide, fun q3 G3 n3 s3 y3 => ?_⟩
              have s03 := s02.trans s3
              refine ⟨_, rfl, _, rfl, r, xs, rfl, (Tx.TX.same txG s03).sq, fun q5 G5 nq5 s5 y5 => ?_⟩
              have s05 := s03.trans s5
              refine fun q6 nq6 => ?_
              have s6 := Same.new nq6 (o := .dK [])
              have s06 := s05.trans s6
              have tx6 := Tx.TX.same txG s06
              refine joinR (H := upd G5 q6 (.dK [])) (T := fun p G => Tx.TX G p (List.replicate 3 xs).flatten) (fun g => ⟨_, rfl, r, 3, xs, rfl, rfl, tx6, by decide, by decide, by omega, fun e => ?emp, fun p H2 _ s t => g p H2 s t⟩) ?_
              case emp => exact g r _ (Same.refl _) (by rw [← flat_nil e]; exact tx6)
              intro q8 G8 s8 y8
              refine ⟨by show 8 ≤ sizeLine; decide, fun lb nlb => ?_⟩
              have s08 := s06.trans s8
              have s9 := Same.new nlb (o := .lst [.ref q1, .ref q2, .ref q3, .str text, .ref q5, .ref q6, .non, .ref q8])
              have s09 := s08.trans s9
              have sH := sG.trans s09
              have hdG := sG _ _ hd5
              have nlbd : lb ≠ d := (ne_of_none (s08 _ _ hdG) nlb).symm
              refine ⟨d, lb, k + 2, _, rfl, nlbd, .inl (SqL.of upd_same), (fun e => nomatch e), by simp, di5.same sH, by omega, fun v o3 mv di6 => ?_⟩
              have k59 := k5.trans (Kp.same sH)
              have rw9 := rw_.same k59.hm
              have hd9 := sH _ _ hd5
              have ne1 : q1 ≠ d := (ne_of_none hdG nq1).symm
              have h1 := (((((s2.trans s3).trans s5).trans s6).trans s8).trans s9) _ _ (upd_same (H := G) (a := q1) (o := .lst xs))
              have y29 := Tx.TX.same y2 ((((s3.trans s5).trans s6).trans s8).trans s9)
              have y39 := Tx.TX.same y3 (((s5.trans s6).trans s8).trans s9)
              have y59 := Tx.TX.same y5 ((s6.trans s8).trans s9)
              have ne6 : q6 ≠ d := (ne_of_none (s05 _ _ hdG) nq6).symm
              have h6 := (s8.trans s9) _ _ (upd_same (H := G5) (a := q6) (o := .dK []))
              have y89 := Tx.TX.same y8 s9
              have b2 := (bnd m5 l5).2
              have b3 := mle (m := m) l1
              have key : v ≠ .ref d ∧ Out (Hm d (upd G8 lb (.lst [.ref q1, .ref q2, .ref q3, .str text, .ref q5, .ref q6, .non, .ref q8]))) n m L v := by
                simp only [List.mem_cons, List.not_mem_nil, or_false] at mv
                rcases mv with rfl | rfl | rfl | rfl | rfl | rfl | rfl | rfl
                · exact ⟨fun e => ne1 (V.ref.inj e), (Tk.lst (Hm.of h1 ne1) rw9.all lx).vd.le (by omega) (by omega), fun q e => by cases e; exact .inr ⟨_, .lst (Hm.of h1 ne1), by decide⟩⟩
                · have ne := TX.ne y29 hd9
                  refine ⟨fun e => ne (V.ref.inj e), outI n5 m5 l1 l5 (TX.hm y29 ne) (fun y hy => rw9.all y ((List.mem_append.mp hy).elim id id)) (by rw [List.length_append]; omega)⟩
                · have ne := TX.ne y39 hd9
                  refine ⟨fun e => ne (V.ref.inj e), outR n5 m5 l5 ⟨TX.hm y39 ne, fun y hy => ?_, by show 1 ≤ _; omega⟩⟩
                  rw [List.mem_singleton.mp hy]
                  exact rw9.tk (by omega)
                · exact ⟨fun e => (nomatch e), (vz _).le (by omega) (by decide), fun q e => (nomatch e)⟩
                · have ne := TX.ne y59 hd9
                  exact ⟨fun e => ne (V.ref.inj e), outI n5 m5 l1 l5 (TX.hm y59 ne) (fun y hy => rw9.all y (List.mem_reverse.mp hy)) (by rw [List.length_reverse]; omega)⟩
                · exact ⟨fun e => ne6 (V.ref.inj e), (Vd.dK0 (Hm.of h6 ne6)).le (by omega) (by decide), fun q e => by cases e; exact .inr ⟨_, .dK (Hm.of h6 ne6), by decide⟩⟩
                · exact ⟨fun e => (nomatch e), Vd.non.le (by omega) (by decide), fun q e => (nomatch e)⟩
                · have ne := TX.ne y89 hd9
                  refine ⟨fun e => ne (V.ref.inj e), outI n5 m5 l1 l5 (TX.hm y89 ne) (fun y hy => ?_) ?_⟩
                  · obtain ⟨l2, hl, hy⟩ := List.mem_flatten.mp hy
                    rw [List.eq_of_mem_replicate hl] at hy
                    exact rw9.all y hy
                  · simp
                    omega
              exact q v _ (k59.trans (Kp.upd (o := o3))) key.1 (key.2.same (Kp.upd (o := o3)).hm) (di6.more (by omega) (by omega))
          · refine if_false_of (decide_eq_false fun e => c7 (V.int.inj e)) ⟨_, rfl, ?_⟩
            exact q _ _ k5 (fun e => rd (V.ref.inj e)) (outI n5 m5 l1 l5 rw5.tx rw5.all (by omega)) (di5.more (by omega) (by omega))
end
end Pr
namespace Pr
open PySem PySem.Spec PyProof.Rows L2 Gd
/-! ### _law_right -/
structure MtF (K : PySem.W.Frag) (C : Addr) (name qual : Str) (st : Stmt) (f : Addr) (fd : FuncData) (ps : List Str) : Prop where
  F : Fun K name qual st f fd
  b : Binds K fd ps []
  m : Meth K C name f
structure GlF (K : PySem.W.Frag) (mg : Str → Option Value) (name : Str) (st : Stmt) (f : Addr) (fd : FuncData) (ps : List Str) : Prop where
  F : Fun K name name st f fd
  b : Binds K fd ps []
  g : mg name = some (.ref f)
theorem val_perm {l l' : List (Str × Nat)} (nd : (l.map (·.1)).Nodup) (p : l'.Perm l) (z : Str) : valV (dkv l') (.inr z : Key) = valV (dkv l) (.inr z : Key) := by
  have nd' : (l'.map (·.1)).Nodup := (p.map _).nodup_iff.mpr nd
  by_cases c : z ∈ l.map (·.1)
  · obtain ⟨q, hq, rfl⟩ := List.mem_map.mp c
    rw [val_some nd (show (q.1, q.2) ∈ l from hq), val_some nd' (show (q.1, q.2) ∈ l' from p.mem_iff.mpr hq)]
  · rw [val_none c, val_none fun m => c ((p.map _).mem_iff.mp m)]
theorem arity_perm {l l' : List (Str × Nat)} (nd : (l.map (·.1)).Nodup) (p : l'.Perm l) (v : V) : arity l' v = arity l v := by
  cases v with
  | str z =>
    show (match valV (dkv l') (.inr z : Key) with | some (.int a) => some a | _ => none) = (match valV (dkv l) (.inr z : Key) with | some (.int a) => some a | _ => none)
    rw [val_perm nd p]
  | _ => rfl
theorem wgo_perm {l l' : List (Str × Nat)} (nd : (l.map (·.1)).Nodup) (p : l'.Perm l) : ∀ (xs : List V) (n : Int), wgo l' n xs = wgo l n xs
  | [], _ => rfl
  | x :: xs, n => by
    show (if n = 0 then false else match arity l' x with | some a => wgo l' (n + (a - 1)) xs | none => false) = (if n = 0 then false else match arity l x with | some a => wgo l (n + (a - 1)) xs | none => false)
    rw [arity_perm nd p]
    cases arity l x with
    | none => rfl
    | some a =>
      show (if n = 0 then false else wgo l' (n + (a - 1)) xs) = (if n = 0 then false else wgo l (n + (a - 1)) xs)
      rw [wgo_perm nd p xs]
theorem tB_perm {l l' : List (Str × Nat)} (nd : (l.map (·.1)).Nodup) (p : l'.Perm l) (x : Option (List V)) : tB l' x = tB l x := by
  cases x with
  | none => rfl
  | some xs =>
    show (decide _ && _) = (decide _ && _)
    rw [wgo_perm nd p]
theorem lH_nd {l : List (Str × Nat)} (nd : (l.map (·.1)).Nodup) (no : hole ∉ l.map (·.1)) : ((lH l).map (·.1)).Nodup := by
  unfold lH
  rw [List.map_append, List.nodup_append]
  refine ⟨nd, by simp, fun x hx y hy e => ?_⟩
  rw [List.map_cons, List.map_nil, List.mem_singleton] at hy
  rw [e, hy] at hx
  exact no hx
theorem cB_perm {l l' : List (Str × Nat)} (nd : (l.map (·.1)).Nodup) (no : hole ∉ l.map (·.1)) (p : l'.Perm l) (x : Option (List V)) : cB l' x = cB l x := by
  cases x with
  | none => rfl
  | some xs =>
    show (decide _ && (decide _ && _)) = (decide _ && (decide _ && _))
    rw [wgo_perm (lH_nd nd no) (show (lH l').Perm (lH l) from p.append_right _)]
/-- operators over l, whose dict is at ad -/
structure Sc3 (H : Hp) (C o ad : Addr) (l : List (Str × Nat)) : Prop where
  ops : ∃ l', l'.Perm l ∧ OpsAt H C o l'
  ad : H ad = some (.dK (dkv l))
  nd : (l.map (·.1)).Nodup
  no : hole ∉ l.map (·.1)
  few : l.length ≤ 8
theorem Sc3.same {H H' : Hp} {C o ad : Addr} {l : List (Str × Nat)} (h : Sc3 H C o ad l) (s : Same H H') : Sc3 H' C o ad l := ⟨let ⟨l', p, q⟩ := h.ops; ⟨l', p, q.same s⟩, s _ _ h.ad, h.nd, h.no, h.few⟩
def spRight (C : Addr) : Sp := fun vs H Q _ => ∃ (o ad : Addr) (v : V) (l : List (Str × Nat)) (x : Option (List V)), vs = [.ref o, .ref ad, v] ∧ Sc3 H C o ad l ∧ (∃ n t, Sh H n v t ∧ n ≤ 40 ∧ t.length ≤ sizeLine) ∧ Vw H v x ∧ (∀ xs, x = some xs → xs.length < 100000) ∧ ∀ H', Same H H' → Q (.bl true) H'
def blT (b : Bool) : Str := if b then "True" else "False"
theorem bl_two {H : Hp} {D : Addr} {a b : Bool} (e : H D = some (.lst [.bl a, .bl b])) : Sh H 1 (.ref D) (listText [blT a, blT b]) := Sh.lst e (.cons (Sc.bl a) (.cons (Sc.bl b) .nil))
theorem bl_len (a b : Bool) : (listText [blT a, blT b]).length ≤ sizeLine := by
  cases a <;> cases b <;> decide +kernel
section
variable {P : Program} {w : World} {K : PySem.W.Frag} {mg : Str → Option Value} {base : Heap} {C fW fT fC fA fB fO : Addr} {dW dT dC dA dB dO : FuncData} {tk tk2 : Tok}
theorem scRight : FnScope ["ops", "arities", "value", "due", "text", "turn"] ["ops", "arities", "value"] (defScope sRight) := ⟨rfl, rfl, rfl, by decide +kernel, rfl, by decide +kernel, by decide +kernel⟩
theorem ok_right {f : Addr} {fd : FuncData} (F : Fun K "_law_right" "_law_right" sRight f fd) (M : Mt K mg C fW dW tk tk2) (T : Free mg) (mT : MtF K C "is_tree" "Operators.is_tree" mIsTree fT dT ["self", "value"]) (mC : MtF K C "is_context" "Operators.is_context" mIsCtx fC dC ["self", "value"])
    (gA : GlF K mg "_law_is_tree" sIsT fA dA ["arities", "value"]) (gB : GlF K mg "_law_is_context" sIsC fB dB ["arities", "value"]) (gO : GlF K mg "_law_open" sOpen fO dO ["arities", "words"]) : FnG P w K mg base CX0 3 f fd ["ops", "arities", "value"] (spRight C) := by
  have GA : FnOk P w K mg base CX0 2 fA dA ["arities", "value"] (spJ tB) := ok_isT gA.F gO.F gO.b gO.g T
  have GB : FnOk P w K mg base CX0 2 fB dB ["arities", "value"] (spJ cB) := ok_isC gB.F gO.F gO.b gO.g T
  have GT : FnOk P w K mg base CX0 2 fT dT ["self", "value"] (spTreeV C) := ok_treeV mT.F M T
  have GC : FnOk P w K mg base CX0 2 fC dC ["self", "value"] (spCtxV C) := ok_ctxV mC.F M T
  refine FnG.ok F scRight (fun vs H Q E h => ?_) (fun cdv A outer s H vs Q E hr gd h => ?_)
  · obtain ⟨o, ad, v, l, x, rfl, _⟩ := h
    rfl
  · obtain ⟨o, ad, v, l, x, rfl, sc, ⟨n, t, sh, hn, ht⟩, vw, few, q⟩ := h
    have hu := hr.units
    refine ⟨_, pss_cons (ps_set (i := 3) scRight.nd rfl (.inl rfl) (pe_lst (pa_cons (pe_call GA hr (by rfl) gA.g gA.F.kp gA.b .nil pass0 (pa_cons (pv 1) (pa_cons (pv 2) pa_nil))) (pa_cons (pe_call GB hr (by rfl) gB.g gB.F.kp gB.b .nil pass0 (pa_cons (pv 1) (pa_cons (pv 2) pa_nil))) pa_nil))))
      (pss_cons (ps_set (i := 4) scRight.nd rfl (.inl rfl) (pe_callB (call_repr gd hu) (by rfl) T.repr (by decide +kernel) (pa_cons (pv 2) pa_nil)))
      (pss_cons (ps_for PassesOwn.never rfl (pi_range1 rfl T.range (pa_cons pe_int pa_nil)) (pg_name (i := 5) scRight.nd rfl (.inl rfl))
        (pss_one (ps_if (PW.pt (pw_or (pt_cmpR op_ne (pe_callB (call_repr gd hu) (by rfl) T.repr (by decide +kernel) (pa_cons (pe_lst (pa_cons (pe_meth (pv 0) M.cf.cls mT.m GT hr mT.b .nil pass0 (pa_cons (pv 2) pa_nil)) (pa_cons (pe_meth (pv 0) M.cf.cls mC.m GC hr mC.b .nil pass0 (pa_cons (pv 2) pa_nil)) pa_nil))) pa_nil))
            (pe_callB (call_repr gd hu) (by rfl) T.repr (by decide +kernel) (pa_cons (pv 3) pa_nil)) (nomark _))
          (pw_or1 (pt_cmpR op_ne (pe_callB (call_repr gd hu) (by rfl) T.repr (by decide +kernel) (pa_cons (pv 2) pa_nil)) (pv 4) (nomark _))))) (pss_one ps_never) pss_nil)))
      (pss_one (ps_ret pe_bl)))), ?_⟩
    refine ⟨_, rfl, _, rfl, ad, v, l, x, rfl, sc.ad, sc.no, vw, few, fun H1 s1 => ?_⟩
    refine ⟨_, rfl, _, rfl, ad, v, l, x, rfl, s1 _ _ sc.ad, sc.no, vw.same s1, few, fun H2 s2 => ?_⟩
    refine ⟨by show 2 ≤ sizeLine; decide, fun D nD => ?_⟩
    have s3 := (s1.trans s2).trans (Same.new nD (o := .lst [.bl (tB l x), .bl (cB l x)]))
    have hD : (upd H2 D (.lst [.bl (tB l x), .bl (cB l x)])) D = some (.lst [.bl (tB l x), .bl (cB l x)]) := upd_same
    generalize upd H2 D (.lst [.bl (tB l x), .bl (cB l x)]) = H3 at s3 hD ⊢
    refine ⟨_, rfl, v, n, t, rfl, Sh.keep s3 n v t sh, by omega, ht, ?_⟩
    refine ⟨2, rfl, by decide, by decide, ?_⟩
    refine for_range (lo := 0) (n := (2 : Int).toNat) (fun i σ H' => Same H3 H' ∧ ∃ v5 : Option V, σ = [some (.ref o), some (.ref ad), some v, some (.ref D), some (.str t), v5]) ⟨Same.refl H3, none, rfl⟩ ?_ ?_
    · rintro i σ H' hi ⟨s4, v5, rfl⟩
      have s34 := s3.trans s4
      obtain ⟨l', pl, op⟩ := (sc.same s34).ops
      obtain ⟨dx, tn, ta, tl, ho, _⟩ := op.ex
      refine ⟨_, rfl, o, dx, _, rfl, ho, rfl, _, rfl, o, v, l', x, rfl, op, vw.same s34, ?_⟩
      have no' : hole ∉ l'.map (·.1) := fun m => sc.no ((pl.map _).mem_iff.mp m)
      refine ⟨_, rfl, o, dx, _, rfl, ho, rfl, _, rfl, o, v, l', x, rfl, op, no', by rw [pl.length_eq]; exact sc.few, vw.same s34, fun H5 s5 => ?_⟩
      rw [tB_perm sc.nd pl, cB_perm sc.nd sc.no pl]
      refine ⟨by show 2 ≤ sizeLine; decide, fun D2 nD2 => ?_⟩
      have s45 := (s4.trans s5).trans (Same.new nD2 (o := .lst [.bl (tB l x), .bl (cB l x)]))
      have hD2 : (upd H5 D2 (.lst [.bl (tB l x), .bl (cB l x)])) D2 = some (.lst [.bl (tB l x), .bl (cB l x)]) := upd_same
      generalize upd H5 D2 (.lst [.bl (tB l x), .bl (cB l x)]) = H6 at s45 hD2 ⊢
      refine ⟨.ref D2, 1, _, rfl, bl_two hD2, by decide, bl_len _ _, ?_⟩
      refine ⟨_, rfl, .ref D, 1, _, rfl, bl_two (s45 _ _ hD), by decide, bl_len _ _, rfl, _, rfl, if_false_of neSelf ?_⟩
      refine ⟨_, rfl, v, n, t, rfl, Sh.keep (s3.trans s45) n v t sh, by omega, ht, _, rfl, rfl, _, rfl, if_false_of neSelf ?_⟩
      exact ⟨s45, _, rfl⟩
    · rintro σ H' ⟨s4, v5, rfl⟩
      exact q _ (s3.trans s4)
end
end Pr
/-! ### len(o), str(o), v in o by the class's own defs -/
namespace L2
open PySem PySem.Spec PyProof.Rows PySem.Builtin PySem.Builtin.Str
section
variable {X : Cx} {k : Nat} {C f : Addr} {fd : FuncData} {ps : List Str} {sp : Sp}
/-- the class has the name as a def at f -/
structure OwnM (K : PySem.W.Frag) (C : Addr) (name : Str) (f : Addr) : Prop where
  at_ : PySem.W.findIn K (.ref C) name = some (some (.ref f))
  fn : PySem.W.isFn K (.ref f) = true
/-- its call, somewhere below -/
theorem own_run (F : FnOk X.prog X.w X.K X.mg X.base CX0 k f fd ps sp) (hb : Binds X.K fd ps []) {A : Around} (hr : Room k A) {pins : List (Addr × Obj)} {σ : L2.St} {H : Hp} {s : Shared} (I : Inv X pins σ H s) (e : Env0 X.prog X.w X.K X.mg X.base A X.stack s H)
    {vs : List V} {us : List Value} (rv : Vals vs us) {Q : VK} (h : sp vs H Q E0) {R : Value → Shared → Prop} {E : Value → Shared → Prop} (hR : ∀ u s', EP X pins σ Q u s' → R u s') : wpAny (model X.prog X.w) A (call (.ref f) us) R E s := by
  have hl := F.len _ _ _ _ h
  refine wpAny_call (codeAny_mono (F.run A X.stack s H ⟨us, []⟩ us vs Q E0 hr e (by
    have := hb s us I.kIn (by rw [List.append_nil, ← rv.length]; exact hl)
    rw [List.append_nil] at this
    exact this) rv h) fun r s' hq => ?_)
  cases r with
  | error z => exact (show False from hq).elim
  | ok fl =>
    cases fl with
    | ret u => exact hR u s' (I.after hq)
    | next => exact False.elim hq
    | brk => exact False.elim hq
    | cont => exact False.elim hq
def rLenO (C : Addr) (sp : Sp) : List V → Hp → VK → Prop := fun xs H Q => ∃ a dx fs, xs = [.ref a] ∧ H a = some (.ins C dx fs) ∧ sp [.ref a] H (fun v H' => ∃ n : Int, v = .int n ∧ 0 ≤ n ∧ n < 2 ^ 63 ∧ Q (.int n) H') E0
theorem call_lenO (F : FnOk X.prog X.w X.K X.mg X.base CX0 k f fd ps sp) (hb : Binds X.K fd ps []) (hr : Room (k + 1) X.A) (O : OwnM X.K C "__len__" f) : CallR X (.builtin "len") (rLenO C sp) := by
  intro pins s σ H vs us Q I r h
  obtain ⟨a, dx, fs, rfl, ha, h⟩ := h
  obtain ⟨u, rfl, ru⟩ := vals1 r
  cases ru
  obtain ⟨mA, J, _⟩ := ins_get I.hok ha
  obtain ⟨od, J, _⟩ := J.look
  obtain ⟨m, hF⟩ := I.fr
  refine PySem.W.len_K hF I.ok.mod.kin J O.at_ O.fn (own_run F hb hr.in1 I I.env0.in1 (vs := [.ref a]) (us := [.ref a]) (.cons rfl .nil) h fun u s' q => ?_)
  obtain ⟨v, H', I', rv, n, rfl, n0, n1, q⟩ := q
  obtain ⟨t, rfl⟩ := rv
  exact ⟨⟨n0, n1⟩, .int n, H', I'.tok _, ⟨_, rfl⟩, q⟩
def rInO (C : Addr) (sp : Sp) (neg : Bool) : R2 := fun x y H Q => ∃ a dx fs, y = .ref a ∧ H a = some (.ins C dx fs) ∧ sp [.ref a, x] H (fun v H' => ∃ b : Bool, v = .bl b ∧ Q (.bl (if neg then !b else b)) H') E0
theorem op_inO (F : FnOk X.prog X.w X.K X.mg X.base CX0 k f fd ps sp) (hb : Binds X.K fd ps []) (hr : Room k X.A) (O : OwnM X.K C "__contains__" f) : OpR X (compareOp .In) (rInO C sp false) := by
  intro pins s σ H x y v u Q I rx ry h
  obtain ⟨a, dx, fs, rfl, ha, h⟩ := h
  cases ry
  obtain ⟨mA, J, _⟩ := ins_get I.hok ha
  obtain ⟨od, J, _⟩ := J.look
  obtain ⟨m, hF⟩ := I.fr
  refine PySem.W.in_K hF I.ok.mod.kin J O.at_ O.fn (own_run F hb hr I I.env0 (vs := [.ref a, x]) (us := [.ref a, v]) (.cons rfl (.cons rx .nil)) h fun u s' q => ?_)
  obtain ⟨v, H', I', rv, b, rfl, q⟩ := q
  cases rv
  exact wpAny_truthy_bool ⟨.bl b, H', I', rfl, q⟩
theorem op_notInO (F : FnOk X.prog X.w X.K X.mg X.base CX0 k f fd ps sp) (hb : Binds X.K fd ps []) (hr : Room k X.A) (O : OwnM X.K C "__contains__" f) : OpR X (compareOp .NotIn) (rInO C sp true) := by
  intro pins s σ H x y v u Q I rx ry h
  obtain ⟨a, dx, fs, rfl, ha, h⟩ := h
  cases ry
  obtain ⟨mA, J, _⟩ := ins_get I.hok ha
  obtain ⟨od, J, _⟩ := J.look
  obtain ⟨m, hF⟩ := I.fr
  refine PySem.W.notIn_K hF I.ok.mod.kin J O.at_ O.fn (own_run F hb hr I I.env0 (vs := [.ref a, x]) (us := [.ref a, v]) (.cons rfl (.cons rx .nil)) h fun u s' q => ?_)
  obtain ⟨v, H', I', rv, b, rfl, q⟩ := q
  cases rv
  exact wpAny_truthy_bool ⟨.bl (!b), H', I', rfl, q⟩
def rStrO (C : Addr) (sp : Sp) : List V → Hp → VK → Prop := fun xs H Q => ∃ a dx fs, xs = [.ref a] ∧ H a = some (.ins C dx fs) ∧ sp [.ref a] H (fun v H' => ∃ z : Str, v = .str z ∧ Q (.str z) H') E0
theorem call_strO (F : FnOk X.prog X.w X.K X.mg X.base CX0 k f fd ps sp) (hb : Binds X.K fd ps []) (hr : Room (k + 2) X.A) (O : OwnM X.K C "__str__" f) : CallR X (.type "str") (rStrO C sp) := by
  intro pins s σ H vs us Q I r h
  obtain ⟨a, dx, fs, rfl, ha, h⟩ := h
  obtain ⟨u, rfl, ru⟩ := vals1 r
  cases ru
  obtain ⟨mA, J, _⟩ := ins_get I.hok ha
  obtain ⟨od, J, _⟩ := J.look
  have hu := hr.units
  refine callType_codes (T := "str") (Bi := Builtin.«object.__init__») (Q₁ := fun r s₁ => ∃ y u, r = .str y u ∧ EP X pins σ Q r s₁) PySem.F.called_str (PySem.F.typeCall_str_1 _) PySem.F.entry_object_init ?_ ?_
  · refine codeAny_of_tree ?_
    show wpAny _ X.A.in1.in1 (do checkBuiltinCall "str.__new__" ⟨[.type "str", .ref a], []⟩; again (.builtin "str.__new__" ⟨[.type "str", .ref a], []⟩)) _ _ s
    refine wpAny_bind (wpAny_of_eq (PySem.F.newCall_str_1 _) (wpAny_pure ⟨plainId_quiet (by decide +kernel) _, codeAny_builtin PySem.F.entry_str_new ?_⟩))
    rw [Around.under_plainId (by decide +kernel) _]
    rw [PySem.str_new_tree]
    refine wpAny_bind (wpAny_pure ?_)
    refine wpAny_bind (wpAny_of_eq isSubtype_str_str ?_)
    have key : wpAny (model X.prog X.w) X.A.in1.in1 (PySem.Builtin.Str.strOf (.ref a)) (fun r s₁ => ∃ y u, r = .str y u ∧ EP X pins σ Q r s₁) X.xe s := by
      unfold PySem.Builtin.Str.strOf
      rw [show isExactStr (.ref a) = false from rfl]
      refine wpAny_bind (m := cRoomFor _ _) (wpAny_cRoomFor (by show X.A.units + 1 + 1 < cLine; omega) ?_)
      refine wpAny_bind (m := callSpecial? (.ref a) (Str.ofString "__str__")) (PySem.W.special_fn I.kIn J O.at_ (beq_iff_eq.mp O.fn) (own_run F hb hr.in1.in1 I I.env0.in1.in1 (vs := [.ref a]) (us := [.ref a]) (.cons rfl .nil) h fun u s' q => ?_))
      obtain ⟨v, H', I', rv, z, rfl, q⟩ := q
      obtain ⟨t, rfl⟩ := rv
      exact wpAny_pure ⟨_, _, rfl, .str z, H', I', ⟨t, rfl⟩, q⟩
    exact wpAny_bind (wpAny_mono key (fun r s₁ hr => wpAny_pure hr) fun _ _ y => y)
  · rintro obj s₁ ⟨y, u, rfl, hq⟩
    exact ⟨typeIs_str _ _ _, PySem.F.args_object_init_2 _ _, object_init_meets PySem.F.called_str.init.lookup PySem.F.called_str.made (by decide) X.prog X.w X.A.in1 _ s₁ ⟨typeIs_str _ _ _, rfl, hq⟩⟩
end
end L2
namespace Pr
open PySem PySem.Spec PyProof.Rows L2 Gd
/-! ### names in their one order -/
theorem not_lt_trans {a b c : List Nat} (h : ¬ b < a) (k : ¬ c < b) : ¬ c < a := List.not_lt.mpr (List.le_trans (List.not_lt.mp h) (List.not_lt.mp k))
theorem rising_all : ∀ (p : Str) (l : List Str), risingS p l = true → ∀ x ∈ l, ¬ x.cps.toList < p.cps.toList
  | _, [], _, x, m => nomatch m
  | p, y :: r, h, x, m => by
    have h' : (!ltCps y.cps.toList p.cps.toList && risingS y r) = true := h
    rw [Bool.and_eq_true, ltCps_eq] at h'
    have h1 : ¬ y.cps.toList < p.cps.toList := by simpa using h'.1
    rcases List.mem_cons.mp m with rfl | m
    · exact h1
    · exact not_lt_trans h1 (rising_all y r h'.2 x m)
theorem rising_pair : ∀ (p : Str) (l : List Str), risingS p l = true → (p :: l).Pairwise fun a b => ¬ b.cps.toList < a.cps.toList
  | p, [], _ => by simp
  | p, y :: r, h => by
    have h' : (!ltCps y.cps.toList p.cps.toList && risingS y r) = true := h
    rw [Bool.and_eq_true] at h'
    exact List.pairwise_cons.mpr ⟨rising_all p (y :: r) h, rising_pair y r h'.2⟩
theorem sorted_pair : ∀ (l : List Str), sortedS l = true → l.Pairwise fun a b => ¬ b.cps.toList < a.cps.toList
  | [], _ => .nil
  | p :: r, h => rising_pair p r h
theorem str_ext {a b : Str} (h : a.cps.toList = b.cps.toList) : a = b := by
  cases a
  cases b
  congr 1
  exact Array.toList_inj.mp h
theorem sorted_one {xs ys : List Str} (hx : sortedS xs = true) (hy : sortedS ys = true) (p : xs.Perm ys) : xs = ys :=
  List.Perm.eq_of_pairwise (fun a b _ _ h k => str_ext (List.le_antisymm (List.not_lt.mp h) (List.not_lt.mp k))) (sorted_pair xs hx) (sorted_pair ys hy) p
/-! ### what operators tell -/
def isC0 (l : List (Str × Nat)) (v : V) : Bool := decide (arity l v = some 0)
def spPN (C : Addr) : Sp := fun vs H Q _ => ∃ (o : Addr) (l : List (Str × Nat)), vs = [.ref o] ∧ OpsAt H C o l ∧ ∀ tn, H tn = some (.tup (l.map fun p => V.str p.1)) → Q (.ref tn) H
def spPA (C : Addr) : Sp := fun vs H Q _ => ∃ (o : Addr) (l : List (Str × Nat)), vs = [.ref o] ∧ OpsAt H C o l ∧ ∀ p, H p = none → Q (.ref p) (upd H p (.dK (dkv l)))
def spPC (C : Addr) : Sp := fun vs H Q _ => ∃ (o : Addr) (l : List (Str × Nat)), vs = [.ref o] ∧ OpsAt H C o l ∧ (l.map (·.1)).Nodup ∧ l.length ≤ 8 ∧ ∀ q H2, Same H H2 → Tx.TX H2 q ((l.map fun p => V.str p.1).filter (isC0 l)) → Q (.ref q) H2
def spLn (C : Addr) : Sp := fun vs H Q _ => ∃ (o : Addr) (l : List (Str × Nat)), vs = [.ref o] ∧ OpsAt H C o l ∧ Q (.int (l.length : Int)) H
def spHas (C : Addr) : Sp := fun vs H Q _ => ∃ (o : Addr) (v : V) (l : List (Str × Nat)), vs = [.ref o, v] ∧ OpsAt H C o l ∧ (∃ ty, Kd H v ty) ∧ Q (.bl (arity l v).isSome) H
def spSt (C : Addr) : Sp := fun vs H Q _ => ∃ (o : Addr) (l : List (Str × Nat)), vs = [.ref o] ∧ OpsAt H C o l ∧ l.length ≤ 8 ∧ Q (.str (((toString (l.length : Int) : String) : Str) ++ " operators")) H
theorem empty_app (a : Str) : Str.empty ++ a = a := by
  apply str_ext
  show (Str.empty.cps ++ a.cps).toList = _
  rw [Array.toList_append]
  rfl
theorem dec_c0 {l : List (Str × Nat)} {z : Str} {a : Nat} (nd : (l.map (·.1)).Nodup) (m : (z, a) ∈ l) : isC0 l (.str z) = decide (V.int (a : Int) = V.int 0) := by
  have e : arity l (.str z) = some (a : Int) := by
    show (match valV (dkv l) (.inr z : Key) with | some (.int a) => some a | _ => none) = some (a : Int)
    rw [val_some nd m]
  unfold isC0
  rw [e]
  by_cases c : (a : Int) = 0
  · rw [c]
    rfl
  · rw [decide_eq_false (fun q => c (V.int.inj q)), decide_eq_false (fun q => c (Option.some.inj q))]
theorem pe_fldK {X : Cx} {K : PySem.W.Frag} {e : Expr} {f : Str} {pos : Pos} {ta : TE} (h : X.K = K) (he : PE X e ta) (hb : attributeBase e f X.env (eval e X.env) = eval e X.env) : PE X (.Attribute e f pos) (tFld K ta f) := h ▸ pe_fld he hb
section
variable {P : Program} {w : World} {K : PySem.W.Frag} {mg : Str → Option Value} {base : Heap} {C : Addr}
theorem scPN : FnScope ["self"] ["self"] (defScope mNames) := ⟨rfl, rfl, rfl, by decide +kernel, rfl, by decide +kernel, by decide +kernel⟩
theorem ok_pn {f : Addr} {fd : FuncData} (F : Fun K "names" "Operators.names" mNames f fd) (cf : OpF K C) : FnOk P w K mg base CX0 1 f fd ["self"] (spPN C) := by
  refine F.ok scPN (fun vs H Q E h => ?_) (fun cdv A outer s H vs Q E hr h => ?_)
  · obtain ⟨o, l, rfl, _⟩ := h
    rfl
  · obtain ⟨o, l, rfl, op, q⟩ := h
    refine ⟨_, pss_one (ps_ret (pe_fld (pv 0) rfl)), ?_⟩
    obtain ⟨dx, tn, ta, tl, ho, hn, ha⟩ := op.ex
    exact ⟨_, rfl, o, C, dx, _, _, rfl, ho, cf.cls, cf.n1, rfl, q tn hn⟩
theorem scPA : FnScope ["self"] ["self"] (defScope mArities) := ⟨rfl, rfl, rfl, by decide +kernel, rfl, by decide +kernel, by decide +kernel⟩
theorem ok_pa {f : Addr} {fd : FuncData} (F : Fun K "arities" "Operators.arities" mArities f fd) (cf : OpF K C) (T : Free mg) : FnOk P w K mg base CX0 1 f fd ["self"] (spPA C) := by
  refine F.ok scPA (fun vs H Q E h => ?_) (fun cdv A outer s H vs Q E hr h => ?_)
  · obtain ⟨o, l, rfl, _⟩ := h
    rfl
  · obtain ⟨o, l, rfl, op, q⟩ := h
    refine ⟨_, pss_one (ps_ret (pe_callTy call_dictD (by rfl) T.dict (by decide +kernel) (pa_cons (pe_fld (pv 0) rfl) pa_nil))), ?_⟩
    obtain ⟨dx, tn, ta, tl, ho, hn, ha⟩ := op.ex
    exact ⟨_, rfl, o, C, dx, _, _, rfl, ho, cf.cls, cf.n2, rfl, ta, _, rfl, .inl ha, q⟩
theorem scPC : FnScope ["self", "name"] ["self"] (defScope mConstants) := ⟨rfl, rfl, rfl, by decide +kernel, rfl, by decide +kernel, by decide +kernel⟩
theorem ok_pc {f : Addr} {fd : FuncData} (F : Fun K "constants" "Operators.constants" mConstants f fd) (cf : OpF K C) (T : Free mg) : FnOk P w K mg base CX0 1 f fd ["self"] (spPC C) := by
  refine F.ok scPC (fun vs H Q E h => ?_) (fun cdv A outer s H vs Q E hr h => ?_)
  · obtain ⟨o, l, rfl, _⟩ := h
    rfl
  · obtain ⟨o, l, rfl, op, nd, few, q⟩ := h
    have hu := hr.units
    have hu1 : ∀ {u : Nat}, u + 64 < cLine → u + 1 < cLine := fun h => by omega
    refine ⟨_, pss_one (ps_ret (pe_callTy Tx.call_tupX (by rfl) T.tuple (by decide +kernel) (pa_cons (pe_lc (own := [("name", 1)]) (g := gName 1) (by rfl) scPC.nd (pi_tup (pe_fld (pv 0) rfl)) (blkOk_by (own := [("name", 1)]) (N := ["self", "name"]) (sc := defScope mConstants) (by decide +kernel))
      (fun _ _ _ _ _ => pg_name (i := 1) scPC.nd rfl (Or.inl rfl)) (fun _ _ _ _ _ => pts_one (pt_cmpR op_eq (pe_dget (hu1 hu) (pe_fldK (K := K) rfl (pv 0) rfl) (pv 1) (fun _ _ => rfl)) pe_int (nomark _))) (fun _ _ _ _ _ => pv 1)) pa_nil))), ?_⟩
    obtain ⟨dx, tn, ta, tl, ho, hn, ha⟩ := op.ex
    refine ⟨_, rfl, o, C, dx, _, _, rfl, ho, cf.cls, cf.n1, rfl, tn, rfl, ⟨_, SqT.of hn⟩, fun D nD => ?_⟩
    refine lc_filtT (isC0 l) (show 1 < 2 by decide) (fun G s => SqT.of (s _ _ hn)) nD (fit5 (by rw [List.length_map]; omega)) (fun x m G s R r => ?_) fun G eD sG => ?_
    · obtain ⟨p, hp, rfl⟩ := List.mem_map.mp m
      have vz := val_some nd (show (p.1, p.2) ∈ l from hp)
      rw [dec_c0 nd (show (p.1, p.2) ∈ l from hp)] at r
      exact ⟨_, rfl, o, C, dx, _, _, rfl, s _ _ ho, cf.cls, cf.n2, rfl, _, rfl, ta, _, rfl, vz ▸ DGet.k (k := .inr p.1) (s _ _ ha), rfl, _, rfl, r⟩
    · exact ⟨D, _, rfl, SqL.of eD, fun t G2 nt s2 tx => q t G2 (sG.trans s2) tx⟩
theorem scLn : FnScope ["self"] ["self"] (defScope mLen) := ⟨rfl, rfl, rfl, by decide +kernel, rfl, by decide +kernel, by decide +kernel⟩
theorem ok_ln {f : Addr} {fd : FuncData} (F : Fun K "__len__" "Operators.__len__" mLen f fd) (cf : OpF K C) (T : Free mg) : FnOk P w K mg base CX0 1 f fd ["self"] (spLn C) := by
  refine F.ok scLn (fun vs H Q E h => ?_) (fun cdv A outer s H vs Q E hr h => ?_)
  · obtain ⟨o, l, rfl, _⟩ := h
    rfl
  · obtain ⟨o, l, rfl, op, q⟩ := h
    refine ⟨_, pss_one (ps_ret (pe_callB call_len_seq (by rfl) T.len PySem.boot_len (pa_cons (pe_fld (pv 0) rfl) pa_nil))), ?_⟩
    obtain ⟨dx, tn, ta, tl, ho, hn, ha⟩ := op.ex
    refine ⟨_, rfl, o, C, dx, _, _, rfl, ho, cf.cls, cf.n1, rfl, tn, _, rfl, .inr (SqT.of hn), ?_⟩
    rw [List.length_map]
    exact q
theorem scHas : FnScope ["self", "value"] ["self", "value"] (defScope mContains) := ⟨rfl, rfl, rfl, by decide +kernel, rfl, by decide +kernel, by decide +kernel⟩
theorem ok_has {f : Addr} {fd : FuncData} (F : Fun K "__contains__" "Operators.__contains__" mContains f fd) (cf : OpF K C) (T : Free mg) : FnOk P w K mg base CX0 1 f fd ["self", "value"] (spHas C) := by
  refine F.ok scHas (fun vs H Q E h => ?_) (fun cdv A outer s H vs Q E hr h => ?_)
  · obtain ⟨o, v, l, rfl, _⟩ := h
    rfl
  · obtain ⟨o, v, l, rfl, op, ⟨ty, kd⟩, q⟩ := h
    have hu := hr.units
    have hu1 : ∀ {u : Nat}, u + 64 < cLine → u + 1 < cLine := fun h => by omega
    refine ⟨_, pss_one (ps_ret (pe_and (pe_callB call_isi (by rfl) T.isi (by decide +kernel) (pa_cons (pv 1) (pa_cons (pe_bltn (v := .ty "str") (by rfl) T.str (by decide +kernel) rfl) pa_nil))) (pe_one (pe_cmp (pc_din (hu1 hu) (pv 1) (pe_fld (pv 0) rfl)))))), ?_⟩
    obtain ⟨dx, tn, ta, tl, ho, hn, ha⟩ := op.ex
    refine ⟨_, rfl, v, _, _, _, _, rfl, .ty "str", kd.ty, isS_kd kd, _, rfl, ?_⟩
    cases kd with
    | str z =>
      refine iteT ⟨_, rfl, _, rfl, o, C, dx, _, _, rfl, ho, cf.cls, cf.n2, rfl, ta, _, rfl, DGet.k (k := .inr z) ha, ?_⟩
      rw [← arity_str]
      exact q
    | _ => exact iteF q
theorem scSt : FnScope ["self"] ["self"] (defScope mStr) := ⟨rfl, rfl, rfl, by decide +kernel, rfl, by decide +kernel, by decide +kernel⟩
theorem ok_st {f : Addr} {fd : FuncData} (F : Fun K "__str__" "Operators.__str__" mStr f fd) (cf : OpF K C) (T : Free mg) : FnOk P w K mg base CX0 1 f fd ["self"] (spSt C) := by
  refine F.ok scSt (fun vs H Q E h => ?_) (fun cdv A outer s H vs Q E hr h => ?_)
  · obtain ⟨o, l, rfl, _⟩ := h
    rfl
  · obtain ⟨o, l, rfl, op, few, q⟩ := h
    refine ⟨_, pss_one (ps_ret (pe_joined (.cons (pe_fmt (pe_callB call_len_seq (by rfl) T.len PySem.boot_len (pa_cons (pe_fld (pv 0) rfl) pa_nil))) (.cons pe_str .nil)))), ?_⟩
    obtain ⟨dx, tn, ta, tl, ho, hn, ha⟩ := op.ex
    have lg : ((l.length : Int)).natAbs.log2 < 1920 := Nat.lt_of_le_of_lt (Nat.log2_le_self _) (by omega)
    have tl8 : (((toString (l.length : Int) : String) : Str)).length ≤ 1921 := PyProof.Rows.int_text_len_1921 lg
    have n0 : Str.empty.length = 0 := rfl
    have n1 : ((" operators" : Str)).length = 10 := rfl
    refine ⟨_, rfl, o, C, dx, _, _, rfl, ho, cf.cls, cf.n1, rfl, tn, _, rfl, .inr (SqT.of hn), ?_⟩
    rw [List.length_map]
    refine .inr ⟨_, rfl, lg, _, rfl, by rw [strLen_append, n0, sizeLine_eq]; omega, _, rfl, by rw [strLen_append, strLen_append, n0, n1, sizeLine_eq]; omega, ?_⟩
    rw [empty_app]
    exact q
end
end Pr
namespace Pr
open PySem PySem.Spec PyProof.Rows L2 Gd
/-! ### rows of names and of numbers, told apart -/
def strD (z : Str) : PyData := .str z
theorem dp_strs {K : PySem.W.Frag} {H : Hp} : ∀ zs : List Str, DpAll K H (zs.map V.str) (zs.map strD)
  | [] => .nil
  | z :: zs => .cons (.str z) (dp_strs zs)
theorem low_depth : ∀ {ds : List PyData}, (∀ d ∈ ds, d.depth = 0) → PyData.depthAll ds = 0
  | [], _ => rfl
  | d :: ds, h => by
    simp only [PyData.depthAll]
    rw [h d List.mem_cons_self, low_depth fun x m => h x (List.mem_cons_of_mem _ m)]
    rfl
theorem lay_all : ∀ {ds : List PyData}, (∀ d ∈ ds, d.canLay0 = true) → PyData.canLayAll0 ds = true
  | [], _ => rfl
  | d :: ds, h => by
    simp only [PyData.canLayAll0]
    rw [h d List.mem_cons_self, lay_all fun x m => h x (List.mem_cons_of_mem _ m)]
    rfl
theorem shaped_row {ds : List PyData} (h : ∀ d ∈ ds, d.depth = 0 ∧ d.canLay0 = true) : SeqAt.shaped (.tuple ds) = true := by
  have e : PyData.depth (.tuple ds) = PyData.depthAll ds + 1 := by simp only [PyData.depth]
  have e2 : PyData.canLay0 (.tuple ds) = PyData.canLayAll0 ds := by simp only [PyData.canLay0]
  unfold SeqAt.shaped
  rw [e, e2, low_depth fun d m => (h d m).1, lay_all fun d m => (h d m).2]
  rfl
theorem shaped_strs {zs : List Str} (h : ∀ z ∈ zs, PyData.strOk z = true) : SeqAt.shaped (.tuple (zs.map strD)) = true := shaped_row fun d m => by
  obtain ⟨z, hz, rfl⟩ := List.mem_map.mp m
  exact ⟨by unfold strD; simp only [PyData.depth], by unfold strD; simp only [PyData.canLay0]; exact h z hz⟩
theorem neT {K : PySem.W.Frag} {H : Hp} {x y : V} {Q : VK} {ds : List PyData} (hx : Dp K H x (.tuple ds)) (hy : Dp K H y (.tuple ds)) (hs : SeqAt.shaped (.tuple ds) = true) (q : Q (.bl false) H) : rNeD K x y H Q :=
  ⟨_, _, hx, hy, hs, hs, by rw [SeqAt.eqv_refl _ (SeqAt.canLay_of_shaped hs)]; exact q⟩
theorem eqT {K : PySem.W.Frag} {H : Hp} {x y : V} {Q : VK} {ds : List PyData} (hx : Dp K H x (.tuple ds)) (hy : Dp K H y (.tuple ds)) (hs : SeqAt.shaped (.tuple ds) = true) (q : Q (.bl true) H) : rEqD K x y H Q :=
  ⟨_, _, hx, hy, hs, hs, by rw [SeqAt.eqv_refl _ (SeqAt.canLay_of_shaped hs)]; exact q⟩
theorem neStrs {K : PySem.W.Frag} {H : Hp} {a b : Addr} {Q : VK} {zs : List Str} (ha : H a = some (.tup (zs.map V.str))) (hb : H b = some (.tup (zs.map V.str))) (hz : ∀ z ∈ zs, PyData.strOk z = true) (q : Q (.bl false) H) : rNeD K (.ref a) (.ref b) H Q :=
  neT (.tup (SqT.of ha) (dp_strs zs)) (.tup (SqT.of hb) (dp_strs zs)) (shaped_strs hz) q
theorem eqStrs {K : PySem.W.Frag} {H : Hp} {a b : Addr} {Q : VK} {zs : List Str} (ha : H a = some (.tup (zs.map V.str))) (hb : H b = some (.tup (zs.map V.str))) (hz : ∀ z ∈ zs, PyData.strOk z = true) (q : Q (.bl true) H) : rEqD K (.ref a) (.ref b) H Q :=
  eqT (.tup (SqT.of ha) (dp_strs zs)) (.tup (SqT.of hb) (dp_strs zs)) (shaped_strs hz) q
end Pr
namespace Pr
open PySem PySem.Spec PyProof.Rows L2 Gd
/-! ### _law_is_told -/
structure PrF (K : PySem.W.Frag) (C : Addr) (name qual : Str) (st : Stmt) (p f : Addr) (fd : FuncData) : Prop where
  F : Fun K name qual st f fd
  b : Binds K fd ["self"] []
  pr : PropOf K C name p f
structure OwF (K : PySem.W.Frag) (C : Addr) (name qual : Str) (st : Stmt) (f : Addr) (fd : FuncData) (ps : List Str) : Prop where
  F : Fun K name qual st f fd
  b : Binds K fd ps []
  o : OwnM K C name f
def spTold (C : Addr) : Sp := fun vs H Q _ => ∃ (d o ad : Addr) (l l' : List (Str × Nat)) (n : Nat), vs = [.ref d, .ref o, .ref ad] ∧ ad ≠ d ∧ l'.Perm l ∧ sortedS (l'.map (·.1)) = true ∧ OpsAt H C o l' ∧ H ad = some (.dK (dkv l)) ∧ Ars l ∧ Dice H d n ∧ n + 26 < 1000000 ∧
  ∀ H', Kp d H H' → Dice H' d (n + 26) → Q (.bl true) H'
theorem OpsAt.kp {H H' : Hp} {C o d : Addr} {l : List (Str × Nat)} {xs : List V} (h : OpsAt H C o l) (k : Kp d H H') (e : H d = some (.lst xs)) : OpsAt H' C o l := by
  obtain ⟨dx, tn, ta, tl, a, b, c⟩ := h.ex
  have ne : ∀ {b : Addr} {u : HO}, H b = some u → u ≠ .lst xs → b ≠ d := fun hb hu q => by
    rw [q, e] at hb
    exact hu (Option.some.inj hb).symm
  exact ⟨dx, tn, ta, tl, k _ _ (ne a (fun z => nomatch z)) a, k _ _ (ne b (fun z => nomatch z)) b, k _ _ (ne c (fun z => nomatch z)) c⟩
theorem isC0_perm {l l' : List (Str × Nat)} (nd : (l.map (·.1)).Nodup) (p : l'.Perm l) : isC0 l' = isC0 l := by
  funext v
  unfold isC0
  rw [arity_perm nd p]
theorem pool_ok : ∀ z ∈ Pr.pool, PyData.strOk z = true := by decide +kernel
def oddB (l : List (Str × Nat)) (v : V) : Bool := !isS v || !(arity l v).isSome
theorem dp_map {K : PySem.W.Frag} {H : Hp} {xs : List V} {zs : List Str} (e : xs = zs.map V.str) : DpAll K H xs (zs.map strD) := e ▸ dp_strs zs
section
variable {P : Program} {w : World} {K : PySem.W.Frag} {mg : Str → Option Value} {base : Heap} {C : Addr} {fR fP fM : Addr} {dR dP dM : FuncData} {pN pA pC fN fA fC fL fH fS fO : Addr} {dN dA dC dL dH dS dO : FuncData}
theorem scTold : FnScope ["dice", "ops", "arities", "names", "constants", "told", "odd", "name", "value"] ["dice", "ops", "arities"] (defScope sTold) := ⟨rfl, rfl, rfl, by decide +kernel, rfl, by decide +kernel, by decide +kernel⟩
theorem ok_told {f : Addr} {fd : FuncData} (F : Fun K "_law_is_told" "_law_is_told" sTold f fd) (D : Draws K mg fR fP fM dR dP dM) (T : Free mg) (cf : OpF K C) (pn : PrF K C "names" "Operators.names" mNames pN fN dN) (pa : PrF K C "arities" "Operators.arities" mArities pA fA dA) (pc : PrF K C "constants" "Operators.constants" mConstants pC fC dC)
    (ol : OwF K C "__len__" "Operators.__len__" mLen fL dL ["self"]) (oh : OwF K C "__contains__" "Operators.__contains__" mContains fH dH ["self", "value"]) (os : OwF K C "__str__" "Operators.__str__" mStr fS dS ["self"])
    (gO : GlF K mg "_law_odd_values" sOdd fO dO ["dice"]) : FnOk P w K mg base CX0 4 f fd ["dice", "ops", "arities"] (spTold C) := by
  have GN : FnOk P w K mg base CX0 1 fN dN ["self"] (spPN C) := ok_pn pn.F cf
  have GA : FnOk P w K mg base CX0 1 fA dA ["self"] (spPA C) := ok_pa pa.F cf T
  have GC : FnOk P w K mg base CX0 1 fC dC ["self"] (spPC C) := ok_pc pc.F cf T
  have GL : FnOk P w K mg base CX0 1 fL dL ["self"] (spLn C) := ok_ln ol.F cf T
  have GH : FnOk P w K mg base CX0 1 fH dH ["self", "value"] (spHas C) := ok_has oh.F cf T
  have GS : FnOk P w K mg base CX0 1 fS dS ["self"] (spSt C) := ok_st os.F cf T
  have GO : FnOk P w K mg base CX0 3 fO dO ["dice"] spOdd := ok_odd gO.F D T
  refine F.ok scTold (fun vs H Q E h => ?_) (fun cdv A outer s H vs Q E hr h => ?_)
  · obtain ⟨d, o, ad, l, l', n, rfl, _⟩ := h
    rfl
  · obtain ⟨d, o, ad, l, l', n, rfl, nad, pl, srt', op, had, ars, di, hn, q⟩ := h
    have hu := hr.units
    have hu0 : ∀ {u : Nat}, u + 64 < cLine → u < cLine := fun h => by omega
    have hu1 : ∀ {u : Nat}, u + 64 < cLine → u + 1 < cLine := fun h => by omega
    have r1 : Room 1 _ := hr.mono (by decide)
    have r2 : Room 2 _ := hr.mono (by decide)
    have r3 : Room 3 _ := hr.mono (by decide)
    refine ⟨_, pss_cons (ps_set (i := 3) scTold.nd rfl (.inl rfl) (pe_callB (call_sortedD (by rfl)) (by rfl) T.sorted (by decide +kernel) (pa_cons (pv 2) pa_nil)))
      (pss_cons (ps_setLc (i := 4) (own := [("name", 7)]) (g := gName 7) (by rfl) scTold.nd rfl rfl (sw_true rfl rfl rfl (by decide +kernel)) (pi_list (pv 3)) (blkOk_by (own := [("name", 7)]) (N := ["dice", "ops", "arities", "names", "constants", "told", "odd", "name", "value"]) (sc := defScope sTold) (by decide +kernel))
        (fun _ _ _ _ _ => pg_name (i := 7) scTold.nd rfl (Or.inl rfl)) (fun _ _ _ _ _ => pts_one (pt_cmpR op_eq (pe_dget (hu1 hu) (pv 2) (pv 7) (fun _ _ => rfl)) pe_int (nomark _))) (fun _ _ _ _ _ => pv 7))
      (pss_cons (ps_if (PW.pt (pw_or (pt_cmpR (op_neD hu) (pe_prop (pv 1) cf.cls pn.pr GN r2 pn.b .nil pass0 rfl) (pe_callTy Tx.call_tupX (by rfl) T.tuple (by decide +kernel) (pa_cons (pv 3) pa_nil)) (nomark _))
          (pw_or (pt_cmpR (op_neD hu) (pe_prop (pv 1) cf.cls pc.pr GC r2 pc.b .nil pass0 rfl) (pe_callTy Tx.call_tupX (by rfl) T.tuple (by decide +kernel) (pa_cons (pv 4) pa_nil)) (nomark _))
          (pw_or1 (pt_cmpR (op_neL hu) (pe_callTy (call_listD (by rfl)) (by rfl) T.list (by decide +kernel) (pa_cons (pe_prop (pv 1) cf.cls pa.pr GA r2 pa.b .nil pass0 rfl) pa_nil)) (pv 3) (nomark _)))))) (pss_one ps_never) pss_nil)
      (pss_cons (ps_if (PW.pt (pw_or (pt_cmpR (op_ne_dictA (hu0 hu)) (pe_prop (pv 1) cf.cls pa.pr GA r2 pa.b .nil pass0 rfl) (pv 2) (nomark _))
          (pw_or (pt_cmpR op_ne (pe_callB (call_lenO GL ol.b r2 ol.o) (by rfl) T.len PySem.boot_len (pa_cons (pv 1) pa_nil)) (pe_callB call_len_seq (by rfl) T.len PySem.boot_len (pa_cons (pv 3) pa_nil)) (nomark _))
          (pw_or1 (pt_cmpR op_ne (pe_callTy (call_strO GS os.b r3 os.o) (by rfl) T.str (by decide +kernel) (pa_cons (pv 1) pa_nil)) (pe_op op_add_str (pe_callTy call_str_int (by rfl) T.str (by decide +kernel) (pa_cons (pe_callB call_len_seq (by rfl) T.len PySem.boot_len (pa_cons (pv 3) pa_nil)) pa_nil)) pe_str) (nomark _)))))) (pss_one ps_never) pss_nil)
      (pss_cons (ps_set (i := 5) scTold.nd rfl (.inl rfl) (pe_prop (pv 1) cf.cls pa.pr GA r2 pa.b .nil pass0 rfl))
      (pss_cons (ps_expr (pe_dclear (pv 5)))
      (pss_cons (ps_setLc (i := 6) (own := [("value", 8)]) (g := gName 8) (by rfl) scTold.nd rfl rfl (sw_true rfl rfl rfl (by decide +kernel)) (pi_list (pe_call GO (hr.mono (by decide)) (by rfl) gO.g gO.F.kp gO.b .nil pass0 (pa_cons (pv 0) pa_nil))) (blkOk_by (own := [("value", 8)]) (N := ["dice", "ops", "arities", "names", "constants", "told", "odd", "name", "value"]) (sc := defScope sTold) (by decide +kernel))
        (fun _ _ _ _ _ => pg_name (i := 8) scTold.nd rfl (Or.inl rfl)) (fun _ _ _ _ _ => pts_one (PW.pt (pw_or (pt_not (pt_val (pe_callB (call_isiK (K := K) rfl) (by rfl) T.isi (by decide +kernel) (pa_cons (pv 8) (pa_cons (pe_bltn (v := .ty "str") (by rfl) T.str (by decide +kernel) rfl) pa_nil))))) (pw_or1 (pt_cmp (pc_dnotin (hu1 hu) (pv 8) (pv 2))))))) (fun _ _ _ _ _ => pv 8))
      (pss_cons (ps_set (i := 6) scTold.nd rfl (.inl rfl) (pe_op op_cat (pe_lc (own := [("value", 8)]) (g := gName 8) (by rfl) scTold.nd (pi_list (pv 6)) (blkOk_by (own := [("value", 8)]) (N := ["dice", "ops", "arities", "names", "constants", "told", "odd", "name", "value"]) (sc := defScope sTold) (by decide +kernel))
          (fun _ _ _ _ _ => pg_name (i := 8) scTold.nd rfl (Or.inl rfl)) (fun _ _ _ _ _ => pts_one (pt_cmpR (op_inO GH oh.b r1 oh.o) (pv 8) (pv 1) (by rfl))) (fun _ _ _ _ _ => pv 8))
        (pe_lc (own := [("name", 7)]) (g := gName 7) (by rfl) scTold.nd (pi_list (pv 3)) (blkOk_by (own := [("name", 7)]) (N := ["dice", "ops", "arities", "names", "constants", "told", "odd", "name", "value"]) (sc := defScope sTold) (by decide +kernel))
          (fun _ _ _ _ _ => pg_name (i := 7) scTold.nd rfl (Or.inl rfl)) (fun _ _ _ _ _ => pts_one (pt_cmpR (op_notInO GH oh.b r1 oh.o) (pv 7) (pv 1) (by rfl))) (fun _ _ _ _ _ => pv 7))))
      (pss_one (ps_ret (pe_and (pe_cmpR (op_eq_dictA (hu0 hu)) (pe_prop (pv 1) cf.cls pa.pr GA r2 pa.b .nil pass0 rfl) (pv 2) (nomark _)) (pe_one (pe_cmpR (op_eqL hu) (pv 6) (pe_lst pa_nil) (nomark _))))))))))))), ?_⟩
    have nd := ars.nd
    have nd' : (l'.map (·.1)).Nodup := (pl.map _).nodup_iff.mpr nd
    have few := ars.few
    have few' : l'.length ≤ 4 := by
      rw [pl.length_eq]
      exact few.2
    refine ⟨_, rfl, ad, dkv l, l.map (·.1), rfl, .inl had, by unfold dkv; rw [List.map_map, List.map_map]; rfl, by rw [List.length_map]; omega, fun ks ns pk srt nns => ?_⟩
    have ek : ks = l'.map (·.1) := sorted_one srt srt' (pk.trans (pl.map _).symm)
    subst ek
    have lz : ((l'.map (·.1)).map V.str).length = l'.length := by rw [List.length_map, List.length_map]
    have zmap : (l'.map fun p => V.str p.1) = (l'.map (·.1)).map V.str := by
      rw [List.map_map]
      rfl
    have hz : ∀ z ∈ l'.map (·.1), PyData.strOk z = true := fun z m => by
      obtain ⟨p, hp, rfl⟩ := List.mem_map.mp m
      exact pool_ok _ (ars.pool p (pl.mem_iff.mp hp))
    have mem' : ∀ v ∈ (l'.map (·.1)).map V.str, ∃ p, p ∈ l' ∧ v = V.str p.1 := fun v m => by
      rw [List.map_map] at m
      obtain ⟨p, hp, e⟩ := List.mem_map.mp m
      exact ⟨p, hp, e.symm⟩
    have s1 := Same.new nns (o := .lst ((l'.map (·.1)).map V.str))
    have hns : (upd H ns (.lst ((l'.map (·.1)).map V.str))) ns = some (.lst ((l'.map (·.1)).map V.str)) := upd_same
    generalize upd H ns (.lst ((l'.map (·.1)).map V.str)) = H1 at s1 hns ⊢
    have had1 := s1 _ _ had
    -- constants
    refine ⟨_, rfl, ns, rfl, ⟨_, SqL.of hns⟩, fun D nD => ?_⟩
    refine lc_filtL (isC0 l) (show 7 < 9 by decide) (fun G s => SqL.of (s _ _ hns)) nD (fit5 (by rw [lz]; omega)) (fun x m G s R r => ?_) fun G eD sG => ?_
    · obtain ⟨p, hp, rfl⟩ := mem' x m
      have ml := pl.mem_iff.mp hp
      have vz := val_some nd (show (p.1, p.2) ∈ l from ml)
      rw [dec_c0 nd (show (p.1, p.2) ∈ l from ml)] at r
      exact ⟨_, rfl, _, rfl, ad, _, rfl, vz ▸ DGet.k (k := .inr p.1) (s _ _ had1), rfl, _, rfl, r⟩
    have s2 := s1.trans sG
    have hns2 := sG _ _ hns
    have cmap : ((l'.map (·.1)).map V.str).filter (isC0 l) = ((l'.map (·.1)).filter fun z => isC0 l (.str z)).map V.str := by
      rw [List.filter_map]
      rfl
    -- names
    have op2 := op.same s2
    obtain ⟨dx, tn0, ta, tl, ho, _⟩ := op2.ex
    refine ⟨_, rfl, o, dx, _, rfl, ho, o, l', rfl, op2, fun tn htn => ?_⟩
    rw [zmap] at htn
    refine ⟨_, rfl, ns, _, rfl, SqL.of hns2, fun q1 G1 n1 t1 x1 => ?_⟩
    have sh := shaped_strs hz
    refine ⟨_, _, .tup (SqT.of (t1 _ _ htn)) (dp_strs _), .tup x1.sq (dp_strs _), sh, sh, ?_⟩
    rw [SeqAt.eqv_refl _ (SeqAt.canLay_of_shaped sh)]
    refine ⟨_, rfl, if_false_of rfl ?_⟩
    -- constants
    have op3 := op2.same t1
    refine ⟨_, rfl, o, dx, _, rfl, t1 _ _ ho, o, l', rfl, op3, nd', by omega, fun q2 G2 t2 x2 => ?_⟩
    rw [zmap, isC0_perm nd pl, cmap] at x2
    have eD2 := t2 _ _ (t1 _ _ eD)
    rw [cmap] at eD2
    refine ⟨_, rfl, D, _, rfl, SqL.of eD2, fun q3 G3 n3 t3 x3 => ?_⟩
    have sh2 := shaped_strs (zs := (l'.map (·.1)).filter fun z => isC0 l (.str z)) fun z m => hz z (List.mem_filter.mp m).1
    refine ⟨_, _, .tup (Tx.TX.same x2 t3).sq (dp_strs _), .tup x3.sq (dp_strs _), sh2, sh2, ?_⟩
    rw [SeqAt.eqv_refl _ (SeqAt.canLay_of_shaped sh2)]
    refine ⟨_, rfl, if_false_of rfl ?_⟩
    -- list(ops.arities)
    have t03 := (t1.trans t2).trans t3
    have op4 := op2.same t03
    have hns4 := t03 _ _ hns2
    refine ⟨_, rfl, o, dx, _, rfl, t03 _ _ ho, o, l', rfl, op4, fun p1 np1 => ⟨p1, dkv l', rfl, .inl upd_same, fun p2 np2 => ?_⟩⟩
    have t4 := (Same.new np1 (o := .dK (dkv l'))).trans (Same.new np2 (o := .lst ((dkv l').map fun kv => kV kv.1)))
    have kmap : ((dkv l').map fun kv => kV kv.1) = (l'.map (·.1)).map V.str := by
      unfold dkv
      rw [List.map_map, List.map_map]
      rfl
    refine ⟨_, rfl, p2, ns, _, _, rfl, rfl, SqL.of upd_same, SqL.of (t4 _ _ hns4), .inr ⟨kmap, fun v m => ?_, _, rfl, if_false_of rfl ?_⟩⟩
    · rw [kmap] at m
      obtain ⟨p, _, rfl⟩ := mem' v m
      exact ⟨_, .str _⟩
    have s5 := (s2.trans t03).trans t4
    have hns5 := t4 _ _ hns4
    clear hns2 hns4 op2 op3 op4 htn x1 x2 x3 eD eD2 s2
    generalize upd (upd G3 p1 (.dK (dkv l'))) p2 (.lst ((dkv l').map fun kv => kV kv.1)) = H5 at s5 hns5 ⊢
    -- ops.arities != arities
    have op5 := op.same s5
    obtain ⟨dx, tn0, ta, tl, ho, _⟩ := op5.ex
    have had5 := s5 _ _ had
    have ldk : (dkv l').length = (dkv l).length := by
      unfold dkv
      rw [List.length_map, List.length_map, pl.length_eq]
    have alldk : ∀ p ∈ dkv l', valV (dkv l) p.1 = some p.2 ∧ flatB p.2 = true := fun p m => by
      unfold dkv at m
      obtain ⟨x, hx, rfl⟩ := List.mem_map.mp m
      exact ⟨val_some nd (show (x.1, x.2) ∈ l from pl.mem_iff.mp hx), rfl⟩
    refine ⟨_, rfl, o, dx, _, rfl, ho, o, l', rfl, op5, fun p3 np3 => ⟨_, rfl, p3, ad, dkv l', dkv l, rfl, rfl, upd_same, (Same.new np3) _ _ had5, ldk, alldk, _, rfl, if_false_of rfl ?_⟩⟩
    have s6 := s5.trans (Same.new np3 (o := .dK (dkv l')))
    have hns6 := (Same.new np3 (o := .dK (dkv l'))) _ _ hns5
    have ho6 := (Same.new np3 (o := .dK (dkv l'))) _ _ ho
    generalize upd H5 p3 (.dK (dkv l')) = H6 at s6 hns6 ho6 ⊢
    have op6 := op.same s6
    -- len
    have lg : ((l'.length : Int)).natAbs.log2 < 1920 := Nat.lt_of_le_of_lt (Nat.log2_le_self _) (by omega)
    have tl8 : (((toString (l'.length : Int) : String) : Str)).length ≤ 1921 := PyProof.Rows.int_text_len_1921 lg
    refine ⟨_, rfl, o, dx, _, rfl, ho6, o, l', rfl, op6, _, rfl, by omega, by omega, _, rfl, ns, _, rfl, .inl (SqL.of hns6), ?_⟩
    rw [lz]
    refine ⟨rfl, _, rfl, if_false_of neSelf ?_⟩
    refine ⟨_, rfl, o, dx, _, rfl, ho6, o, l', rfl, op6, by omega, _, rfl, _, rfl, ns, _, rfl, .inl (SqL.of hns6), ?_⟩
    rw [lz]
    refine ⟨_, rfl, lg, _, _, rfl, rfl, by rw [show ((" operators" : Str)).length = 10 from rfl, sizeLine_eq]; have tl9 : ((Str.ofString (toString (l'.length : Int)))).length ≤ 1921 := tl8; omega, rfl, _, rfl, if_false_of neSelf ?_⟩
    -- told
    refine ⟨_, rfl, o, dx, _, rfl, ho6, o, l', rfl, op6, fun td ntd => ?_⟩
    refine ⟨_, rfl, .inr (.inr (.inl ⟨rfl, .inl ⟨_, upd_same⟩⟩)), td, _, rfl, rfl, upd_same, ?_⟩
    have s7 : Same H (upd (upd H6 td (.dK (dkv l'))) td (.dK [])) := s6.trans (sameU (Same.new ntd) ntd)
    have hns7 := (sameU (Same.new ntd) ntd : Same H6 (upd (upd H6 td (.dK (dkv l'))) td (.dK []))) _ _ hns6
    generalize upd (upd H6 td (.dK (dkv l'))) td (.dK []) = H7 at s7 hns7 ⊢
    obtain ⟨ds, hd⟩ := di.there
    have di7 := di.same s7
    have hd7 := s7 _ _ hd
    -- odd
    refine ⟨_, rfl, d, n, rfl, di7, by omega, fun od ys H8 nod fod k8 hod lod vod di8 => ?_⟩
    refine ⟨od, rfl, ⟨_, SqL.of hod⟩, fun D8 nD8 => ?_⟩
    have k08 := (Kp.same s7).trans k8
    have op8 := op.kp k08 hd
    have had8 := k08 _ _ nad had
    have nsd : ns ≠ d := fun e => by
      rw [e, hd7] at hns7
      have := HO.lst.inj (Option.some.inj hns7)
      exact absurd (show H ns = none from nns) (by rw [e, hd]; exact fun z => nomatch z)
    have hns8 := k8 _ _ nsd hns7
    have kd8 : ∀ y ∈ ys, ∃ ty, Kd H8 y ty := fun y m => let ⟨ty, k⟩ := (vod y m).kd; ⟨ty, k.same fun a o e => (Hm.some_of e).1⟩
    refine lc_filtL (oddB l) (show 8 < 9 by decide) (fun G s => SqL.of (s _ _ hod)) nD8 (fit5 (by rw [lod]; decide)) (fun x m G s R r => ?_) fun G9 eD9 sG9 => ?_
    · obtain ⟨ty, k⟩ := kd8 x m
      have k := k.same s
      refine ⟨_, rfl, x, _, _, _, _, rfl, .ty "str", k.ty, isS_kd k, _, rfl, ?_⟩
      unfold oddB at r
      cases k with
      | str z =>
        refine if_false_of rfl ⟨_, rfl, _, rfl, ad, _, rfl, DGet.k (k := .inr z) (s _ _ had8), _, rfl, ?_⟩
        rw [← arity_str]
        exact r
      | _ => exact if_true_of rfl r
    have op9 := op8.same sG9
    obtain ⟨dx, tn0, ta, tl, ho9, _⟩ := op9.ex
    have nil1 : (ys.filter (oddB l)).filter (fun v => (arity l' v).isSome) = [] := List.filter_eq_nil_iff.mpr fun v m => by
      have hv := (List.mem_filter.mp m).2
      rw [arity_perm nd pl]
      unfold oddB at hv
      cases v with
      | str z => simpa [isS] using hv
      | _ => exact Bool.false_ne_true
    have nil2 : ((l'.map (·.1)).map V.str).filter (fun v => !(arity l' v).isSome) = [] := List.filter_eq_nil_iff.mpr fun v m => by
      obtain ⟨p, hp, rfl⟩ := mem' v m
      rw [arity_str, val_some nd' (show (p.1, p.2) ∈ l' from hp)]
      simp
    refine ⟨_, rfl, D8, rfl, ⟨_, SqL.of eD9⟩, fun D10 nD10 => ?_⟩
    refine lc_filtL (fun v => (arity l' v).isSome) (show 8 < 9 by decide) (fun G s => SqL.of (s _ _ eD9)) nD10 (fit5 (Nat.lt_of_le_of_lt (List.length_filter_le _ _) (by rw [lod]; decide))) (fun x m G s R r => ?_) fun G10 eD10 sG10 => ?_
    · obtain ⟨ty, k⟩ := kd8 x (List.mem_filter.mp m).1
      exact ⟨_, rfl, _, rfl, o, dx, _, rfl, s _ _ ho9, o, x, l', rfl, op9.same s, ⟨ty, (k.same sG9).same s⟩, _, rfl, _, rfl, r⟩
    have hns10 := sG10 _ _ (sG9 _ _ hns8)
    refine ⟨_, rfl, ns, rfl, ⟨_, SqL.of hns10⟩, fun D11 nD11 => ?_⟩
    have op10 := op9.same sG10
    refine lc_filtL (fun v => !(arity l' v).isSome) (show 7 < 9 by decide) (fun G s => SqL.of (s _ _ hns10)) nD11 (fit5 (by rw [lz]; omega)) (fun x m G s R r => ?_) fun G11 eD11 sG11 => ?_
    · obtain ⟨p, hp, rfl⟩ := mem' x m
      exact ⟨_, rfl, _, rfl, o, dx, _, rfl, s _ _ (sG10 _ _ ho9), o, _, l', rfl, op10.same s, ⟨_, .str _⟩, _, rfl, _, rfl, r⟩
    rw [nil1] at eD10
    rw [nil2] at eD11
    refine ⟨D10, D11, _, _, rfl, rfl, sG11 _ _ eD10, eD11, by decide, fun D12 nD12 => ?_⟩
    have s912 := ((sG9.trans sG10).trans sG11).trans (Same.new nD12 (o := .lst ([] ++ [])))
    have hD12 : (upd G11 D12 (.lst ([] ++ []))) D12 = some (.lst []) := upd_same
    generalize upd G11 D12 (.lst ([] ++ [])) = H12 at s912 hD12 ⊢
    have op12 := op8.same s912
    obtain ⟨dx, tn0, ta, tl, ho12, _⟩ := op12.ex
    refine ⟨_, rfl, o, dx, _, rfl, ho12, o, l', rfl, op12, fun p4 np4 => ⟨_, rfl, p4, ad, dkv l', dkv l, rfl, rfl, upd_same, (Same.new np4) _ _ (s912 _ _ had8), ldk, alldk, _, rfl, iteT ?_⟩⟩
    refine ⟨_, rfl, by decide, fun p5 np5 => ⟨D12, p5, [], [], rfl, rfl, SqL.of (((Same.new np4).trans (Same.new np5)) _ _ hD12), SqL.of upd_same, .inr ⟨rfl, (fun v m => (nomatch m)), ?_⟩⟩⟩
    have s8z := (s912.trans (Same.new np4 (o := .dK (dkv l')))).trans (Same.new np5 (o := .lst []))
    exact q _ (k08.trans (Kp.same s8z)) (di8.same s8z)
end
end Pr
namespace Tb
open PySem PySem.Spec PyProof.Rows L2
theorem op_repXK {X : Cx} {K : PySem.W.Frag} (h : X.K = K) : OpR X (binaryOp .Mult) (rRepX K) := h ▸ op_repX
end Tb
namespace Pr
open PySem PySem.Spec PyProof.Rows L2 Gd
/-! ### _law_long_right -/
def l3 : List (Str × Nat) := [("c", 0), ("s", 1), ("p", 2)]
theorem l3_nd : (l3.map (·.1)).Nodup := by decide +kernel
theorem l3_no : hole ∉ l3.map (·.1) := by decide +kernel
abbrev vS : V := .str "s"
abbrev vC : V := .str "c"
abbrev vP : V := .str "p"
abbrev vH : V := .str "_"
theorem ar_s (l : List (Str × Nat)) (h : l = l3 ∨ l = lH l3) : arity l vS = some 1 := by rcases h with rfl | rfl <;> decide +kernel
theorem ar_c : arity l3 vC = some 0 := by decide +kernel
theorem ar_p : arity l3 vP = some 2 := by decide +kernel
theorem ar_h : arity (lH l3) vH = some 0 := by decide +kernel
theorem rep_succ {α : Type} (k : Nat) (xs ys : List α) : (List.replicate (k + 1) xs).flatten ++ ys = xs ++ ((List.replicate k xs).flatten ++ ys) := by
  rw [List.replicate_succ, List.flatten_cons, List.append_assoc]
theorem wgo_s {l : List (Str × Nat)} (h : arity l vS = some 1) (ys : List V) : ∀ k, wgo l 1 ((List.replicate k [vS]).flatten ++ ys) = wgo l 1 ys
  | 0 => rfl
  | k + 1 => by
    rw [rep_succ]
    show wgo l 1 (vS :: ((List.replicate k [vS]).flatten ++ ys)) = _
    rw [wgo_some (by decide) h]
    exact wgo_s h ys k
theorem wgo_pc (ys : List V) : ∀ k, wgo l3 1 ((List.replicate k [vP, vC]).flatten ++ ys) = wgo l3 1 ys
  | 0 => rfl
  | k + 1 => by
    rw [rep_succ]
    show wgo l3 1 (vP :: vC :: ((List.replicate k [vP, vC]).flatten ++ ys)) = _
    rw [wgo_some (by decide) ar_p, wgo_some (by decide) ar_c]
    exact wgo_pc ys k
theorem len_rep (k : Nat) (xs : List V) (y : V) : ((List.replicate k xs).flatten ++ [y]).length = k * xs.length + 1 := by
  rw [List.length_append, PyProof.Rows.lm_len_rep_flat]
  rfl
theorem tree_s (k : Nat) : tB l3 (some ((List.replicate k [vS]).flatten ++ [vC])) = decide (k + 1 ≤ 5000) := by
  show (decide (((List.replicate k [vS]).flatten ++ [vC]).length ≤ 5000) && wgo l3 1 _) = _
  rw [wgo_s (ar_s l3 (.inl rfl)), len_rep]
  have e : wgo l3 1 [vC] = true := by decide +kernel
  rw [e, Bool.and_true]
  simp
theorem tree_pc (k : Nat) : tB l3 (some ((List.replicate k [vP, vC]).flatten ++ [vC])) = decide (k * 2 + 1 ≤ 5000) := by
  show (decide (((List.replicate k [vP, vC]).flatten ++ [vC]).length ≤ 5000) && wgo l3 1 _) = _
  rw [wgo_pc, len_rep]
  have e : wgo l3 1 [vC] = true := by decide +kernel
  rw [e, Bool.and_true]
  rfl
theorem cnt_s (k : Nat) : ((List.replicate k [vS]).flatten ++ [vH]).countP isH = 1 := by
  induction k with
  | zero => decide +kernel
  | succ k ih =>
    rw [rep_succ]
    show (vS :: ((List.replicate k [vS]).flatten ++ [vH])).countP isH = 1
    rw [List.countP_cons, ih]
    rw [show isH vS = false by decide +kernel]
    rfl
theorem ctx_s (k : Nat) : cB l3 (some ((List.replicate k [vS]).flatten ++ [vH])) = decide (k + 1 ≤ 5000) := by
  show (decide (((List.replicate k [vS]).flatten ++ [vH]).length ≤ 5000) && (decide (_ = 1) && wgo (lH l3) 1 _)) = _
  rw [wgo_s (ar_s (lH l3) (.inr rfl)), len_rep, cnt_s]
  have e : wgo (lH l3) 1 [vH] = true := by decide +kernel
  rw [e]
  simp
theorem ji_rep {H : Hp} {k : Nat} {xs : List V} {y : V} (h : ∀ x ∈ xs, Ji H x) (hy : Ji H y) : ∀ x ∈ (List.replicate k xs).flatten ++ [y], Ji H x := fun x m => by
  rcases List.mem_append.mp m with m | m
  · obtain ⟨l, hl, hx⟩ := List.mem_flatten.mp m
    rw [List.eq_of_mem_replicate hl] at hx
    exact h x hx
  · rw [List.mem_singleton.mp m]
    exact hy
theorem ji1 {H : Hp} (z : Str) : ∀ x ∈ [V.str z], Ji H x := fun x m => by
  rw [List.mem_singleton.mp m]
  exact Ji.str z
theorem ji2 {H : Hp} (z y : Str) : ∀ x ∈ [V.str z, V.str y], Ji H x := fun x m => by
  rcases List.mem_cons.mp m with rfl | m
  · exact Ji.str z
  · rw [List.mem_singleton.mp m]
    exact Ji.str y
def spLong (C : Addr) : Sp := fun vs H Q _ => ∃ (o : Addr) (l : List (Str × Nat)), vs = [.ref o] ∧ OpsAt H C o l ∧ l.Perm l3 ∧ ∀ H', Same H H' → Q (.bl true) H'
section
variable {P : Program} {w : World} {K : PySem.W.Frag} {mg : Str → Option Value} {base : Heap} {C fW fT fC : Addr} {dW dT dC : FuncData} {tk tk2 : Tok}
theorem scLong : FnScope ["ops", "rows", "told", "row", "size"] ["ops"] (defScope sLong) := ⟨rfl, rfl, rfl, by decide +kernel, rfl, by decide +kernel, by decide +kernel⟩
theorem ok_long {f : Addr} {fd : FuncData} (F : Fun K "_law_long_right" "_law_long_right" sLong f fd) (M : Mt K mg C fW dW tk tk2) (T : Free mg) (mT : MtF K C "is_tree" "Operators.is_tree" mIsTree fT dT ["self", "value"]) (mC : MtF K C "is_context" "Operators.is_context" mIsCtx fC dC ["self", "value"]) : FnOk P w K mg base CX0 3 f fd ["ops"] (spLong C) := by
  have GT : FnOk P w K mg base CX0 2 fT dT ["self", "value"] (spTreeV C) := ok_treeV mT.F M T
  have GC : FnOk P w K mg base CX0 2 fC dC ["self", "value"] (spCtxV C) := ok_ctxV mC.F M T
  refine F.ok scLong (fun vs H Q E h => ?_) (fun cdv A outer s H vs Q E hr h => ?_)
  · obtain ⟨o, l, rfl, _⟩ := h
    rfl
  · obtain ⟨o, l, rfl, op, pl, q⟩ := h
    have hu := hr.units
    refine ⟨_, pss_cons (ps_set (i := 1) scLong.nd rfl (.inl rfl) (pe_lst (pa_cons (pe_op Tx.op_catX (pe_op Tb.op_repX (Tx.pe_tupX (pa_cons pe_str pa_nil)) pe_int) (Tx.pe_tupX (pa_cons pe_str pa_nil)))
        (pa_cons (pe_op Tx.op_catX (pe_op Tb.op_repX (Tx.pe_tupX (pa_cons pe_str pa_nil)) pe_int) (Tx.pe_tupX (pa_cons pe_str pa_nil)))
        (pa_cons (pe_op Tx.op_catX (pe_op Tb.op_repX (Tx.pe_tupX (pa_cons pe_str (pa_cons pe_str pa_nil))) pe_int) (Tx.pe_tupX (pa_cons pe_str pa_nil)))
        (pa_cons (pe_op Tx.op_catX (pe_op Tb.op_repX (Tx.pe_tupX (pa_cons pe_str (pa_cons pe_str pa_nil))) pe_int) (Tx.pe_tupX (pa_cons pe_str pa_nil))) pa_nil))))))
      (pss_cons (ps_set (i := 2) scLong.nd rfl (.inl rfl) (pe_op op_cat (pe_lc (own := [("row", 3)]) (g := gName 3) (by rfl) scLong.nd (pi_list (pv 1)) (blkOk_by (own := [("row", 3)]) (N := ["ops", "rows", "told", "row", "size"]) (sc := defScope sLong) (by decide +kernel))
          (fun _ _ _ _ _ => pg_name (i := 3) scLong.nd rfl (Or.inl rfl)) (fun _ _ _ _ _ => pts_nil) (fun _ _ _ _ _ => pe_meth (pv 0) M.cf.cls mT.m GT hr mT.b .nil pass0 (pa_cons (pv 3) pa_nil)))
        (pe_lc (own := [("size", 4)]) (g := gName 4) (by rfl) scLong.nd (pi_tup (pe_tup (pa_cons pe_int (pa_cons pe_int pa_nil)))) (blkOk_by (own := [("size", 4)]) (N := ["ops", "rows", "told", "row", "size"]) (sc := defScope sLong) (by decide +kernel))
          (fun _ _ _ _ _ => pg_name (i := 4) scLong.nd rfl (Or.inl rfl)) (fun _ _ _ _ _ => pts_nil) (fun _ _ _ _ _ => pe_meth (pv 0) M.cf.cls mC.m GC hr mC.b .nil pass0 (pa_cons (pe_op Tx.op_catX (pe_op (Tb.op_repXK (K := K) rfl) (Tx.pe_tupX (pa_cons pe_str pa_nil)) (pv 4)) (Tx.pe_tupX (pa_cons pe_str pa_nil))) pa_nil)))))
      (pss_one (ps_ret (pe_cmpR (op_eqL hu) (pv 2) (pe_lst (pa_cons pe_bl (pa_cons pe_bl (pa_cons pe_bl (pa_cons pe_bl (pa_cons pe_bl (pa_cons pe_bl pa_nil))))))) (nomark _))))), ?_⟩
    have f1 : ∀ {n : Nat}, n ≤ 100000 → n ≤ sizeLine := fun h => by rw [sizeLine_eq]; omega
    have fl : ∀ {m : Nat} {ys : List V} {y : V}, m * ys.length + 1 ≤ 100000 → ((List.replicate m ys).flatten).length + [y].length ≤ sizeLine := fun h => by
      rw [PyProof.Rows.lm_len_rep_flat]
      exact f1 h
    refine ⟨by show 1 ≤ sizeLine; decide, fun a1 A1 _ sa1 xa1 => ⟨a1, 4999, _, rfl, rfl, xa1, by decide, by decide, by decide, (fun e => (nomatch e)), fun a2 A2 _ sa2 xa2 => ⟨by show 1 ≤ sizeLine; decide, fun a3 A3 _ sa3 xa3 => ⟨a2, a3, _, _, rfl, rfl, Tx.TX.same xa2 sa3, xa3, fl (by decide), fun r1 A4 sa4 y1 => ?_⟩⟩⟩⟩
    refine ⟨by show 1 ≤ sizeLine; decide, fun b1 B1 _ sb1 xb1 => ⟨b1, 5000, _, rfl, rfl, xb1, by decide, by decide, by decide, (fun e => (nomatch e)), fun b2 B2 _ sb2 xb2 => ⟨by show 1 ≤ sizeLine; decide, fun b3 B3 _ sb3 xb3 => ⟨b2, b3, _, _, rfl, rfl, Tx.TX.same xb2 sb3, xb3, fl (by decide), fun r2 B4 sb4 y2 => ?_⟩⟩⟩⟩
    refine ⟨by show 2 ≤ sizeLine; decide, fun c1 C1 _ sc1 xc1 => ⟨c1, 2499, _, rfl, rfl, xc1, by decide, by decide, by decide, (fun e => (nomatch e)), fun c2 C2 _ sc2 xc2 => ⟨by show 1 ≤ sizeLine; decide, fun c3 C3 _ sc3 xc3 => ⟨c2, c3, _, _, rfl, rfl, Tx.TX.same xc2 sc3, xc3, fl (by decide), fun r3 C4 sc4 y3 => ?_⟩⟩⟩⟩
    refine ⟨by show 2 ≤ sizeLine; decide, fun d1 D1 _ sd1 xd1 => ⟨d1, 2500, _, rfl, rfl, xd1, by decide, by decide, by decide, (fun e => (nomatch e)), fun d2 D2 _ sd2 xd2 => ⟨by show 1 ≤ sizeLine; decide, fun d3 D3 _ sd3 xd3 => ⟨d2, d3, _, _, rfl, rfl, Tx.TX.same xd2 sd3, xd3, fl (by decide), fun r4 D4 sd4 y4 => ?_⟩⟩⟩⟩
    have sA := ((sa1.trans sa2).trans sa3).trans sa4
    have sB := ((sb1.trans sb2).trans sb3).trans sb4
    have sC := ((sc1.trans sc2).trans sc3).trans sc4
    have sD := ((sd1.trans sd2).trans sd3).trans sd4
    refine ⟨by show 4 ≤ sizeLine; decide, fun rl nrl => ?_⟩
    have sE := Same.new nrl (o := .lst [.ref r1, .ref r2, .ref r3, .ref r4])
    have s5 := (((sA.trans sB).trans sC).trans sD).trans sE
    have hrl : (upd D4 rl (.lst [.ref r1, .ref r2, .ref r3, .ref r4])) rl = some (.lst [.ref r1, .ref r2, .ref r3, .ref r4]) := upd_same
    have z1 := Tx.TX.same y1 (((sB.trans sC).trans sD).trans sE)
    have z2 := Tx.TX.same y2 ((sC.trans sD).trans sE)
    have z3 := Tx.TX.same y3 (sD.trans sE)
    have z4 := Tx.TX.same y4 sE
    generalize upd D4 rl (.lst [.ref r1, .ref r2, .ref r3, .ref r4]) = H5 at s5 hrl z1 z2 z3 z4 ⊢
    clear xa1 xa2 xa3 xb1 xb2 xb3 xc1 xc2 xc3 xd1 xd2 xd3 y1 y2 y3 y4 sA sB sC sD
    have op5 := op.same s5
    obtain ⟨dx, tn, ta, tl, ho, _⟩ := op5.ex
    have no' : hole ∉ l.map (·.1) := fun m => l3_no ((pl.map _).mem_iff.mp m)
    have few' : l.length ≤ 8 := by
      rw [pl.length_eq]
      decide
    have key : ∀ (i : Nat) (x : V) (G : Hp), ([V.ref r1, .ref r2, .ref r3, .ref r4] : List V)[i]? = some x → Same H5 G → ∃ ox, Vw G x ox ∧ ([true, false, true, false] : List Bool)[i]? = some (tB l ox) := fun i x G hx s => by
      match i, hx with
      | 0, hx =>
        cases hx
        exact ⟨_, .tup (Tx.TX.same z1 s) (ji_rep (ji1 _) (Ji.str _)), by rw [tB_perm l3_nd pl, tree_s 4999]; decide⟩
      | 1, hx =>
        cases hx
        exact ⟨_, .tup (Tx.TX.same z2 s) (ji_rep (ji1 _) (Ji.str _)), by rw [tB_perm l3_nd pl, tree_s 5000]; decide⟩
      | 2, hx =>
        cases hx
        exact ⟨_, .tup (Tx.TX.same z3 s) (ji_rep (ji2 _ _) (Ji.str _)), by rw [tB_perm l3_nd pl, tree_pc 2499]; decide⟩
      | 3, hx =>
        cases hx
        exact ⟨_, .tup (Tx.TX.same z4 s) (ji_rep (ji2 _ _) (Ji.str _)), by rw [tB_perm l3_nd pl, tree_pc 2500]; decide⟩
      | i + 4, hx => cases hx
    refine ⟨_, rfl, rl, rfl, ⟨_, SqL.of hrl⟩, fun D nD => ?_⟩
    refine lc_list (K := K) (a := rl) (xs := [V.ref r1, .ref r2, .ref r3, .ref r4]) (fun k G => G D = some (.lst ((([true, false, true, false] : List Bool).take k).map V.bl)) ∧ Same H5 G) ⟨upd_same, Same.new nD⟩ (fun k G _ ⟨_, s⟩ => SqL.of (s _ _ hrl)) ?_ ?_
    · rintro i x G hx ⟨eD, sG⟩
      obtain ⟨ox, vw, eb⟩ := key i x G hx sG
      refine ⟨rfl, _, rfl, o, dx, _, rfl, sG _ _ ho, rfl, _, rfl, o, x, l, ox, rfl, op5.same sG, vw, _, eD, ?_, ?_, fun b u e => ?_⟩
      · refine fit5 ?_
        rw [List.length_map, List.length_take]
        exact Nat.lt_of_le_of_lt (Nat.min_le_right _ _) (by decide)
      · rw [upd_same, List.take_add_one, eb, List.map_append]
        rfl
      · rw [upd_ne (ne_of_none e nD)]
        exact sG b u e
    rintro G1 ⟨eD1, sG1⟩
    have eD1 : G1 D = some (.lst [.bl true, .bl false, .bl true, .bl false]) := eD1
    refine ⟨by show 2 ≤ sizeLine; decide, fun p np => ?_⟩
    have sP := sG1.trans (Same.new np (o := .tup [.int 4999, .int 5000]))
    have hp2 : (upd G1 p (.tup [.int 4999, .int 5000])) p = some (.tup [.int 4999, .int 5000]) := upd_same
    have eD2 := (Same.new np (o := .tup [.int 4999, .int 5000])) _ _ eD1
    generalize upd G1 p (.tup [.int 4999, .int 5000]) = G2 at sP hp2 eD2 ⊢
    have op6 := op5.same sP
    have key2 : ∀ (i : Nat) (x : V), ([V.int 4999, .int 5000] : List V)[i]? = some x → ∃ n : Nat, x = .int (n : Int) ∧ 2 ≤ n ∧ n ≤ 5000 ∧ ([true, false] : List Bool)[i]? = some (decide (n + 1 ≤ 5000)) := fun i x hx => by
      match i, hx with
      | 0, hx =>
        cases hx
        exact ⟨4999, rfl, by decide, by decide, by decide⟩
      | 1, hx =>
        cases hx
        exact ⟨5000, rfl, by decide, by decide, by decide⟩
      | i + 2, hx => cases hx
    refine ⟨p, rfl, ⟨_, SqT.of hp2⟩, fun E2 nE2 => ?_⟩
    refine lc_tup (K := K) (a := p) (xs := [V.int 4999, .int 5000]) (fun k G => G E2 = some (.lst ((([true, false] : List Bool).take k).map V.bl)) ∧ Same G2 G) ⟨upd_same, Same.new nE2⟩ (fun k G _ ⟨_, s⟩ => SqT.of (s _ _ hp2)) ?_ ?_
    · rintro i x G hx ⟨eE, sG⟩
      obtain ⟨n, rfl, n2, n5, eb⟩ := key2 i x hx
      refine ⟨rfl, _, rfl, o, dx, _, rfl, sG _ _ (sP _ _ ho), rfl, ?_⟩
      refine ⟨by show 1 ≤ sizeLine; decide, fun a1 A1 _ sa1 xa1 => ⟨_, rfl, a1, n, _, rfl, rfl, xa1, n2, n5, by show 1 * n ≤ _; omega, (fun e => (nomatch e)), fun a2 A2 _ sa2 xa2 => ⟨by show 1 ≤ sizeLine; decide, fun a3 A3 _ sa3 xa3 => ⟨a2, a3, _, _, rfl, rfl, Tx.TX.same xa2 sa3, xa3, fl (by show n * 1 + 1 ≤ _; omega), fun r5 A4 sa4 y5 => ?_⟩⟩⟩⟩
      have sA := ((sa1.trans sa2).trans sa3).trans sa4
      refine ⟨o, .ref r5, l, _, rfl, op6.same (sG.trans sA), no', few', .tup y5 (ji_rep (ji1 _) (Ji.str _)), fun H9 s9 => ?_⟩
      have eB : cB l (some ((List.replicate n [V.str "s"]).flatten ++ [V.str "_"])) = decide (n + 1 ≤ 5000) := by
        rw [cB_perm l3_nd l3_no pl]
        exact ctx_s n
      rw [eB]
      have s19 := sA.trans s9
      refine ⟨_, s19 _ _ eE, ?_, ?_, fun b u e => ?_⟩
      · refine fit5 ?_
        rw [List.length_map, List.length_take]
        exact Nat.lt_of_le_of_lt (Nat.min_le_right _ _) (by decide)
      · rw [upd_same, List.take_add_one, eb, List.map_append]
        rfl
      · rw [upd_ne (ne_of_none e nE2)]
        exact (sG.trans s19) b u e
    rintro G3 ⟨eE3, sG3⟩
    have eE3 : G3 E2 = some (.lst [.bl true, .bl false]) := eE3
    refine ⟨D, E2, _, _, rfl, rfl, sG3 _ _ eD2, eE3, by decide, fun q1 nq1 => ?_⟩
    refine ⟨_, rfl, by show 6 ≤ sizeLine; decide, fun q2 nq2 => ⟨q1, q2, _, _, rfl, rfl, SqL.of ((Same.new nq2) _ _ upd_same), SqL.of upd_same, .inr ⟨rfl, fun v m => ?_, ?_⟩⟩⟩
    · have m : v ∈ ([true, false, true, false, true, false] : List Bool).map V.bl := m
      obtain ⟨b, _, rfl⟩ := List.mem_map.mp m
      exact ⟨_, .bl b⟩
    · exact q _ ((((s5.trans sP).trans sG3).trans (Same.new nq1)).trans (Same.new nq2))
end
end Pr
namespace Pr
open PySem PySem.Spec PyProof.Rows L2 Gd
/-! ### law -/
def spLaw (K : PySem.W.Frag) : Sp := fun vs H Q _ => ∃ (a : Addr) (ns : List Int), vs = [.ref a] ∧ SqL K H a (ns.map V.int) ∧ ns.length ≤ 63 ∧ ∀ H', Q (.bl true) H'
/-- the law's own defs, and the class as it is called -/
structure Own (K : PySem.W.Frag) (mg : Str → Option Value) (C : Addr) (h1 h2 h3 h4 h5 h6 h7 h8 h9 h10 h11 h12 h13 h14 h15 h16 h17 h18 : Addr) (x1 x2 x3 x4 x5 x6 x7 x8 x9 x10 x11 x12 x13 x14 x15 x16 x17 x18 : FuncData) (t1 t2 t3 : Tok) : Prop where
  dice : GlF K mg "_law_dice" sDice h1 x1 ["script", "spot"]
  ars : GlF K mg "_law_arities" sArs h2 x2 ["dice"]
  tree : GlF K mg "_law_drawn_tree" sDrawn h3 x3 ["dice", "arities", "cap"]
  ctx : GlF K mg "_law_drawn_context" sDCtx h4 x4 ["dice", "arities", "cap"]
  near : GlF K mg "_law_near_row" sNear h5 x5 ["dice", "arities", "row"]
  right : GlF K mg "_law_right" sRight h6 x6 ["ops", "arities", "value"]
  told : GlF K mg "_law_is_told" sTold h7 x7 ["dice", "ops", "arities"]
  long : GlF K mg "_law_long_right" sLong h8 x8 ["ops"]
  odd : GlF K mg "_law_odd_values" sOdd h9 x9 ["dice"]
  end_ : GlF K mg "_law_end" sEndL h10 x10 ["arities", "tree", "place"]
  isT : GlF K mg "_law_is_tree" sIsT h11 x11 ["arities", "value"]
  isC : GlF K mg "_law_is_context" sIsC h12 x12 ["arities", "value"]
  open_ : GlF K mg "_law_open" sOpen h13 x13 ["arities", "words"]
  are : GlF K mg "are_arities" sAre h14 x14 ["value"]
  name : GlF K mg "is_name" sName h15 x15 ["value"]
  int : GlF K mg "is_integer" sInteger h16 x16 ["value"]
  mT : MtF K C "is_tree" "Operators.is_tree" mIsTree h17 x17 ["self", "value"]
  mC : MtF K C "is_context" "Operators.is_context" mIsCtx h18 x18 ["self", "value"]
  gm : mg "MAX_LETTERS" = some (.int 8 t1)
  gm2 : mg "MAX_OPERATORS" = some (.int 8 t2)
  gm3 : mg "MAX_SIZE" = some (.int 200 t3)
structure Mak (K : PySem.W.Frag) (mg : Str → Option Value) (C f : Addr) (fd : FuncData) : Prop where
  mkC : Mk K C f
  g : mg "Operators" = some (.ref C)
  F : Fun K "__init__" "Operators.__init__" mInit f fd
  b : Binds K fd ["self", "arities"] []
structure Tel (K : PySem.W.Frag) (C : Addr) (pN pA pC fN fA fC fL fH fS : Addr) (dN dA dC dL dH dS : FuncData) : Prop where
  pn : PrF K C "names" "Operators.names" mNames pN fN dN
  pa : PrF K C "arities" "Operators.arities" mArities pA fA dA
  pc : PrF K C "constants" "Operators.constants" mConstants pC fC dC
  ol : OwF K C "__len__" "Operators.__len__" mLen fL dL ["self"]
  oh : OwF K C "__contains__" "Operators.__contains__" mContains fH dH ["self", "value"]
  os : OwF K C "__str__" "Operators.__str__" mStr fS dS ["self"]
def spots (n : Int) : Int := if (if n < 4 then n else 4) > 1 then (if n < 4 then n else 4) else 1
theorem spots_le (n : Int) : 1 ≤ spots n ∧ spots n ≤ 4 := by
  unfold spots
  split <;> split <;> omega
/-- Operators(..) of a dict that is let -/
theorem mkOps {C : Addr} {H1 : Hp} {a x dx : Addr} {l : List (Str × Nat)} {R : Hp → Prop} {E : XK} (nx : H1 x = none) (ndx : H1 dx = none) (ha : H1 a = some (.dK (dkv l))) (ok : OpsOk l) (q : ∀ (l' : List (Str × Nat)) (H' : Hp), Same H1 H' → l'.Perm l → sortedS (l'.map (·.1)) = true → OpsAt H' C x l' → R H') :
    spInit C (.ref x :: ([.ref a] ++ [])) (upd (upd H1 dx (.own x)) x (.ins C dx [])) (fun v H2 => v = .non ∧ R H2) E := by
  have s1 : Same H1 (upd (upd H1 dx (.own x)) x (.ins C dx [])) := fun b u e => by
    rw [upd_ne (ne_of_none e nx), upd_ne (ne_of_none e ndx)]
    exact e
  exact ⟨x, dx, a, l, rfl, upd_same, s1 _ _ ha, ok, fun l' H' pm srt kp op => ⟨rfl, q l' H' (Kp.over nx s1 kp) pm srt op⟩⟩
theorem Ars.noH {l : List (Str × Nat)} (h : Ars l) : hole ∉ l.map (·.1) := fun m => by
  obtain ⟨p, hp, e⟩ := List.mem_map.mp m
  have t : hole ∉ Pr.pool := by decide +kernel
  exact t (e ▸ h.pool p hp)
def dCon : PyData := .tuple [.str "_", .int 8, .int 200, .int 5000]
theorem dCon_ok : SeqAt.shaped dCon = true := by decide +kernel
theorem l3_ok : OpsOk l3 := ⟨by decide, l3_nd, by decide +kernel, by decide +kernel⟩
theorem Hm.sub {d : Addr} {H : Hp} : Same (Hm d H) H := fun _ _ e => (Hm.some_of e).1
theorem right_ok {H : Hp} {d : Addr} {v : V} (h : Vd (Hm d H) 8 10000000 v) : ∃ x, (∃ n t, Sh H n v t ∧ n ≤ 40 ∧ t.length ≤ sizeLine) ∧ Vw H v x ∧ ∀ xs, x = some xs → xs.length < 100000 := by
  obtain ⟨t, sh, lt⟩ := h.sm
  obtain ⟨x, vw, few⟩ := h.vw
  exact ⟨x, ⟨8, t, Sh.keep Hm.sub 8 v t sh, by decide, by rw [sizeLine_eq]; omega⟩, vw.same Hm.sub, few⟩
theorem joinV {Pr R : V → Hp → Prop} {A : Prop} (f : (∀ v G, Pr v G → R v G) → A) (g : ∀ v G, Pr v G → R v G) : A := f g
theorem Out.rw {H : Hp} {n m L : Nat} {v : V} {q : Addr} {xs : List V} (h : Out H n m L v) (e : v = .ref q) (t : Tx.TX H q xs) : ∃ ys, Rw H (n + 1) (L * (m + 2) + 3) (3 * L + 1) q ys := by
  rcases h.2 q e with h | ⟨ty, k, ne⟩
  · exact h
  · subst e
    obtain ⟨ob, e', _⟩ := t
    cases k with
    | lst e =>
      rw [e] at e'
      cases e'
    | tup e => exact absurd rfl ne
    | dK e =>
      rw [e] at e'
      cases e'
section
variable {P : Program} {w : World} {K : PySem.W.Frag} {mg : Str → Option Value} {base : Heap} {C fW : Addr} {dW : FuncData} {tk tk2 : Tok} {h1 h2 h3 h4 h5 h6 h7 h8 h9 h10 h11 h12 h13 h14 h15 h16 h17 h18 : Addr} {x1 x2 x3 x4 x5 x6 x7 x8 x9 x10 x11 x12 x13 x14 x15 x16 x17 x18 : FuncData} {t1 t2 t3 : Tok} {fI : Addr} {dI : FuncData}
  {pN pA pC fN fA fC fL fH fS : Addr} {dN dA dC dL dH dS : FuncData} {fR fP fM : Addr} {dR dP dM : FuncData}
theorem scLaw : FnScope ["script", "spot", "dice", "arities", "ops", "turn", "rows", "row", "near", "value", "told"] ["script"] (defScope sLaw) := ⟨rfl, rfl, rfl, by decide +kernel, rfl, by decide +kernel, by decide +kernel⟩
theorem ok_law {f : Addr} {fd : FuncData} (F : Fun K "law" "law" sLaw f fd) (M : Mt K mg C fW dW tk tk2) (O : Own K mg C h1 h2 h3 h4 h5 h6 h7 h8 h9 h10 h11 h12 h13 h14 h15 h16 h17 h18 x1 x2 x3 x4 x5 x6 x7 x8 x9 x10 x11 x12 x13 x14 x15 x16 x17 x18 t1 t2 t3) (I : Mak K mg C fI dI) (Z : Tel K C pN pA pC fN fA fC fL fH fS dN dA dC dL dH dS) (D : Draws K mg fR fP fM dR dP dM) (T : Free mg) :
    FnG P w K mg base CX0 5 f fd ["script"] (spLaw K) := by
  have GD : FnOk P w K mg base CX0 1 h1 x1 ["script", "spot"] (spDice K) := ok_dice O.dice.F T
  have GR : FnOk P w K mg base CX0 1 fR dR ["dice", "total"] spRoll := ok_roll D.FR T
  have GA : FnOk P w K mg base CX0 3 h2 x2 ["dice"] spArs := ok_ars O.ars.F D T
  have GW : FnOk P w K mg base CX0 3 h3 x3 ["dice", "arities", "cap"] spDrawn := ok_drawn O.tree.F D T
  have GX : FnOk P w K mg base CX0 4 h4 x4 ["dice", "arities", "cap"] spDCtx3 := ok_dctx O.ctx.F D O.tree.F O.tree.b O.tree.g O.end_.F O.end_.b O.end_.g T
  have GN : FnG P w K mg base CX0 3 h5 x5 ["dice", "arities", "row"] spNear := ok_near O.near.F D T
  have GG : FnG P w K mg base CX0 3 h6 x6 ["ops", "arities", "value"] (spRight C) := ok_right O.right.F M T O.mT O.mC O.isT O.isC O.open_
  have GS : FnOk P w K mg base CX0 4 h7 x7 ["dice", "ops", "arities"] (spTold C) := ok_told O.told.F D T M.cf Z.pn Z.pa Z.pc Z.ol Z.oh Z.os O.odd
  have GL : FnOk P w K mg base CX0 3 h8 x8 ["ops"] (spLong C) := ok_long O.long.F M T O.mT O.mC
  have GO : FnOk P w K mg base CX0 3 h9 x9 ["dice"] spOdd := ok_odd O.odd.F D T
  have GT : FnOk P w K mg base CX0 2 h17 x17 ["self", "value"] (spTreeV C) := ok_treeV O.mT.F M T
  have GC : FnOk P w K mg base CX0 2 h18 x18 ["self", "value"] (spCtxV C) := ok_ctxV O.mC.F M T
  have GE : FnOk P w K mg base CX0 2 h14 x14 ["value"] spAre := ok_are O.are.F T O.gm O.gm2 O.name.F O.name.b O.name.g O.int.F O.int.b O.int.g
  have GI : FnOk P w K mg base CX0 3 fI dI ["self", "arities"] (spInit C) := ok_init I.F T M.cf GE O.are.F O.are.b O.are.g
  refine FnG.ok F scLaw (fun vs H Q E h => ?_) (fun cdv A0 outer s H vs Q E hr gd h => ?_)
  · obtain ⟨a, ns, rfl, _⟩ := h
    rfl
  · obtain ⟨a, ns, rfl, hS, hlen, q⟩ := h
    have hu := hr.units
    have r1 : Room 1 _ := hr.mono (by decide)
    have r2 : Room 2 _ := hr.mono (by decide)
    have r3 : Room 3 _ := hr.mono (by decide)
    have r4 : Room 4 _ := hr.mono (by decide)
    refine ⟨_, pss_cons (ps_for PassesOwn.never rfl (pi_range1 rfl T.range (pa_cons (pe_callB (call_max2 rfl) (by rfl) T.max (by decide +kernel) (pa_cons pe_int (pa_cons (pe_callB (call_min2 rfl) (by rfl) T.min (by decide +kernel) (pa_cons pe_int (pa_cons (pe_callB call_len_seq (by rfl) T.len PySem.boot_len (pa_cons (pv 0) pa_nil)) pa_nil))) pa_nil))) pa_nil)) (pg_name (i := 1) scLaw.nd rfl (.inl rfl))
        (pss_cons (ps_set (i := 2) scLaw.nd rfl (.inl rfl) (pe_call GD r1 (by rfl) O.dice.g O.dice.F.kp O.dice.b .nil pass0 (pa_cons (pv 0) (pa_cons (pv 1) pa_nil))))
        (pss_cons (ps_set (i := 3) scLaw.nd rfl (.inl rfl) (pe_call GA r3 (by rfl) O.ars.g O.ars.F.kp O.ars.b .nil pass0 (pa_cons (pv 2) pa_nil)))
        (pss_cons (ps_set (i := 4) scLaw.nd rfl (.inl rfl) (pe_make I.mkC GI r4 (by rfl) I.g I.b .nil pass0 (pa_cons (pv 3) pa_nil)))
        (pss_cons (ps_if (pt_not (pt_val (pe_call GS r4 (by rfl) O.told.g O.told.F.kp O.told.b .nil pass0 (pa_cons (pv 2) (pa_cons (pv 4) (pa_cons (pv 3) pa_nil)))))) (pss_one ps_never) pss_nil)
        (pss_cons (ps_for PassesOwn.never rfl (pi_range1 rfl T.range (pa_cons pe_int pa_nil)) (pg_name (i := 5) scLaw.nd rfl (.inl rfl))
          (pss_cons (ps_set (i := 6) scLaw.nd rfl (.inl rfl) (pe_lst (pa_cons (pe_call GW r3 (by rfl) O.tree.g O.tree.F.kp O.tree.b .nil pass0 (pa_cons (pv 2) (pa_cons (pv 3) (pa_cons (pe_op op_add pe_int (pe_call GR r1 (by rfl) D.gR D.FR.kp D.bR .nil pass0 (pa_cons (pv 2) (pa_cons pe_int pa_nil)))) pa_nil))))
              (pa_cons (pe_call GX r4 (by rfl) O.ctx.g O.ctx.F.kp O.ctx.b .nil pass0 (pa_cons (pv 2) (pa_cons (pv 3) (pa_cons pe_int pa_nil)))) pa_nil))))
          (pss_one (ps_for PassesOwn.never rfl (pi_list (pv 6)) (pg_name (i := 7) scLaw.nd rfl (.inl rfl))
            (pss_cons (ps_set (i := 8) scLaw.nd rfl (.inl rfl) (pe_callG GN r3 gd (by rfl) O.near.g O.near.F.kp O.near.b pass0 (pa_cons (pv 2) (pa_cons (pv 3) (pa_cons (pv 7) pa_nil)))))
            (pss_one (ps_for PassesOwn.never rfl (pi_list (pe_lst (pa_cons (pv 7) (pa_cons (pv 8) (pa_cons (pe_ifExp (pt_val (pe_callB call_isi (by rfl) T.isi (by decide +kernel) (pa_cons (pv 8) (pa_cons (pe_bltn (v := .ty "tuple") (by rfl) T.tuple (by decide +kernel) rfl) pa_nil))))
                (pe_callG GN r3 gd (by rfl) O.near.g O.near.F.kp O.near.b pass0 (pa_cons (pv 2) (pa_cons (pv 3) (pa_cons (pv 8) pa_nil)))) (pv 8)) pa_nil))))) (pg_name (i := 9) scLaw.nd rfl (.inl rfl))
              (pss_one (ps_if (pt_not (pt_val (pe_callG GG r3 gd (by rfl) O.right.g O.right.F.kp O.right.b pass0 (pa_cons (pv 4) (pa_cons (pv 3) (pa_cons (pv 9) pa_nil)))))) (pss_one ps_never) pss_nil)))))))))
        (pss_one (ps_for PassesOwn.never rfl (pi_list (pe_call GO r3 (by rfl) O.odd.g O.odd.F.kp O.odd.b .nil pass0 (pa_cons (pv 2) pa_nil))) (pg_name (i := 9) scLaw.nd rfl (.inl rfl))
          (pss_one (ps_if (pt_not (pt_val (pe_callG GG r3 gd (by rfl) O.right.g O.right.F.kp O.right.b pass0 (pa_cons (pv 4) (pa_cons (pv 3) (pa_cons (pv 9) pa_nil)))))) (pss_one ps_never) pss_nil))))))))))
      (pss_cons (ps_if (pt_cmpR (op_neD hu) (pe_tup (pa_cons (pe_glob (v := .str hole) (by rfl) M.gH ⟨_, rfl⟩) (pa_cons (pe_glob (v := .int 8) (by rfl) O.gm2 ⟨_, rfl⟩) (pa_cons (pe_glob (v := .int 200) (by rfl) O.gm3 ⟨_, rfl⟩) (pa_cons (pe_glob (v := .int 5000) (by rfl) M.gM ⟨_, rfl⟩) pa_nil)))))
          (pe_tup (pa_cons pe_str (pa_cons pe_int (pa_cons pe_int (pa_cons pe_int pa_nil))))) (nomark _)) (pss_one ps_never) pss_nil)
      (pss_cons (ps_set (i := 4) scLaw.nd rfl (.inl rfl) (pe_make I.mkC GI r4 (by rfl) I.g I.b .nil pass0 (pa_cons (pe_disp (pps_cons pe_str pe_int (pps_cons pe_str pe_int (pps_cons pe_str pe_int pps_nil))) (by rfl) (by rfl) (fun z => by cases z) (by decide)) pa_nil)))
      (pss_cons (ps_set (i := 10) scLaw.nd rfl (.inl rfl) (pe_lst (pa_cons (pe_meth (pv 4) M.cf.cls O.mC.m GC r2 O.mC.b .nil pass0 (pa_cons (Tx.pe_tupX (pa_cons pe_str pa_nil)) pa_nil)) (pa_cons (pe_meth (pv 4) M.cf.cls O.mT.m GT r2 O.mT.b .nil pass0 (pa_cons (Tx.pe_tupX (pa_cons pe_str pa_nil)) pa_nil))
          (pa_cons (pe_meth (pv 4) M.cf.cls O.mC.m GC r2 O.mC.b .nil pass0 (pa_cons (Tx.pe_tupX (pa_cons pe_str pa_nil)) pa_nil)) (pa_cons (pe_meth (pv 4) M.cf.cls O.mC.m GC r2 O.mC.b .nil pass0 (pa_cons (Tx.pe_tupX (pa_cons pe_str (pa_cons pe_str (pa_cons pe_str pa_nil)))) pa_nil)) pa_nil))))))
      (pss_one (ps_ret (pe_and (pe_cmpR (op_eqL hu) (pv 10) (pe_lst (pa_cons pe_bl (pa_cons pe_bl (pa_cons pe_bl (pa_cons pe_bl pa_nil))))) (nomark _)) (pe_one (pe_call GL r3 (by rfl) O.long.g O.long.F.kp O.long.b .nil pass0 (pa_cons (pv 4) pa_nil))))))))), ?_⟩
    have sl := spots_le (ns.map V.int).length
    refine ⟨_, rfl, a, _, rfl, .inl hS, _, _, rfl, _, _, rfl, _, rfl, by show -(2 ^ 62) ≤ spots _; omega, by show spots _ < 2 ^ 62; omega, ?_⟩
    refine for_range (lo := 0) (n := (spots (ns.map V.int).length).toNat) (fun i σ H' => ∃ v1 v2 v3 v4 v5 v6 v7 v8 v9 : Option V, σ = [some (.ref a), v1, v2, v3, v4, v5, v6, v7, v8, v9, none] ∧ Same H H')
      ⟨none, none, none, none, none, none, none, none, none, rfl, Same.refl H⟩ ?_ ?_
    · rintro i σ H0 hi ⟨v1, v2, v3, v4, v5, v6, v7, v8, v9, rfl, s0⟩
      have hi' : i < 64 := by omega
      refine ⟨_, rfl, _, rfl, a, ns, i, by simp, s0.seq hS, hi', fun d H1 nd s1 di => ?_⟩
      refine ⟨_, rfl, d, 0, rfl, di, by decide, fun ad l0 H2 nad nad0 k2 had ars di2 => ?_⟩
      refine ⟨_, rfl, fun o dx no ndx ne => ?_⟩
      refine mkOps no ndx had ars.ok fun l H3 s3 pm srt op => ?_
      have di3 := di2.same s3
      have had3 := s3 _ _ had
      have nHd : H d = none := s0.free nd
      have s3' : Same H H3 := (Kp.over nd s1 k2 |> s0.trans).trans s3
      obtain ⟨ds3, hd3⟩ := di3.there
      have arf := ars.few
      have sc : ∀ G, Kp d H3 G → Sc3 G C o ad l0 := fun G k => ⟨⟨l, pm, op.kp k hd3⟩, k _ _ nad had3, ars.nd, ars.noH, by omega⟩
      refine ⟨_, rfl, _, rfl, _, rfl, d, o, ad, l0, l, 40, rfl, nad, pm, srt, op, had3, ars, di3, by decide, fun H4 k4 di4 => ⟨_, rfl, if_false_of rfl ?_⟩⟩
      refine ⟨12, rfl, by decide, by decide, for_range (lo := 0) (n := (12 : Int).toNat) (fun j σ H' => ∃ w5 w6 w7 w8 w9 : Option V, σ = [some (.ref a), some (.int (0 + (i : Int))), some (.ref d), some (.ref ad), some (.ref o), w5, w6, w7, w8, w9, none] ∧ Kp d H3 H' ∧ Dice H' d (66 + 100 * j))
        ⟨v5, v6, v7, v8, v9, rfl, k4, di4⟩ ?_ ?_⟩
      · rintro j σ H5 hj ⟨w5, w6, w7, w8, w9, rfl, k5, di5⟩
        have hj' : j < 12 := hj
        refine ⟨_, rfl, _, rfl, _, rfl, d, 12, _, rfl, di5, by omega, by decide, by decide, fun r o1 r0 r1 di6 => ?_⟩
        obtain ⟨rk, rfl⟩ := Int.eq_ofNat_of_zero_le r0
        have hrk : rk < 12 := by omega
        have ecap : (1 : Int) + (rk : Nat) = ((rk + 1 : Nat) : Int) := by omega
        have k6 : Kp d H3 (upd H5 d o1) := k5.trans Kp.upd
        generalize upd H5 d o1 = H6 at di6 k6 ⊢
        refine ⟨_, _, rfl, rfl, d, ad, rk + 1, 66 + 100 * j + 1, l0, by show [V.ref d, V.ref ad, V.int ((1 : Int) + (rk : Nat))] = _; rw [ecap], nad, k6 _ _ nad had3, ars, by omega, by omega, di6, by omega, fun t zs H7 ntd nt k7 ht fo lz di7 => ?_⟩
        refine ⟨_, rfl, _, rfl, d, ad, 9, _, l0, rfl, nad, (k6.trans k7) _ _ nad had3, ars, by decide, by decide, di7, by omega, fun c cs H8 ncd k8 hc wc lc di8 => ?_⟩
        refine ⟨by show 2 ≤ sizeLine; decide, fun rl nrl => ?_⟩
        have k9 : Kp d H3 (upd H8 rl (.lst [.ref t, .ref c])) := ((k6.trans k7).trans k8).trans (Kp.new nrl)
        have di9 := di8.same (Same.new nrl (o := .lst [.ref t, .ref c]))
        have hrl : (upd H8 rl (.lst [.ref t, .ref c])) rl = some (.lst [.ref t, .ref c]) := upd_same
        obtain ⟨ds8, hd8⟩ := di8.there
        have nrd : rl ≠ d := (ne_of_none hd8 nrl).symm
        have ht9 := TX.kp ht (k8.trans (Kp.new nrl (o := .lst [.ref t, .ref c]))) ntd
        have hc9 := Tx.TX.same hc (Same.new nrl (o := .lst [.ref t, .ref c]))
        generalize upd H8 rl (.lst [.ref t, .ref c]) = H9 at k9 di9 hrl ht9 hc9 ⊢
        have rows : ∀ (k : Nat) (x : V), ([V.ref t, .ref c] : List V)[k]? = some x → ∃ r xs, x = .ref r ∧ r ≠ d ∧ Rw (Hm d H9) 1 105 14 r xs := fun k x hx => by
          match k, hx with
          | 0, hx =>
            cases hx
            exact ⟨t, _, rfl, ntd, (Rw.pool (L := 14) (TX.hm ht9 ntd) (fo.words ars) (by omega)).le (by decide) (by decide) (by decide)⟩
          | 1, hx =>
            cases hx
            exact ⟨c, _, rfl, ncd, (Rw.pool (L := 14) (TX.hm hc9 ncd) wc (by omega)).le (by decide) (by decide) (by decide)⟩
          | k + 2, hx => cases hx
        have di9 : Dice H9 d (66 + 100 * j + 50) := di9.more (by omega) (by omega)
        refine ⟨_, rfl, rl, rfl, ⟨_, SqL.of hrl⟩, ?_⟩
        refine for_list (K := K) (a := rl) (xs := [V.ref t, .ref c]) (fun k σ H' => ∃ w7 w8 w9 : Option V, σ = [some (.ref a), some (.int (0 + (i : Int))), some (.ref d), some (.ref ad), some (.ref o), some (.int (0 + (j : Int))), some (.ref rl), w7, w8, w9, none] ∧ Kp d H9 H' ∧ Dice H' d (66 + 100 * j + 50 + 6 * k))
          ⟨w7, w8, w9, rfl, Kp.refl d H9, di9⟩ (fun k σ H' _ ⟨_, _, _, _, kk, _⟩ => kk.seq nrd (SqL.of hrl)) ?_ ?_
        · rintro k x σ G1 hx ⟨w7, w8, w9, rfl, kg, dg⟩
          have hk2 := (List.getElem?_eq_some_iff.mp hx).1
          have hk2 : k < 2 := hk2
          obtain ⟨r, xs, rfl, nrd2, rwx⟩ := rows k x hx
          have rg := rwx.same kg.hm
          refine ⟨_, rfl, _, rfl, _, rfl, d, ad, r, l0, xs, 1, 105, 14, _, rfl, nad, nrd2, (k9.trans kg) _ _ nad had3, ars, rg, by decide, by decide, by decide, by decide, by decide, by decide, dg, by omega, fun v G2 kv nv out dv => ?_⟩
          have vdr : Vd (Hm d G2) 8 10000000 (.ref r) := ((rg.same kv.hm).tk (by decide)).vd.le (by decide) (by decide)
          have k29 := (k9.trans kg).trans kv
          refine ⟨_, rfl, _, rfl, ?_⟩
          refine' joinV (Pr := fun v3 G => Kp d G2 G ∧ Vd (Hm d G) 8 10000000 v3 ∧ Dice G d (66 + 100 * j + 50 + 6 * k + 6)) (fun g => ?AA) ?BB
          case AA =>
            by_cases isT : ∃ q ys, v = .ref q ∧ Tx.TX (Hm d G2) q ys
            · obtain ⟨q2, ys0, hv, ty⟩ := isT
              obtain ⟨ys, ry⟩ := out.rw hv ty
              have nq2 : q2 ≠ d := (TX.un ty).2
              have kty : Kd G2 v "tuple" := hv ▸ .tup (TX.un ty).1
              refine ⟨_, rfl, v, _, _, _, true, rfl, .ty "tuple", kty.ty, kit_ty (r := true) (by decide +kernel), _, rfl, if_true_of rfl ?_⟩
              refine ⟨_, rfl, _, rfl, _, rfl, d, ad, q2, l0, ys, 2, 1501, 43, _, by rw [hv]; rfl, nad, nq2, k29 _ _ nad had3, ars, ry, by decide, by decide, by decide, by decide, by decide, by decide, dv, by omega, fun v2 G3 kv2 nv2 out2 dv2 => ?_⟩
              exact g v2 G3 ⟨kv2, out2.1, dv2⟩
            · obtain ⟨ty, kd⟩ := out.1.kd
              have ne : ty ≠ "tuple" := fun e => by
                cases kd <;> first | exact isT ⟨_, _, rfl, by assumption⟩ | exact absurd e (by decide)
              have kd2 := kd.same Hm.sub
              refine ⟨_, rfl, v, _, _, _, false, rfl, .ty "tuple", kd2.ty, kit_tup_not kd2 ne, _, rfl, if_false_of rfl ⟨_, rfl, ?_⟩⟩
              exact g v G2 ⟨Kp.refl d G2, out.1, dv.more (by omega) (by omega)⟩
          case BB =>
            rintro v3 G ⟨k3, vd3, d3⟩
            have vd1 := vdr.same k3.hm
            have vd2 := out.1.same k3.hm
            have kG := k29.trans k3
            refine ⟨by show 3 ≤ sizeLine; decide, fun vl nvl => ?_⟩
            have sv := Same.new nvl (o := .lst [.ref r, v, v3])
            have hvl : (upd G vl (.lst [.ref r, v, v3])) vl = some (.lst [.ref r, v, v3]) := upd_same
            generalize upd G vl (.lst [.ref r, v, v3]) = Gv at sv hvl ⊢
            have kGv := kG.trans (Kp.same sv)
            have all : ∀ u ∈ [V.ref r, v, v3], Vd (Hm d Gv) 8 10000000 u := fun u m => by
              rcases List.mem_cons.mp m with rfl | m
              · exact vd1.same (Same.hm sv)
              · rcases List.mem_cons.mp m with rfl | m
                · exact vd2.same (Same.hm sv)
                · rw [List.mem_singleton.mp m]
                  exact vd3.same (Same.hm sv)
            refine ⟨vl, rfl, ⟨_, SqL.of hvl⟩, ?_⟩
            refine for_list (K := K) (a := vl) (xs := [V.ref r, v, v3]) (fun m σ H' => ∃ w9 : Option V, σ = [some (.ref a), some (.int (0 + (i : Int))), some (.ref d), some (.ref ad), some (.ref o), some (.int (0 + (j : Int))), some (.ref rl), some (.ref r), some v, w9, none] ∧ Same Gv H')
              ⟨w9, rfl, Same.refl Gv⟩ (fun m σ H' _ ⟨_, _, s⟩ => SqL.of (s _ _ hvl)) ?_ ?_
            · rintro m u σ H' hu2 ⟨u9, rfl, sm⟩
              obtain ⟨ux, u1, u2, u3⟩ := right_ok ((all u (List.mem_of_getElem? hu2)).same (Same.hm sm))
              exact ⟨_, rfl, _, rfl, _, rfl, o, ad, u, l0, ux, rfl, sc H' (kGv.trans (Kp.same sm)), u1, u2, u3, fun H'' s2 => ⟨_, rfl, if_false_of rfl ⟨_, rfl, sm.trans s2⟩⟩⟩
            · rintro σ H' ⟨u9, rfl, sm⟩
              refine ⟨_, _, _, rfl, (((kg.trans kv).trans k3).trans (Kp.same sv)).trans (Kp.same sm), (d3.same (sv.trans sm)).more (by omega) (by omega)⟩
        · rintro σ G1 ⟨w7, w8, w9, rfl, kg, dg⟩
          exact ⟨_, _, _, _, _, rfl, k9.trans kg, dg.more (by show _ + 6 * 2 ≤ _; omega) (by omega)⟩
      · rintro σ H5 ⟨w5, w6, w7, w8, w9, rfl, k5, di5⟩
        refine ⟨_, rfl, d, _, rfl, di5, by show 66 + 100 * 12 + 26 < _; decide, fun oq ys H6 noq fresh k6 hoq loq voq di6 => ?_⟩
        refine ⟨oq, rfl, ⟨_, SqL.of hoq⟩, ?_⟩
        refine for_list (K := K) (a := oq) (xs := ys) (fun m σ H' => ∃ w9 : Option V, σ = [some (.ref a), some (.int (0 + (i : Int))), some (.ref d), some (.ref ad), some (.ref o), w5, w6, w7, w8, w9, none] ∧ Same H6 H')
          ⟨w9, rfl, Same.refl H6⟩ (fun m σ H' _ ⟨_, _, s⟩ => SqL.of (s _ _ hoq)) ?_ ?_
        · rintro m u σ H' hu2 ⟨u9, rfl, sm⟩
          obtain ⟨ux, u1, u2, u3⟩ := right_ok (((voq u (List.mem_of_getElem? hu2)).le (by decide) (by decide)).same (Same.hm sm))
          exact ⟨_, rfl, _, rfl, _, rfl, o, ad, u, l0, ux, rfl, sc H' ((k5.trans k6).trans (Kp.same sm)), u1, u2, u3, fun H'' s2 => ⟨_, rfl, if_false_of rfl ⟨_, rfl, sm.trans s2⟩⟩⟩
        · rintro σ H' ⟨u9, rfl, sm⟩
          exact ⟨_, _, _, _, _, _, _, _, _, rfl, fun b u e => ((k5.trans k6).trans (Kp.same sm)) b u (ne_of_none e nHd) (s3' _ _ e)⟩
    · rintro σ H1 ⟨v1, v2, v3, v4, v5, v6, v7, v8, v9, rfl, s1⟩
      refine ⟨by show 4 ≤ sizeLine; decide, fun c1 nc1 => ⟨by show 4 ≤ sizeLine; decide, fun c2 nc2 => ?_⟩⟩
      refine ⟨dCon, dCon, .tup (SqT.of ((Same.new nc2) _ _ upd_same)) (.cons (.str _) (.cons (.int _) (.cons (.int _) (.cons (.int _) .nil)))), .tup (SqT.of upd_same) (.cons (.str _) (.cons (.int _) (.cons (.int _) (.cons (.int _) .nil)))), dCon_ok, dCon_ok, ?_⟩
      rw [SeqAt.eqv_refl _ (SeqAt.canLay_of_shaped dCon_ok)]
      refine ⟨_, rfl, if_false_of rfl ?_⟩
      refine fun p np => ⟨upd_same, dkv l3, rfl, by decide, fun o ox no nox ne => ?_⟩
      refine mkOps no nox (by rw [upd_same]; exact congrArg (fun z => some (HO.dK z)) (merge_all l3_nd)) l3_ok fun l H2 s2 pm srt op => ?_
      have no3 : hole ∉ l.map (·.1) := fun m => l3_no ((pm.map _).mem_iff.mp m)
      have few3 : l.length ≤ 8 := by
        rw [pm.length_eq]
        decide
      obtain ⟨dx, tn, ta, tl, ho, _⟩ := op.ex
      refine ⟨_, rfl, o, dx, _, rfl, ho, rfl, by show 1 ≤ sizeLine; decide, fun q1 G1 n1 z1 y1 => ⟨o, .ref q1, l, _, rfl, op.same z1, no3, few3, .tup y1 (ji1 _), fun J1 m1 => ?_⟩⟩
      have op1 := (op.same z1).same m1
      have ho1 := m1 _ _ (z1 _ _ ho)
      refine ⟨_, rfl, o, dx, _, rfl, ho1, rfl, by show 1 ≤ sizeLine; decide, fun q2 G2 n2 z2 y2 => ⟨o, .ref q2, l, _, rfl, op1.same z2, .tup y2 (ji1 _), ?_⟩⟩
      have op2 := op1.same z2
      have ho2 := z2 _ _ ho1
      refine ⟨_, rfl, o, dx, _, rfl, ho2, rfl, by show 1 ≤ sizeLine; decide, fun q3 G3 n3 z3 y3 => ⟨o, .ref q3, l, _, rfl, op2.same z3, no3, few3, .tup y3 (ji1 _), fun J3 m3 => ?_⟩⟩
      have op3 := (op2.same z3).same m3
      have ho3 := m3 _ _ (z3 _ _ ho2)
      have ji3 : ∀ {H : Hp}, ∀ x ∈ [V.str "p", V.str "_", V.str "_"], Ji H x := fun x m => by
        rcases List.mem_cons.mp m with rfl | m
        · exact Ji.str _
        · exact ji2 _ _ x m
      refine ⟨_, rfl, o, dx, _, rfl, ho3, rfl, by show 3 ≤ sizeLine; decide, fun q4 G4 n4 z4 y4 => ⟨o, .ref q4, l, _, rfl, op3.same z4, no3, few3, .tup y4 ji3, fun J4 m4 => ?_⟩⟩
      have op4 := (op3.same z4).same m4
      rw [cB_perm l3_nd l3_no pm, tB_perm l3_nd pm, cB_perm l3_nd l3_no pm, cB_perm l3_nd l3_no pm]
      rw [show cB l3 (some [V.str "_"]) = true by decide +kernel, show tB l3 (some [V.str "_"]) = false by decide +kernel, show cB l3 (some [V.str "c"]) = false by decide +kernel, show cB l3 (some [V.str "p", V.str "_", V.str "_"]) = false by decide +kernel]
      refine ⟨by show 4 ≤ sizeLine; decide, fun tl1 nt1 => ?_⟩
      refine ⟨_, rfl, by show 4 ≤ sizeLine; decide, fun tl2 nt2 => ⟨tl1, tl2, _, _, rfl, rfl, SqL.of ((Same.new nt2) _ _ upd_same), SqL.of upd_same, .inr ⟨rfl, fun v m => ?_, _, rfl, iteT ?_⟩⟩⟩
      · have m : v ∈ ([true, false, false, false] : List Bool).map V.bl := m
        obtain ⟨b, _, rfl⟩ := List.mem_map.mp m
        exact ⟨_, .bl b⟩
      · exact ⟨_, rfl, o, l, rfl, (op4.same (Same.new nt1)).same (Same.new nt2), pm, fun H' _ => q H'⟩
end
end Pr
namespace Pr
open PySem PySem.Spec PyProof.Rows L2 Gd
theorem all_mk {P : Program} {w : World} {K : PySem.W.Frag} {h : Heap} {mg : Str → Option Value} {fa : Addr} (X : K.In h) (G : h.Ns mainGlobals mg) (hfa : mg "law" = some (.ref fa))
    {f1 : Addr} {od1 an1 : Option Addr} {sl1 : Array (Option Value)} {oc1 kV1 dc1 pm1 cd1 ct1 : Value}
    {f2 : Addr} {od2 an2 : Option Addr} {sl2 : Array (Option Value)} {oc2 kV2 dc2 pm2 cd2 ct2 : Value}
    {f3 : Addr} {od3 an3 : Option Addr} {sl3 : Array (Option Value)} {oc3 kV3 dc3 pm3 cd3 ct3 : Value}
    {f4 : Addr} {od4 an4 : Option Addr} {sl4 : Array (Option Value)} {oc4 kV4 dc4 pm4 cd4 ct4 : Value}
    {f5 : Addr} {od5 an5 : Option Addr} {sl5 : Array (Option Value)} {oc5 kV5 dc5 pm5 cd5 ct5 : Value}
    {f6 : Addr} {od6 an6 : Option Addr} {sl6 : Array (Option Value)} {oc6 kV6 dc6 pm6 cd6 ct6 : Value}
    {f7 : Addr} {od7 an7 : Option Addr} {sl7 : Array (Option Value)} {oc7 kV7 dc7 pm7 cd7 ct7 : Value}
    {f8 : Addr} {od8 an8 : Option Addr} {sl8 : Array (Option Value)} {oc8 kV8 dc8 pm8 cd8 ct8 : Value}
    {f9 : Addr} {od9 an9 : Option Addr} {sl9 : Array (Option Value)} {oc9 kV9 dc9 pm9 cd9 ct9 : Value}
    {f10 : Addr} {od10 an10 : Option Addr} {sl10 : Array (Option Value)} {oc10 kV10 dc10 pm10 cd10 ct10 : Value}
    {f11 : Addr} {od11 an11 : Option Addr} {sl11 : Array (Option Value)} {oc11 kV11 dc11 pm11 cd11 ct11 : Value}
    {f12 : Addr} {od12 an12 : Option Addr} {sl12 : Array (Option Value)} {oc12 kV12 dc12 pm12 cd12 ct12 : Value}
    {f13 : Addr} {od13 an13 : Option Addr} {sl13 : Array (Option Value)} {oc13 kV13 dc13 pm13 cd13 ct13 : Value}
    {f14 : Addr} {od14 an14 : Option Addr} {sl14 : Array (Option Value)} {oc14 kV14 dc14 pm14 cd14 ct14 : Value}
    {f15 : Addr} {od15 an15 : Option Addr} {sl15 : Array (Option Value)} {oc15 kV15 dc15 pm15 cd15 ct15 : Value}
    {f16 : Addr} {od16 an16 : Option Addr} {sl16 : Array (Option Value)} {oc16 kV16 dc16 pm16 cd16 ct16 : Value}
    {f17 : Addr} {od17 an17 : Option Addr} {sl17 : Array (Option Value)} {oc17 kV17 dc17 pm17 cd17 ct17 : Value}
    {f18 : Addr} {od18 an18 : Option Addr} {sl18 : Array (Option Value)} {oc18 kV18 dc18 pm18 cd18 ct18 : Value}
    {f19 : Addr} {od19 an19 : Option Addr} {sl19 : Array (Option Value)} {oc19 kV19 dc19 pm19 cd19 ct19 : Value}
    {f20 : Addr} {od20 an20 : Option Addr} {sl20 : Array (Option Value)} {oc20 kV20 dc20 pm20 cd20 ct20 : Value}
    {f21 : Addr} {od21 an21 : Option Addr} {sl21 : Array (Option Value)} {oc21 kV21 dc21 pm21 cd21 ct21 : Value}
    {C : Addr}
    {f22 : Addr} {od22 an22 : Option Addr} {sl22 : Array (Option Value)} {oc22 kV22 dc22 pm22 cd22 ct22 : Value}
    {f23 : Addr} {od23 an23 : Option Addr} {sl23 : Array (Option Value)} {oc23 kV23 dc23 pm23 cd23 ct23 : Value}
    {f24 : Addr} {od24 an24 : Option Addr} {sl24 : Array (Option Value)} {oc24 kV24 dc24 pm24 cd24 ct24 : Value}
    {f25 : Addr} {od25 an25 : Option Addr} {sl25 : Array (Option Value)} {oc25 kV25 dc25 pm25 cd25 ct25 : Value}
    {f26 : Addr} {od26 an26 : Option Addr} {sl26 : Array (Option Value)} {oc26 kV26 dc26 pm26 cd26 ct26 : Value}
    {f27 : Addr} {od27 an27 : Option Addr} {sl27 : Array (Option Value)} {oc27 kV27 dc27 pm27 cd27 ct27 : Value}
    {f28 p28 : Addr} {r28 : List Value} {od28 an28 : Option Addr} {sl28 : Array (Option Value)} {oc28 kV28 dc28 pm28 cd28 ct28 : Value}
    {f29 p29 : Addr} {r29 : List Value} {od29 an29 : Option Addr} {sl29 : Array (Option Value)} {oc29 kV29 dc29 pm29 cd29 ct29 : Value}
    {f30 p30 : Addr} {r30 : List Value} {od30 an30 : Option Addr} {sl30 : Array (Option Value)} {oc30 kV30 dc30 pm30 cd30 ct30 : Value}
    {tk_MAX_TREE : Tok}
    {tk_MAX_OPERATORS : Tok}
    {tk_MAX_LETTERS : Tok}
    {tk_MAX_SIZE : Tok}
    {tk_HOLE : Tok}
    (a1 : PySem.W.nsIn K mainGlobals "is_integer" = some (some (.ref f1)))
    (l1 : K.lookup f1 = some ⟨oc1, od1, .func (PySem.W.fnOf "is_integer" "is_integer" (defArgs sInteger) (defBody sInteger) (defScope sInteger) .none kV1 dc1 pm1 an1 cd1 ct1), sl1⟩)
    (c1 : PySem.W.codeIn K cd1 "is_integer" = true)
    (k1 : PySem.W.keepIn K (.ref f1) = true)
    (a2 : PySem.W.nsIn K mainGlobals "is_name" = some (some (.ref f2)))
    (l2 : K.lookup f2 = some ⟨oc2, od2, .func (PySem.W.fnOf "is_name" "is_name" (defArgs sName) (defBody sName) (defScope sName) .none kV2 dc2 pm2 an2 cd2 ct2), sl2⟩)
    (c2 : PySem.W.codeIn K cd2 "is_name" = true)
    (k2 : PySem.W.keepIn K (.ref f2) = true)
    (a3 : PySem.W.nsIn K mainGlobals "are_arities" = some (some (.ref f3)))
    (l3 : K.lookup f3 = some ⟨oc3, od3, .func (PySem.W.fnOf "are_arities" "are_arities" (defArgs sAre) (defBody sAre) (defScope sAre) .none kV3 dc3 pm3 an3 cd3 ct3), sl3⟩)
    (c3 : PySem.W.codeIn K cd3 "are_arities" = true)
    (k3 : PySem.W.keepIn K (.ref f3) = true)
    (a4 : PySem.W.nsIn K mainGlobals "is_whole" = some (some (.ref f4)))
    (l4 : K.lookup f4 = some ⟨oc4, od4, .func (PySem.W.fnOf "is_whole" "is_whole" (defArgs sWhole) (defBody sWhole) (defScope sWhole) .none kV4 dc4 pm4 an4 cd4 ct4), sl4⟩)
    (c4 : PySem.W.codeIn K cd4 "is_whole" = true)
    (k4 : PySem.W.keepIn K (.ref f4) = true)
    (a5 : PySem.W.nsIn K mainGlobals "_law_dice" = some (some (.ref f5)))
    (l5 : K.lookup f5 = some ⟨oc5, od5, .func (PySem.W.fnOf "_law_dice" "_law_dice" (defArgs sDice) (defBody sDice) (defScope sDice) .none kV5 dc5 pm5 an5 cd5 ct5), sl5⟩)
    (c5 : PySem.W.codeIn K cd5 "_law_dice" = true)
    (k5 : PySem.W.keepIn K (.ref f5) = true)
    (a6 : PySem.W.nsIn K mainGlobals "_law_roll" = some (some (.ref f6)))
    (l6 : K.lookup f6 = some ⟨oc6, od6, .func (PySem.W.fnOf "_law_roll" "_law_roll" (defArgs sRoll) (defBody sRoll) (defScope sRoll) .none kV6 dc6 pm6 an6 cd6 ct6), sl6⟩)
    (c6 : PySem.W.codeIn K cd6 "_law_roll" = true)
    (k6 : PySem.W.keepIn K (.ref f6) = true)
    (a7 : PySem.W.nsIn K mainGlobals "_law_pick" = some (some (.ref f7)))
    (l7 : K.lookup f7 = some ⟨oc7, od7, .func (PySem.W.fnOf "_law_pick" "_law_pick" (defArgs sPick) (defBody sPick) (defScope sPick) .none kV7 dc7 pm7 an7 cd7 ct7), sl7⟩)
    (c7 : PySem.W.codeIn K cd7 "_law_pick" = true)
    (k7 : PySem.W.keepIn K (.ref f7) = true)
    (a8 : PySem.W.nsIn K mainGlobals "_law_mixed" = some (some (.ref f8)))
    (l8 : K.lookup f8 = some ⟨oc8, od8, .func (PySem.W.fnOf "_law_mixed" "_law_mixed" (defArgs sMixed) (defBody sMixed) (defScope sMixed) .none kV8 dc8 pm8 an8 cd8 ct8), sl8⟩)
    (c8 : PySem.W.codeIn K cd8 "_law_mixed" = true)
    (k8 : PySem.W.keepIn K (.ref f8) = true)
    (a9 : PySem.W.nsIn K mainGlobals "_law_end" = some (some (.ref f9)))
    (l9 : K.lookup f9 = some ⟨oc9, od9, .func (PySem.W.fnOf "_law_end" "_law_end" (defArgs sEndL) (defBody sEndL) (defScope sEndL) .none kV9 dc9 pm9 an9 cd9 ct9), sl9⟩)
    (c9 : PySem.W.codeIn K cd9 "_law_end" = true)
    (k9 : PySem.W.keepIn K (.ref f9) = true)
    (a10 : PySem.W.nsIn K mainGlobals "_law_drawn_tree" = some (some (.ref f10)))
    (l10 : K.lookup f10 = some ⟨oc10, od10, .func (PySem.W.fnOf "_law_drawn_tree" "_law_drawn_tree" (defArgs sDrawn) (defBody sDrawn) (defScope sDrawn) .none kV10 dc10 pm10 an10 cd10 ct10), sl10⟩)
    (c10 : PySem.W.codeIn K cd10 "_law_drawn_tree" = true)
    (k10 : PySem.W.keepIn K (.ref f10) = true)
    (a11 : PySem.W.nsIn K mainGlobals "_law_odd_values" = some (some (.ref f11)))
    (l11 : K.lookup f11 = some ⟨oc11, od11, .func (PySem.W.fnOf "_law_odd_values" "_law_odd_values" (defArgs sOdd) (defBody sOdd) (defScope sOdd) .none kV11 dc11 pm11 an11 cd11 ct11), sl11⟩)
    (c11 : PySem.W.codeIn K cd11 "_law_odd_values" = true)
    (k11 : PySem.W.keepIn K (.ref f11) = true)
    (a12 : PySem.W.nsIn K mainGlobals "_law_arities" = some (some (.ref f12)))
    (l12 : K.lookup f12 = some ⟨oc12, od12, .func (PySem.W.fnOf "_law_arities" "_law_arities" (defArgs sArs) (defBody sArs) (defScope sArs) .none kV12 dc12 pm12 an12 cd12 ct12), sl12⟩)
    (c12 : PySem.W.codeIn K cd12 "_law_arities" = true)
    (k12 : PySem.W.keepIn K (.ref f12) = true)
    (a13 : PySem.W.nsIn K mainGlobals "_law_open" = some (some (.ref f13)))
    (l13 : K.lookup f13 = some ⟨oc13, od13, .func (PySem.W.fnOf "_law_open" "_law_open" (defArgs sOpen) (defBody sOpen) (defScope sOpen) .none kV13 dc13 pm13 an13 cd13 ct13), sl13⟩)
    (c13 : PySem.W.codeIn K cd13 "_law_open" = true)
    (k13 : PySem.W.keepIn K (.ref f13) = true)
    (a14 : PySem.W.nsIn K mainGlobals "_law_is_tree" = some (some (.ref f14)))
    (l14 : K.lookup f14 = some ⟨oc14, od14, .func (PySem.W.fnOf "_law_is_tree" "_law_is_tree" (defArgs sIsT) (defBody sIsT) (defScope sIsT) .none kV14 dc14 pm14 an14 cd14 ct14), sl14⟩)
    (c14 : PySem.W.codeIn K cd14 "_law_is_tree" = true)
    (k14 : PySem.W.keepIn K (.ref f14) = true)
    (a15 : PySem.W.nsIn K mainGlobals "_law_is_context" = some (some (.ref f15)))
    (l15 : K.lookup f15 = some ⟨oc15, od15, .func (PySem.W.fnOf "_law_is_context" "_law_is_context" (defArgs sIsC) (defBody sIsC) (defScope sIsC) .none kV15 dc15 pm15 an15 cd15 ct15), sl15⟩)
    (c15 : PySem.W.codeIn K cd15 "_law_is_context" = true)
    (k15 : PySem.W.keepIn K (.ref f15) = true)
    (a16 : PySem.W.nsIn K mainGlobals "_law_drawn_context" = some (some (.ref f16)))
    (l16 : K.lookup f16 = some ⟨oc16, od16, .func (PySem.W.fnOf "_law_drawn_context" "_law_drawn_context" (defArgs sDCtx) (defBody sDCtx) (defScope sDCtx) .none kV16 dc16 pm16 an16 cd16 ct16), sl16⟩)
    (c16 : PySem.W.codeIn K cd16 "_law_drawn_context" = true)
    (k16 : PySem.W.keepIn K (.ref f16) = true)
    (a17 : PySem.W.nsIn K mainGlobals "_law_near_row" = some (some (.ref f17)))
    (l17 : K.lookup f17 = some ⟨oc17, od17, .func (PySem.W.fnOf "_law_near_row" "_law_near_row" (defArgs sNear) (defBody sNear) (defScope sNear) .none kV17 dc17 pm17 an17 cd17 ct17), sl17⟩)
    (c17 : PySem.W.codeIn K cd17 "_law_near_row" = true)
    (k17 : PySem.W.keepIn K (.ref f17) = true)
    (a18 : PySem.W.nsIn K mainGlobals "_law_right" = some (some (.ref f18)))
    (l18 : K.lookup f18 = some ⟨oc18, od18, .func (PySem.W.fnOf "_law_right" "_law_right" (defArgs sRight) (defBody sRight) (defScope sRight) .none kV18 dc18 pm18 an18 cd18 ct18), sl18⟩)
    (c18 : PySem.W.codeIn K cd18 "_law_right" = true)
    (k18 : PySem.W.keepIn K (.ref f18) = true)
    (a19 : PySem.W.nsIn K mainGlobals "_law_is_told" = some (some (.ref f19)))
    (l19 : K.lookup f19 = some ⟨oc19, od19, .func (PySem.W.fnOf "_law_is_told" "_law_is_told" (defArgs sTold) (defBody sTold) (defScope sTold) .none kV19 dc19 pm19 an19 cd19 ct19), sl19⟩)
    (c19 : PySem.W.codeIn K cd19 "_law_is_told" = true)
    (k19 : PySem.W.keepIn K (.ref f19) = true)
    (a20 : PySem.W.nsIn K mainGlobals "_law_long_right" = some (some (.ref f20)))
    (l20 : K.lookup f20 = some ⟨oc20, od20, .func (PySem.W.fnOf "_law_long_right" "_law_long_right" (defArgs sLong) (defBody sLong) (defScope sLong) .none kV20 dc20 pm20 an20 cd20 ct20), sl20⟩)
    (c20 : PySem.W.codeIn K cd20 "_law_long_right" = true)
    (k20 : PySem.W.keepIn K (.ref f20) = true)
    (a21 : PySem.W.nsIn K mainGlobals "law" = some (some (.ref f21)))
    (l21 : K.lookup f21 = some ⟨oc21, od21, .func (PySem.W.fnOf "law" "law" (defArgs sLaw) (defBody sLaw) (defScope sLaw) .none kV21 dc21 pm21 an21 cd21 ct21), sl21⟩)
    (c21 : PySem.W.codeIn K cd21 "law" = true)
    (k21 : PySem.W.keepIn K (.ref f21) = true)
    (n_C : PySem.W.nsIn K mainGlobals "Operators" = some (some (.ref C)))
    (pg_C : PySem.W.plainGet K C Str.empty = true)
    (hd_C : PySem.W.hasDictIn K C = true)
    (po_C : PySem.W.plainOver K C = true)
    (sa_C : PySem.W.findIn K (.ref C) "__setattr__" = some (some (.builtin "object.__setattr__")))
    (mk_C : PySem.W.makesIn K C = true)
    (kc_C : PySem.W.keepIn K (.ref C) = true)
    (no0_C : PySem.W.findIn K (.ref C) "_names" = some none)
    (no1_C : PySem.W.findIn K (.ref C) "_arities" = some none)
    (no2_C : PySem.W.findIn K (.ref C) "_lines" = some none)
    (no3_C : PySem.W.findIn K (.ref C) "_many" = some none)
    (no4_C : PySem.W.findIn K (.ref C) "_counts" = some none)
    (no5_C : PySem.W.findIn K (.ref C) "_rows" = some none)
    (a22 : PySem.W.findIn K (.ref C) "__init__" = some (some (.ref f22)))
    (i22 : PySem.W.isFn K (.ref f22) = true)
    (l22 : K.lookup f22 = some ⟨oc22, od22, .func (PySem.W.fnOf "__init__" "Operators.__init__" (defArgs mInit) (defBody mInit) (defScope mInit) .none kV22 dc22 pm22 an22 cd22 ct22), sl22⟩)
    (c22 : PySem.W.codeIn K cd22 "Operators.__init__" = true)
    (k22 : PySem.W.keepIn K (.ref f22) = true)
    (a23 : PySem.W.findIn K (.ref C) "is_tree" = some (some (.ref f23)))
    (i23 : PySem.W.isFn K (.ref f23) = true)
    (l23 : K.lookup f23 = some ⟨oc23, od23, .func (PySem.W.fnOf "is_tree" "Operators.is_tree" (defArgs mIsTree) (defBody mIsTree) (defScope mIsTree) .none kV23 dc23 pm23 an23 cd23 ct23), sl23⟩)
    (c23 : PySem.W.codeIn K cd23 "Operators.is_tree" = true)
    (k23 : PySem.W.keepIn K (.ref f23) = true)
    (a24 : PySem.W.findIn K (.ref C) "is_context" = some (some (.ref f24)))
    (i24 : PySem.W.isFn K (.ref f24) = true)
    (l24 : K.lookup f24 = some ⟨oc24, od24, .func (PySem.W.fnOf "is_context" "Operators.is_context" (defArgs mIsCtx) (defBody mIsCtx) (defScope mIsCtx) .none kV24 dc24 pm24 an24 cd24 ct24), sl24⟩)
    (c24 : PySem.W.codeIn K cd24 "Operators.is_context" = true)
    (k24 : PySem.W.keepIn K (.ref f24) = true)
    (a25 : PySem.W.findIn K (.ref C) "__len__" = some (some (.ref f25)))
    (i25 : PySem.W.isFn K (.ref f25) = true)
    (l25 : K.lookup f25 = some ⟨oc25, od25, .func (PySem.W.fnOf "__len__" "Operators.__len__" (defArgs mLen) (defBody mLen) (defScope mLen) .none kV25 dc25 pm25 an25 cd25 ct25), sl25⟩)
    (c25 : PySem.W.codeIn K cd25 "Operators.__len__" = true)
    (k25 : PySem.W.keepIn K (.ref f25) = true)
    (a26 : PySem.W.findIn K (.ref C) "__contains__" = some (some (.ref f26)))
    (i26 : PySem.W.isFn K (.ref f26) = true)
    (l26 : K.lookup f26 = some ⟨oc26, od26, .func (PySem.W.fnOf "__contains__" "Operators.__contains__" (defArgs mContains) (defBody mContains) (defScope mContains) .none kV26 dc26 pm26 an26 cd26 ct26), sl26⟩)
    (c26 : PySem.W.codeIn K cd26 "Operators.__contains__" = true)
    (k26 : PySem.W.keepIn K (.ref f26) = true)
    (a27 : PySem.W.findIn K (.ref C) "__str__" = some (some (.ref f27)))
    (i27 : PySem.W.isFn K (.ref f27) = true)
    (l27 : K.lookup f27 = some ⟨oc27, od27, .func (PySem.W.fnOf "__str__" "Operators.__str__" (defArgs mStr) (defBody mStr) (defScope mStr) .none kV27 dc27 pm27 an27 cd27 ct27), sl27⟩)
    (c27 : PySem.W.codeIn K cd27 "Operators.__str__" = true)
    (k27 : PySem.W.keepIn K (.ref f27) = true)
    (pa28 : PySem.W.findIn K (.ref C) "names" = some (some (.ref p28)))
    (pg28 : PySem.W.specialIn K (.ref p28) "__get__" = some (some (.builtin "property.__get__")))
    (pt28 : PySem.W.takesIn K (.ref p28) = some true)
    (pr28 : PySem.W.recIn K p28 "property" = some (.ref f28 :: r28))
    (l28 : K.lookup f28 = some ⟨oc28, od28, .func (PySem.W.fnOf "names" "Operators.names" (defArgs mNames) (defBody mNames) (defScope mNames) .none kV28 dc28 pm28 an28 cd28 ct28), sl28⟩)
    (c28 : PySem.W.codeIn K cd28 "Operators.names" = true)
    (k28 : PySem.W.keepIn K (.ref f28) = true)
    (pa29 : PySem.W.findIn K (.ref C) "arities" = some (some (.ref p29)))
    (pg29 : PySem.W.specialIn K (.ref p29) "__get__" = some (some (.builtin "property.__get__")))
    (pt29 : PySem.W.takesIn K (.ref p29) = some true)
    (pr29 : PySem.W.recIn K p29 "property" = some (.ref f29 :: r29))
    (l29 : K.lookup f29 = some ⟨oc29, od29, .func (PySem.W.fnOf "arities" "Operators.arities" (defArgs mArities) (defBody mArities) (defScope mArities) .none kV29 dc29 pm29 an29 cd29 ct29), sl29⟩)
    (c29 : PySem.W.codeIn K cd29 "Operators.arities" = true)
    (k29 : PySem.W.keepIn K (.ref f29) = true)
    (pa30 : PySem.W.findIn K (.ref C) "constants" = some (some (.ref p30)))
    (pg30 : PySem.W.specialIn K (.ref p30) "__get__" = some (some (.builtin "property.__get__")))
    (pt30 : PySem.W.takesIn K (.ref p30) = some true)
    (pr30 : PySem.W.recIn K p30 "property" = some (.ref f30 :: r30))
    (l30 : K.lookup f30 = some ⟨oc30, od30, .func (PySem.W.fnOf "constants" "Operators.constants" (defArgs mConstants) (defBody mConstants) (defScope mConstants) .none kV30 dc30 pm30 an30 cd30 ct30), sl30⟩)
    (c30 : PySem.W.codeIn K cd30 "Operators.constants" = true)
    (k30 : PySem.W.keepIn K (.ref f30) = true)
    (cn_MAX_TREE : PySem.W.nsIn K mainGlobals "MAX_TREE" = some (some (.int 5000 tk_MAX_TREE)))
    (cn_MAX_OPERATORS : PySem.W.nsIn K mainGlobals "MAX_OPERATORS" = some (some (.int 8 tk_MAX_OPERATORS)))
    (cn_MAX_LETTERS : PySem.W.nsIn K mainGlobals "MAX_LETTERS" = some (some (.int 8 tk_MAX_LETTERS)))
    (cn_MAX_SIZE : PySem.W.nsIn K mainGlobals "MAX_SIZE" = some (some (.int 200 tk_MAX_SIZE)))
    (cn_HOLE : PySem.W.nsIn K mainGlobals "HOLE" = some (some (.str "_" tk_HOLE)))
    (z_len : PySem.W.nsIn K mainGlobals "len" = some none)
    (z_int : PySem.W.nsIn K mainGlobals "int" = some none)
    (z_abs : PySem.W.nsIn K mainGlobals "abs" = some none)
    (z_max : PySem.W.nsIn K mainGlobals "max" = some none)
    (z_min : PySem.W.nsIn K mainGlobals "min" = some none)
    (z_list : PySem.W.nsIn K mainGlobals "list" = some none)
    (z_range : PySem.W.nsIn K mainGlobals "range" = some none)
    (z_isinstance : PySem.W.nsIn K mainGlobals "isinstance" = some none)
    (z_bool : PySem.W.nsIn K mainGlobals "bool" = some none)
    (z_tuple : PySem.W.nsIn K mainGlobals "tuple" = some none)
    (z_str : PySem.W.nsIn K mainGlobals "str" = some none)
    (z_dict : PySem.W.nsIn K mainGlobals "dict" = some none)
    (z_sorted : PySem.W.nsIn K mainGlobals "sorted" = some none)
    (z_all : PySem.W.nsIn K mainGlobals "all" = some none)
    (z_sum : PySem.W.nsIn K mainGlobals "sum" = some none)
    (z_repr : PySem.W.nsIn K mainGlobals "repr" = some none) :
    ∃ fd : FuncData, (∀ (s : Shared) (v : Value), BindsTo s fd ⟨[v], []⟩ [("script", v)]) ∧ ∀ base : Heap, K.In base → base.Ns mainGlobals mg → FnG P w K mg base CX0 5 fa fd ["script"] (spLaw K) := by
  have e := hfa.symm.trans (PySem.W.mg_of X G a21)
  cases e
  have F1 := fun_mk (st := sInteger) l1 c1 k1
  have b1 := F1.binds (ps := ["value"]) fun _ _ _ _ _ _ us hl => match us, hl with | [_], _ => rfl
  have g1 := PySem.W.mg_of X G a1
  have F2 := fun_mk (st := sName) l2 c2 k2
  have b2 := F2.binds (ps := ["value"]) fun _ _ _ _ _ _ us hl => match us, hl with | [_], _ => rfl
  have g2 := PySem.W.mg_of X G a2
  have F3 := fun_mk (st := sAre) l3 c3 k3
  have b3 := F3.binds (ps := ["value"]) fun _ _ _ _ _ _ us hl => match us, hl with | [_], _ => rfl
  have g3 := PySem.W.mg_of X G a3
  have F4 := fun_mk (st := sWhole) l4 c4 k4
  have b4 := F4.binds (ps := ["words", "arities"]) fun _ _ _ _ _ _ us hl => match us, hl with | [_, _], _ => rfl
  have g4 := PySem.W.mg_of X G a4
  have F5 := fun_mk (st := sDice) l5 c5 k5
  have b5 := F5.binds (ps := ["script", "spot"]) fun _ _ _ _ _ _ us hl => match us, hl with | [_, _], _ => rfl
  have g5 := PySem.W.mg_of X G a5
  have F6 := fun_mk (st := sRoll) l6 c6 k6
  have b6 := F6.binds (ps := ["dice", "total"]) fun _ _ _ _ _ _ us hl => match us, hl with | [_, _], _ => rfl
  have g6 := PySem.W.mg_of X G a6
  have F7 := fun_mk (st := sPick) l7 c7 k7
  have b7 := F7.binds (ps := ["dice", "items"]) fun _ _ _ _ _ _ us hl => match us, hl with | [_, _], _ => rfl
  have g7 := PySem.W.mg_of X G a7
  have F8 := fun_mk (st := sMixed) l8 c8 k8
  have b8 := F8.binds (ps := ["dice", "items"]) fun _ _ _ _ _ _ us hl => match us, hl with | [_, _], _ => rfl
  have g8 := PySem.W.mg_of X G a8
  have F9 := fun_mk (st := sEndL) l9 c9 k9
  have b9 := F9.binds (ps := ["arities", "tree", "place"]) fun _ _ _ _ _ _ us hl => match us, hl with | [_, _, _], _ => rfl
  have g9 := PySem.W.mg_of X G a9
  have F10 := fun_mk (st := sDrawn) l10 c10 k10
  have b10 := F10.binds (ps := ["dice", "arities", "cap"]) fun _ _ _ _ _ _ us hl => match us, hl with | [_, _, _], _ => rfl
  have g10 := PySem.W.mg_of X G a10
  have F11 := fun_mk (st := sOdd) l11 c11 k11
  have b11 := F11.binds (ps := ["dice"]) fun _ _ _ _ _ _ us hl => match us, hl with | [_], _ => rfl
  have g11 := PySem.W.mg_of X G a11
  have F12 := fun_mk (st := sArs) l12 c12 k12
  have b12 := F12.binds (ps := ["dice"]) fun _ _ _ _ _ _ us hl => match us, hl with | [_], _ => rfl
  have g12 := PySem.W.mg_of X G a12
  have F13 := fun_mk (st := sOpen) l13 c13 k13
  have b13 := F13.binds (ps := ["arities", "words"]) fun _ _ _ _ _ _ us hl => match us, hl with | [_, _], _ => rfl
  have g13 := PySem.W.mg_of X G a13
  have F14 := fun_mk (st := sIsT) l14 c14 k14
  have b14 := F14.binds (ps := ["arities", "value"]) fun _ _ _ _ _ _ us hl => match us, hl with | [_, _], _ => rfl
  have g14 := PySem.W.mg_of X G a14
  have F15 := fun_mk (st := sIsC) l15 c15 k15
  have b15 := F15.binds (ps := ["arities", "value"]) fun _ _ _ _ _ _ us hl => match us, hl with | [_, _], _ => rfl
  have g15 := PySem.W.mg_of X G a15
  have F16 := fun_mk (st := sDCtx) l16 c16 k16
  have b16 := F16.binds (ps := ["dice", "arities", "cap"]) fun _ _ _ _ _ _ us hl => match us, hl with | [_, _, _], _ => rfl
  have g16 := PySem.W.mg_of X G a16
  have F17 := fun_mk (st := sNear) l17 c17 k17
  have b17 := F17.binds (ps := ["dice", "arities", "row"]) fun _ _ _ _ _ _ us hl => match us, hl with | [_, _, _], _ => rfl
  have g17 := PySem.W.mg_of X G a17
  have F18 := fun_mk (st := sRight) l18 c18 k18
  have b18 := F18.binds (ps := ["ops", "arities", "value"]) fun _ _ _ _ _ _ us hl => match us, hl with | [_, _, _], _ => rfl
  have g18 := PySem.W.mg_of X G a18
  have F19 := fun_mk (st := sTold) l19 c19 k19
  have b19 := F19.binds (ps := ["dice", "ops", "arities"]) fun _ _ _ _ _ _ us hl => match us, hl with | [_, _, _], _ => rfl
  have g19 := PySem.W.mg_of X G a19
  have F20 := fun_mk (st := sLong) l20 c20 k20
  have b20 := F20.binds (ps := ["ops"]) fun _ _ _ _ _ _ us hl => match us, hl with | [_], _ => rfl
  have g20 := PySem.W.mg_of X G a20
  have F21 := fun_mk (st := sLaw) l21 c21 k21
  have cl_C : Cls K C := ⟨pg_C, hd_C, po_C, sa_C⟩
  have g_C := PySem.W.mg_of X G n_C
  have F22 := fun_mk (st := mInit) l22 c22 k22
  have b22 := F22.binds (ps := ["self", "arities"]) fun _ _ _ _ _ _ us hl => match us, hl with | [_, _], _ => rfl
  have m22 : Meth K C "__init__" f22 := ⟨a22, i22, k22⟩
  have F23 := fun_mk (st := mIsTree) l23 c23 k23
  have b23 := F23.binds (ps := ["self", "value"]) fun _ _ _ _ _ _ us hl => match us, hl with | [_, _], _ => rfl
  have m23 : Meth K C "is_tree" f23 := ⟨a23, i23, k23⟩
  have F24 := fun_mk (st := mIsCtx) l24 c24 k24
  have b24 := F24.binds (ps := ["self", "value"]) fun _ _ _ _ _ _ us hl => match us, hl with | [_, _], _ => rfl
  have m24 : Meth K C "is_context" f24 := ⟨a24, i24, k24⟩
  have F25 := fun_mk (st := mLen) l25 c25 k25
  have b25 := F25.binds (ps := ["self"]) fun _ _ _ _ _ _ us hl => match us, hl with | [_], _ => rfl
  have m25 : Meth K C "__len__" f25 := ⟨a25, i25, k25⟩
  have F26 := fun_mk (st := mContains) l26 c26 k26
  have b26 := F26.binds (ps := ["self", "value"]) fun _ _ _ _ _ _ us hl => match us, hl with | [_, _], _ => rfl
  have m26 : Meth K C "__contains__" f26 := ⟨a26, i26, k26⟩
  have F27 := fun_mk (st := mStr) l27 c27 k27
  have b27 := F27.binds (ps := ["self"]) fun _ _ _ _ _ _ us hl => match us, hl with | [_], _ => rfl
  have m27 : Meth K C "__str__" f27 := ⟨a27, i27, k27⟩
  have F28 := fun_mk (st := mNames) l28 c28 k28
  have b28 := F28.binds (ps := ["self"]) fun _ _ _ _ _ _ us hl => match us, hl with | [_], _ => rfl
  have q28 : PropOf K C "names" p28 f28 := ⟨pa28, pg28, pt28, ⟨r28, pr28⟩⟩
  have F29 := fun_mk (st := mArities) l29 c29 k29
  have b29 := F29.binds (ps := ["self"]) fun _ _ _ _ _ _ us hl => match us, hl with | [_], _ => rfl
  have q29 : PropOf K C "arities" p29 f29 := ⟨pa29, pg29, pt29, ⟨r29, pr29⟩⟩
  have F30 := fun_mk (st := mConstants) l30 c30 k30
  have b30 := F30.binds (ps := ["self"]) fun _ _ _ _ _ _ us hl => match us, hl with | [_], _ => rfl
  have q30 : PropOf K C "constants" p30 f30 := ⟨pa30, pg30, pt30, ⟨r30, pr30⟩⟩
  have gc_MAX_TREE := PySem.W.mg_of X G cn_MAX_TREE
  have gc_MAX_OPERATORS := PySem.W.mg_of X G cn_MAX_OPERATORS
  have gc_MAX_LETTERS := PySem.W.mg_of X G cn_MAX_LETTERS
  have gc_MAX_SIZE := PySem.W.mg_of X G cn_MAX_SIZE
  have gc_HOLE := PySem.W.mg_of X G cn_HOLE
  have T : Free mg := ⟨PySem.W.mg_none_of X G z_len, PySem.W.mg_none_of X G z_int, PySem.W.mg_none_of X G z_abs, PySem.W.mg_none_of X G z_max, PySem.W.mg_none_of X G z_min, PySem.W.mg_none_of X G z_list, PySem.W.mg_none_of X G z_range, PySem.W.mg_none_of X G z_isinstance, PySem.W.mg_none_of X G z_bool, PySem.W.mg_none_of X G z_tuple, PySem.W.mg_none_of X G z_str, PySem.W.mg_none_of X G z_dict, PySem.W.mg_none_of X G z_sorted, PySem.W.mg_none_of X G z_all, PySem.W.mg_none_of X G z_sum, PySem.W.mg_none_of X G z_repr⟩
  exact ⟨PySem.W.fnOf "law" "law" (defArgs sLaw) (defBody sLaw) (defScope sLaw) .none kV21 dc21 pm21 an21 cd21 ct21, fun s v => .of_eq rfl, fun base _ _ => ok_law F21 ⟨⟨cl_C, no0_C, no1_C, no2_C, no3_C, no4_C, no5_C⟩, F4, b4, g4, gc_MAX_TREE, gc_HOLE⟩ ⟨⟨F5, b5, g5⟩, ⟨F12, b12, g12⟩, ⟨F10, b10, g10⟩, ⟨F16, b16, g16⟩, ⟨F17, b17, g17⟩, ⟨F18, b18, g18⟩, ⟨F19, b19, g19⟩, ⟨F20, b20, g20⟩, ⟨F11, b11, g11⟩, ⟨F9, b9, g9⟩, ⟨F14, b14, g14⟩, ⟨F15, b15, g15⟩, ⟨F13, b13, g13⟩, ⟨F3, b3, g3⟩, ⟨F2, b2, g2⟩, ⟨F1, b1, g1⟩, ⟨F23, b23, m23⟩, ⟨F24, b24, m24⟩, gc_MAX_LETTERS, gc_MAX_OPERATORS, gc_MAX_SIZE⟩ ⟨⟨mk_C, a22, i22, kc_C⟩, g_C, F22, b22⟩ ⟨⟨F28, b28, q28⟩, ⟨F29, b29, q29⟩, ⟨F30, b30, q30⟩, ⟨F25, b25, ⟨a25, i25⟩⟩, ⟨F26, b26, ⟨a26, i26⟩⟩, ⟨F27, b27, ⟨a27, i27⟩⟩⟩ ⟨F6, b6, g6, F7, b7, g7, F8, b8, g8⟩ T⟩
end Pr
open PySem PySem.W PyProof.Rows
set_option maxHeartbeats 0 in
theorem PySem.Challenge.cw_munchbehind_k03_trees_and_contexts_judge_holds : PySem.Challenge.rw_munchbehind_k03_trees_and_contexts_judge.Holds := by
  w_on; o_law; k_head; (case hw => w_witness2)
  k_fill
  refine Gd.walk_ofG (l := PySem.Challenge.rw_munchbehind_k03_trees_and_contexts_judge) (n := 63) (k := 5) (x := "script") (CX := fun _ => L2.CX0) (sp := fun w => Pr.spLaw _) rfl (by decide) rfl ⟨rfl, by decide, by decide⟩ (fun w h Y => PySem.W.kIn_of Y) ?F (fun _ _ a ns hl _ hS => ⟨a, ns, rfl, hS, hl, fun _ => rfl⟩) (fun _ _ _ _ _ h => h)
  case F =>
    intro w mg fa h KX G hmg
    refine' Pr.all_mk KX G hmg ?a1 ?l1 ?c1 ?k1 ?a2 ?l2 ?c2 ?k2 ?a3 ?l3 ?c3 ?k3 ?a4 ?l4 ?c4 ?k4 ?a5 ?l5 ?c5 ?k5 ?a6 ?l6 ?c6 ?k6 ?a7 ?l7 ?c7 ?k7 ?a8 ?l8 ?c8 ?k8 ?a9 ?l9 ?c9 ?k9 ?a10 ?l10 ?c10 ?k10 ?a11 ?l11 ?c11 ?k11 ?a12 ?l12 ?c12 ?k12 ?a13 ?l13 ?c13 ?k13 ?a14 ?l14 ?c14 ?k14 ?a15 ?l15 ?c15 ?k15 ?a16 ?l16 ?c16 ?k16 ?a17 ?l17 ?c17 ?k17 ?a18 ?l18 ?c18 ?k18 ?a19 ?l19 ?c19 ?k19 ?a20 ?l20 ?c20 ?k20 ?a21 ?l21 ?c21 ?k21 ?n_C ?pg_C ?hd_C ?po_C ?sa_C ?mk_C ?kc_C ?no0_C ?no1_C ?no2_C ?no3_C ?no4_C ?no5_C ?a22 ?i22 ?l22 ?c22 ?k22 ?a23 ?i23 ?l23 ?c23 ?k23 ?a24 ?i24 ?l24 ?c24 ?k24 ?a25 ?i25 ?l25 ?c25 ?k25 ?a26 ?i26 ?l26 ?c26 ?k26 ?a27 ?i27 ?l27 ?c27 ?k27 ?pa28 ?pg28 ?pt28 ?pr28 ?l28 ?c28 ?k28 ?pa29 ?pg29 ?pt29 ?pr29 ?l29 ?c29 ?k29 ?pa30 ?pg30 ?pt30 ?pr30 ?l30 ?c30 ?k30 ?cn_MAX_TREE ?cn_MAX_OPERATORS ?cn_MAX_LETTERS ?cn_MAX_SIZE ?cn_HOLE ?z_len ?z_int ?z_abs ?z_max ?z_min ?z_list ?z_range ?z_isinstance ?z_bool ?z_tuple ?z_str ?z_dict ?z_sorted ?z_all ?z_sum ?z_repr
    (case a1 => k_is)
    (case l1 => k_is)
    (case c1 => k_is)
    (case k1 => k_is)
    (case a2 => k_is)
    (case l2 => k_is)
    (case c2 => k_is)
    (case k2 => k_is)
    (case a3 => k_is)
    (case l3 => k_is)
    (case c3 => k_is)
    (case k3 => k_is)
    (case a4 => k_is)
    (case l4 => k_is)
    (case c4 => k_is)
    (case k4 => k_is)
    (case a5 => k_is)
    (case l5 => k_is)
    (case c5 => k_is)
    (case k5 => k_is)
    (case a6 => k_is)
    (case l6 => k_is)
    (case c6 => k_is)
    (case k6 => k_is)
    (case a7 => k_is)
    (case l7 => k_is)
    (case c7 => k_is)
    (case k7 => k_is)
    (case a8 => k_is)
    (case l8 => k_is)
    (case c8 => k_is)
    (case k8 => k_is)
    (case a9 => k_is)
    (case l9 => k_is)
    (case c9 => k_is)
    (case k9 => k_is)
    (case a10 => k_is)
    (case l10 => k_is)
    (case c10 => k_is)
    (case k10 => k_is)
    (case a11 => k_is)
    (case l11 => k_is)
    (case c11 => k_is)
    (case k11 => k_is)
    (case a12 => k_is)
    (case l12 => k_is)
    (case c12 => k_is)
    (case k12 => k_is)
    (case a13 => k_is)
    (case l13 => k_is)
    (case c13 => k_is)
    (case k13 => k_is)
    (case a14 => k_is)
    (case l14 => k_is)
    (case c14 => k_is)
    (case k14 => k_is)
    (case a15 => k_is)
    (case l15 => k_is)
    (case c15 => k_is)
    (case k15 => k_is)
    (case a16 => k_is)
    (case l16 => k_is)
    (case c16 => k_is)
    (case k16 => k_is)
    (case a17 => k_is)
    (case l17 => k_is)
    (case c17 => k_is)
    (case k17 => k_is)
    (case a18 => k_is)
    (case l18 => k_is)
    (case c18 => k_is)
    (case k18 => k_is)
    (case a19 => k_is)
    (case l19 => k_is)
    (case c19 => k_is)
    (case k19 => k_is)
    (case a20 => k_is)
    (case l20 => k_is)
    (case c20 => k_is)
    (case k20 => k_is)
    (case a21 => k_is)
    (case l21 => k_is)
    (case c21 => k_is)
    (case k21 => k_is)
    (case n_C => k_is)
    (case pg_C => k_is)
    (case hd_C => k_is)
    (case po_C => k_is)
    (case sa_C => k_is)
    (case mk_C => k_is)
    (case kc_C => k_is)
    (case no0_C => k_is)
    (case no1_C => k_is)
    (case no2_C => k_is)
    (case no3_C => k_is)
    (case no4_C => k_is)
    (case no5_C => k_is)
    (case a22 => k_is)
    (case i22 => k_is)
    (case l22 => k_is)
    (case c22 => k_is)
    (case k22 => k_is)
    (case a23 => k_is)
    (case i23 => k_is)
    (case l23 => k_is)
    (case c23 => k_is)
    (case k23 => k_is)
    (case a24 => k_is)
    (case i24 => k_is)
    (case l24 => k_is)
    (case c24 => k_is)
    (case k24 => k_is)
    (case a25 => k_is)
    (case i25 => k_is)
    (case l25 => k_is)
    (case c25 => k_is)
    (case k25 => k_is)
    (case a26 => k_is)
    (case i26 => k_is)
    (case l26 => k_is)
    (case c26 => k_is)
    (case k26 => k_is)
    (case a27 => k_is)
    (case i27 => k_is)
    (case l27 => k_is)
    (case c27 => k_is)
    (case k27 => k_is)
    (case pa28 => k_is)
    (case pg28 => k_is)
    (case pt28 => k_is)
    (case pr28 => first | rfl | k_is)
    (case l28 => k_is)
    (case c28 => k_is)
    (case k28 => k_is)
    (case pa29 => k_is)
    (case pg29 => k_is)
    (case pt29 => k_is)
    (case pr29 => first | rfl | k_is)
    (case l29 => k_is)
    (case c29 => k_is)
    (case k29 => k_is)
    (case pa30 => k_is)
    (case pg30 => k_is)
    (case pt30 => k_is)
    (case pr30 => first | rfl | k_is)
    (case l30 => k_is)
    (case c30 => k_is)
    (case k30 => k_is)
    (case cn_MAX_TREE => k_is)
    (case cn_MAX_OPERATORS => k_is)
    (case cn_MAX_LETTERS => k_is)
    (case cn_MAX_SIZE => k_is)
    (case cn_HOLE => k_is)
    (case z_len => k_is)
    (case z_int => k_is)
    (case z_abs => k_is)
    (case z_max => k_is)
    (case z_min => k_is)
    (case z_list => k_is)
    (case z_range => k_is)
    (case z_isinstance => k_is)
    (case z_bool => k_is)
    (case z_tuple => k_is)
    (case z_str => k_is)
    (case z_dict => k_is)
    (case z_sorted => k_is)
    (case z_all => k_is)
    (case z_sum => k_is)
    (case z_repr => k_is)
